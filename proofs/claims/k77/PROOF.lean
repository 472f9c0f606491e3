import PyProof.Rows.All
import Wide.All
import OpenK.AllK
import PySem.Challenge.RW_trussyard_k77_whole_bounds_and_loads_tim
set_option Elab.async false
set_option linter.all false
set_option maxRecDepth 100000
set_option compiler.extract_closed false
def gE.{u}{Z:Type u}{l:List Z}(h:i < l.length):l[i]? =some l[i]:=List.getElem?_eq_getElem h
local macro_rules|`(tactic|omega)=>`(tactic|lia)
namespace PySem.W.Fast
def tw6833850869818509214:=()
def tw12969632877724205222:=()
def tw5456871074129185927:=()
def tw16799539202362216775:=()
def tw16746514233171118123:=()
def tw15516900162225504894:=()
def tw15294700433724205437:=()
def tw8795759435466750201:=()
def tw12706740944933181443:=()
def tw2094750738474164861:=()
def tw3044725571653810051:=()
def tw10682324917205998357:=()
def tw14721255961674801992:=()
def tw332139980144111835:=()
def tw11662745241218816371:=()
def tw11915410731677968089:=()
def tw8969067089262220406:=()
def tw436132590613182436:=()
def tw16418329525191397029:=()
def tw10873471758283080259:=()
def tw6156999449230410453:=()
def tw10627491867255168603:=()
def tw7428524350376061318:=()
def tw3223289367528337404:=()
def tw13169823329210284142:=()
def tw4237516543340949121:=()
def tw5054891597261904760:=()
def tw12534954769373103461:=()
def tw9584083214249560637:=()
def tw11139266966299767296:=()
def tw6923401610644909064:=()
def tw9033513427611279631:=()
def tw7963259176641716188:=()
def tw17862727382707998385:=()
def tw3962423711229746379:=()
def tw10974398460493652803:=()
def tw10634863017328287870:=()
def tw10429583599675607760:=()
def tw4066304554233960857:=()
def tw14356311564690438688:=()
def tw7725921557384330670:=()
def tw9057315568767986759:=()
def tw8103098426679256425:=()
def tw17984949536640285077:=()
def tw8736303955242220677:=()
def tw7601158404601027994:=()
def tw12494990418894688378:=()
def tw942155699036031855:=()
def tw5491845408881300647:=()
def tw9450297556095537160:=()
def tw13154542567665271579:=()
def tw8418028288363371870:=()
def tw7039326027027263895:=()
def tw15157089852289629065:=()
def tw2823284342901059725:=()
def tw4183581899724939441:=()
def tw3129131361845930812:=()
def tw2946887391322433774:=()
def tw106448768649770563:=()
def tw12305207750407090308:=()
def tw4033343846602942859:=()
def tw16071687679278523715:=()
def tw17796953285223965693:=()
def tw11690493302077552787:=()
def tw2740915881471278587:=()
def tw16240180874939014534:=()
def tw6667566813771074798:=()
def tw16528547488984094326:=()
def tw17522056259035240597:=()
def tw2735800578008029033:=()
def tw9962433271964239729:=()
def tw6776536685072744268:=()
def tw634812423220508149:=()
def tw17489308660497555079:=()
def tw6691241567166432070:=()
def tw829836259107739400:=()
def tw1146805605858430196:=()
def tw10492606472147322712:=()
def tw2872730332155305554:=()
def tw16724726373992275900:=()
def tw11314261382781803850:=()
def tw9591493981107937843:=()
def tw6341412977077239887:=()
def tw12745350787009181201:=()
def tw16619804100170842510:=()
def tw1663995403606774568:=()
def tw7438372425467696446:=()
def tw1441105973663971837:=()
def tw2261931359879951415:=()
def tw12706499618607302754:=()
def tw954814548693106705:=()
def tw11560526416670953061:=()
def tw13071590813912525120:=()
def tw14391624570733117603:=()
def tw14432013653306528537:=()
def tw3204815483434290886:=()
def tw16304443944134162822:=()
def tw2454535080874948733:=()
def tw5938621064607061468:=()
def tw2234489267056369513:=()
def tw17197428278674798094:=()
def tw6472788095428483217:=()
def tw13528177224722690366:=()
def tw5078054620180873201:=()
def tw654252453378113979:=()
def tw3273294386660053810:=()
def tw6446651299282548695:=()
def tw18371395329417316136:=()
def tw5230208864520317183:=()
def tw4905713124223666254:=()
def tw7881409725376316572:=()
def tw6496005153771938961:=()
def tw7602722020351966109:=()
def tw8976781703602796044:=()
def tw13739173402829168310:=()
def tw12619619514856111661:=()
def tw14914930428365638262:=()
def tw17200354640412693085:=()
def tw17838227096900824072:=()
def tw15529639801588826063:=()
def tw17331605615469840739:=()
def tw1279557129868405614:=()
def tw6201344222307557288:=()
def tw7953335983168630464:=()
def tw10989062557302384032:=()
def tw1480843094471215009:=()
def tw11712844048107315700:=()
def tw6586980304237753125:=()
def tw11471854282229176939:=()
def tw2624210763058905386:=()
def tw12707006261607023329:=()
def tw12782976518859454427:=()
def tw6444448054666042320:=()
def tw6901957014549311231:=()
def tw4566389139988699951:=()
def tw14683766167539768362:=()
def tw9649018399016239610:=()
def tw14698429966082365054:=()
def tw8272224356671514824:=()
def tw9801957093405428736:=()
def tw2363142011025198877:=()
def tw14663447975269860736:=()
def tw17077964035560976585:=()
def tw17000440146207685845:=()
def tw4044760937545380690:=()
def tw8516176524147593315:=()
def tw5734838802611140468:=()
def tw14055831436510161939:=()
def tw5842927468100040505:=()
def tw12612323577692813047:=()
def tw5717427019681386385:=()
def tw1758751599122992950:=()
def tw11646641614139998580:=()
def tw6337711669372216160:=()
def tw12044166117008707906:=()
def tw12027819084772108497:=()
def tw13544985422491455859:=()
def tw6159386648411483075:=()
def tw12785643877496718173:=()
def tw9570533475777910792:=()
def tw9972096129258579795:=()
def tw7720720970344610783:=()
def tw16994951964184720499:=()
def tw3331667352243426714:=()
def tw14813589303617149925:=()
def tw536307431538728656:=()
def tw10257015102979644612:=()
def tw14411314913738684687:=()
def tw18359686446813723188:=()
def tw13042448004134709950:=()
def tw13005109152041589825:=()
def tw14550383736545449722:=()
def tw12492136962307144743:=()
def tw16021678708363051362:=()
def tw17031596168439804476:=()
def tw13417269971030775848:=()
def tw4343594513660356696:=()
def tw1891752843436300012:=()
def tw5814495127478278702:=()
def tw18343897427930814011:=()
def tw15593884230478313313:=()
def tw1356896432990306055:=()
def tw4860895954436200736:=()
def tw12239148172335892465:=()
def tw6501579619086470779:=()
def tw8697108474783174011:=()
def tw828532578231796817:=()
def tw9816307968166198392:=()
def tw6328482332638627460:=()
def tw11222360294636700376:=()
def tw9342603304437951046:=()
def tw6777929818890175036:=()
def tw9316513314230988330:=()
def tw18106710696066755805:=()
def tw172107930916297426:=()
def tw4506220593993125673:=()
def tw1704752703626458785:=()
def tw16313678948638587762:=()
def tw14546339294884409617:=()
def tw825715366726678789:=()
def tw18393319035019831580:=()
def tw2963477941176832749:=()
def tw3780471713110352057:=()
def tw3502269570201660292:=()
def tw8957623276920484498:=()
def tw8619505025077699613:=()
def tw10375752185060696144:=()
def tw2990286717583326033:=()
def tw15588752041061736760:=()
def tw2068155862462720366:=()
def tw12023057222339372607:=()
def tw12875092684370140152:=()
def tw2712861039314792739:=()
def tw5953252716594674782:=()
def tw11902902272950478221:=()
def tw1831508015351123670:=()
def tw12459534040977916151:=()
def tw15688825470054361373:=()
def tw6872264844145486195:=()
def tw3610873553041471938:=()
def tw11063578809431355428:=()
def tw15171308221061822053:=()
def tw13833219528468468581:=()
def tw2567150185452073545:=()
def tw4711589878048712188:=()
def tw10797478638696886072:=()
def tw16924738209928258291:=()
def tw4546503912340924912:=()
def tw1317415807029069016:=()
def tw2144888603436787130:=()
def tw6463714999209954507:=()
def tw16581933825353509181:=()
def tw7001124248042136188:=()
def tw8384035464304547317:=()
def tw16960223953226351529:=()
def tw11340536474887999869:=()
def tw3106814863142343655:=()
def tw4868826398302636002:=()
def tw9321237796412099166:=()
def tw18391047675307991047:=()
def tw4926434089689522745:=()
def tw8825876400580458809:=()
def tw9195551213519443300:=()
def tw18017492172792132763:=()
def tw463233101756950349:=()
def tw15152905518839700730:=()
def tw11608932911138115229:=()
def tw6265424299005661692:=()
def tw6848488365400558481:=()
def tw14957802125722351921:=()
def tw7927211638376963233:=()
def tw14318986783434467819:=()
def tw7765637330204269404:=()
def tw13408422722799688346:=()
def tw5465183000200122216:=()
def tw8836618906841871547:=()
def tw7216705472002854809:=()
def tw12268845236155932567:=()
def tw15453479939102374784:=()
def tw5401355165302164110:=()
def tw12598423215888579815:=()
def tw7600555396884795248:=()
def tw14170562049704217270:=()
def tw15852701931518791894:=()
def tw1811770617700231391:=()
def tw1052772027281579329:=()
def tw11741244612206726618:=()
def tw8620338162519378917:=()
def tw17114403158232575977:=()
def tw12473842885770367222:=()
def tw2315520455319540017:=()
def tw10221650399883681406:=()
def tw4658677378388092016:=()
end PySem.W.Fast
open Array renaming length_toList->ahN, toList->anT
open Bool renaming false_ne_true->P7, eq_false_iff->VA, and_eq_true->uh, eq_iff_iff->r_, false_eq_true->Oc, and_false->OA, or_false->anJ, and_true->anK
open Classical renaming byContradiction->Qi, propDecidable->w6, not_forall->Oj, not_imp->OL
open Int renaming ne_of_gt->QD, zero_add->Qa, gcd->Nl, mul_pos->RL, natAbs_neg->Uk, mul_comm->UL, natAbs_mul->YT, mul_assoc->Wx, gcd_dvd_right->uq, gcd_dvd_left->uC, fmod_nonneg_of_pos->Ob, le_of_lt->ZF, natAbs_dvd_natAbs->OZ, fdiv_eq_of_eq_mul_right->agx, natAbs_add_le->yy, mul_nonneg->rT, mul_zero->Zm, mul_neg_of_pos_of_neg->agT, mul_le_mul_of_nonneg_right->ahK, mul_lt_mul_of_pos_right->ais, fmod_lt_of_pos->aiz, lt_trichotomy->ai0, natAbs_sub_le->ajb, mul_eq_zero->amB, gcd_zero_right->amU, toNat_natCast->amW, fmod_def->amX, le_of_eq->am4, emod_eq_of_lt->am7, gcd_mul_left->ana, neg_mul->anh, gcd_pos_iff->anj, mul_ne_zero->ank, dvd_coe_gcd->ans
open List renaming getElem?_eq_some_iff->be, getElem?_map->ir, length_map->Wp, getD_eq_getElem?_getD->JC, mem_of_getElem?->IH, mem_map->GV, getElem?_eq_none->JM, getElem?_append_left->MF, length_append->JG, replicate->JB, getElem?_append_right->Mg, getElem?_of_mem->LP, mem_cons_of_mem->MV, mem_singleton->MJ, mem_cons_self->Mo, mem_append->MU, length_take->Me, map_cons->M3, range->LK, size_toArray->QE, map_append->QC, getElem_mem->QJ, mem_cons->P4, mem_range->QF, map_map->P2, getElem?_set->Qs, length_cons->Qz, ext_getElem?->U3, flatMap_cons->U2, zipWith->Qe, getElem?_replicate->Vh, mem_append_right->V2, mem_append_left->V7, nodup_cons->UG, length_replicate->YU, getElem?_zipWith->YZ, getElem?_range->Vi, length_drop->Ux, take_length->Uz, mem_filter->V0, take_of_length_le->Zt, flatMap_append->ZP, append_assoc->ZO, length_filter_le->vV, length_range->Zq, length_eq_zero_iff->IK, range_succ->ZK, replicate_succ->uv, lookup->Uw, mem_flatMap->Zo, mem_filterMap->uu, map_nil->Wv, mem_iff_getElem->IA, length_eraseIdx->HW, mem_of_mem_eraseIdx->Om, filterMap_cons->HV, map_congr_left->HS, length->Wy, getElem?_eraseIdx->O_, find?_cons->rV, take_append_drop->OX, mem_of_mem_drop->Oh, mem_of_mem_take->Oe, any_eq_true->AG, nodup_range->AF, length_zipWith->Od, getElem?_take_of_lt->agW, any_cons->sG, length_set->HN, filter_append->OE, filter_cons_of_pos->ahu, filter_cons_of_neg->ahv, flatten_cons->ON, take_add_one->OM, nodup_append->OK, length_singleton->ahF, cons_append->OH, filter_cons->OG, of_mem_zip->OF, lookup_append->aiA, getElem?_take->aiD, getElem?_drop->aiL, pairwise_iff_getElem->aiW, getElem?_inj->ajc, pairwise_map->ajd, length_eraseIdx_le->ajI, getElem?_set_self->ajJ, range_succ_eq_map->ajM, zipWith_cons_cons->aj_, getElem_cons_drop->ak_, length_eq_one_iff->al_, append_nil->amx, nil_append->amy, length_nil->amA, eq_nil_or_concat->amC, concat_eq_append->amD, getElem?_set_ne->amE, take_zero->amJ, take_succ_cons->amL, all_cons->amM, sum_cons->amN, getElem_range->amQ, forIn_toArray->amS, pairwise_cons->amV, getElem_take->am1, foldl_append->am2, getElem_inj->am_, lookup_cons->anb, all_eq_true->anc, getElem_map->anf, cons_ne_nil->ang, sum_append->anl, forIn_cons->anm, length_zip->ano, foldl->anu, forIn_nil->anw, nodup_nil->anx, zip_map'->anQ
open List.Pairwise renaming map->am6
open Nat renaming le_trans->GX, le_refl->DX, lt_of_le_of_lt->L_, lt_of_lt_of_le->P_, pow_le_pow_right->Qt, mul_le_mul_right->RE, lt_succ_self->Qg, ne_of_lt->P6, zero_le->P1, not_lt_zero->Qn, lt_irrefl->Qh, mul_le_mul->Qq, one_le_two_pow->Ur, le_of_lt->Qr, lt_succ_iff_lt_or_eq->Zs, lt_succ_of_lt->ZN, add_mul->UP, le_mul_of_pos_right->ID, pow_succ->Ve, pow_add->Uv, add_sub_cancel_left->Ol, ne_of_gt->ZM, mul_comm->ZL, sub_self->Zl, min_eq_left->AH, pow_le_pow_left->ah_, add_comm->yw, zero_mul->yv, eq_of_mul_eq_mul_left->aiT, mul_one->yx, mul_assoc->O6, le_of_not_lt->ajz, le_of_eq->O8, lt_trans->O7, le_succ->N3, one_mul->KR, two_mul->KQ, mul_le_mul_left->amK, lt_or_gt_of_ne->amT, le_succ_of_le->am0, zero_add->am5, mod_eq_of_lt->ane, mul_add->ani, two_pow_pos->anq
open Ne renaming symm->IL
open Option renaming map_eq_some_iff->MK, isSome_map->ai_, isSome_iff_exists->ajv, map_some->amz, getD_none->am', none->aol
open Option.some renaming inj->QI
open Or renaming inl->Qk, inr->α8
open Prod renaming ext->Zx, fst->aoq, snd->aor
open Rat renaming mul_nonneg->RM, le_of_lt->Qm, inv_mul_cancel->V3, mul_le_mul_of_nonneg_left->IM, intCast_mul->Vg, le_refl->Uu, mul_le_mul_of_nonneg_right->afz, mul_inv_cancel->yz, intCast_inj->GZ, inv_pos->Zj, mul_pos->Zi, div_def->Zh, num_nonneg->OD, mul_assoc->amO, num_divInt_den->amR, divInt_eq_div->amZ, intCast_add->anp, intCast_sub->anr
open Sum renaming inr->Qw, inl->U_
open Sum.inl renaming inj->Zk
open Sum.inr renaming inj->Wz
open PySem.W (Frag nsIn codeIn keepIn fnOf mg_of mg_none_of)
open PySem renaming Addr->AZ, wpAny_bind->IC, sizeLine->HZ, Shared->G_, wpAny->DA, model->DW, mainGlobals->LO, starEach->JF, wpAny_pure->LN, Program->LS, eval->II, Around->Mf, bootBuiltins->Qx, wpAny_mono->Qf, compareOp->Qo, rawInt->PZ, sysModules->U', foldedSetIterable->σ5, backTo->QG, wpAny_holding->Vb, wpAny_Call_Name_kw->Zf, intBits_mul_le->Ws, wpAny_truthy_bool->Zd, attributeBase->Wq, codeAny->T8, recursionLimit->ZE, wpAny_passesOwn->ZX, binaryOp->UM, sliceBounds->WA, mem_of_lookup->yj, wpAny_getItem_str_slice->NU, cLine->Qu, tupleKind_room_in1->yg, swapsWith->Vw, assignEach->α9, behindInMarks->oq, keywordEach->ZU, builtinsNs->ZT, wpAny_field->rP, holding->Wf, wpAny_execs_nil->O4, letOwnedTupleGo->O1, call_meets->rA, closureFor->qk, post_val_or_str->O0, call_meetsIn->yo, wpAny_updateSeq->N_, wpAny_seqItems->NX
open PySem.Heap renaming get?_push_of_some->LM, lt_size->JN, get?_push_size->QL, get?_update_other->σ6, size_push->ZW, get?_update_self->N5, SameBut->yt
open PySem.PassesOwn renaming never->M9
open PySem.Paired renaming length->Mx, snoc->rS
open PySem.W renaming findIn->P5, emptyDict->UK, instObj->UJ, plainGet->σ4, hasDictIn->ZD, makesIn->Wg, plainOver->ZY, tabObj->ZV, codeHdIn->ot, kla_obj->yf, isFn->Zy, callWith_K->N4, lookIn->NY
open PyProof.Rows renaming callWith_type1->VJ, envOfC->Qv, kindOf->UI, AllBare->Va
open PySem.F renaming plainAttrs_list->Us, slot_list_append->σ3, type_list_append->σ2, slot_dict_items->O5, slot_zip_next->NZ
open PySem.Str renaming ofString->Ql
open PySem.Builtin.List renaming listTooLong->vW, listExtendWith->NW
open PySem.Builtin.SmallTypes renaming ownedTupleIsFree->Ou, nextOf->NV
open PySem.Calls renaming spliced_cons->Zg, callWith_builtin->yu, spliced_nil->pZ
open PySem.Obj renaming mapSeq->VZ
def iO.{u}{c:Prop}[Decidable c](a:¬c){Z:Sort u}{t e:Z}:ite c t e=e:=if_neg a
def jY.{u}{c:Prop}[Decidable c](a:c){Z:Sort u}{t e:Z}:ite c t e=t:=if_pos a
def DB{a b:Prop}(h:a)(n:¬a):b:=absurd h n
def P9{p:Prop}[Decidable p](h:p):decide p=true:=decide_eq_true h
def Qd{p:Prop}[Decidable p](h:decide p=true):p:=of_decide_eq_true h
def ox.{u,v}{Z:Sort u}{β:Sort v}{a b:Z}(f:Z->β)(h:a=b):f a=f b:=congrArg f h
def RI{p:Prop}[Decidable p](h:¬p):decide p=false:=decide_eq_false h
theorem O.{u}{Z:Sort u}{a:Z}:a=a:=rfl
section
def cv:Nat->Lean.Term->Lean.MacroM (Lean.TSyntax `rcasesPat)
|0,_=>Lean.Macro.throwUnsupported
|n+1,x=>match x with|`(($a,$b,*))=>do {let a←cv n a;let b←b.getElems.mapM (cv n);`(rcasesPat|⟨$a,$b,*⟩)}|`(#[$b,*])=>do {let b←b.getElems.mapM (cv n);`(rcasesPat|⟨$b,*⟩)}|`(_)=>`(rcasesPat|_)|`($x:ident)=>`(rcasesPat|$x:ident)|_=>Lean.Macro.throwUnsupported
local macro_rules|`(tactic|show $x)=>`(tactic|refine $x)
local macro_rules|`(#[$x,*])=>if x.getElems.size<1 then Lean.Macro.throwUnsupported else `(⟨$x,*⟩)
local macro_rules|`(($a,$x,*))=>if x.getElems.size<2 then Lean.Macro.throwUnsupported else `(⟨$a,$x,*⟩)
theorem cr {p:Prop}(h:p:=by omega):p:=h
theorem eY {p:Prop}[Decidable p](h:decide p=true:=by rfl):p:=of_decide_eq_true h
theorem fN {p:Prop}(h:p:=by simp):p:=h
local macro_rules|`(tactic|erw [$r,*] at $h:ident)=>`(tactic|(rw [$r,*] at $h:ident;cases $h:ident))
local macro_rules|`(tactic|let $d:letDecl)=>`(tactic|have $d:letDecl)
local macro_rules|`(tactic|let $p:term:=$e)=>do {let p←cv 9 p;`(tactic|obtain $p:rcasesPat:=$e)}
namespace L2
open PySem PySem.Spec PyProof.Rows
abbrev _root_.δ:=Value->G_->Prop
abbrev _root_.ε:=List (Int×Int)
abbrev _root_.ζ:=List (List Int)
abbrev _root_.θ:=List (AZ×Obj)
abbrev _root_.ι:=Str->Option Value
abbrev _root_.ν:=List (Nat×List Int)
abbrev _root_.ξ:=List (List (Int×Int))
abbrev _root_.ο:=List Int
abbrev _root_.ρ:=List Value
abbrev _root_.ς:=Str->Option (Rat×Rat)
abbrev _root_.τ:=List Str
abbrev _root_.χ:=List (Nat×List (Int×Int))
abbrev _root_.ψ:=List AZ
abbrev _root_.Α:=List Expr
abbrev _root_.Β:=List (Rat×Rat)
abbrev _root_.Ε:=List (Str×Str×Str)
abbrev _root_.Ζ:=Option AZ
abbrev _root_.Ι:=Array (Option Value)
abbrev _root_.Λ:=Str->Rat×Rat
abbrev _root_.Μ:=List Rat
abbrev _root_.Ν:=Array Value
abbrev _root_.Ο:=List (Str×List (Rat×Rat))
abbrev _root_.Τ:=Result->G_->Prop
abbrev _root_.Φ:=Nat->Option (Int×Int)
abbrev _root_.Χ:=Nat×List Int
abbrev _root_.Ψ:=List Nat
abbrev _root_.Ω:=Option Value->G_->Prop
abbrev Key:=Sum Int Str
abbrev _root_.Υ:=List (List Key×AZ×Value)
def yZ:Key->Value->Bool
 | .inl k,v=>Value.isInt k v
 | .inr x,v=>Value.isStrOf x v
def an5 (w:World):Key->Int
 | .inl k=>hashInt k
 | .inr x=>hashStr w x
def cR:∀{k:Key} {v:Value},yZ k v=true->(∃i t,k=U_ i/\v=Value.int i t)\/(∃x t,k=Qw x/\v=Value.str x t)
 | .inl i,v,h=>by
  let(t,e):=Value.isInt_shape (k:=i) (v:=v) h;show .inl (i,t,O,e)
 | .inr x,v,h=>by
  let(t,e):=Value.isStrOf_shape (x:=x) (v:=v) h;show .inr (x,t,O,e)
def aeC (i:Int)(t:Tok):yZ (.inl i) (.int i t)=true:=by simp [yZ,Value.isInt]
def acM (x:Str)(t:Tok):yZ (.inr x) (.str x t)=true:=by simp [yZ,Value.isStrOf]
def abY (a b:Int):decide ((U_ a:Key)=U_ b)=(a==b):=by
 by_cases e:a=b
 ·subst e;simp
 ·let h:¬ (U_ a:Key)=U_ b:=λq=>e (Zk q)
  rw [RI h];show(beq_eq_false_iff_ne.mpr e).symm
def abZ (a b:Str):decide ((Qw a:Key)=Qw b)=decide (a=b):=by
 by_cases e:a=b
 ·subst e;simp
 ·let h:¬ (Qw a:Key)=Qw b:=λq=>e (Wz q)
  rw [RI h,RI e]
def ab0 (a:Int)(b:Str):decide ((U_ a:Key)=Qw b)=false:=RI (λq=>nomatch q)
def ab1 (a:Str)(b:Int):decide ((Qw a:Key)=U_ b)=false:=RI (λq=>nomatch q)
def bO (prog:LS)(w:World):PySem.KeyKind prog w Key where
 is:=yZ
 hash:=an5 w
 inj:=λv a b U Y=>by
  rcases cR U with ⟨i,t,rfl,rfl⟩|⟨x,t,rfl,rfl⟩
  ·rcases cR Y with ⟨j,u,rfl,e⟩|⟨y,u,rfl,e⟩
   ·injection e with e1 _;rw [e1]
   ·show nomatch e
  ·rcases cR Y with ⟨j,u,rfl,e⟩|⟨y,u,rfl,e⟩
   ·show nomatch e
   ·injection e with e1 _;rw [e1]
 byValue:=λk v h=>by
  rcases cR h with ⟨i,t,rfl,rfl⟩|⟨x,t,rfl,rfl⟩<;>rfl
 pyHash:=λZ h=>by
  rcases cR Z with ⟨i,t,rfl,rfl⟩|⟨x,t,rfl,rfl⟩
  ·show wpAny_pyHash_int h
  ·show wpAny_pyHash_str h
 eqBool:=λX Z h=>by
  rcases cR X with ⟨i,t,rfl,rfl⟩|⟨x,t,rfl,rfl⟩
  ·rcases cR Z with ⟨j,u,rfl,rfl⟩|⟨y,u,rfl,rfl⟩
   ·rw [abY] at h;show wpAny_eqBool_int h
   ·rw [ab0] at h;show SeqAt.EqAt.int_str i t y u _ _ _ _ h
  ·rcases cR Z with ⟨j,u,rfl,rfl⟩|⟨y,u,rfl,rfl⟩
   ·rw [ab1] at h;show SeqAt.EqAt.str_int x t j u _ _ _ _ h
   ·rw [abZ] at h;show wpAny_eqBool_str h
 «strs»:=λk x t v h=>by
  rcases cR h with ⟨i,u,rfl,e⟩|⟨y,u,rfl,e⟩
  ·show nomatch e
  ·injection e with e1 _
   subst e1;cases v<;>rfl
def aad (prog:LS)(w:World)(i:Int)(t:Tok):(bO prog w).is (.inl i) (.int i t)=true:=aeC i t
def aaY (prog:LS)(w:World)(x:Str)(t:Tok):(bO prog w).is (.inr x) (.str x t)=true:=acM x t
inductive V where
 | cK|bl (b:Bool)|int (i:Int)|str (x:Str)|qD (b:Array UInt8)|flt (b:UInt64)|ref (a:AZ)|ty (n:String)
 deriving DecidableEq
abbrev _root_.γ:=List V
abbrev _root_.η:=List (Key×V)
abbrev _root_.ω:=Option V
abbrev _root_.Η:=List (List V)
abbrev _root_.Ρ:=List (List Key×V)
def RelV:V->Value->Prop
 | .cK,u=>u=Value.none
 | .bl b,u=>u=Value.bool b
 | .int i,u=>∃t,u=Value.int i t
 | .str x,u=>∃t,u=Value.str x t
 | .qD b,u=>∃t,u=Value.bytes b t
 | .flt b,u=>∃t,u=Value.float b t
 | .ref a,u=>u=Value.ref a
 | .ty n,u=>u=Value.type n
abbrev Vals:List V->List Value->Prop:=Paired RelV
theorem Vals.length {xs:γ}{us:ρ}(r:Vals xs us):xs.length=us.length:=Mx r
theorem Vals.get:∀{xs:γ} {us:ρ} {i:Nat} {x:V},Vals xs us->xs[i]?=some x->∃u,us[i]?=some u/\RelV x u
 | _,_,_,_,.nil,e=>by simp at e
 | _,_,0,_,.cons r _,e=>by simp at e;subst e;show(_,O,r)
 | _,_,i+1,x,.cons _ t,e=>by
  let(u,Y,Z):=Vals.get (i:=i) (x:=x) t (by simpa using e);show(u,by simpa using Y,Z)
theorem Vals.set (r:RelV x u):∀{xs:γ} {us:ρ} (i:Nat),Vals xs us->Vals (xs.set i x) (us.set i u)
 | _,_,_,.nil=>.nil
 | _,_,0,.cons _ t=>.cons r t
 | _,_,i+1,.cons q t=>.cons q (Vals.set r i t)
theorem Vals.append:∀{xs ys:γ} {us ws:ρ},Vals xs us->Vals ys ws->Vals (xs++ys) (us++ws)
 | _,_,_,_,.nil,s=>s
 | _,_,_,_,.cons r t,s=>.cons r (Vals.append t s)
theorem Vals.take:∀{xs:γ} {us:ρ} (n:Nat),Vals xs us->Vals (xs.take n) (us.take n)
 | _,_,0,_=>.nil
 | _,_,_+1,.nil=>.nil
 | _,_,n+1,.cons r t=>.cons r (Vals.take n t)
theorem Vals.drop:∀{xs:γ} {us:ρ} (n:Nat),Vals xs us->Vals (xs.drop n) (us.drop n)
 | _,_,0,r=>r
 | _,_,_+1,.nil=>.nil
 | _,_,n+1,.cons _ t=>Vals.drop n t
def j3:Option V->Option Value->Prop
 | some v,some u=>RelV v u
 | none,none=>True
 | _,_=>False
def KV {κ:Type}:List (κ×V)->List (κ×Value)->Prop:=Paired λ(p:κ×V) (q:κ×Value)=>p.1=q.1/\RelV p.2 q.2
def kV:Key->V
 | .inl i=>.int i
 | .inr x=>.str x
inductive HO where
 | lst (xs:γ)
 | tup (xs:γ)
 | dK (AV:η)|dT (AV:Ρ)
 | set (S:Int->Bool) (n:Nat)
 | ins (C X:AZ) (Z:List (Str×V))
 | own (x:AZ)
 | xd (Z:List (Str×V))
 | met (f x:AZ)
 | rng (lo Y:Int)
 | iL (o:Obj) (u:HO)
 | lj (ps:Ν)
 | ext (φ:Heap->Prop)
abbrev Hp:=AZ->Option HO
def upd (H:Hp)(a:AZ)(o:HO):Hp:=λb=>if b=a then some o else H b
def af :upd H a o a=some o:=by unfold upd;rw [jY rfl]
def ag (h:b≠a):upd H a o b=H b:=by unfold upd;rw [iO h]
def afy {H:Hp}(h:H a=some o)(h':H b=some u)(d:o≠u):a≠b:=by
 intro e;subst e;rw [h] at h';show d (QI h')
def aj {H:Hp}(h:H a=some o)(h':H b=none):a≠b:=by
 intro e;subst e;erw [h] at h'
section
variable (P:LS)(w:World)
def dF (H:Hp)(h:Heap)(a:AZ):HO->Prop
 | .lst xs=>xs.length<=HZ/\∃(BC:ρ)(n:Nat),Vals xs BC/\h.get? a=some {cls:=.type "list",data:=.seq BC.toArray n}
 | .tup xs=>xs.length<=HZ/\∃BC:List Value,Vals xs BC/\IsTup h a BC.toArray
 | .dK X=>X.length<=HZ/\(a==U')=false/\∃T,KV X T/\h.DictOf (bO P w) a T
 | .dT X=>X.length<=HZ/\(a==U')=false/\∃xs:List (List Key×AZ×Value),
   Paired (λ(p:List Key×V) (q:List Key×AZ×Value)=>p.1=q.1/\H q.2.1=some (.tup (p.1.map kV))/\RelV p.2 q.2.2) X xs/\
   ∃o N J,h.get? a=some o/\o.ExactDict/\o.data=.dict N J/\N.toList=xs.map (entryOfKey (tupleKind (bO P w)))/\(xs.map (·.1)).Nodup
 | .set S n=>h.SetOf (intKind P w) a S n
 | .ins C U Y=>H U=some (.own a)/\Y.length<=1000/\U≠a/\h.get? a=some (UJ C U)/\
   ∃Z,h.Ns1 U Z/\(∀f,j3 (Y.lookup f) (Z f))/\PySem.Within Z (Y.map (·.1))
 | .own _=>∃o,h.get? a=some o
 | .xd Y=>∃Z,h.Ns1 a Z/\∀f,j3 (Y.lookup f) (Z f)
 | .rng lo L=>∃t u v,h.get? a=some {cls:=.type "range",data:=.fields (List.toArray [.int lo t,.int L u,.int 1 v])}
 | .iL o u=>h.get? a=some o/\dF H h a u
 | .lj M=>h.get? a=some {cls:=.none,data:=.fields M}
 | .met f x=>h.get? a=some (PySem.W.methodObj (.ref f) (.ref x))
 | .ext φ=>φ h/\(∃o,h.get? a=some o)/\∀Q R:Heap,φ Q->(∀o,Q.get? a=some o->R.get? a=some o)->φ R
def mW (H:Hp)(h:Heap):Prop:=∀a o,H a=some o->dF P w H h a o
end
section
variable {P:LS}{w:World}{H H':Hp}{h h':Heap}{a:AZ}{o:HO}
theorem dF.lt (x:dF P w H h a o):a<h.objs.size:=by
 cases o with
 | lst xs=>let(_,_,_,_,e):=x;show JN e
 | tup xs=>let(_,_,_,p):=x;show p.lt
 | dK Y=>let(_,_,_,_,o,_,_,e,_):=x;show JN e
 | dT Y=>let(_,_,_,_,o,_,_,e,_):=x;show JN e
 | set S n=>let(o,_,_,_,e,_):=x;show JN e
 | ins C R Z=>let(_,_,_,e,_):=x;show JN e
 | own y=>let(_,e):=x;show JN e
 | xd Z=>let(_,(_,_,_,e,_),_):=x;show JN e
 | rng lo T=>let(_,_,_,e):=x;show JN e
 | iL U u=>let(e,_):=x;show JN e
 | lj X=>show JN (show h.get? a=some _ from x)
 | met f y=>show JN (show h.get? a=some _ from x)
 | ext φ=>let(_,(_,e),_):=x;show JN e
theorem Paired.cF :∀{Y:List Z} {X:List β},Paired F Y X->(∀a b,F a b->G a b)->Paired G Y X
 | _,_,.nil,_=>.nil
 | _,_,.cons r t,f=>.cons (f _ _ r) (Paired.cF t f)
def dF.vC (x:dF P w H h a o)(k:∀b u,(b=a\/H b=some (.own a))->h.get? b=some u->h'.get? b=some u)
  (I:∀b,H b=some (.own a)->H' b=some (.own a)) (J:∀b xs,H b=some (.tup xs)->H' b=some (.tup xs)):dF P w H' h' a o:=by
 induction o with
 | lst xs=>let(z,R,n,r,e):=x;show(z,R,n,r,k _ _ (.inl rfl) e)
 | tup xs=>let(z,R,r,Z,e,c):=x;show(z,R,r,Z,k _ _ (.inl rfl) e,c)
 | dK D=>let(z,y,N,r,Z,Y,X,e,c):=x;show(z,y,N,r,Z,Y,X,k _ _ (.inl rfl) e,c)
 | dT D=>
  let(z,y,xs,r,Z,Y,X,e,c):=x;show(z,y,xs,Paired.cF r λp q z=>(z.1,J _ _ z.2.1,z.2.2),Z,Y,X,k _ _ (.inl rfl) e,c)
 | set S n=>let(Z,Y,X,t,e,c):=x;show(Z,Y,X,t,k _ _ (.inl rfl) e,c)
 | ins C A G=>
  let(d,z,M,e,T,(U,Y,X,E,c),r):=x;show(I _ d,z,M,k _ _ (.inl rfl) e,T,(U,Y,X,k _ _ (.inr d) E,c),r)
 | own y=>let(Z,e):=x;show#[Z,k _ _ (.inl rfl) e]
 | xd G=>let(T,(U,Y,X,e,c),r):=x;show(T,(U,Y,X,k _ _ (.inl rfl) e,c),r)
 | rng lo B=>let(t,u,v,e):=x;show(t,u,v,k _ _ (.inl rfl) e)
 | iL Z u L=>let(e,q):=x;show#[k _ _ (.inl rfl) e,L q]
 | lj Q=>
  let e:h.get? a=some {cls:=.none,data:=.fields Q}:=x;change h'.get? a=some {cls:=.none,data:=.fields Q};show k a _ (.inl rfl) e
 | met f y=>
  let e:h.get? a=some (PySem.W.methodObj (.ref f) (.ref y)):=x;change h'.get? a=some (PySem.W.methodObj (.ref f) (.ref y));show k a _ (.inl rfl) e
 | ext φ=>let(p,(o,e),st):=x;show(st _ _ p λo q=>k _ _ (.inl rfl) q,#[o,k _ _ (.inl rfl) e],st)
theorem mW.lt (x:mW P w H h)(e:H a=some o):a<h.objs.size:=(x a o e).lt
def mW.fresh (x:mW P w H h)(e:h.objs.size<=a):H a=none:=by
 cases q:H a with
 | none=>rfl
 | some u=>show DB (P_ (x.lt q) e) (Qh _)
def mW.kept (x:mW P w H h)(k:∀b u,h.get? b=some u->h'.get? b=some u):mW P w H h':=λa o e=>
 (x a o e).vC (λb u _ q=>k b u q) (λ_ q=>q) λ_ _ q=>q
def mW.laid (x:mW P w H h)(k:∀b u,h.get? b=some u->h'.get? b=some u)(U:h.objs.size<=a)(Z:dF P w (upd H a o) h' a o):mW P w (upd H a o) h':=λb u e=>by
 let Y:=x.fresh U;by_cases X:b=a
 ·subst X;erw [af] at e;show Z
 ·rw [ag X] at e
  show(x b u e).vC (λc v _ q=>k c v q) (λc q=>by rwa [ag (aj q Y)]) λc xs q=>by rwa [ag (aj q Y)]
end
def Rd (H:Hp)(a:AZ)(u:HO):Prop:=H a=some u\/∃o,H a=some (.iL o u)
def Rd.of (h:H a=some u):Rd H a u:=.inl h
def Rd.ok (r:Rd H a u)(x:mW P w H h):dF P w H h a u:=by
 rcases r with r|⟨o,r⟩
 ·show x a u r
 ·let(_,q):=x a _ r
  show q
def Mut:Option HO->Prop
 | some (.lst _)=>True
 | some (.dK _)=>True
 | some (.dT _)=>True
 | some (.set _ _)=>True
 | some (.ins _ _ _)=>True
 | some (.ext _)=>True
 | _=>False
section
variable {P:LS}{w:World}{H:Hp}{h h':Heap}{x e:AZ}{o':HO}
def mW.write (L:mW P w H h)(Q:Mut (H x))(N:e=x\/H e=some (.own x))(k:∀b u,b≠e->h.get? b=some u->h'.get? b=some u)(S:∃u,h'.get? e=some u)
  (T:dF P w (upd H x o') h' x o'):mW P w (upd H x o') h':=λb u q=>by
 let Y:∀c y,H c=some (.own y)->c≠x:=λc y r z=>by subst z;rwa [r] at Q
 let R:∀c xs,H c=some (.tup xs)->c≠x:=λc xs r z=>by subst z;rwa [r] at Q
 by_cases U:b=x
 ·subst U;erw [af] at q;show T
 ·rw [ag U] at q
  by_cases Z:b=e
  ·let M:H b=some (.own x):=by
    rcases N with z|z
    ·show DB (Z.trans z) U
    ·rwa [Z]
   erw [q] at M;let(v,J):=S;show#[v,by rwa [Z]]
  ·show(L b u q).vC (λc v X r=>k c v ?_ r) (λc r=>by rwa [ag (Y c b r)]) λc xs r=>by rwa [ag (R c xs r)]
   rcases X with rfl|X
   ·show Z
   ·rintro rfl
    rcases N with z|z
    ·show Y c b X z
    ·erw [X] at z;show U rfl
end
structure Un (fs ex:ψ)(H H':Hp)(h h':Heap):Prop where
 keep:∀b o,h.get? b=some o->H b=none->b∉fs->b∉ex->h'.get? b=some o
 slot:∀b o,h.get? b=some o->H b=none->b∈fs->b∉ex->∃sl,h'.get? b=some {o with slots:=sl}
 free:∀b o,h.get? b=some o->H b=none->b∉ex->H' b=none
 there:∀b o,h.get? b=some o->b∉ex->∃o',h'.get? b=some o'
 AK:∀b xs,H b=some (.tup xs)->H' b=some (.tup xs)
 x6:∀b o u,H b=some (.iL o u)->H' b=some (.iL o u)
 x9:∀b ps,H b=some (.lj ps)->∃more,H' b=some (.lj (ps++more))
section
variable {fs fs' ex ex':ψ}{H H1 H2:Hp}{h h1 h2 h':Heap}{a x e:AZ}{o:HO}
def Un.any (u:Un fs ex H H1 h h1)(q:h.get? b=some ob)(n:H b=none)(Z:b∉ex):∃X,h1.get? b=some {ob with slots:=X}:=by
 by_cases Y:b∈fs
 ·show u.slot b ob q n Y Z
 ·show#[ob.slots,u.keep b ob q n Y Z]
def Un.kept (k:∀b u,h.get? b=some u->h'.get? b=some u):Un fs ex H H h h':=
 (λb Z q _ _ _=>k b Z q,λb Z q _ _ _=>#[Z.slots,k b Z q],λ_ _ _ n _=>n,λb Z q _=>#[Z,k b Z q],λ_ _ q=>q,λ_ _ _ q=>q,λ_ Y q=>#[#[],by rw [q];simp])
def Un.refl:Un fs ex H H h h:=Un.kept λ_ _ q=>q
def Un.laid (k:∀b u,h.get? b=some u->h'.get? b=some u)(Y:h.objs.size<=a)(Z:H a=none):Un fs ex H (upd H a o) h h' where
 keep:=λb u q _ _ _=>k b u q
 slot:=λb u q _ _ _=>#[u.slots,k b u q]
 free:=λb u q n _=>by rwa [ag (P6 (P_ (JN q) Y))]
 there:=λb u q _=>#[u,k b u q]
 AK:=λb xs q=>by rwa [ag (aj q Z)]
 x6:=λb u xs q=>by rwa [ag (aj q Z)]
 x9:=λb X q=>#[#[],by rw [ag (aj q Z),q];simp]
def Un.write (Y:Mut (H x))(Q:e=x\/H e=some (.own x))(k:∀b u,b≠e->h.get? b=some u->h'.get? b=some u)(U:∃u,h'.get? e=some u):Un fs ex H (upd H x o) h h':=by
 let T:∀b,H b=none->b≠x:=λb n z=>by subst z;rwa [n] at Y
 let S:∀b,H b=none->b≠e:=λb n z=>by
  subst z
  rcases Q with r|r
  ·show T b n r
  ·erw [n] at r
 let X:∀b u,H b=some u->¬ Mut (some u)->b≠x:=λb u q R z=>by subst z;rw [q] at Y;show R Y
 show(λb u q n _ _=>k b u (S b n) q,λb u q n _ _=>#[u.slots,k b u (S b n) q],λb u q n _=>by rwa [ag (T b n)],λb u q _=>?_,
  λb xs q=>by rwa [ag (X b _ q λz=>z)],λb u xs q=>by rwa [ag (X b _ q λz=>z)],λb P q=>#[#[],by rw [ag (X b _ q λz=>z),q];simp])
 by_cases Z:b=e
 ·subst Z;show U
 ·show#[u,k b u Z q]
end
def trk (h:Heap)(H:Hp):List AZ:=(LK h.objs.size).filter λa=>(H a).isSome
def ya (h:Heap)(H:Hp):Heap:=PySem.W.hideAll h (trk h H)
def acr (h:Heap)(H:Hp):(ya h H).objs.size=h.objs.size:=PySem.W.hideAll_size _ _
def aj6 (e:h.get? b=some o)(n:H b=none):(ya h H).get? b=some o:=
 PySem.W.hideAll_get _ e λZ=>by
  let q:(H b).isSome=true:=(V0.mp Z).2;rw [n] at q;simp at q
def ae' (e:(ya h H).get? b=some o):h.get? b=some o/\H b=none:=by
 let Z:h.get? b=some o:=PySem.W.of_hideAll (trk h H) e;show#[Z,?_];cases q:H b with
 | none=>rfl
 | some x=>
  let Y:b∈trk h H:=V0.mpr #[QF.mpr (JN Z),by simp [q]];let z:(ya h H).get? b=none:=PySem.W.hideAll_none (trk h H) Y;erw [z] at e
def adT (g h:Heap)(L:AZ):List (AZ×Obj):=(LK h.objs.size).filterMap λa=>if a=L\/(g.get? a).isSome=true then none else (h.get? a).map λo=>(a,o)
def rest (g h:Heap)(L d:AZ):List (AZ×Obj):=(adT g h L).filter λp=>decide (p.1≠d)
structure Mod (K:Frag)(mg:ι)(gN:Heap):Prop where
 kin:K.In gN
 glob:gN.Ns LO mg
 blt:∃mb,gN.Ns ZT mb/\∀x:Str,x≠ "__name__"->mb x=Qx x
 nolimit:gN.NoLimit
 seer:gN.NoSeer
structure Cx where
 prog:LS
 w:World
 K:Frag
 mg:Str->Option Value
 gN:Heap
 A:Mf
 N:List Str
 nI:G_
 H₀:Hp
 env:Env
 gV:List Env
 stack:List Env
 ex:List AZ
 fn:Str->Bool
 calm:Bool
 pn:List (AZ×Obj)
 xe:Value->G_->Prop
def NR (l:List Env):List AZ:=l.filterMap (·.frame)
abbrev Cx.fs (X:Cx):List AZ:=NR X.gV
def Vis (Z:Scope)(x:Str):Prop:=Z.names.lookup x=some .local\/Z.names.lookup x=some .cell\/Z.names.lookup x=some .free
def Loc (Z:Scope)(x:Str):Prop:=Z.names.lookup x=some .local\/Z.names.lookup x=some .cell
def Look (Z:Env)(h:Heap)(m:ι)(x:Str)(u:Value):Prop:=
 (Z.kindOf x=some .local/\m x=some u)\/((Z.kindOf x=some .cell\/Z.kindOf x=some .free)/\∃c,Z.cells.lookup x=some c/\h.IsCell c (some u))
structure Cx.Ok (X:Cx):Prop where
 mod:Mod X.K X.mg X.gN
 kind:X.env.scope.kind=.function
 glob:X.env.globals=LO
 blt:X.env.builtins=ZT
 above:X.nI.heap.objs.size<=X.env.locals
 inj:∀x y c,X.env.cells.lookup x=some c->X.env.cells.lookup y=some c->x=y
 has:∀x,(X.env.kindOf x=some .cell\/X.env.kindOf x=some .free)->∃c,X.env.cells.lookup x=some c
 cab:∀x c,X.fn x=true->X.env.cells.lookup x=some c->X.nI.heap.objs.size<=c
 hd:X.calm=true->X.A.handled=none
 frames:X.A.frames=some X.stack
 stk:X.stack=X.gV\/(X.stack=X.env::X.gV/\X.env.frame=some X.env.locals)
 exf:∀b∈X.ex,b≠X.env.locals/\∀x c,X.env.cells.lookup x=some c->c≠b
 bs:∀b o,X.gN.get? b=some o->X.nI.heap.get? b=some o/\X.H₀ b=none
 YV:X.gN.objs.size<=X.nI.heap.objs.size
 T9:∀b o,X.gN.get? b=some o->b∉X.ex
 YW:∀b∈X.ex,b∉X.fs
 ug:X.nI.heap.FunFrames X.gN X.gV
 frf:∀b∈X.fs,X.H₀ b=none
structure Inv (X:Cx)(AO:θ)(Y:List (Option V))(H:Hp)(s:G_):Prop where
 ok:X.Ok
 os:s.os=X.nI.os
 bare:Va s.gens
 gN:Un X.fs X.ex X.H₀ H X.nI.heap s.heap
 loc:∃m,s.heap.Ns X.env.locals m/\∀(i:Nat)(x:Str)(v:V),X.N[i]?=some x->Y[i]?=some (some v)->Vis X.env.scope x->∃u,RelV v u/\Look X.env s.heap m x u
 cell:∀x c,X.env.cells.lookup x=some c->∃v,s.heap.IsCell c v
 free:H X.env.locals=none
 lB:∀x c,X.env.cells.lookup x=some c->H c=none
 pin:∀p∈X.pn++AO,s.heap.get? p.1=some p.2/\H p.1=none/\p.1≠X.env.locals/\p.1∉X.fs/\∀v,p.2.data≠.cell v
 cg:mW X.prog X.w H s.heap
 len:Y.length=X.N.length
section
variable {X:Cx}{AO:θ}{Y:List (Option V)}{H H':Hp}{s:G_}{h':Heap}
def Cx.Ok.an7 (Z:X.Ok)(e:X.gN.get? b=some o):b∉X.fs:=λU=>by
 have:=(Z.ug.mem U).1;erw [e] at this
theorem Inv.bs (I:Inv X AO Y H s):∀b o,X.gN.get? b=some o->s.heap.get? b=some o/\H b=none:=λb o e=>
 #[I.gN.keep b o (I.ok.bs b o e).1 (I.ok.bs b o e).2 (I.ok.an7 e) (I.ok.T9 b o e),I.gN.free b o (I.ok.bs b o e).1 (I.ok.bs b o e).2 (I.ok.T9 b o e)]
def Inv.bk (I:Inv X AO Y H s):∀b o,X.gN.get? b=some o->s.heap.get? b=some o:=λb o e=>(I.bs b o e).1
theorem Inv.mod (I:Inv X AO Y H s):Mod X.K X.mg X.gN:=I.ok.mod
def Inv.yb (I:Inv X AO Y H s):X.K.In s.heap:=I.ok.mod.kin.keeps I.bk
theorem Inv.nolimit (I:Inv X AO Y H s):s.heap.NoLimit:=I.ok.mod.nolimit.keeps I.bk
theorem Inv.lt (I:Inv X AO Y H s):X.env.locals<s.heap.objs.size:=let ⟨_,Z,_⟩:=I.loc;Z.lt
def Inv.sz (I:Inv X AO Y H s):X.nI.heap.objs.size<=s.heap.objs.size:=GX I.ok.above (Qr I.lt)
def Inv.an8 (I:Inv X AO Y H s){a:AZ}(h:s.heap.objs.size<=a):a∉X.fs:=λU=>by
 let(_,o,Z,_):=I.ok.ug.mem U;show DB (P_ (JN Z) (GX I.sz h)) (Qh _)
def Inv.cne (I:Inv X AO Y H s):∀x c,X.env.cells.lookup x=some c->c≠X.env.locals:=λx c e z=>by
 let(v,o,Z,U):=I.cell x c e;let(m,(R,Q,P,S,T,_),_):=I.loc;erw [z,S] at Z;erw [T] at U
theorem Inv.ug (I:Inv X AO Y H s):s.heap.FunFrames X.gN X.gV:=by
 let all:∀(l:List Env),(∀b∈NR l,b∈X.fs)->X.nI.heap.FunFrames X.gN l->s.heap.FunFrames X.gN l:=by
  intro l
  induction l with
  | nil=>intro _ _;trivial
  | cons E r R=>
   intro S M;let(J,(L,o,Z,N,P,G),Q):=M;let T:L∈X.fs:=S L (by unfold NR;rw [HV,Z];show Mo);let(D,e):=I.gN.slot L o P (I.ok.frf L T) T λz=>I.ok.YW L z T;show(J,(L,_,Z,N,e,G),R (λb U=>S b (by unfold NR;rw [HV,Z];show MV _ U)) Q)
 show all X.gV (λ_ U=>U) I.ok.ug
theorem Inv.stack (I:Inv X AO Y H s):s.heap.FunFrames X.gN X.stack:=by
 rcases I.ok.stk with e|⟨e,U⟩
 ·rw [e];show I.ug
 ·rw [e]
  let(m,Z,_):=I.loc;show .cons (by rw [I.ok.kind];decide) U Z ?_ I.ug;show Heap.get?_none_of_le (GX I.ok.YV I.ok.above)
def Inv.LF (I:Inv X AO Y H s):∀b∈NR X.stack,b∈X.env.locals::X.fs:=λb Z=>by
 rcases I.ok.stk with e|⟨e,U⟩
 ·rw [e] at Z;show MV _ Z
 ·rw [e] at Z
  unfold NR at Z;rwa [HV,U] at Z
def Inv.NS (I:Inv X AO Y H s):∀b∈NR X.stack,H b=none:=λb Z=>by
 rcases P4.mp (I.LF b Z) with e|Z
 ·rw [e];show I.free
 ·let(_,o,U,_):=I.ok.ug.mem Z
  show I.gN.free b o U (I.ok.frf b Z) λz=>I.ok.YW b z Z
def Inv.step {ch:ψ}(I:Inv X AO Y H s)
  (C:∀b∈ch,(b∈X.ex\/X.nI.heap.objs.size<=b)/\b≠X.env.locals/\(∀x c,X.env.cells.lookup x=some c->c≠b)/\∀p∈X.pn++AO,p.1≠b)
  (T:∀b o,b≠X.env.locals->b∉X.fs->b∉ch->s.heap.get? b=some o->H b=none->h'.get? b=some o)
  (P:∀b o,b≠X.env.locals->b∈X.fs->b∉ch->s.heap.get? b=some o->H b=none->∃y,h'.get? b=some {o with slots:=y}) (free:∀b o,b∉ch->s.heap.get? b=some o->H b=none->H' b=none)
  (N:∀b o,b∉ch->s.heap.get? b=some o->∃J,h'.get? b=some J)
  (AK:∀b xs,H b=some (.tup xs)->H' b=some (.tup xs)) (x6:∀b o u,H b=some (.iL o u)->H' b=some (.iL o u)) (x9:∀b B,H b=some (.lj B)->∃E,H' b=some (.lj (B++E)))
  (ns:∀m,s.heap.Ns X.env.locals m->h'.Ns X.env.locals m) (cg:mW X.prog X.w H' h') (hg:Va g'):
  Inv X AO Y H' {s with heap:=h',gens:=g',drawn:=d',toks:=t'}:=by
 let G:∀b o,X.nI.heap.get? b=some o->b≠X.env.locals:=λb o e=>P6 (P_ (JN e) I.ok.above)
 let R:∀b o,X.nI.heap.get? b=some o->b∉X.ex->b∉ch:=λb o e Z M=>by
  rcases (C b M).1 with z|z
  ·show Z z
  ·show DB (P_ (JN e) z) (Qh _)
 let S:∀x c,X.env.cells.lookup x=some c->∀v,s.heap.IsCell c v->h'.IsCell c v:=λx c e v ⟨o,L,j⟩=>by
  let U:c∉ch:=λz=>(C c z).2.2.1 x c e rfl;by_cases hc:c∈X.fs
  ·let(y,q):=P c o (I.cne x c e) hc U L (I.lB x c e)
   show(_,q,j)
  ·show(o,T c o (I.cne x c e) hc U L (I.lB x c e),j)
 show(I.ok,I.os,hg,(λb o e n M Z=>?_,λb o e n M Z=>?_,λb o e n Z=>?_,λb o e Z=>?_,λb xs e=>AK b xs (I.gN.AK b xs e),λb o xs e=>x6 b o xs (I.gN.x6 b o xs e),λb B e=>?_),?_,λx c e=>?_,?_,λx c e=>?_,λp a=>?_,cg,I.len)
 ·show T b o (G b o e) M (R b o e Z) (I.gN.keep b o e n M Z) (I.gN.free b o e n Z)
 ·let(y,Q):=I.gN.slot b o e n M Z
  let(A,D):=P b _ (G b o e) M (R b o e Z) Q (I.gN.free b o e n Z);show#[A,D]
 ·let(J,Q):=I.gN.there b o e Z
  show free b J (R b o e Z) Q (I.gN.free b o e n Z)
 ·let(J,Q):=I.gN.there b o e Z
  show N b J (R b o e Z) Q
 ·let(m1,Q):=I.gN.x9 b B e
  let(m2,D):=x9 b _ Q;show#[m1++m2,by rw [D,Array.append_assoc]]
 ·let(m,hn,hl):=I.loc
  show(m,ns m hn,λi x v Q D e3=>?_);let(u,r,l):=hl i x v Q D e3;show(u,r,?_)
  rcases l with l|⟨k,c,e,z⟩
  ·show .inl l
  ·show .inr (k,c,e,S x c e _ z)
 ·let(v,z):=I.cell x c e
  show#[v,S x c e v z]
 ·let(m,(o,_,_,L,_),_):=I.loc
  show free _ o (λz=>(C _ z).2.1 rfl) L I.free
 ·let(v,o,L,j):=I.cell x c e
  show free c o (λz=>(C c z).2.2.1 x c e rfl) L (I.lB x c e)
 ·let(e,n,f,g,d):=I.pin p a
  let U:p.1∉ch:=λz=>(C p.1 z).2.2.2 p a rfl;show(T p.1 p.2 f g U e n,free p.1 p.2 U e n,f,g,d)
def Inv.un (I:Inv X AO Y H s)(u:Un X.fs [] H H' s.heap h')(P:mW X.prog X.w H' h'):Inv X AO Y H' {s with heap:=h',toks:=t'}:=by
 let(m,(o,E,D,T,r),_):=id I.loc;let(L,Q):=u.any T I.free fN
 show I.step (g':=s.gens) (d':=s.drawn) (ch:=[]) (λ_ z=>nomatch z) (λb o _ Z _ e n=>u.keep b o e n Z fN) (λb o _ Z _ e n=>u.slot b o e n Z fN) (λb o _ e n=>u.free b o e n fN) (λb o _ e=>u.there b o e fN) u.AK u.x6 u.x9 (λG R=>by
  let(J,U,M,N,S):=R;erw [T] at N
  show(_,U,M,Q,S)) P I.bare
def Inv.call (I:Inv X AO Y H s)(u:Un (NR X.stack) ch H H' s.heap h')(L:mW X.prog X.w H' h')(N:Va g')
  (R:∀b∈ch,(b∈X.ex\/X.nI.heap.objs.size<=b)/\b≠X.env.locals/\(∀x c,X.env.cells.lookup x=some c->c≠b)/\∀p∈X.pn++AO,p.1≠b):
  Inv X AO Y H' {s with heap:=h',gens:=g',drawn:=d',toks:=t'}:=by
 let(m,(o,B,A,S,r),_):=id I.loc;let(E,U):=u.any S I.free λz=>(R _ z).2.1 rfl
 show I.step (ch:=ch) R (λb o U M Z e n=>u.keep b o e n (λz=>(P4.mp (I.LF b z)).elim U M) Z) (λb o _ _ Z e n=>u.any e n Z) (λb o Z e n=>u.free b o e n Z) (λb o Z e=>u.there b o e Z) u.AK u.x6 u.x9 (λC P=>by
  let(D,T,G,J,Q):=P;erw [S] at J
  show(_,T,G,U,Q)) L N
def Inv.turned (I:Inv X AO Y H s)(k:∀b o,b≠it->s.heap.get? b=some o->h'.get? b=some o)(R:H it=none)(T:it≠X.env.locals)
  (L:it∈X.ex\/X.nI.heap.objs.size<=it) (M:∀x c,X.env.cells.lookup x=some c->c≠it) (N:∀p∈X.pn++AO,p.1≠it):Inv X AO Y H {s with heap:=h',toks:=t'}:=by
 let U:∀b u,H b=some u->b≠it:=λb u e z=>by erw [z,R] at e
 show I.step (g':=s.gens) (d':=s.drawn) (ch:=[it]) (λb P=>?_) (λb o _ _ Z e _=>k b o (λz=>Z (by simp [z])) e) (λb o _ _ Z e _=>#[o.slots,k b o (λz=>Z (by simp [z])) e]) (λ_ _ _ _ n=>n)
  (λb o Z e=>#[o,k b o (λz=>Z (by simp [z])) e]) (λ_ _ e=>e) (λ_ _ _ e=>e) (λb E e=>#[#[],by rw [e];simp]) (λm Q=>?_) (λb u e=>?_) I.bare
 ·let e:b=it:=by simpa using P
  subst e;show(L,T,M,N)
 ·let(o,J,G,S,r):=Q
  show(o,J,G,k _ o (IL T) S,r)
 ·show(I.cg b u e).vC (λc v Z q=>k c v ?_ q) (λ_ q=>q) λ_ _ q=>q
  rcases Z with z|z
  ·rw [z];show U b u e
  ·show U c _ z
def Inv.tok (I:Inv X AO Y H s)(t:Nat):Inv X AO Y H {s with toks:=t}:=I.un (h':=s.heap) (t':=t) Un.refl I.cg
theorem Inv.kept (I:Inv X AO Y H s)(k:∀b u,s.heap.get? b=some u->h'.get? b=some u):Inv X AO Y H {s with heap:=h',toks:=t'}:=I.un (Un.kept k) (I.cg.kept k)
theorem Inv.laid {a:AZ}(I:Inv X AO Y H s)(k:∀b u,s.heap.get? b=some u->h'.get? b=some u)(U:s.heap.objs.size<=a)(Z:dF X.prog X.w (upd H a o) h' a o):
  Inv X AO Y (upd H a o) {s with heap:=h',toks:=t'}:=I.un (Un.laid k U (I.cg.fresh U)) (I.cg.laid k U Z)
theorem Inv.write (I:Inv X AO Y H s)(T:Mut (H x))(S:e=x\/H e=some (.own x))(k:∀b u,b≠e->s.heap.get? b=some u->h'.get? b=some u)(Z:∃u,h'.get? e=some u)
  (U:dF X.prog X.w (upd H x o) h' x o):Inv X AO Y (upd H x o) {s with heap:=h',toks:=t'}:=I.un (Un.write T S k Z) (I.cg.write T S k Z U)
def Inv.NT (I:Inv X AO Y H s)(h:∀p∈Z,s.heap.get? p.1=some p.2/\H p.1=none/\p.1≠X.env.locals/\p.1∉X.fs/\∀v,p.2.data≠.cell v):Inv X Z Y H s:=
 (I.ok,I.os,I.bare,I.gN,I.loc,I.cell,I.free,I.lB,λp U=>(MU.mp U).elim (λz=>I.pin p (V7 _ z)) (h p),I.cg,I.len)
def iU {N:τ}(Z:N.Nodup){i j:Nat}(a:N[i]?=some x)(b:N[j]?=some x):i=j:=by
 let(R,T):=be.mp a;let(S,U):=be.mp b;show(am_ Z).mp (T.trans U.symm)
def y6 {E:δ}(I:Inv X AO Y H s)(hN:X.N.Nodup)(f:X.N[i]?=some x)(R:Loc X.env.scope x)(r:RelV v u)
  (h:∀s',Inv X AO (Y.set i (some v)) H s' ->(∃a,yt a s.heap s'.heap/\(a=X.env.locals\/X.env.cells.lookup x=some a))->Q () s') (hf:X.fn x=true\/X.env.scope.names.lookup x=some .local:=by first|show .inl rfl|show .inr rfl|assumption):DA M A (storeName X.env x u) Q E s:=by
 let(m,hn,hl):=id I.loc;let an9:(X.env.scope.kind==.class || (X.env.scope.kind==.module && X.env.locals !=X.env.globals))=false:=by rw [I.ok.kind];rfl
 let g:i < Y.length:=by rw [I.len];show(be.mp f).1
 let C:=I.cne
 let U:∀{a:AZ} {h':Heap},(∃o,s.heap.get? a=some o/\H a=none)->yt a s.heap h' ->mW X.prog X.w H h':=λ{a h'} ha Z b ob e=>by
  let(_,_,aa1):=ha;show(I.cg b ob e).vC (λc w' S q=>(Z.2 c ?_).trans q) (λ_ q=>q) λ_ _ q=>q;rintro rfl
  rcases S with rfl|S
  ·erw [aa1] at e
  ·erw [aa1] at S
 rcases R with P|P
 ·show wpAny_storeName_local P hn (λh' GJ Z=>?_) an9
  let(oL,_,_,hoL,_):=id hn;show h _ (I.ok,I.os,I.bare,(λb o e n G R=>?_,λb o e n G R=>?_,I.gN.free,λb o e R=>?_,I.gN.AK,I.gN.x6,I.gN.x9),(_,GJ,λj y v' T D e3=>?_),λy c e=>?_,I.free,I.lB,λp hp=>?_,U (oL,hoL,I.free) Z,by simpa using I.len) (_,Z,.inl rfl)
  ·show(Z.2 b (P6 (P_ (JN e) I.ok.above))).trans (I.gN.keep b o e n G R)
  ·let(sl,T):=I.gN.slot b o e n G R
   show#[sl,(Z.2 b (P6 (P_ (JN e) I.ok.above))).trans T]
  ·let(o',T):=I.gN.there b o e R
   show#[o',(Z.2 b (P6 (P_ (JN e) I.ok.above))).trans T]
  ·by_cases L:j=i
   ·subst L
    erw [f] at T;erw [ajJ g] at D;show(u,r,.inl #[P,by simp])
   ·rw [amE (IL L)] at D
    let(u',r',q):=hl j y v' T D e3;show(u',r',?_)
    rcases q with ⟨k,e⟩|⟨k,c,e,z⟩
    ·show .inl #[k,?_]
     have:y≠x:=λe=>L (iU hN T (e▸f));simp [this,e]
    ·show .inr (k,c,e,z.sameBut Z (C y c e))
  ·let(w',z):=I.cell y c e
   show#[w',z.sameBut Z (C y c e)]
  ·let(e,n,ne,nf,d):=I.pin p hp
   show((Z.2 p.1 ne).trans e,n,ne,nf,d)
 ·let J:X.fn x=true:=by
   rcases hf with z|z
   ·show z
   ·erw [z] at P
  let(c,S):=I.ok.has x (.inl P);let(w',z):=I.cell x c S;show wpAny_storeName_cell I.ok.kind P S z (λh' xX Z=>?_);let(oc,B,aoa):=id z;show h {s with heap:=h'} (I.ok,I.os,I.bare,(λb o e n G R=>?_,λb o e n G R=>?_,I.gN.free,λb o e R=>?_,I.gN.AK,I.gN.x6,I.gN.x9),(m,hn.sameBut Z (IL (C x c S)),λj y v' T D e3=>?_),λy c' e=>?_,I.free,I.lB,λp hp=>?_,U (oc,B,I.lB x c S) Z,by simpa using I.len) (c,Z,.inr S)
  ·show(Z.2 b (P6 (P_ (JN e) (I.ok.cab x c J S)))).trans (I.gN.keep b o e n G R)
  ·let(sl,T):=I.gN.slot b o e n G R
   show#[sl,(Z.2 b (P6 (P_ (JN e) (I.ok.cab x c J S)))).trans T]
  ·let(o',T):=I.gN.there b o e R
   show#[o',(Z.2 b (P6 (P_ (JN e) (I.ok.cab x c J S)))).trans T]
  ·by_cases L:j=i
   ·subst L
    erw [f] at T;erw [ajJ g] at D;show(u,r,.inr (.inl P,c,S,xX))
   ·rw [amE (IL L)] at D
    let(u',r',q):=hl j y v' T D e3;show(u',r',?_)
    rcases q with q|⟨k,c',e,z'⟩
    ·show .inl q
    ·show .inr (k,c',e,z'.sameBut Z ?_)
     rintro rfl;show L (iU hN T (I.ok.inj _ _ _ e S▸f))
  ·by_cases LG:c'=c
   ·subst LG;show#[_,xX]
   ·let(w2,z2):=I.cell y c' e
    show#[w2,z2.sameBut Z LG]
  ·let(e,n,ne,nf,d):=I.pin p hp
   show((Z.2 p.1 ?_).trans e,n,ne,nf,d);intro q;rw [q,B] at e;let q':oc=p.2:=QI e;show d w' (by rwa [<-q'])
def oN {E:δ}(I:Inv X AO Y H s)(R:X.N.Nodup)(T:X.N[i]?=some x)(U:Loc X.env.scope x)(r:RelV v u)
  (h:∀Z,Inv X AO (Y.set i (some v)) H Z ->Q () Z) (S:X.fn x=true\/X.env.scope.names.lookup x=some .local:=by first|show .inl rfl|show .inr rfl|assumption):DA M A (storeName X.env x u) Q E s:=
 y6 I R T U r (λZ P _=>h Z P) S
def Inv.afD (I:Inv X AO Y H s)(U:s'.os=s.os)(u:Un (NR X.stack) ch H H' s.heap s'.heap)(S:mW X.prog X.w H' s'.heap)(T:Va s'.gens)
  (R:∀b∈ch,(b∈X.ex\/X.nI.heap.objs.size<=b)/\b≠X.env.locals/\(∀x c,X.env.cells.lookup x=some c->c≠b)/\∀p∈X.pn++AO,p.1≠b):Inv X AO Y H' s':=by
 let(h',g',d',t',Z):=s';let e:Z=s.os:=U;subst e;show I.call (g':=g') (t':=t') (d':=d') u S T R
end
abbrev XK:=Value->Option AZ->Hp->Prop
abbrev St:=List (Option V)
abbrev VK:=V->Hp->Prop
abbrev _root_.Θ:=V->Option Int->Option Int->Hp->VK->Prop
abbrev _root_.Ξ:=V->List V->Hp->VK->Prop
abbrev TE:=St->Hp->VK->Prop
abbrev TT:=St->Hp->(Bool->Hp->Prop)->Prop
abbrev TA:=St->Hp->(List V->Hp->Prop)->Prop
structure Ends where
 nx:St->Hp->Prop
 rt:VK
 bk:St->Hp->Prop:=λ_ _=>False
 ct:St->Hp->Prop:=λ_ _=>False
abbrev TS:=Ends->St->Hp->Prop
def EP (X:Cx)(AO:θ)(Y:St)(Q:VK)(u:Value)(U:G_):Prop:=∃v Z,Inv X AO Y Z U/\RelV v u/\Q v Z
def TP (X:Cx)(AO:θ)(Y:St)(Q:Bool->Hp->Prop)(b:Bool)(U:G_):Prop:=∃Z,Inv X AO Y Z U/\Q b Z
def bars (X:Cx)(AO:θ)(Y:St)(Q:List V->Hp->Prop)(us:ρ)(T:G_):Prop:=∃Z U,Inv X AO Y U T/\Vals Z us/\Q Z U
def SP (X:Cx)(AO:θ)(D:Ends)(f:Flow)(U:G_):Prop:=
 match f with
 | .next=>∃Y Z,Inv X AO Y Z U/\D.nx Y Z
 | .brk=>∃Y Z,Inv X AO Y Z U/\D.bk Y Z
 | .cont=>∃Y Z,Inv X AO Y Z U/\D.ct Y Z
 | .ret u=>∃v Y Z,Inv X AO Y Z U/\RelV v u/\D.rt v Z
def PE (X:Cx)(e:Expr)(t:TE):Prop:=
 ∀(Z:θ)(s:G_)(Y:St)(H:Hp)(Q:VK),Inv X Z Y H s->t Y H Q->DA (DW X.prog X.w) X.A (II e X.env) (EP X Z Y Q) X.xe s
def PT (X:Cx)(e:Expr)(t:TT):Prop:=
 ∀(Z:θ)(s:G_)(Y:St)(H:Hp)(Q:Bool->Hp->Prop),Inv X Z Y H s->t Y H Q->DA (DW X.prog X.w) X.A (isTrue e X.env (II e X.env)) (TP X Z Y Q) X.xe s
def PW (X:Cx)(e:Expr)(t:TT):Prop:=
 ∀(Z:Sem Value)(U:θ)(s:G_)(Y:St)(H:Hp)(Q:Bool->Hp->Prop),Inv X U Y H s->t Y H Q->DA (DW X.prog X.w) X.A (isTrue e X.env Z) (TP X U Y Q) X.xe s
def PW.pt (h:PW X e t):PT X e t:=h _
def PA (X:Cx)(T:Α)(t:TA):Prop:=
 ∀(Z:Pos)(U:θ)(s:G_)(Y:St)(H:Hp)(Q:List V->Hp->Prop),Inv X U Y H s->t Y H Q->DA (DW X.prog X.w) X.A (spliced (QG Z (JF T X.env))) (bars X U Y Q) X.xe s
def PS (X:Cx)(st:Stmt)(t:TS):Prop:=
 ∀(Z:θ)(s:G_)(Y:St)(H:Hp)(D:Ends),Inv X Z Y H s->t D Y H->DA (DW X.prog X.w) X.A (exec st X.env) (SP X Z D) X.xe s
def qv (X:Cx)(st:List Stmt)(t:TS):Prop:=
 ∀(Z:θ)(s:G_)(Y:St)(H:Hp)(D:Ends),Inv X Z Y H s->t D Y H->DA (DW X.prog X.w) X.A (execs st X.env) (SP X Z D) X.xe s
def cJ {Q Y:Z->G_->Prop}{E:δ}(h:DA M A t Q E s)(X:∀a s,Q a s->Y a s):DA M A t Y E s:=Qf h X λ_ _ x=>x
section
variable {X:Cx}
inductive ab6 (i:Nat)(Y:St)(H:Hp)(Q:VK):Prop
|mk (v:_)(_:Y[i]?=some (some v))(_:Q v H)
def tC (v:V):TE:=λ_ H Q=>Q v H
def ab7 {S:Pos}(D:X.N[i]?=some x)(L:Vis X.env.scope x)(R:(x==("__debug__":Str))=false:=by decide)(M:(x==("__classdict__":Str))=false:=by decide):PE X (.Name x S) (ab6 i):=by
 intro C s Y H Q I h;let(v,e,h):=h;let(m,J,E):=I.loc;let(u,r,l):=E i x v D e L;let T:EP X C Y Q u s:=(v,H,I,r,h)
 rcases l with ⟨U,G⟩|⟨U,c,P,Z⟩
 ·show wpAny_Name (wpAny_loadName_local I.ok.kind U J G T) R
 ·rcases U with U|U
  ·show wpAny_Name (wpAny_loadName_cell I.ok.kind U P Z T) R
  ·show wpAny_Name (wpAny_loadName_free I.ok.kind U P Z T M) R
def ah :PE X (.Constant (.int i) j pos) (tC (.int i)):=λ_ _ _ H _ I h=>wpAny_Constant_int (.int i,H,I.tok _,#[_,O],h)
def aa2 :PE X (.Constant (.bool b) j pos) (tC (.bl b)):=λ_ _ _ H _ I h=>Constant_bool (.bl b,H,I,O,h)
def gY :PE X (.Constant .none j pos) (tC .cK):=λ_ _ _ H _ I h=>Constant_none (.cK,H,I,O,h)
def eZ :PE X (.Constant (.str x) j pos) (tC (.str x)):=λ_ _ _ H _ I h=>Calls.Constant_str (.str x,H,I.tok _,#[_,O],h)
def Gl (X:Cx)(x:Str):Prop:=X.env.kindOf x=some .globalImplicit
def oP {E:δ}{Y:St}{Q:δ}(I:Inv X AO Y H s)(U:Gl X x)(Z:X.mg x=some u)(h:Q u s)
  (T:(x==("__debug__":Str))=false:=by decide):DA (DW X.prog X.w) X.A (II (.Name x pos) X.env) Q E s:=
 Calls.Name_function_global I.ok.kind U (Calls.loadGlobal_global (by rw [I.ok.glob];show I.mod.glob.keeps I.bk) Z h) T
def gZ {E:δ}{Y:St}{Z:Pos}{Q:δ}(I:Inv X AO Y H s)(R:Gl X x)(S:X.mg x=none)(U:Qx x=some u)(h:Q u s)
  (T:x≠ "__name__":=by decide) (P:(x==("__debug__":Str))=false:=by decide):DA (DW X.prog X.w) X.A (II (.Name x Z) X.env) Q E s:=by
 let(L,M,N):=I.mod.blt;show Calls.Name_function_global I.ok.kind R (Calls.loadGlobal_builtin (by rw [I.ok.glob];show I.mod.glob.keeps I.bk) S (by rw [I.ok.blt];show M.keeps I.bk) ((N x T).trans U) h) P
def gy (Y:Gl X x)(Z:X.mg x=some u)(r:RelV v u)(U:(x==("__debug__":Str))=false:=by decide):PE X (.Name x pos) (tC v):=
 λ_ _ _ H _ I h=>oP I Y Z (v,H,I,r,h) U
variable {a b:Expr}{ta tb:TE}{pos:Pos}
def PC (X:Cx)(T:CmpOp)(a b:Expr)(t:TE):Prop:=
 ∀(Z:θ)(s:G_)(Y:St)(H:Hp)(Q:VK),Inv X Z Y H s->t Y H Q->
  DA (DW X.prog X.w) X.A (II a X.env) (λv S=>DA (DW X.prog X.w) X.A (II b X.env) (λu U=>DA (DW X.prog X.w) X.A (Qo T v u) (EP X Z Y Q) X.xe U) X.xe S) X.xe s
inductive tB_ (Q:(Bool->Hp->Prop))(x:V)(Z:Hp):Prop
|mk (c:_)(_:x=.bl c)(_:Q c Z)
def tB (t:TE):TT:=λY H Q=>t Y H (tB_ Q)
def nJ (h:PC X op a b t)(Z:oq op b=false:=by first|show nobehind _ eY eY|rfl):PT X (.Compare a [op] [b] pos) (tB t):=by
 intro M s Y H Q I S;show wpAny_isTrue_Compare1 (cJ (h M s Y H _ I S) λv G Z=>cJ Z λu J R=>cJ R λc L ⟨x,N,P,U,T⟩=>?_) Z;let(d,rfl,q):=T;cases U;show Zd (N,P,q)
def vD (h:PE X e t)(R:∀Z,isTrue e X.env Z=(do let v <- Z;standAt e.pos;Wf [v] (truthy v)):=by intro _;rfl):PT X e (tB t):=by
 intro M s Y H Q I S;show isTrue_plain (cJ (h M s Y H _ I S) λv L ⟨x,N,P,U,T⟩=>?_) (R _);let(d,rfl,q):=T;cases U;show Zd (N,P,q)
variable {tA tB':TT}{rest:Α}
def ab8 (u:TT)(Y:L2.St)(Q:(Bool->Hp->Prop))(c:Bool)(Z:Hp):Prop:=if c=true then u Y Z Q else Q false Z
def aob (t u:TT):TT:=λY H Q=>t Y H (ab8 u Y Q)
def afE (u:TT)(Y:L2.St)(Q:(Bool->Hp->Prop))(c:Bool)(Z:Hp):Prop:=if c=true then Q true Z else u Y Z Q
def tOr (t u:TT):TT:=λY H Q=>t Y H (afE u Y Q)
def aoc (t:TT):TT:=λY H Q=>t Y H λc Z=>Q (!c) Z
def AM (Z:PT X a tA):PW X (.BoolOp .And [a] pos) tA:=by
 intro T U s Y H Q I h;show isTrue_and (cJ (Z U s Y H Q I h) λc S e=>?_);cases c with
 | true=>show isTrue_and_nil e
 | false=>show e
def AN (Z:PT X a tA):PW X (.BoolOp .Or [a] pos) tA:=by
 intro T U s Y H Q I h;show isTrue_or (cJ (Z U s Y H Q I h) λc S e=>?_);cases c with
 | false=>show isTrue_or_nil e
 | true=>show e
def LH (M:PT X a tA)(N:PW X (.BoolOp .And (b::rest) pos) tB'):PW X (.BoolOp .And (a::b::rest) pos) (aob tA tB'):=by
 intro R S s Y H Q I h;show isTrue_and (cJ (M S s Y H _ I h) λc P ⟨T,U,Z⟩=>?_);cases c with
 | true=>show N R S P Y T Q U Z
 | false=>show(T,U,Z)
def GY (M:PT X a tA)(N:PW X (.BoolOp .Or (b::rest) pos) tB'):PW X (.BoolOp .Or (a::b::rest) pos) (tOr tA tB'):=by
 intro R S s Y H Q I h;show isTrue_or (cJ (M S s Y H _ I h) λc P ⟨T,U,Z⟩=>?_);cases c with
 | true=>show(T,U,Z)
 | false=>show N R S P Y T Q U Z
def T_ (Z:PT X a tA):PT X (.UnaryOp .Not a pos) (aoc tA):=by
 intro T s Y H Q I h;show isTrue_not (Z T s Y H (λc U=>Q (!c) U) I h)
def ad4 (tb:TE)(Y:L2.St)(Q:VK)(x:V)(Z:Hp):Prop:=∃c,x=.bl c/\if c=true then tb Y Z Q else Q (.bl false) Z
def afF (ta tb:TE):TE:=λY H Q=>ta Y H (ad4 tb Y Q)
def ab9 (tb:TE)(Y:L2.St)(Q:VK)(x:V)(Z:Hp):Prop:=∃c,x=.bl c/\if c=true then Q (.bl true) Z else tb Y Z Q
def aod (ta tb:TE):TE:=λY H Q=>ta Y H (ab9 tb Y Q)
def LI (h:PE X a t):PE X (.BoolOp op [a] pos) t:=λU s Y H Q I Z=>BoolOp_one (h U s Y H Q I Z)
def Ua (M:PE X a ta)(N:PE X (.BoolOp .And (b::rest) pos) tb):PE X (.BoolOp .And (a::b::rest) pos) (afF ta tb):=by
 intro S s Y H Q I h;show BoolOp_and (cJ (M S s Y H _ I h) λv R ⟨x,T,U,P,Z⟩=>?_);let(c,rfl,Z):=Z;cases P;show Zd ?_;cases c with
 | true=>show N S R Y T Q U Z
 | false=>show(.bl false,T,U,O,Z)
def afG (M:PE X a ta)(N:PE X (.BoolOp .Or (b::rest) pos) tb):PE X (.BoolOp .Or (a::b::rest) pos) (aod ta tb):=by
 intro S s Y H Q I h;show BoolOp_or (cJ (M S s Y H _ I h) λv R ⟨x,T,U,P,Z⟩=>?_);let(c,rfl,Z):=Z;cases P;show Zd ?_;cases c with
 | false=>show N S R Y T Q U Z
 | true=>show(.bl true,T,U,O,Z)
def afH (ta:TE)(tb:TE)(Y:L2.St)(Q:VK)(c:Bool)(Z:Hp):Prop:=if c=true then ta Y Z Q else tb Y Z Q
def tIf (t:TT)(ta tb:TE):TE:=λY H Q=>t Y H (afH ta tb Y Q)
def ag3 (P:PT X c tA)(M:PE X a ta)(N:PE X b tb):PE X (.IfExp c a b pos) (tIf tA ta tb):=by
 intro Z s Y H Q I h;show wpAny_IfExp (cJ (P Z s Y H _ I h) λd U ⟨R,S,T⟩=>?_);cases d with
 | true=>show M Z U Y R Q S T
 | false=>show N Z U Y R Q S T
end
def bh (K:Frag)(H:Hp)(a:AZ)(xs:γ):Prop:=
 Rd H a (.lst xs)\/
  ∃(o:Obj)(Z:Ν)(n:Nat),K.lookup a=some o/\o.cls=.type "list"/\o.dict=none/\o.data=.seq Z n/\Z.size<=HZ/\Vals xs Z.toList
def bQ (K:Frag)(H:Hp)(a:AZ)(xs:γ):Prop:=
 Rd H a (.tup xs)\/
  ∃(o:Obj)(Z:Ν)(n:Nat),K.lookup a=some o/\o.cls=.type "tuple"/\o.data=.seq Z n/\Z.size<=HZ/\Vals xs Z.toList
def aoe:Value->Option V
 | .none=>some .cK
 | .bool b=>some (.bl b)
 | .int i _=>some (.int i)
 | .str x _=>some (.str x)
 | .bytes b _=>some (.qD b)
 | .float b _=>some (.flt b)
 | .ref a=>some (.ref a)
 | .type n=>some (.ty n)
 | _=>none
def RelV.abs (r:RelV x u):aoe u=some x:=by
 cases x with
 | cK=>cases r;rfl
 | bl _=>cases r;rfl
 | int _=>let(t,rfl):=r;rfl
 | str _=>let(t,rfl):=r;rfl
 | qD _=>let(t,rfl):=r;rfl
 | flt _=>let(t,rfl):=r;rfl
 | ref _=>cases r;rfl
 | ty _=>cases r;rfl
def RelV.inj (r:RelV x u)(q:RelV y u):x=y:=QI (r.abs.symm.trans q.abs)
theorem Vals.inj:∀{xs ys:γ} {us:ρ},Vals xs us->Vals ys us->xs=ys
 | _,_,_,.nil,.nil=>rfl
 | _,_,_,.cons r t,.cons Z t'=>by rw [r.inj Z,Vals.inj t t']
section
variable {X:Cx}{AO:θ}{Y:St}{H:Hp}{s:G_}{a:AZ}{xs ys:γ}
def bh.of {K:Frag}(h:H a=some (.lst xs)):bh K H a xs:=.inl (.inl h)
def bQ.of {K:Frag}(h:H a=some (.tup xs)):bQ K H a xs:=.inl (.inl h)
def Inv.list (I:Inv X AO Y H s)(h:bh X.K H a xs):∃BC:List Value,Vals xs BC/\PlainL s.heap a BC.toArray/\xs.length<=HZ:=by
 rcases h with h|⟨o,BC,n,U,S,T,Z,R,r⟩
 ·let(z,BC,n,r,e):=h.ok I.cg
  show(BC,r,(_,n,e,O,O,O),z)
 ·show(BC.toList,r,(o,n,I.yb a o U,S,T,by simpa using Z),?_)
  let e:=r.length;simp only [ahN] at e;omega
def Inv.tuple (I:Inv X AO Y H s)(h:bQ X.K H a xs):∃BC:List Value,Vals xs BC/\IsTup s.heap a BC.toArray/\xs.length<=HZ:=by
 rcases h with h|⟨o,BC,n,U,T,Z,S,r⟩
 ·let(z,BC,r,p):=h.ok I.cg
  show(BC,r,p,z)
 ·show(BC.toList,r,(o,I.yb a o U,T,n,by simpa using Z),?_)
  let e:=r.length;simp only [ahN] at e;omega
def Inv.lC (I:Inv X AO Y H s)(h:bh X.K H a xs)(h':bh X.K H a ys):xs=ys:=by
 let(R,r,(o,n,e,_,_,d),_):=I.list h;let(T,U,(Q,P,S,_,_,Z),_):=I.list h';erw [e] at S;rw [d] at Z;injection Z with d1 _
 have:R=T:=by simpa using ox anT d1
 subst this;show r.inj U
def Inv.mB (I:Inv X AO Y H s)(h:bQ X.K H a xs)(h':bQ X.K H a ys):xs=ys:=by
 let(R,r,(o,e,_,n,d),_):=I.tuple h;let(T,U,(Q,S,_,P,Z),_):=I.tuple h';erw [e] at S;rw [d] at Z;injection Z with d1 _
 have:R=T:=by simpa using ox anT d1
 subst this;show r.inj U
end
abbrev Cx.yd (X:Cx)(E:δ):Cx:={X with xe:=E}
abbrev Cx.ve (X:Cx):Cx:=X.yd λ_ _=>False
theorem Cx.Ok.yd {X:Cx}(Z:X.Ok)(E:δ):(X.yd E).Ok:=
 (Z.mod,Z.kind,Z.glob,Z.blt,Z.above,Z.inj,Z.has,Z.cab,Z.hd,Z.frames,Z.stk,Z.exf,Z.bs,Z.YV,Z.T9,Z.YW,Z.ug,Z.frf)
def Cx.Ok.lE {X:Cx}(Z:(X.yd E).Ok):X.Ok:=
 (Z.mod,Z.kind,Z.glob,Z.blt,Z.above,Z.inj,Z.has,Z.cab,Z.hd,Z.frames,Z.stk,Z.exf,Z.bs,Z.YV,Z.T9,Z.YW,Z.ug,Z.frf)
section
variable {X:Cx}{AO:θ}{Y:St}{H:Hp}{s:G_}{E:δ}
theorem Inv.yd (I:Inv X AO Y H s)(E:δ):Inv (X.yd E) AO Y H s:=(I.ok.yd E,I.os,I.bare,I.gN,I.loc,I.cell,I.free,I.lB,I.pin,I.cg,I.len)
theorem Inv.lE (I:Inv (X.yd E) AO Y H s):Inv X AO Y H s:=(I.ok.lE,I.os,I.bare,I.gN,I.loc,I.cell,I.free,I.lB,I.pin,I.cg,I.len)
theorem SP.lE (h:SP (X.yd E) AO D f s'):SP X AO D f s':=by
 cases f with
 | next=>let(Z,U,I,q):=h;show(Z,U,I.lE,q)
 | brk=>let(Z,U,I,q):=h;show(Z,U,I.lE,q)
 | cont=>let(Z,U,I,q):=h;show(Z,U,I.lE,q)
 | ret u=>let(v,Z,U,I,r,q):=h;show(v,Z,U,I.lE,r,q)
theorem qv.ve {st:List Stmt}(h:qv X.ve st t):qv X st t:=λAO s Y H D I Z=>
 Qf (h AO s Y H D (I.yd _) Z) (λ_ _ q=>q.lE) λ_ _ z=>False.elim z
end
section
variable {X:Cx}{st:Stmt}{rest:List Stmt}{t u:TS}{e:Expr}{te:TE}{pos:Pos}
def Ub:TS:=λD Y H=>D.nx Y H
def I_ (t u:TS):TS:=λD Y H=>t {D with nx:=u D} Y H
def bf:qv X [] Ub:=λ_ _ Y H _ I h=>O4 (Y,H,I,h)
def aa (S:PS X st t)(T:qv X rest u):qv X (st::rest) (I_ t u):=by
 intro Z s Y H D I h;show wpAny_execs_cons (cJ (S Z s Y H {D with nx:=u D} I h) λf U q=>?_);cases f with
 | next=>
  let(R,P,Q,q):=q;show T Z U R P D Q q
 | ret v=>show q
 | brk=>show q
 | cont=>show q
def ak (Z:PS X st t):qv X [st] t:=by
 intro U s Y H D I h;show wpAny_execs_cons (cJ (Z U s Y H D I h) λf T q=>?_);cases f with
 | next=>show O4 q
 | ret v=>show q
 | brk=>show q
 | cont=>show q
def afI:TS:=λD Y H=>D.ct Y H
def aay:PS X (.Continue pos) afI:=λ_ _ Y H _ I h=>wpAny_Continue (Y,H,I,h)
def Inv.quiet {Y:St}(I:Inv X AO Y H s):interactive X.env=false:=by simp [interactive,I.ok.kind]
def vf (D:Ends)(Y:L2.St)(U:V)(Z:Hp):Prop:=D.nx Y Z
def afJ (te:TE):TS:=λD Y H=>te Y H (vf D Y)
def b_ (T:PE X e te)(U:Vw e none pos.line X.env=pure false:=by rfl):PS X (.Expr e pos) (afJ te):=by
 intro Q s Y H D I h;show wpAny_Expr_any (cJ (T Q s Y H _ I h) λv P ⟨x,R,S,N,Z⟩=>(Y,R,S,Z)) I.quiet U
def aof (te:TE):TS:=λD Y H=>te Y H D.rt
def aI (T:PE X e te):PS X (.Return (some e) pos) (aof te):=by
 intro Q s Y H D I h;show wpAny_Return_some (cJ (T Q s Y H _ I h) λv P ⟨x,R,S,Z,U⟩=>(x,Y,R,S,Z,U))
def aca (t:TS)(u:TS)(D:Ends)(Y:L2.St)(b:Bool)(Z:Hp):Prop:=if b=true then t D Y Z else u D Y Z
def aog (c:TT)(t u:TS):TS:=λD Y H=>c Y H (aca t u D Y)
def bR (Q:PT X c tc)(N:qv X a t)(P:qv X b u):PS X (.If c a b pos) (aog tc t u):=by
 intro Z s Y H D I h;show wpAny_If (cJ (Q Z s Y H _ I h) λd U ⟨R,S,T⟩=>?_);cases d with
 | true=>show N Z U Y R D S T
 | false=>show P Z U Y R D S T
def acb:TS:=λ_ _ _=>False
def d_:PS X st acb:=λ_ _ _ _ _ _ h=>h.elim
end
abbrev TG:=V->St->Hp->(St->Hp->Prop)->Prop
abbrev TGs:=List V->St->Hp->(St->Hp->Prop)->Prop
def PG (X:Cx)(Z:Expr)(t:TG):Prop:=
 ∀(S:θ)(s:G_)(Y:St)(H:Hp)(v:V)(u:Value)(Q:St->Hp->Prop),Inv X S Y H s->RelV v u->t v Y H Q->
  DA (DW X.prog X.w) X.A (assign Z X.env u) (λ_ R=>∃U T,Inv X S U T R/\Q U T) X.xe s
def PGs (X:Cx)(ts:Α)(t:TGs):Prop:=
 ∀(R:θ)(s:G_)(Y:St)(H:Hp)(Z:γ)(U:ρ)(Q:St->Hp->Prop),Inv X R Y H s->Vals Z U->t Z Y H Q->
  DA (DW X.prog X.w) X.A (assignInOrder ((α9 ts X.env).map (·.2)) U) (λ_ P=>∃T S,Inv X R T S P/\Q T S) X.xe s
abbrev Uc:=V->V->V->Hp->(Hp->Prop)->Prop
def afL (X:Cx)(t:Uc):Prop:=
 ∀(S:θ)(s:G_)(Y:St)(H:Hp)(o i v:V)(Z U u:Value)(Q:Hp->Prop),Inv X S Y H s->RelV o Z->RelV i U->RelV v u->t o i v H Q->
  DA (DW X.prog X.w) X.A (setItem Z U u) (λ_ R=>∃T,Inv X S Y T R/\Q T) X.xe s
section
variable {X:Cx}{pos:Pos}
def dZ (i:Nat):TG:=λv Y H Q=>Q (Y.set i (some v)) H
def du (S:X.N.Nodup)(U:X.N[i]?=some x)(Z:Loc X.env.scope x)(T:X.fn x=true\/X.env.scope.names.lookup x=some .local:=by first|show .inl rfl|show .inr rfl|assumption):PG X (.Name x pos) (dZ i):=by
 intro M s Y H v u Q I r h;show wpAny_assign_Name (oN I S U Z r (λP R=>(_,H,R,h)) T)
def acd:TGs:=λZ Y H Q=>Z=[]/\Q Y H
def HH (t:TG)(u:TGs):TGs:=λZ Y H Q=>∃v r,Z=v::r/\t v Y H λU T=>u r U T Q
def cM:PGs X [] acd:=by
 intro T s Y H Z U Q I r h;let(e,h):=h;subst e;cases r;show assignInOrder_nil (Y,H,I,h)
def a9 (N:PG X e t)(P:PGs X es u)
  (R:(α9 (e::es) X.env).map (·.2)=assign e X.env::(α9 es X.env).map (·.2):=by rfl):PGs X (e::es) (HH t u):=by
 intro Z s Y H E C Q I r h;let(v,D,M,h):=h;subst M;cases r with
 | cons r T=>
  rw [R];show assignInOrder_cons (cJ (N Z s Y H _ _ _ I r h) λ_ U ⟨L,G,J,S⟩=>?_);show P Z U L G _ _ Q J T S
inductive Ud (K:Frag)(n:Nat)(t:TGs)(v:V)(Y:St)(H:Hp)(Q:(St->Hp->Prop)):Prop
|mk (a xs:_)(_:v=.ref a)(_:bQ K H a xs)(_:xs.length=n)(_:t xs Y H Q)
def g6 {k:Nat}(L:X.calm=true)(h:PGs X es t)
  (N:(α9 es X.env).length=n:=by rfl) (E:(α9 es X.env).findIdx? (·.1)=none:=by rfl):PG X (.Tuple es k pos) (Ud X.K n t):=by
 intro T s Y H v u Q I r Z;let(a,xs,G,P,M,Z):=Z;subst G;cases r;let(B,U,R,C):=I.tuple P;show assign_Tuple_tuple (I.ok.hd L) R (by simp [N,<-M,U.length]) E λJ S=>?_;let D:Inv X T Y H {s with heap:=J}:=I.kept (t':=s.toks) λb o e=>S b o (P6 (JN e)) e;show h T _ Y H xs _ Q D (by simpa using U) Z
def ace (t:Uc)(v:V)(Y:L2.St)(Q:(L2.St->Hp->Prop))(o:V)(i:V)(Z:Hp):Prop:=t o i v Z (Q Y)
def acf (Z:TE)(t:Uc)(v:V)(Y:L2.St)(Q:(L2.St->Hp->Prop))(o:V)(U:Hp):Prop:=Z Y U (ace t v Y Q o)
def aoh (Z U:TE)(t:Uc):TG:=λv Y H Q=>Z Y H (acf U t v Y Q)
def g7 (E:PE X o to)(D:PE X i ti)(G:afL X t)
  (C:∀v,assign (.Subscript o i pos) X.env v=(do
   let Z <- Wf [v] (II o X.env);let U <- Wf [v,Z] (II i X.env)
   standAt pos
   Wf [v,Z,U] (setItem Z U v)
   release [v,Z,U] []):=by intro _;rfl):PG X (.Subscript o i pos) (aoh to ti t):=by
 intro T s Y H v u Q I r h;rw [C];show IC (Vb (cJ (E T s Y H _ I h) λZ R ⟨x,p,z,N,J⟩=>?_));show IC (Vb (cJ (D T R Y p _ z J) λU S ⟨y,q,A,P,L⟩=>?_));show IC (wpAny_standAt (IC (Vb (cJ (G T S Y q x y v Z U u _ A N P r L) λ_ m ⟨w,B,M⟩=>?_))));show wpAny_release (Y,w,B,M)
def vE (g:TG)(D:Ends)(Y:L2.St)(x:V)(Z:Hp):Prop:=g x Y Z D.nx
def LJ (Z:TE)(g:TG):TS:=λD Y H=>Z Y H (vE g D Y)
def g9 (N:PE X e te)(P:PG X tg g)(Q:swapsWithSole [tg] e pos.line X.env=pure false:=by rfl)(R:swappedStores [tg] e X.env=pure none:=by rfl)
  (M:(α9 [tg] X.env).map (·.2)=[assign tg X.env]:=by rfl):PS X (.Assign [tg] e pos) (LJ te g):=by
 intro Z s Y H D I h;show wpAny_Assign_stores (cJ (N Z s Y H _ I h) λv U ⟨x,J,L,T,S⟩=>?_) Q R;rw [M];show cJ (P Z U Y J x v _ L T S) λ_ G q=>q
def acg (M:X.N.Nodup)(R:X.N[i]?=some x)(T:Loc X.env.scope x)(P:PE X e te)(S:Vw e (some (.Name x pos')) pos.line X.env=pure false:=by rfl)(Q:X.fn x=true\/X.env.scope.names.lookup x=some .local:=by first|show .inl rfl|show .inr rfl|assumption):
  PS X (.Assign [.Name x pos'] e pos) (LJ te (dZ i)):=by
 intro E s Y H D I h;show wpAny_Assign_Name (cJ (P E s Y H _ I h) λv B ⟨y,G,J,Z,U⟩=>?_) S;show oN J M R T Z (λC L=>(_,G,L,U)) Q
inductive aa4 (i:Nat)(j:Nat)(D:Ends)(Y:St)(vs:γ)(Z:Hp):Prop
|mk (v w:_)(_:vs=[v,w])(_:D.nx ((Y.set i (some v)).set j (some w)) Z)
def aoi (i j:Nat)(Z:TA):TS:=λD Y H=>Z Y H (aa4 i j D Y)
def ach (hc:X.calm=true)(M:X.N.Nodup)(c:X.N[i]?=some x)(f:X.N[j]?=some y)(R:i≠j)
  (P:X.env.scope.names.lookup x=some .local) (Q:X.env.scope.names.lookup y=some .local) (ha:PA X [a,b] ta)
  (k:swappedStores [.Tuple [.Name x px,.Name y py] kt pt] (.Tuple [a,b] k2 pt2) X.env=pure (some [x,y]))
  (g:swapsWithSole [.Tuple [.Name x px,.Name y py] kt pt] (.Tuple [a,b] k2 pt2) pos.line X.env=pure false:=by rfl):
  PS X (.Assign [.Tuple [.Name x px,.Name y py] kt pt] (.Tuple [a,b] k2 pt2) pos) (aoi i j ta):=by
 intro G s Y H D I h;rw [exec_Assign_arm];show IC (wpAny_standAt ?_);rw [g];show IC (LN ?_);rw [iO eY];show IC (Tuple_ (cJ (ha _ G s Y H _ I h) λE T ⟨vs,J,I1,B,S⟩=>?_));let(v,w,e1,S):=S;subst e1
 obtain ⟨U,Z,rfl,C,GK⟩:∃U Z,E=[U,Z]/\RelV v U/\RelV w Z:=by
  cases B with
  | cons p q=>
   cases q with
   | cons u z=>
    cases z;show(_,_,O,p,u)
 show wpAny_newObj_type ?_ (by change 2<=HZ;decide);let I2:Inv X G Y J {T with heap:=T.heap.push {cls:=.type "tuple",data:=.seq [U,Z].toArray}}:=I1.kept (t':=T.toks) λb o e=>LM _ e;rw [k];show IC (LN ?_);change DA (DW X.prog X.w) X.A (do rule "assign.swapped-stores";let items <- unpackItems (.ref T.heap.objs.size) 2 none;assignInOrder [λv=>bindName X.env y v,λv=>bindName X.env x v] items.reverse;pure Flow.next) _ _ _;show IC (wpAny_rule (IC (unpackItems_tuple (items:= (List.toArray [U,Z])) (I.ok.hd hc) (IsTup.new T.heap _) λh' m =>?_)));let I3:=I2.kept (h':=h') (t':=T.toks) λb o e=>m b o (P6 (JN e)) e;change DA _ _ (assignInOrder [λv=>bindName X.env y v,λv=>bindName X.env x v] [Z,U] >>=λ_=>pure Flow.next) _ _ _;show IC (assignInOrder_cons (wpAny_bindName (oN I3 M f (.inl Q) GK (λs2 I4=>?_) (.inr Q))));show assignInOrder_cons (wpAny_bindName (oN I4 M c (.inl P) C (λs3 L=>assignInOrder_nil (LN ?_)) (.inr P)));rw [List.set_comm _ _ (IL R)] at L;show(_,J,L,S)
def Ug (c:TT)(R:TS):TS:=λD Y H=>∃W:Nat->St->Hp->Prop,(∃m,W m Y H)/\∀m Y H,W m Y H->
 c Y H λb T=>if b=true then ∃N:St->Hp->Prop,(∀U S,N U S ->∃Z,Z<m/\W Z U S)/\R {D with nx:=N,ct:=N,bk:=D.nx} Y T else D.nx Y T
def oQ (E:PassesOwn (DW X.prog X.w) X.A X.env X.xe)(i:PT X c tc)(g:qv X body tb):PS X (.While c body [] pos) (Ug tc tb):=by
 intro G s Y H D I h;let(W,(j,p),turn):=h;show wpAny_While (codeAny_whileLoop (λn k=>∃B u,Inv X G B u k/\W n B u) ?_ j (Y,H,I,p));rintro n m ⟨R,x,a,q⟩;show ZX E (cJ (i G m R x _ a (turn n R x q)) λb o ⟨y,z,S⟩=>?_);cases b with
 | true=>
  let(N,C,S):=S;rw [jY rfl];show ZX E (cJ (g G o R y _ z S) λf s3 T=>?_);cases f with
  | next=>
   let(Z,U,J,P):=T;let(M,L,Q):=C Z U P;show(M,L,Z,U,J,Q)
  | cont=>
   let(Z,U,J,P):=T;let(M,L,Q):=C Z U P;show(M,L,Z,U,J,Q)
  | brk=>show T
  | ret v=>show T
 | false=>
  rw [iO P7];show O4 (R,y,z,S)
end
structure It where
 go:Nat->Hp->Prop
 S3:Nat->Hp->V->Hp->Prop
 stop:Nat->Hp->Prop
def qX (X:Cx)(AO:θ)(H:Hp)(b:AZ):Prop:=
 H b=none/\b≠X.env.locals/\b∉X.fs/\(b∈X.ex\/X.nI.heap.objs.size<=b)/\(∀x c,X.env.cells.lookup x=some c->c≠b)/\∀p∈X.pn++AO,p.1≠b
def Inv.ye {Y:St}{b:AZ}(I:Inv X AO Y H s)(Z:s.heap.objs.size<=b)(T:H' b=none):qX X AO H' b:=by
 show(T,ZM (P_ I.lt Z),I.an8 Z,.inr (GX I.sz Z),λx c e z=>?_,λp U z=>?_)
 ·let(v,q):=I.cell x c e
  show DB (P_ q.lt (by rwa [z])) (Qh _)
 ·show DB (P_ (JN (I.pin p U).1) (by rwa [z])) (Qh _)
structure Turn (P:LS)(w:World)(K:Frag)(tg:Expr)(J:It)(fp:ψ)(it:AZ)(tn:Nat->Heap->Prop):Prop where
 mem:it∈fp
 obj:∀i h,tn i h->∀b∈fp,∃o,h.get? b=some o/\∀v,o.data≠.cell v
 keep:∀i h h',tn i h->(∀b∈fp,∀o,h.get? b=some o->h'.get? b=some o)->tn i h'
 item:∀(X:Cx),X.prog=P->X.w=w->X.K=K->X.calm=true->∀(i:Nat)(AO:θ)(s:G_)(Y:St)(H:Hp)(E:δ),Inv X AO Y H s->(∀b∈fp,qX X AO H b)->tn i s.heap->J.go i H->
  DA (DW P w) X.A (pyNext (.ref it)) (λr s1=>∃u,r=some u/\
   DA (DW P w) X.A (O1 tg (.ref it) u) (λ_ s2=>∃x H',Inv X AO Y H' s2/\RelV x u/\J.S3 i H x H'/\tn (i+1) s2.heap/\∀b∈fp,H' b=none) E s1) E s
 done:∀(X:Cx),X.prog=P->X.w=w->X.K=K->X.calm=true->∀(i:Nat)(AO:θ)(s:G_)(Y:St)(H:Hp)(E:δ),Inv X AO Y H s->(∀b∈fp,qX X AO H b)->tn i s.heap->J.stop i H->
  DA (DW P w) X.A (pyNext (.ref it)) (λr s1=>r=none/\Inv X AO Y H s1) E s
 self:∀(A:Mf)(i:Nat)(s:G_)(Q:δ)(E:δ),tn i s.heap->Q (.ref it) s->DA (DW P w) A (pyIter (.ref it)) Q E s
abbrev TI:=St->Hp->(It->Hp->Prop)->Prop
def PIE (X:Cx)(AO:θ)(Y:St)(N:Expr)(R:It->Hp->Prop)(Z:Value)(S:G_):Prop:=
 ∃(Q:AZ)(P:ψ)(T:Nat->Heap->Prop)(J:It)(U:Hp),Z=.ref Q/\Inv X AO Y U S/\Turn X.prog X.w X.K N J P Q T/\T 0 S.heap/\(∀b∈P,qX X AO U b)/\R J U
def PI (X:Cx)(T iter:Expr)(U:TI):Prop:=
 ∀(Z:θ)(s:G_)(Y:St)(H:Hp)(R:It->Hp->Prop),Inv X Z Y H s->U Y H R->
  DA (DW X.prog X.w) X.A (II iter X.env) (λv S=>DA (DW X.prog X.w) X.A (pyIter v) (PIE X Z Y T R) X.xe S) X.xe s
def Uh            (Y : s.heap.get? it = some o) (T : o.cls = .type n) (U : o.data = .fields vs)
    (X : ["enumerate", "zip", "dict_itemiterator", "dict_reverseitemiterator", "odict_iterator", "itertools.zip_longest", "itertools.pairwise"].contains n = false) (Z : Q () s) : DA M A (O1 tg (.ref it) u) Q E s := by
  unfold O1
  cases tg<;>first
    | show LN Z
    | (cases u<;>first
        | show LN Z
        | (show IC (wpAny_load Y ?_)
           rw [T, U];change DA M A (if (["enumerate", "zip", "dict_itemiterator", "dict_reverseitemiterator", "odict_iterator", "itertools.zip_longest", "itertools.pairwise"].contains n && vs[0]? == some (PZ _)) = true then _ else _) Q E s;rw [iO (by intro h; rw [X, Bool.false_and] at h; cases h)]
           show LN Z))
def Itl (K:Frag)(a:AZ):It:=
 (λi H=>∃xs x,bh K H a xs/\xs[i]?=some x,λi H x Z=>Z=H/\∀xs,bh K H a xs->xs[i]?=some x,λi H=>∃xs,bh K H a xs/\xs.length<=i)
def Itr (lo:Int)(n:Nat):It:=(λi _=>i<n,λi H x Z=>Z=H/\x=.int (lo+i),λi _=>n<=i)
def ab_ {K:Frag}(a it:AZ):Turn P w K tg (Itl K a) [it] it (λi h=>h.IsListIter it a i) where
 mem:=by simp
 obj:=λi h st b Z=>by
  let e:b=it:=by simpa using Z
  subst e;let(o,e,c,d):=st;show(o,e,λv z=>by erw [d] at z)
 keep:=λi h S st k=>st.at λo e=>k it fN o e
 item:=by
  intro X M Q L y i m s Y H E I T st N;subst M Q L;let(xs,x,U,A):=N;let(BC,R,p,f):=I.list U;let(u,hu,g):=R.get A;let(B,C,f2,D,G,J):=T it fN;show wpAny_pyNext_list_item st p.isList (x:=u) (by simpa using hu) λS q j=>?_;let I1:Inv X m Y H {s with heap:=S}:=I.turned (t':=s.toks) (λb o Z e=>(j.2 b Z).trans e) B C D G J;let(o,e,c,d):=id q;show(u,O,Uh (s:={s with heap:=S}) e c d eY (x,H,I1,g,#[O,λys hy=>by rwa [I.lC hy U]],q,λb Z=>(T b Z).1))
 done:=by
  intro X M Q L y i m s Y H E I T st N;subst M Q L;let(xs,U,A):=N;let(BC,R,p,f):=I.list U;let(B,C,f2,D,G,J):=T it fN;let hl:=R.length;show wpAny_pyNext_list_end (I.ok.hd y) st p.isList (by simp;omega) λS eb=>#[O,I.turned (t':=s.toks) (λb o Z e=>eb b o Z e) B C D G J]
 self:=λ_ _ _ _ _ st h=>wpAny_pyIter_listiter st h
def abN {K:Frag}(it:AZ)(lo:Int)(n:Nat):Turn P w K tg (Itr lo n) [it] it (λi h=>IsRangeIter h it (lo+(i:Nat)*1) ((n:Int)-(i:Nat)) 1) where
 mem:=by simp
 obj:=λi h st b Z=>by
  let e:b=it:=by simpa using Z
  subst e
  show(_,st,λv z=>by
   let x:Data.fields _=Data.cell v:=z
   cases x)
 keep:=λi h T st k=>k it fN _ st
 item:=by
  intro X N S M Q i y s Y H E I U st R;subst N S M;let(C,D,p,G,J,L):=U it fN;let W:=Walks.range (prog:=X.prog) (w:=X.w) (I.ok.hd Q) it lo 1 n;show W.item i s _ _ R st λv T B q A u=>?_;let(t,rfl):=q;let j:Inv X y Y H {s with heap:=T,toks:=B}:=I.turned (λb o Z e=>u b o (by simpa using Z) e) C D G J L;show(_,O,Uh (s:={s with heap:=T,toks:=B}) (n:="range_iterator") A rfl rfl eY (.int (lo+i),H,j,#[t,?_],#[O,O],A,λb Z=>(U b Z).1));rw [Int.mul_one]
 done:=by
  intro X N S M Q i y s Y H E I U st R;subst N S M;let(C,D,p,G,J,L):=U it fN;show wpAny_pyNext_range_end (I.ok.hd Q) st (by have:n<=i:=R;omega) λT m=>#[O,I.turned (t':=s.toks) (λb o Z e=>m b o Z e) C D G J L]
 self:=λ_ _ _ _ _ st h=>wpAny_pyIter_rangeiter st h
section
variable {X:Cx}{tg:Expr}
inductive Uj (K:Frag)(R:(It->Hp->Prop))(x:V)(Z:Hp):Prop
|mk (a:_)(_:x=.ref a)(_:(∃xs,bh K Z a xs))(_:R (Itl K a) Z)
def afM (K:Frag)(Z:TE):TI:=λY H R=>Z Y H (Uj K R)
def bX (P:PE X l tl):PI X tg l (afM X.K tl):=by
 intro L s Y H R I h;show cJ (P L s Y H _ I h) λv Z ⟨x,M,U,T,S⟩=>?_;let(a,e,(xs,Q),q):=S;subst e;cases T;let(E,J,p,G):=U.list Q;show wpAny_pyIter_list p.isList ?_;show(Z.heap.objs.size,[Z.heap.objs.size],_,_,M,O,U.kept (t':=Z.toks) λb o e=>LM _ e,ab_ a _,(_,QL _ rfl,O,O),λb N=>?_,q);let e:b=Z.heap.objs.size:=by simpa using N
 subst e;show U.ye (DX _) (U.cg.fresh (DX _))
def aeZ {Y:St}{E:δ}{lo Z:Int}(I:Inv X AO Y H s)(N: -(2^62)<=lo)(P:lo<2^62)(Q: -(2^62)<=Z)(S:Z<2^62)
  (q:R (Itr lo (Z-lo).toNat) H):DA (DW X.prog X.w) X.A (pyIter (.ref s.heap.objs.size)) (PIE X AO Y tg R) E {s with heap:=s.heap.push {cls:=.type "range",data:=.fields (List.toArray [.int lo t,.int Z u,.int 1 v])},toks:=tk}:=by
 show wpAny_pyIter_range (IsRange.new ..) (small_one N P Q S) ?_;let U:Inv X AO Y H {s with heap:=s.heap.push {cls:=.type "range",data:=.fields (List.toArray [.int lo t,.int Z u,.int 1 v])},toks:=tk}:=I.kept λb o e=>LM _ e
 show((s.heap.push {cls:=.type "range",data:=.fields (List.toArray [.int lo t,.int Z u,.int 1 v])}).objs.size,[(s.heap.push {cls:=.type "range",data:=.fields (List.toArray [.int lo t,.int Z u,.int 1 v])}).objs.size],_,_,H,O,
  U.kept (t':=tk) λb o e=>LM _ e,abN _ lo (Z-lo).toNat,?_,λb T=>?_,q)
 ·let L:lo+((0:Nat):Int)*1=lo:=by simp
  let M:(((Z-lo).toNat:Nat):Int)-((0:Nat):Int)=Builtin.Range.rangeSize lo Z 1:=by rw [rangeSize_one];split<;>omega
  change IsRangeIter _ _ (lo+((0:Nat):Int)*1) ((((Z-lo).toNat:Nat):Int)-((0:Nat):Int)) 1;rw [L,M];show QL _ rfl
 ·let e:b=(s.heap.push {cls:=.type "range",data:=.fields (List.toArray [.int lo t,.int Z u,.int 1 v])}).objs.size:=by simpa using T
  subst e;show U.ye (DX _) (U.cg.fresh (DX _))
inductive Ul (R:(It->Hp->Prop))(vs:γ)(Z:Hp):Prop
|mk (j:Int)(_:vs=[.int j])(_: -(2^62)<=j)(_:j<2^62)(_:R (Itr 0 j.toNat) Z)
def afN (Z:TA):TI:=λY H R=>Z Y H (Ul R)
def ck (N:Gl X "range")(P:X.mg "range"=none)(M:PA X [a] ta)(Q:JF [a] X.env=[(false,II a X.env)]:=by rfl):PI X tg (.Call (.Name "range" p) [a] [] pos) (afN ta):=by
 intro J s Y H R I h;show Call_ (gZ I N P boot_range (VJ (cJ (M pos J s Y H _ I h) λE D ⟨G,C,L,T,Z⟩=>?_) Q rfl));let(j,e,Z,S,q):=Z;subst e;cases T with
 | cons r U=>
  cases U;let(t,rfl):=r;show call_range_1 (aeZ L cr cr Z S (by simpa using q))
def acj (g:TG)(S:TS)(D:Ends)(Y:L2.St)(H:Hp)(J:It)(P:Hp):Prop:=∃W:Nat->Nat->St->Hp->Prop,(∃m,W 0 m Y P)/\∀i m Y H,W i m Y H->(J.stop i H/\D.nx Y H)\/(J.go i H/\∃N:St->Hp->Prop,(∀T Z,N T Z ->∃U,U<m/\W (i+1) U T Z)/\∀x Z,J.S3 i H x Z ->g x Y Z λR Q=>S {D with nx:=N,ct:=N,bk:=D.nx} R Q)
def aok (Z:TI)(g:TG)(U:TS):TS:=λD Y H=>Z Y H (acj g U D Y H)
def vF (Z:ψ)(h:Heap):List (AZ×Obj):=Z.filterMap λb=>(h.get? b).map λo=>(b,o)
def j4 (Z:b∈fp)(e:h.get? b=some o):(b,o)∈vF fp h:=uu.mpr (b,Z,by rw [e];rfl)
def aaM (Z:p∈vF fp h):p.1∈fp/\h.get? p.1=some p.2:=by
 let(b,Y,e):=uu.mp Z;cases q:h.get? b with
 | none=>erw [q] at e
 | some o=>
  rw [q] at e;let U:(b,o)=p:=QI e;subst U;show#[Y,q]
def Inv.pinned {Y:St}(I:Inv X AO Y H s)(R:∀b∈U,qX X AO H b)(S:∀b∈U,∃o,s.heap.get? b=some o/\∀v,o.data≠.cell v):Inv X (AO++vF U s.heap) Y H s:=
 I.NT λp T=>(MU.mp T).elim (λz=>I.pin p (V2 _ z)) λz=>by
  let(Z,e):=aaM z;let(N,P,Q,_):=R p.1 Z;let(o,M,d):=S p.1 Z;erw [e] at M;show(e,N,P,Q,d)
def Inv.lF {Y:St}(I:Inv X (AO++pl) Y H s):Inv X AO Y H s:=I.NT λp Z=>I.pin p (V2 _ (V7 _ Z))
def bM (B:PassesOwn (DW X.prog X.w) X.A X.env X.xe)(hc:X.calm=true)(hi:PI X tg iter wi)(hg:PG X tg g)(U:qv X body tb)
  (hs:∀x,σ5 iter X.env x=pure x:=by intro _;rfl):PS X (.For tg iter body [] pos) (aok wi g tb):=by
 intro G s Y H D I h;show wpAny_For (cJ (hi G s Y H _ I h) λv s1 h1=>cJ h1 λitv s2 h2=>?_) hs;let(it,y,tn,J,H2,e,I2,T,j,f2,W,(m0,w0),turn):=h2;subst e;let Z:∀{P:Hp},(∀b∈y,P b=none)->∀b∈y,qX X G P b:=λhn b U=>#[hn b U,(f2 b U).2];show codeAny_forLoop_any (λn s'=>∃i p P,Inv X G p P s'/\tn i s'.heap/\(∀b∈y,P b=none)/\W i n p P) ?_ m0 (0,Y,H2,I2,j,λb U=>(f2 b U).1,w0);rintro n s3 ⟨i,q,k,I3,E,z,w3⟩
 rcases turn i n q k w3 with ⟨stop,qn⟩|⟨go,N,hN,step⟩
 ·show ZX B (cJ (T.done X rfl rfl rfl hc i G s3 q k X.xe I3 (Z z) E stop) λr s4 ⟨a,I4⟩=>?_)
  subst a;show O4 (q,k,I4,qn)
 ·show ZX B (cJ (T.item X rfl rfl rfl hc i G s3 q k X.xe I3 (Z z) E go) λr s4 ⟨u,a,h4⟩=>?_)
  subst a;show ZX B (cJ h4 λ_ s5 ⟨x,H5,I5,r5,y5,L,fr5⟩=>?_);let I5':=I5.pinned (Z fr5) (T.obj _ _ L);show ZX B (cJ (hg _ s5 q H5 x u _ I5' r5 (step x H5 y5)) λ_ s6 ⟨Y6,H6,I6,q6⟩=>?_);show ZX B (cJ (U _ s6 Y6 H6 _ I6 q6) λf c M=>?_)
  let again:∀{S:St} {Q:Hp},Inv X (G++vF y s5.heap) S Q c->N S Q->∃m,m<n/\∃i p P,Inv X G p P c/\tn i c.heap/\(∀b∈y,P b=none)/\W i m p P:=λ{S Q} R C=>by
   let(m',hm,w7):=hN S Q C;show(m',hm,i+1,S,Q,R.lF,T.keep _ _ _ L λb U o e=>(R.pin (b,o) (V2 _ (V2 _ (j4 U e)))).1,λb U=>?_,w7);let(o,e,d):=T.obj _ _ L b U;show(R.pin (b,o) (V2 _ (V2 _ (j4 U e)))).2.1
  cases f with
  | next=>let(S,Q,R,C):=M;show again R C
  | cont=>let(S,Q,R,C):=M;show again R C
  | brk=>let(S,Q,R,M):=M;show(S,Q,R.lF,M)
  | ret v=>let(x7,S,Q,R,r7,M):=M;show(x7,S,Q,R.lF,r7,M)
end
def ef {K:Frag}{g:TG}{R:TS}{D:Ends}(Z:Nat->St->Hp->Prop)(E:Z 0 Y H)(J:∀i Y H,i<=xs.length->Z i Y H->bh K H a xs)
  (L:∀i x Y H,xs[i]?=some x->Z i Y H->g x Y H λU S=>R {D with nx:=Z (i+1),ct:=Z (i+1),bk:=D.nx} U S) (G:∀Y H,Z xs.length Y H->D.nx Y H):
  ∃W:Nat->Nat->St->Hp->Prop,(∃m,W 0 m Y H)/\∀i m Y H,W i m Y H->
   ((Itl K a).stop i H/\D.nx Y H)\/((Itl K a).go i H/\∃N:St->Hp->Prop,(∀T X,N T X ->∃P,P<m/\W (i+1) P T X)/\∀x X,(Itl K a).S3 i H x X ->g x Y X λU S=>R {D with nx:=N,ct:=N,bk:=D.nx} U S):=by
 show(λi m Y H=>m=xs.length-i/\i<=xs.length/\Z i Y H,(xs.length,by simp,P1 _,E),?_);rintro i m Y H ⟨rfl,I,p⟩;let q:=J i Y H I p;by_cases Q:i<xs.length
 ·show .inr ((xs,xs[i],q,by simp [Q]),Z (i+1),λT X M=>(xs.length-(i+1),cr,O,Q,M),λx X y=>?_)
  let(e,y):=y;subst e;show L i x Y _ (y xs q) p
 ·let e:i=xs.length:=cr
  subst e;show .inl #[(xs,q,DX _),G Y H p]
def cy {lo:Int}{g:TG}{Q:TS}{D:Ends}(Z:Nat->St->Hp->Prop)(I:Z 0 Y H)
  (L:∀i Y H,i<n->Z i Y H->g (.int (lo+i)) Y H λT R=>Q {D with nx:=Z (i+1),ct:=Z (i+1),bk:=D.nx} T R) (J:∀Y H,Z n Y H->D.nx Y H):
  ∃W:Nat->Nat->St->Hp->Prop,(∃m,W 0 m Y H)/\∀i m Y H,W i m Y H->
   ((Itr lo n).stop i H/\D.nx Y H)\/((Itr lo n).go i H/\∃N:St->Hp->Prop,(∀S X,N S X ->∃P,P<m/\W (i+1) P S X)/\∀x X,(Itr lo n).S3 i H x X ->g x Y X λT R=>Q {D with nx:=N,ct:=N,bk:=D.nx} T R):=by
 show(λi m Y H=>m=n-i/\i<=n/\Z i Y H,(n,by simp,P1 _,I),?_);rintro i m Y H ⟨rfl,G,p⟩;by_cases U:i<n
 ·show .inr (U,Z (i+1),λS X M=>(n-(i+1),cr,O,U,M),λx X y=>?_)
  let(e,y):=y;subst e y;show L i Y _ U p
 ·let e:i=n:=cr
  subst e;show .inl #[DX _,J Y H p]
def ag0 (T:St->Hp->Prop)(μ:St->Hp->Nat)(N:T Y H)
  (P:∀Y H,T Y H->c Y H λb X=>if b=true then tb {D with nx:=λZ U=>T Z U/\μ Z U < μ Y H,ct:=λZ U=>T Z U/\μ Z U < μ Y H,bk:=D.nx} Y X else D.nx Y X)
  (mono:∀Y H Q S,(∀b X,Q b X->S b X)->c Y H Q->c Y H S):Ug c tb D Y H:=by
 show(λm Y H=>m=μ Y H/\T Y H,(_,O,N),?_);rintro m Y H ⟨rfl,p⟩;show mono Y H _ _ (λb X q=>?_) (P Y H p);cases b with
 | true=>show(_,λZ U ⟨R,l⟩=>(_,l,O,R),q)
 | false=>show q
abbrev R2:=V->V->Hp->VK->Prop
def mZ (X:Cx)(f:Value->Value->Sem Value)(r:R2):Prop:=
 ∀(Z:θ)(s:G_)(Y:St)(H:Hp)(x y:V)(v u:Value)(Q:VK),Inv X Z Y H s->RelV x v->RelV y u->r x y H Q->
  DA (DW X.prog X.w) X.A (f v u) (EP X Z Y Q) X.xe s
def UnR (X:Cx)(f:Value->Sem Value)(r:V->Hp->VK->Prop):Prop:=
 ∀(Z:θ)(s:G_)(Y:St)(H:Hp)(x:V)(v:Value)(Q:VK),Inv X Z Y H s->RelV x v->r x H Q->
  DA (DW X.prog X.w) X.A (f v) (EP X Z Y Q) X.xe s
def lG (X:Cx)(f:Value)(r:List V->Hp->VK->Prop):Prop:=
 ∀(U:θ)(s:G_)(Y:St)(H:Hp)(xs:γ)(Z:ρ)(Q:VK),Inv X U Y H s->Vals xs Z->r xs H Q->
  DA (DW X.prog X.w) X.A (call f Z) (EP X U Y Q) X.xe s
def afO (r:R2)(Q:VK)(x:V)(y:V)(Z:Hp):Prop:=r x y Z Q
def afP (r:R2)(Z:TE)(Y:L2.St)(Q:VK)(x:V)(X:Hp):Prop:=Z Y X (afO r Q x)
def tOp (r:R2)(X Z:TE):TE:=λY H Q=>X Y H (afP r Z Y Q)
def afQ (r:V->Hp->VK->Prop)(Q:VK)(x:V)(Z:Hp):Prop:=r x Z Q
def tUn (r:V->Hp->VK->Prop)(Z:TE):TE:=λY H Q=>Z Y H (afQ r Q)
inductive rI (C:Int->Int->Prop)(g:Int->Int->V)(x:V)(y:V)(H:Hp)(Q:VK):Prop
|mk (i j:_)(_:x=.int i)(_:y=.int j)(_:C i j)(_:Q (g i j) H)
inductive σ0 (g:Int->Int->V)(x:V)(y:V)(H:Hp)(Q:VK):Prop
|mk (i j:_)(_:x=.int i)(_:y=.int j)(_:Q (g i j) H)
inductive rU (g:Int->V)(x:V)(H:Hp)(Q:VK):Prop
|mk (i:_)(_:x=.int i)(_:Q (g i) H)
section
variable {X:Cx}{a b c:Expr}{ta tb tc:TE}{pos:Pos}
def ack (C:PE X a ta)(D:PE X b tb){Y:St}{R:V->V->Hp->Prop}(I:Inv X AO Y H s)
  (h:ta Y H λx T=>tb Y T λy Z=>R x y Z) {Q:δ} {f:Value->Value->Sem Value}
  (E:∀v u U x y Z,Inv X AO Y Z U->RelV x v->RelV y u->R x y Z->DA (DW X.prog X.w) X.A (f v u) Q X.xe U):
  DA (DW X.prog X.w) X.A (II a X.env) (λv G=>DA (DW X.prog X.w) X.A (II b X.env) (λu M=>DA (DW X.prog X.w) X.A (f v u) Q X.xe M) X.xe G) X.xe s:=by
 show cJ (C AO s Y H _ I h) λv S ⟨x,T,z,N,J⟩=>?_;show cJ (D AO S Y T _ z J) λu U ⟨y,Z,B,P,L⟩=>?_;show E v u U x y Z B N P L
def ay (S:mZ X (UM op) r)(P:PE X a ta)(R:PE X b tb):PE X (.BinOp a op b pos) (tOp r ta tb):=by
 intro L s Y H Q I h;show wpAny_BinOp (ack P R I h λv u Z x y M N T U q=>S L Z Y M x y v u Q N T U q)
def gh (R:UnR X (unaryOp op) r)(P:PE X a ta):PE X (.UnaryOp op a pos) (tUn r ta):=by
 intro Z s Y H Q I h;show UnaryOp_ (cJ (P Z s Y H _ I h) λv U ⟨x,M,N,T,S⟩=>R Z U Y M x v Q N T S)
def opI {g:Int->Int->Int}
  (rule:∀(i j:Int)(t u:Tok)(s:G_)(Q:δ)(E:δ),C i j->Q (.int (g i j) s.toks) {s with toks:=s.toks+1}->DA (DW X.prog X.w) X.A (f (.int i t) (.int j u)) Q E s):
  mZ X f (rI C λi j=>.int (g i j)):=by
 intro R s Y H x y v u Q I T U h;let(i,j,rfl,rfl,S,q):=h;let(t,rfl):=T;let(Z,rfl):=U;show rule i j t Z s _ _ S (.int (g i j),H,I.tok _,#[_,O],q)
def afR {g:Int->Int->Int}
  (rule:∀(i j:Int)(t u:Tok)(s:G_)(Q:δ)(E:δ),Q (.int (g i j) s.toks) {s with toks:=s.toks+1}->DA (DW X.prog X.w) X.A (f (.int i t) (.int j u)) Q E s):
  mZ X f (σ0 λi j=>.int (g i j)):=by
 intro S s Y H x y v u Q I T U h;let(i,j,rfl,rfl,q):=h;let(t,rfl):=T;let(Z,rfl):=U;show rule i j t Z s _ _ (.int (g i j),H,I.tok _,#[_,O],q)
def σ1 {g:Int->Int->Bool}
  (rule:∀(i j:Int)(t u:Tok)(s:G_)(Q:δ)(E:δ),Q (.bool (g i j)) s->DA (DW X.prog X.w) X.A (f (.int i t) (.int j u)) Q E s):
  mZ X f (σ0 λi j=>.bl (g i j)):=by
 intro S s Y H x y v u Q I T U h;let(i,j,rfl,rfl,q):=h;let(t,rfl):=T;let(Z,rfl):=U;show rule i j t Z s _ _ (.bl (g i j),H,I,O,q)
def afS (i j:Int):Prop:=0<=j/\j<=1000000/\i.natAbs<2^64
def b9:mZ X (UM .Add) (σ0 λi j=>.int (i+j)):=afR λ_ _ _ _ _ _ _ q=>add_int q
def c9:mZ X (UM .Sub) (σ0 λi j=>.int (i-j)):=afR λ_ _ _ _ _ _ _ q=>sub_int q
def aex:mZ X (UM .Mod) (rI (λ_ j=>j≠0) λi j=>.int (i.fmod j)):=opI λ_ _ _ _ _ _ _ Z q=>mod_int' Z q
def Um:mZ X (UM .Pow) (rI afS λi j=>.int (i^j.toNat)):=opI λ_ _ _ _ _ _ _ Z q=>pow_int_small Z.1 Z.2.1 Z.2.2 q
def unI {g:Int->Int}
  (rule:∀(i:Int)(t:Tok)(s:G_)(Q:δ)(E:δ),Q (.int (g i) s.toks) {s with toks:=s.toks+1}->DA (DW X.prog X.w) X.A (f (.int i t)) Q E s):
  UnR X f (rU λi=>.int (g i)):=by
 intro U s Y H x v Q I Z h;let(i,rfl,q):=h;let(t,rfl):=Z;show rule i t s _ _ (.int (g i),H,I.tok _,#[_,O],q)
def dG:UnR X (unaryOp .USub) (rU λi=>.int (-i)):=unI λ_ _ _ _ _ q=>neg_int q
end
def afT:V->V->Bool
 | .cK,.cK=>true | .cK,.int _=>true | .int _,.cK=>true | .cK,.bl _=>true | .bl _,.cK=>true | .cK,.str _=>true | .str _,.cK=>true
 | .int _,.int _=>true | .bl _,.bl _=>true | .str _,.str _=>true | .qD _,.qD _=>true
 | .int _,.str _=>true | .str _,.int _=>true | .bl _,.str _=>true | .str _,.bl _=>true
 | _,_=>false
def rEq:R2:=λx y H Q=>afT x y=true/\Q (.bl (decide (x=y))) H
def rNe:R2:=λx y H Q=>afT x y=true/\Q (.bl (!decide (x=y))) H
def akl :decide (V.int i=V.int j)=(i==j):=by
 rw [r_];simp
def Uo :decide (V.bl i=V.bl j)=(i==j):=by
 rw [r_];simp
def akf :decide (V.str i=V.str j)=(i==j):=by
 rw [r_];simp
def aka :decide (V.qD i=V.qD j)=(i.toList==j.toList):=by
 rw [r_];cases i;cases j;simp
section
variable {X:Cx}{a b c:Expr}{ta tb tc:TE}{pos:Pos}
def cb {Y:St}(I:Inv X AO Y H s)(q:Q (.bl k) H)(e:k=k'):EP X AO Y Q (.bool k') s:=by
 subst e;show(.bl k,H,I,O,q)
def fO:mZ X (Qo .Eq) rEq:=by
 intro R s Y H x y v u Q I S Z h;let(T,q):=h;cases x with
 | cK=>
  cases S;cases y with
  | cK=>cases Z;show PySem.EqNone.eq_none_none (cb I q fN)
  | bl j=>cases Z;show PySem.EqNone.eq_none_bool (cb I q fN)
  | int j=>let(U,rfl):=Z;show PySem.EqNone.eq_none_int (cb I q fN)
  | str j=>let(U,rfl):=Z;show PySem.EqNone.eq_none_str (cb I q fN)
  | _=>show DB (show false=true from T) P7
 | bl i=>
  cases S;cases y with
  | cK=>cases Z;show PySem.EqNone.eq_bool_none (cb I q fN)
  | bl j=>cases Z;show eq_bool (cb I q Uo)
  | str j=>let(U,rfl):=Z;show PySem.EqMixed.eq_bool_str (cb I q fN)
  | _=>show DB (show false=true from T) P7
 | int i=>
  let(t,rfl):=S;cases y with
  | cK=>cases Z;show PySem.EqNone.eq_int_none (cb I q fN)
  | int j=>let(U,rfl):=Z;show eq_int (cb I q akl)
  | str j=>let(U,rfl):=Z;show PySem.EqMixed.eq_int_str (cb I q fN)
  | _=>show DB (show false=true from T) P7
 | str i=>
  let(t,rfl):=S;cases y with
  | cK=>cases Z;show PySem.EqNone.eq_str_none (cb I q fN)
  | bl j=>cases Z;show PySem.EqMixed.eq_str_bool (cb I q fN)
  | int j=>let(U,rfl):=Z;show PySem.EqMixed.eq_str_int (cb I q fN)
  | str j=>let(U,rfl):=Z;show eq_str (cb I q akf)
  | _=>show DB (show false=true from T) P7
 | qD i=>
  let(t,rfl):=S;cases y with
  | qD j=>let(U,rfl):=Z;show PySem.W.eq_bytes (cb I q aka)
  | _=>show DB (show false=true from T) P7
 | _=>cases y<;>show DB (show false=true from T) P7
def vG:mZ X (Qo .NotEq) rNe:=by
 intro R s Y H x y v u Q I S Z h;let(T,q):=h;cases x with
 | cK=>
  cases S;cases y with
  | cK=>cases Z;show PySem.EqNone.ne_none_none (cb I q fN)
  | bl j=>cases Z;show PySem.EqNone.ne_none_bool (cb I q fN)
  | int j=>let(U,rfl):=Z;show PySem.EqNone.ne_none_int (cb I q fN)
  | str j=>let(U,rfl):=Z;show PySem.EqNone.ne_none_str (cb I q fN)
  | _=>show DB (show false=true from T) P7
 | bl i=>
  cases S;cases y with
  | cK=>cases Z;show PySem.EqNone.ne_bool_none (cb I q fN)
  | bl j=>cases Z;show ne_bool (cb I q (ox not Uo))
  | str j=>let(U,rfl):=Z;show PySem.EqMixed.ne_bool_str (cb I q fN)
  | _=>show DB (show false=true from T) P7
 | int i=>
  let(t,rfl):=S;cases y with
  | cK=>cases Z;show PySem.EqNone.ne_int_none (cb I q fN)
  | int j=>let(U,rfl):=Z;show ne_int (cb I q (ox not akl))
  | str j=>let(U,rfl):=Z;show PySem.EqMixed.ne_int_str (cb I q fN)
  | _=>show DB (show false=true from T) P7
 | str i=>
  let(t,rfl):=S;cases y with
  | cK=>cases Z;show PySem.EqNone.ne_str_none (cb I q fN)
  | bl j=>cases Z;show PySem.EqMixed.ne_str_bool (cb I q fN)
  | int j=>let(U,rfl):=Z;show PySem.EqMixed.ne_str_int (cb I q fN)
  | str j=>let(U,rfl):=Z;show ne_str (cb I q (ox not akf))
  | _=>show DB (show false=true from T) P7
 | qD i=>
  let(t,rfl):=S;cases y with
  | qD j=>let(U,rfl):=Z;show PySem.W.ne_bytes (cb I q (ox not aka))
  | _=>show DB (show false=true from T) P7
 | _=>cases y<;>show DB (show false=true from T) P7
def kr:mZ X (Qo .Lt) (σ0 λi j=>.bl (decide (i<j))):=σ1 λ_ _ _ _ _ _ _ q=>lt_int q
def aa8:mZ X (Qo .LtE) (σ0 λi j=>.bl (decide (i<=j))):=σ1 λ_ _ _ _ _ _ _ q=>le_int q
def aa9:mZ X (Qo .Gt) (σ0 λi j=>.bl (decide (j<i))):=σ1 λ_ _ _ _ _ _ _ q=>gt_int q
def Up:mZ X (Qo .GtE) (σ0 λi j=>.bl (decide (j<=i))):=σ1 λ_ _ _ _ _ _ _ q=>ge_int q
def qY:mZ X (Qo .Is) (λx y H Q=>y=.cK/\Q (.bl (decide (x=.cK))) H):=by
 intro T s Y H x y v u Q I Z U h;let(rfl,q):=h;cases U;show is_none_gen (cb I q ?_)
 cases x<;>first
  | (cases Z;rfl)
  | (let(t,rfl):=Z;rfl)
def akP:mZ X (Qo .IsNot) (λx y H Q=>y=.cK/\Q (.bl (!decide (x=.cK))) H):=by
 intro T s Y H x y v u Q I Z U h;let(rfl,q):=h;cases U;show isnot_none_gen (cb I q ?_)
 cases x<;>first
  | (cases Z;rfl)
  | (let(t,rfl):=Z;rfl)
def j5 (b:Expr)(h:op≠.In:=by decide)(Z:op≠.NotIn:=by decide):oq op b=false:=by
 let U:(op==CmpOp.In)=false:=by cases op<;>first|rfl|show DB rfl h
 let Y:(op==CmpOp.NotIn)=false:=by cases op<;>first|rfl|show DB rfl Z
 cases b<;>simp [oq,U,Y]
def ji (S:mZ X (Qo op) r)(N:PE X a ta)(P:PE X b tb)(R:oq op b=false):PE X (.Compare a [op] [b] pos) (tOp r ta tb):=by
 intro J s Y H Q I h;show wpAny_Compare1 (ack N P I h λv u Z x y L M T U q=>S J Z Y L x y v u Q M T U q) R
inductive Uq (Q:(Bool->Hp->Prop))(x:V)(H':Hp):Prop
|mk (k:_)(_:x=.bl k)(_:Q k H')
def aa' (t:TE):TT:=λY H Q=>t Y H (Uq Q)
def vg (J:mZ X (Qo op) r)(D:PE X a ta)(E:PE X b tb)(G:oq op b=false):PT X (.Compare a [op] [b] pos) (aa' (tOp r ta tb)):=by
 intro Z s Y H Q I h
 show wpAny_isTrue_Compare1 (cJ (D Z s Y H _ I h) λv T ⟨x,p,A,P,L⟩=>cJ (E Z T Y p _ A L) λu U ⟨y,q,B,R,M⟩=>
  cJ (J Z U Y q x y v u _ B P R M) λc o ⟨z,w,C,S,k,e,N⟩=>?_) G
 subst e;cases S;show Zd (w,C,N)
def adE (T:R2)(tc:TE)(Y:L2.St)(Q:VK)(y:V)(z:V)(Z:Hp):Prop:=∃k,z=.bl k/\(if k=true then tc Y Z λU S=>T y U S Q else Q (.bl false) Z)
def aaT (r:R2)(Z:R2)(tc:TE)(Y:L2.St)(Q:VK)(x:V)(y:V)(U:Hp):Prop:=r x y U (adE Z tc Y Q y)
def zao (r:R2)(Z:R2)(tb:TE)(tc:TE)(Y:L2.St)(Q:VK)(x:V)(U:Hp):Prop:=tb Y U (aaT r Z tc Y Q x)
def acm (r Z:R2)(ta tb tc:TE):TE:=λY H Q=>ta Y H (zao r Z tb tc Y Q)
def afj (q:mZ X (Qo op) r)(i :mZ X (Qo op') r')(j:PE X a ta)(m:PE X b tb)(o:PE X c tc)
  (p:lastMarks [op,op'] [b,c]=false:=by with_unfolding_all rfl):PE X (.Compare a [op,op'] [b,c] pos) (acm r r' ta tb tc):=by
 intro Z s Y H Q I h
 show Compare_chain (cJ (j Z s Y H _ I h) λv G ⟨x,H1,I1,C,w⟩=>chain_link (cJ (m Z G Y H1 _ I1 w) λu J ⟨y,H2,f,U,A⟩=>
  cJ (q Z J Y H2 x y v u _ f C U A) λd L ⟨z,R,S,D,k,e,T⟩=>?_)) p
 subst e;cases D;show Zd ?_;cases k with
 | false=>show ite_ff (.bl false,R,S,O,T)
 | true=>show ite_tt (chain_last (cJ (o Z L Y R _ S T) λN M ⟨P,H4,g,E,B⟩=>i Z M Y H4 y P u N Q g U E B))
def qZ:(HZ:Nat)<2^63:=by rw [sizeLine_eq];decide
def nK:mZ X (UM .Add) (λx y H Q=>∃i j,x=.str i/\y=.str j/\i.length+j.length<=HZ/\Q (.str (i++j)) H):=by
 intro P s Y H x y v u Q I T U h;let(i,j,rfl,rfl,S,q):=h;let(t,rfl):=T;let(Z,rfl):=U;show add_str (λZ R=>(.str (i++j),H,I.tok _,#[_,O],q)) S
def vals1 {us:ρ}(r:Vals [x] us):∃u,us=[u]/\RelV x u:=by
 cases r with
 | cons Y Z=>cases Z;show(_,O,Y)
def vals2 {us:ρ}(r:Vals [x,y] us):∃u Z,us=[u,Z]/\RelV x u/\RelV y Z:=by
 cases r with
 | cons S T=>
  cases T with
  | cons U Y=>cases Y;show(_,_,O,S,U)
def aft:lG X (.builtin "abs") (λxs H Q=>∃i,xs=[.int i]/\Q (.int (if i<0 then -i else i)) H):=by
 intro T s Y H xs Z Q I r h;let(i,rfl,q):=h;let(u,rfl,t,rfl):=vals1 r;show call_abs_int λu U=>(.int (if i<0 then -i else i),H,I.tok _,#[_,O],q)
def acH (U:X.calm=true):lG X (.builtin "min") (λxs H Q=>∃i j,xs=[.int i,.int j]/\Q (.int (if j<i then j else i)) H):=by
 intro M s Y H xs S Q I r h;let(i,j,rfl,q):=h;let(u,T,rfl,(t,rfl),(P,rfl)):=vals2 r;show min_two_ints (I.ok.hd U) λN R k=>(_,H,I.kept k,?_,q);by_cases Z:j<i
 ·rw [jY Z,jY Z];show#[_,O]
 ·rw [iO Z,iO Z];show#[_,O]
def pins:lG X (.type "str") (λxs H Q=>∃i,xs=[.int i]/\i.natAbs.log2<1920/\Q (.str (toString i)) H):=by
 intro T s Y H xs U Q I r h;let(i,rfl,Z,q):=h;let(u,rfl,t,rfl):=vals1 r;show PySem.P.str_of_int Z (.str _,H,I.tok _,#[_,O],q)
end
structure AQ (h:Heap)(x dx C:AZ)(mA:ι):Prop where
 obj:h.get? x=some (UJ C dx)
 ns:h.Ns1 dx mA
 ne:dx≠x
def abC {h:Heap}{mA:ι}(n:h.Ns1 dx mA):∃Z,h.get? dx=some Z/\∀name,NY name Z=some (mA name):=by
 let(o,Y,N,U,R,S,_,T):=n;show(o,U,λname=>?_);let e:=T name;unfold nsFind findBy at e;rw [<-Array.find?_toList] at e;unfold NY;rw [R];dsimp only;split
 ·rename_i y q
  rw [q] at e;show ox some e
 ·rename_i q
  rw [q] at e
  let a:Y.toList.any (·.refKey)=false:=by
   rw [List.any_eq_false];intro y X;let(z,t,P):=S y (Array.mem_toList_iff.mp X);simp [DictEntry.refKey,P]
  let Q:¬ Y.toList.any (·.refKey)=true:=by rw [a];show P7
  rw [iO Q];show ox some e
def AQ.look (I:AQ h x dx C mA):∃Z,PySem.W.InstAt h x (UJ C dx) C (some Z)/\∀name,NY name Z=some (mA name):=
 let ⟨Z,Y,X⟩:=abC I.ns
 (Z,(I.obj,O,O,Y),X)
section
variable {prog:LS}{w:World}{A:Mf}{E:δ}{s:G_}{K:Frag}{x dx C f:AZ}{mA:ι}{name:Str}{v:Value}
def get_map {Q:δ}(X:K.In s.heap)(I:AQ s.heap x dx C mA)(S:σ4 K C name=true)(T:ZD K C=true)
  (R:P5 K (.ref C) name=some none) (Y:mA name=some v) (Z:PySem.W.handedIn v=true) (h:Q v {s with toks:=s.toks+1}):
  DA (DW prog w) A (getAttr (.ref x) name expr) Q E s:=by
 let(P,J,U):=I.look;show PySem.W.get_value X J (PySem.W.plainGet_of S).1 (PySem.W.findObj_own T R rfl (by rw [U,Y])) Z h
def afi (X:K.In s.heap)(I:AQ s.heap x dx C mA)(Z:σ4 K C name=true)
  (R:P5 K (.ref C) name=some (some (.ref f))) (T:Zy K (.ref f)=true) (U:mA name=none) (h:Q (.ref f,[.ref x]) s):
  DA (DW prog w) A (getMethod (.ref x) name pl) Q E s:=by
 let(Y,J,S):=I.look;show PySem.W.method_fn X J (PySem.W.plainGet_of Z).1 (PySem.W.plainGet_of Z).2 R (beq_iff_eq.mp T) (by change (NY name Y).map (·.isSome)=some false;rw [S,U];rfl) h
def aew {T:τ}(X:K.In s.heap)(I:AQ s.heap x dx C mA)
  (L:P5 K (.ref C) "__setattr__"=some (some (.builtin "object.__setattr__"))) (H:ZY K C=true) (M:PySem.W.takerIn K C name=some none) (G:ZD K C=true)
  (N:PySem.Within mA T) (hsz:T.length<=HZ)
  (h:∀h',AQ h' x dx C (λy=>if y=name then some v else mA y)->yt dx s.heap h' ->Q () {s with heap:=h',toks:=s.toks+2}):
  DA (DW prog w) A (setAttr (.ref x) name v) Q E s:=by
 let(q,J,o):=I.look;show PySem.W.set_plain X J L (PySem.W.osa_open (s:={s with toks:=s.toks+1}) (r:=none) X J H M λb=>?_);let(m,D,u):=PySem.W.any_some G;let P:s.heap.get? x=some (.ref C,some dx,.plain, #[]):=I.obj;show IC (LN (IC (IC (wpAny_loadPart P (IC (PySem.W.Looks.here (s:={s with toks:=s.toks+1}) (PySem.W.looks_clsIn X D) ?_))))));rw [u];show LN (a:=some dx) (IC (LN (IC ?_)));show wpAny_nsSet1 (s:={s with toks:=s.toks+1}) I.ns λh' S R=>?_;let(p,B,z,Z,Y,U):=S.count (PySem.Within.cons name v N);show IC (wpAny_lookBehind Z (by rw [Y];show pastItsLine_dict (GX U (by rw [Qz];omega))) ?_);show LN (h _ ((R.2 _ (IL I.ne)).trans I.obj,S,I.ne) R)
def afg {R:Τ}{vs:ρ}(X:K.In s.heap)(Y:Wg K C=true)
  (U:P5 K (.ref C) "__init__"=some (some (.ref f))) (T:PySem.W.typeIn K (.ref f)=some (.type "function"))
  (h:T8 (DW prog w) (A.under (.builtin "type.__call__" #[.ref C::vs,kw])) (.call (.ref f) #[.ref (s.heap.objs.size+1)::vs,kw]) (PySem.W.InitBack (s.heap.objs.size+1) R)
   {s with heap:=(s.heap.push UK).push (UJ C s.heap.objs.size)}):
  T8 (DW prog w) A (.call (.ref C) #[vs,kw]) R s:=by
 let(S,g,d,t,os):=s;show PySem.W.make_core (PySem.W.makes_of X Y) (PySem.W.looks_findIn X U) (λZ=>PySem.W.bind_fn X Z T) (.inl rfl) h
def aaN {R:Τ}(X:K.In s.heap)(Y:Wg K C=true)
  (U:P5 K (.ref C) "__init__"=some (some (.builtin "object.__init__")))
  (T:∀Z,PySem.W.Looks (DW prog w) s.heap (bindSpecial (.builtin "object.__init__") Z) (.builtin "object.__init__",[Z]))
  (h:T8 (DW prog w) (A.under (.builtin "type.__call__" #[[.ref C],[]])) (.call (.builtin "object.__init__") #[[.ref (s.heap.objs.size+1)],[]]) (PySem.W.InitBack (s.heap.objs.size+1) R)
   {s with heap:=(s.heap.push UK).push (UJ C s.heap.objs.size)}):
  T8 (DW prog w) A (.call (.ref C) #[[],[]]) R s:=by
 let(S,g,d,t,os):=s;show PySem.W.make_core (PySem.W.makes_of X Y) (PySem.W.looks_findIn X U) T (.inr #[O,O]) h
end
def dC (f:Str)(v:V):List (Str×V)->List (Str×V)
 | []=>[(f,v)]
 | (g,x)::r=>if g=f then (g,v)::r else (g,x)::dC f v r
theorem tE (f g:Str)(v:V):∀X:List (Str×V),(dC f v X).lookup g=if g=f then some v else X.lookup g
 | []=>by
  change Uw g [(f,v)]=_;by_cases h:g=f
  ·let Z:(g==f)=true:=beq_iff_eq.mpr h
   simp only [Uw,Z,jY h]
  ·let Z:(g==f)=false:=beq_eq_false_iff_ne.mpr h
   simp only [Uw,Z,iO h]
 | (k,x)::r=>by
  let U:=tE f g v r;rw [show dC f v ((k,x)::r)=(if k=f then (k,v)::r else (k,x)::dC f v r) from rfl];by_cases Y:k=f
  ·rw [jY Y]
   by_cases h:g=k
   ·let Z:(g==k)=true:=beq_iff_eq.mpr h
    simp only [Uw,Z,jY (h.trans Y)]
   ·let Z:(g==k)=false:=beq_eq_false_iff_ne.mpr h
    simp only [Uw,Z,iO (λe:g=f=>h (e.trans Y.symm))]
  ·rw [iO Y]
   by_cases h:g=k
   ·let Z:(g==k)=true:=beq_iff_eq.mpr h
    simp only [Uw,Z,iO (λe:g=f=>Y (h.symm.trans e))]
   ·let Z:(g==k)=false:=beq_eq_false_iff_ne.mpr h
    simp only [Uw,Z];show U
theorem q_ (f:Str)(v:V):∀Y:List (Str×V),f∈(dC f v Y).map (·.1)/\∀g,g∈Y.map (·.1)->g∈(dC f v Y).map (·.1)
 | []=>#[by simp [dC],λg h=>by simp at h]
 | (k,x)::r=>by
  let(U,X):=q_ f v r;rw [show dC f v ((k,x)::r)=(if k=f then (k,v)::r else (k,x)::dC f v r) from rfl];by_cases Z:k=f
  ·rw [jY Z]
   subst Z;show#[by simp,λg h=>by simpa using h]
  ·rw [iO Z]
   show#[?_,λg h=>?_]
   ·rw [M3]
    show MV _ U
   ·rw [M3] at h ⊢
    rcases P4.mp h with e|e
    ·show P4.mpr (.inl e)
    ·show MV _ (X g e)
theorem tF (f:Str)(v:V):∀Y:List (Str×V),(dC f v Y).length<=Y.length+1
 | []=>by simp [dC]
 | (k,x)::r=>by
  let X:=tF f v r;rw [show dC f v ((k,x)::r)=(if k=f then (k,v)::r else (k,x)::dC f v r) from rfl];by_cases Z:k=f
  ·rw [jY Z,Qz,Qz];omega
  ·rw [iO Z,Qz,Qz];omega
def j3.some_of (r:j3 (some v) o):∃u,o=some u/\RelV v u:=by
 cases o with
 | none=>show(show False from r).elim
 | some u=>show(u,O,r)
def j3.none_of (r:j3 none o):o=none:=by
 cases o with
 | none=>rfl
 | some u=>show(show False from r).elim
def abE (r:RelV v u):PySem.W.handedIn u=true:=by
 cases v with
 | cK=>cases (show u=Value.none from r);rfl
 | bl b=>cases (show u=Value.bool b from r);rfl
 | int i=>let(t,e):=(show ∃t,u=Value.int i t from r);cases e;rfl
 | str x=>let(t,e):=(show ∃t,u=Value.str x t from r);cases e;rfl
 | qD b=>let(t,e):=(show ∃t,u=Value.bytes b t from r);cases e;rfl
 | flt b=>let(t,e):=(show ∃t,u=Value.float b t from r);cases e;rfl
 | ref a=>cases (show u=Value.ref a from r);rfl
 | ty n=>cases (show u=Value.type n from r);rfl
section
variable {P:LS}{w:World}{H H':Hp}{h h':Heap}{a C dx:AZ}{fs fs':List (Str×V)}
def vh (X:mW P w H h)(e:H a=some (.ins C dx fs)):∃mA,AQ h a dx C mA/\(∀f,j3 (fs.lookup f) (mA f))/\PySem.Within mA (fs.map (·.1))/\fs.length<=1000/\H dx=some (.own a):=by
 let(d,z,Y,Z,mA,n,r,q):=(show dF P w H h a (.ins C dx fs) from X a _ e);show(mA,(Z,n,Y),r,q,z,d)
end
structure y_ (K:Frag)(C:AZ):Prop where
 pg:σ4 K C Str.empty=true
 hd:ZD K C=true
 po:ZY K C=true
 sa:P5 K (.ref C) "__setattr__"=some (some (.builtin "object.__setattr__"))
def y_.get {K:Frag}(c:y_ K C)(f:Str):σ4 K C f=true:=c.pg
def e_ (K:Frag)(C:AZ)(f:Str):Prop:=P5 K (.ref C) f=some none
def e_.afU {K:Frag}(n:e_ K C f):PySem.W.takerIn K C f=some none:=by
 unfold PySem.W.takerIn;rw [show P5 K (.ref C) f=some none from n];rfl
structure Meth (K:Frag)(C:AZ)(m:Str)(f:AZ):Prop where
 at_:P5 K (.ref C) m=some (some (.ref f))
 fn:Zy K (.ref f)=true
 kp:keepIn K (.ref f)=true
section
variable {X:Cx}{AO:θ}{Y:St}{H:Hp}{s:G_}{a C dx:AZ}{fs:List (Str×V)}{f:Str}{v:V}{A:Mf}{E:δ}
def aau {Q:δ}(I:Inv X AO Y H s)(e:H a=some (.ins C dx fs))(c:y_ X.K C)(n:e_ X.K C f)(l:fs.lookup f=some v)
  (h:∀u U,Inv X AO Y H U ->RelV v u->Q u U):DA (DW X.prog X.w) A (getAttr (.ref a) f b) Q E s:=by
 let(S,Z,r,_,_,_):=vh I.cg e;let(u,R,T):=j3.some_of (v:=v) (o:=S f) (by rw [<-l];show r f);show get_map I.yb Z (c.get f) c.hd n R (abE T) (h u _ (I.tok _) T)
def nM (I:Inv X AO Y H s)(e:H a=some (.ins C dx fs))(c:y_ X.K C)(k:Meth X.K C m g)(l:fs.lookup m=none)
  (h:Q (.ref g,[.ref a]) s):DA (DW X.prog X.w) A (getMethod (.ref a) m pl) Q E s:=by
 let(U,Z,r,_,_,_):=vh I.cg e;let T:U m=none:=j3.none_of (by rw [<-l];show r m);show afi I.yb Z (c.get m) k.at_ k.fn T h
def aaF (I:Inv X AO Y H s)(e:H a=some (.ins C dx fs))(c:y_ X.K C)(n:e_ X.K C f)(m:fs.length<1000)(p:RelV y u)
  (h:∀S,Inv X AO Y (upd H a (.ins C dx (dC f y fs))) S ->Q () S):DA (DW X.prog X.w) A (setAttr (.ref a) f u) Q E s:=by
 let(R,Z,r,T,_,M):=vh I.cg e;let N:(fs.map (·.1)).length<=HZ:=by rw [Wp,sizeLine_eq];omega
 show aew I.yb Z c.sa c.po n.afU c.hd T N λD U P=>h _ ?_;let J:∃o,D.get? dx=some o:=let ⟨o,_,_,B,_⟩:=U.ns;#[o,B];show I.write (x:=a) (e:=dx) (by rw [e];show True.intro) (.inr M) (λb q G z=>(P.2 b G).trans z) J ?_;show(by rwa [ag Z.ne],?_,Z.ne,U.obj,_,U.ns,λg=>?_,λg L=>?_)
 ·have:=tF f y fs;omega
 ·change j3 ((dC f y fs).lookup g) (if g=f then some u else R g)
  rw [tE];by_cases q:g=f
  ·rwa [jY q,jY q]
  ·rw [iO q,iO q];show r g
 ·by_cases q:g=f
  ·rw [q];show(q_ f y fs).1
  ·show(q_ f y fs).2 g (T g λz=>L ?_)
   change (if g=f then some u else R g)=none;rwa [iO q]
def Inv.made (I:Inv X AO Y H s):Inv X AO Y (upd (upd H s.heap.objs.size (.own (s.heap.objs.size+1))) (s.heap.objs.size+1) (.ins C s.heap.objs.size []))
  {s with heap:=(s.heap.push UK).push (UJ C s.heap.objs.size)}:=by
 let U:(s.heap.push UK).get? s.heap.objs.size=some UK:=QL s.heap rfl
 let Q:((s.heap.push UK).push (UJ C s.heap.objs.size)).get? (s.heap.objs.size+1)=some (UJ C s.heap.objs.size):=by
  have:=QL (s.heap.push UK) (o:=UJ C s.heap.objs.size) rfl
  rwa [ZW] at this
 let R:(s.heap.push UK).Ns s.heap.objs.size (λ_=>none):=(UK, #[],_,U,O,(λe S=>DB S fN),λ_=>O);let P:=I.laid (a:=s.heap.objs.size) (o:=.own (s.heap.objs.size+1)) (h':=s.heap.push UK) (t':=s.toks) (λb u q=>LM _ q) (DX _) #[_,U];show P.laid (a:=s.heap.objs.size+1) (o:=.ins C s.heap.objs.size []) (t':=s.toks) (λb u q=>LM _ q) (O8 (ZW _ _)) ?_;let Z:s.heap.objs.size≠s.heap.objs.size+1:=P6 (Qg _);show(by rw [ag Z,af],P1 _,Z,Q,λ_=>none,(Heap.Ns1.of_empty R).at λo q=>LM _ q,λ_=>True.intro,λy T=>DB rfl T)
def akO {Q:δ}(U:Wq e f env (II e env)=II e env)
  (h:DA (DW prog w) A (II e env) (λo Z=>DA (DW prog w) A (getAttr o f true) Q E Z) E s):DA (DW prog w) A (II (.Attribute e f pos) env) Q E s:=
 Attribute_any_ h (by rw [arm_eval_Attribute,U])
end
inductive aba (K:Frag)(f:Str)(Q:VK)(x:V)(Y:Hp):Prop
|mk (a C X Z v:_)(_:x=.ref a)(_:Y a=some (.ins C X Z))(_:y_ K C)(_:e_ K C f)(_:Z.lookup f=some v)(_:Q v Y)
def afV (K:Frag)(Z:TE)(f:Str):TE:=λY H Q=>Z Y H (aba K f Q)
inductive abb (K:Frag)(f:Str)(D:Ends)(Y:St)(y:V)(x:V)(U:Hp):Prop
|mk (a C X Z:_)(_:x=.ref a)(_:U a=some (.ins C X Z))(_:y_ K C)(_:e_ K C f)(_:Z.length<1000)(_:D.nx Y (upd U a (.ins C X (dC f y Z))))
def aco (K:Frag)(Z:TE)(f:Str)(D:Ends)(Y:L2.St)(y:V)(X:Hp):Prop:=Z Y X (abb K f D Y y)
def aon (K:Frag)(X Z:TE)(f:Str):TS:=λD Y H=>Z Y H (aco K X f D Y)
section
variable {X:Cx}{o e value:Expr}{f:Str}{pos pos' AR:Pos}{ta tv:TE}
def bx (T:PE X e ta)(S:Wq e f X.env (II e X.env)=II e X.env):PE X (.Attribute e f pos) (afV X.K ta f):=by
 intro J s Y H Q I h;show akO S (cJ (T J s Y H _ I h) λu D ⟨x,L,M,Z,a,C,A,B,v,R,P,c,n,l,q⟩=>?_);subst R;obtain rfl:u=Value.ref a:=Z;show aau M P c n l λG E N U=>(v,L,N,U,q)
def jB (M:PE X o ta)(P:PE X value tv)(N:Vw value (some (.Attribute o f pos')) pos.line X.env=pure false):PS X (.Assign [.Attribute o f pos'] value pos) (aon X.K ta tv f):=by
 intro Z s Y H D I h;show plainObj_wpAny_Assign_Attribute (cJ (P Z s Y H _ I h) λu U ⟨y,A,B,T,q⟩=>cJ (M Z U Y A _ B q) λQ w ⟨x,k,E,S,a,C,m,p,L,J,c,n,l,R⟩=>?_) N;subst L;obtain rfl:Q=Value.ref a:=S;show aaF E J c n l T λz G=>(Y,_,G,R)
end
structure cp (k:Nat)(A:Mf):Prop where
 hd:A.handled=none
 dp:A.depth+3*k+5<ZE
 un:A.units+16*k+200<Qu
def cp.mono (r:cp k A)(h:j<=k):cp j A:=(r.hd,by have:=r.dp;omega,by have:=r.un;omega)
theorem cp.deeper (r:cp (k+1) A)(Z:Env):cp k (A.deeper Z):=
 (r.hd,by have:=r.dp;change A.depth+1+3*k+5<_;omega,by have:=r.un;change A.units+3+16*k+200<_;omega)
def aaD {A:Mf}{us:ρ}:(A.under (.builtin "type.__call__" #[.ref C::us,kw])).depth=A.depth+1:=by
 first|rfl|simp [Around.under,Code.weight,Code.isCreation,Code.isGuard,Code.isCaller,Code.frames,Code.isFrame,guardIds]
def aa_ {A:Mf}{us:ρ}:(A.under (.builtin "type.__call__" #[.ref C::us,kw])).units=A.units+1:=by
 first|rfl|simp [Around.under,Code.cUnits,Code.frames,Code.isFrame]
def cp.make (r:cp (k+1) A)(C:AZ)(us:ρ)(Z:List (Str×Value)):cp k (A.under (.builtin "type.__call__" #[.ref C::us,Z])):=
 (r.hd,by have:=r.dp;rw [aaD];omega,by have:=r.un;rw [aa_];omega)
theorem cp.depth (r:cp k A):A.depth<ZE:=by have:=r.dp;omega
theorem cp.units (r:cp k A):A.units+64<Qu:=by have:=r.un;omega
def iN:TA:=λ_ H Q=>Q [] H
def gA (Q:(List V->Hp->Prop))(x:V)(xs:γ)(Z:Hp):Prop:=Q (x::xs) Z
def gB (Z:TA)(Y:L2.St)(Q:(List V->Hp->Prop))(x:V)(X:Hp):Prop:=Z Y X (gA Q x)
def tG (X:TE)(Z:TA):TA:=λY H Q=>X Y H (gB Z Y Q)
section
variable {X:Cx}{e:Expr}{es:Α}{te:TE}{t:TA}{pos:Pos}
def gC:PA X [] iN:=λ_ _ _ _ H Q I h=>pZ ([],H,I,.nil,h)
def akN (L:PE X e te)(M:PA X es t)(N:JF (e::es) X.env=(false,II e X.env)::JF es X.env:=by rfl):PA X (e::es) (tG te t):=by
 intro pos Z s Y H Q I h;rw [N];change DA _ _ (spliced ((false,II e X.env)::QG pos (JF es X.env))) _ _ s;show Zg (cJ (L Z s Y H _ I h) λu U ⟨x,D,G,S,P⟩=>?_);show cJ (M pos Z U Y D _ G P) λC B ⟨xs,E,J,T,R⟩=>(x::xs,E,J,.cons S T,R)
def acp (Q:VK)(xs:γ)(Z:Hp):Prop:=xs.length<=HZ/\∀p,Z p=none->Q (.ref p) (upd Z p (.tup xs))
def aoo (t:TA):TE:=λY H Q=>t Y H (acp Q)
def acq (Q:VK)(xs:γ)(Z:Hp):Prop:=xs.length<=HZ/\∀p,Z p=none->Q (.ref p) (upd Z p (.lst xs))
def aop (t:TA):TE:=λY H Q=>t Y H (acq Q)
def a_ (h:PA X es t):PE X (.Tuple es x1 pos) (aoo t):=by
 intro N s Y H Q I R;show wpAny_Tuple_spliced (cJ (h pos N s Y H _ I R) λS Z ⟨xs,T,U,r,z,q⟩=>#[by rwa [<-r.length],?_]);let P:T Z.heap.objs.size=none:=U.cg.fresh (DX _);show(.ref Z.heap.objs.size,upd T Z.heap.objs.size (.tup xs),U.laid (t':=Z.toks) (λb u e=>LM _ e) (DX _) ?_,O,q _ P);show(z,S,r,(_,QL _ rfl,O,_,O))
def bS (h:PA X es t):PE X (.List es pos) (aop t):=by
 intro N s Y H Q I R;show wpAny_List_spliced (cJ (h pos N s Y H _ I R) λS Z ⟨xs,T,U,r,z,q⟩=>#[by rwa [<-r.length],?_]);let P:T Z.heap.objs.size=none:=U.cg.fresh (DX _);show(.ref Z.heap.objs.size,upd T Z.heap.objs.size (.lst xs),U.laid (t':=Z.toks) (λb u e=>LM _ e) (DX _) ?_,O,q _ P);show(z,S,0,r,QL _ rfl)
end
abbrev Sp:=List V->Hp->VK->XK->Prop
abbrev oI:=List Env->Hp->G_->XK->Value->G_->Prop
structure LQ (P:LS)(w:World)(K:Frag)(mg:ι)(gN:Heap)(A:Mf)(gV:List Env)(s:G_)(H:Hp):Prop where
 frames:A.frames=some gV
 mod:Mod K mg gN
 bs:∀b o,gN.get? b=some o->s.heap.get? b=some o/\H b=none
 YV:gN.objs.size<=s.heap.objs.size
 ug:s.heap.FunFrames gN gV
 frf:∀b∈NR gV,H b=none
 cg:mW P w H s.heap
 bare:Va s.gens
def CE (X:List Env)(P:LS)(w:World)(H:Hp)(s:G_)(Q:VK)(u:Value)(Z:G_):Prop:=
 ∃v Y,Z.os=s.os/\Va Z.gens/\Un (NR X) [] H Y s.heap Z.heap/\mW P w Y Z.heap/\RelV v u/\Q v Y
def CR (CX:oI)(Y:List Env)(P:LS)(w:World)(H:Hp)(s:G_)(Q:VK)(E:XK)(r:Result)(Z:G_):Prop:=
 match r with
 | .ok (.ret u)=>CE Y P w H s Q u Z
 | .ok _=>False
 | .error e=>CX Y H s E e Z
structure cO (P:LS)(w:World)(K:Frag)(mg:ι)(gN:Heap)(CX:oI)(k:Nat)(f:AZ)(fd:FuncData)(ps:τ)(sp:Sp):Prop where
 len:∀vs H Q E,sp vs H Q E->vs.length=ps.length
 run:∀(A:Mf)(gV:List Env)(s:G_)(H:Hp)(args:Args)(us:ρ)(vs:γ)(Q:VK)(E:XK),cp k A->LQ P w K mg gN A gV s H->BindsTo s fd args (ps.zip us)->Vals vs us->sp vs H Q E->
  T8 (DW P w) A (.call (.ref f) args) (CR CX gV P w H s Q E) s
theorem cO.mono {K:Frag}(F:cO P w K mg gN CX j f fd ps sp)(h:j<=k):
  cO P w K mg gN CX k f fd ps sp:=#[F.len,λA U s H args Y Z Q E X=>F.run A U s H args Y Z Q E (X.mono h)]
def cO.imp {K:Frag}(F:cO P w K mg gN CX k f fd ps sp)
  (h:∀vs H Q E,sp' vs H Q E->sp vs H Q E):cO P w K mg gN CX k f fd ps sp':=
 #[λvs H Q E q=>F.len vs H Q E (h _ _ _ _ q),λA R s H args Z vs Q E U T S Y X=>F.run A R s H args Z vs Q E U T S Y (h _ _ _ _ X)]
def LQ.make {K:Frag}(e:LQ P w K mg gN A gV s H)(C:AZ)(us:ρ)(Z:List (Str×Value)):
  LQ P w K mg gN (A.under (.builtin "type.__call__" #[.ref C::us,Z])) gV s H:=(by first|show e.frames|(simpa [Around.under,Code.envs,Code.isFrame,pushEnvs] using e.frames),e.mod,e.bs,e.YV,e.ug,e.frf,e.cg,e.bare)
section
variable {X:Cx}{AO:θ}{Y:St}{H:Hp}{s s':G_}
def Inv.afW (I:Inv X AO Y H s):LQ X.prog X.w X.K X.mg X.gN X.A X.stack s H:=
 (I.ok.frames,I.ok.mod,I.bs,GX I.ok.YV I.sz,I.stack,I.NS,I.cg,I.bare)
def Inv.after (I:Inv X AO Y H s)(h:CE X.stack X.prog X.w H s Q u s'):EP X AO Y Q u s':=by
 let(v,P,os,Z,T,R,r,q):=h;let(S,g,d,t,U):=s';obtain rfl:U=s.os:=os;show(v,P,I.call (h':=S) (g':=g) (d':=d) (t':=t) (ch:=[]) T R Z (λb z=>DB z fN),r,q)
end
def gF (Z:Sp)(qu:γ)(E:XK)(Q:VK)(vs:γ)(Y:Hp):Prop:=Z (vs++qu) Y Q E
def N2 (Z:Sp)(qu:γ)(E:XK)(t:TA):TE:=λY H Q=>t Y H (gF Z qu E Q)
def aeG (C:AZ)(X:Sp)(qu:γ)(E:XK)(Q:VK)(vs:γ)(Y:Hp):Prop:=∀x Z,Y x=none->Y Z=none->Z≠x->X (.ref x::(vs++qu)) (upd (upd Y Z (.own x)) x (.ins C Z [])) (λv U=>v=.cK/\Q (.ref x) U) E
def abc (C:AZ)(Z:Sp)(qu:γ)(E:XK)(t:TA):TE:=λY H Q=>t Y H (aeG C Z qu E Q)
def Binds (K:Frag)(Y:FuncData)(ps:τ)(ds:ρ):Prop:=
 ∀(s:G_)(Z:ρ),K.In s.heap->(Z++ds).length=ps.length->BindsTo s Y #[Z,[]] (ps.zip (Z++ds))
def Binds.all {K:Frag}(h:∀us:List Value,us.length=ps.length->bindArgs fd #[us,[]]=pure (ps.zip us)):Binds K fd ps []:=λs us _ Z=>by
 rw [amx] at Z ⊢;show .of_eq (h us Z)
def Passes (CX:oI)(X:Cx)(E:XK):Prop:=∀(U:θ)(Y:St)(H:Hp)(s:G_)(e:Value)(Z:G_),Inv X U Y H s->CX X.stack H s E e Z ->X.xe e Z
section
variable {X:Cx}{CX:oI}{k:Nat}{f C:AZ}{fd:FuncData}{ps:τ}{sp:Sp}{qu:γ}{ds:ρ}{E:XK}{x m:Str}{p pos apos:Pos}{e o:Expr}{es:Α}{ta:TE}{t:TA}
def AS {Y:St}{us:ρ}{vs:γ}(F:cO X.prog X.w X.K X.mg X.gN CX k f fd ps sp)(R:cp k X.A)(M:Binds X.K fd ps ds)(N:Vals qu ds)(S:Passes CX X E)
  (I:Inv X AO Y H s) (r:Vals vs us) (h:sp (vs++qu) H Q E):DA (DW X.prog X.w) X.A (call (.ref f) us) (EP X AO Y Q) X.xe s:=by
 let U:Vals (vs++qu) (us++ds):=r.append N;let P:(us++ds).length=ps.length:=by rw [<-U.length];show F.len _ _ _ _ h
 show wpAny_call (codeAny_mono (F.run X.A X.stack s H #[us,[]] (us++ds) (vs++qu) Q E R I.afW (M s us I.yb P) U h) λr T Z=>?_);cases r with
 | error e=>show S AO Y H s e T I Z
 | ok L=>
  cases L with
  | ret u=>show I.after Z
  | next=>show False.elim Z
  | brk=>show False.elim Z
  | cont=>show False.elim Z
def aeE (F:cO X.prog X.w X.K X.mg X.gN CX k f fd ps sp)(S:cp k X.A)(N:Gl X x)(R:X.mg x=some (.ref f))(P:keepIn X.K (.ref f)=true)(J:Binds X.K fd ps ds)(L:Vals qu ds)(T:Passes CX X E)
  (G:PA X (e::es) t) (D:(x==("__debug__":Str))=false:=by decide) (M:JF (e::es) X.env=(false,II e X.env)::JF es X.env:=by rfl) (U:(QG pos (JF es X.env)).any (·.1)=false:=by rfl):
  PE X (.Call (.Name x p) (e::es) [] pos) (N2 sp qu E t):=by
 intro B s Y H Q I h;show Zf (oP I N R ?_ D);show N4 (h₀:=X.gN) I.ok.mod.kin P (cJ (G pos B s Y H _ I h) λy u ⟨z,j,Z,r,q⟩=>#[Z.yb,?_]) M U;show AS F S J L T Z r q
structure Mk (K:Frag)(C f:AZ):Prop where
 makes:Wg K C=true
 init:P5 K (.ref C) "__init__"=some (some (.ref f))
 fn:Zy K (.ref f)=true
 kp:keepIn K (.ref C)=true
def afs {Y:St}{us:ρ}{vs:γ}(M:Mk X.K C f)(F:cO X.prog X.w X.K X.mg X.gN CX k f fd ps sp)(G:cp (k+1) X.A)(z:Binds X.K fd ps ds)(B:Vals qu ds)
  (J:Passes CX X E) (I:Inv X AO Y H s) (r:Vals vs us)
  (h:∀x U,H x=none->H U=none->U≠x->sp (.ref x::(vs++qu)) (upd (upd H U (.own x)) x (.ins C U [])) (λv j=>v=.cK/\Q (.ref x) j) E):
  DA (DW X.prog X.w) X.A (call (.ref C) us) (EP X AO Y Q) X.xe s:=by
 let R:=h (s.heap.objs.size+1) s.heap.objs.size (I.cg.fresh (N3 _)) (I.cg.fresh (DX _)) (P6 (Qg _));let T:=Inv.made (C:=C) I;let S:Vals (V.ref (s.heap.objs.size+1)::(vs++qu)) (Value.ref (s.heap.objs.size+1)::(us++ds)):=.cons rfl (r.append B)
 let D:(Value.ref (s.heap.objs.size+1)::us++ds).length=ps.length:=by
  let e:=S.length;rw [F.len _ _ _ _ R] at e;show e.symm
 show wpAny_call (afg (f:=f) I.yb M.makes M.init (beq_iff_eq.mp M.fn) (codeAny_mono (F.run _ X.stack _ _ #[Value.ref (s.heap.objs.size+1)::us,[]] (Value.ref (s.heap.objs.size+1)::(us++ds)) _ _ E (G.make C us [])
  (T.afW.make C us []) (z _ (Value.ref (s.heap.objs.size+1)::us) T.yb D) S R) λr P Z =>?_))
 cases r with
 | error e=>show J AO Y _ _ e P T Z
 | ok y=>
  cases y with
  | ret u=>
   let(v,i,q,N,ev,L):=T.after Z;subst ev;show#[N,(V.ref (s.heap.objs.size+1),i,q,O,L)]
  | next=>show False.elim Z
  | brk=>show False.elim Z
  | cont=>show False.elim Z
def amF (M:Mk X.K C f)(F:cO X.prog X.w X.K X.mg X.gN CX k f fd ps sp)(S:cp (k+1) X.A)(P:Gl X x)(R:X.mg x=some (.ref C))(J:Binds X.K fd ps ds)(L:Vals qu ds)(T:Passes CX X E)
  (G:PA X (e::es) t) (D:(x==("__debug__":Str))=false:=by decide) (N:JF (e::es) X.env=(false,II e X.env)::JF es X.env:=by rfl) (U:(QG pos (JF es X.env)).any (·.1)=false:=by rfl):
  PE X (.Call (.Name x p) (e::es) [] pos) (abc C sp qu E t):=by
 intro B s Y H Q I h;show Zf (oP I P R ?_ D);show N4 (h₀:=X.gN) I.ok.mod.kin M.kp (cJ (G pos B s Y H _ I h) λy u ⟨z,j,Z,r,q⟩=>#[Z.yb,?_]) N U;show afs M F S J L T Z r q
def aer (M:Mk X.K C f)(F:cO X.prog X.w X.K X.mg X.gN CX k f fd ps sp)(U:cp (k+1) X.A)(S:Gl X x)(T:X.mg x=some (.ref C))(P:Binds X.K fd ps ds)(R:Vals qu ds)(Z:Passes CX X E)
  (N:(x==("__debug__":Str))=false:=by decide):PE X (.Call (.Name x p) [] [] pos) (abc C sp qu E iN):=by
 intro L s Y H Q I h;show Zf (oP I S T ?_ N);show PySem.W.callWith_K0 I.yb M.kp (afs (us:=[]) M F U P R Z I .nil h)
end
structure aw (N P:τ)(sc:Scope):Prop where
 kind:sc.kind=.function
 co:sc.isCoroutine=false
 gen:sc.isGenerator=false
 nd:N.Nodup
 pre:N.take P.length=P
 par:∀x∈P,sc.names.lookup x=some .local\/sc.names.lookup x=some .cell
 acs:∀y∈sc.names,y.2≠.free
theorem ze {UI:Str->Option NameKind}:∀{binds:List (Str×Value)} {m:ι},(∀v,(x,v)∉binds)->bindL UI binds m x=m x
 | [],_,_=>rfl
 | (n,v)::r,m,h=>by
  unfold bindL;rw [ze λw Z=>h w (MV _ Z)];split
  ·have:x≠n:=by rintro rfl;show h v Mo
   simp [this]
  ·rfl
theorem zg {UI:Str->Option NameKind}:∀{binds:List (Str×Value)} {m:ι},(∀v,(x,v)∉binds)->bindC UI binds m x=m x
 | [],_,_=>rfl
 | (n,v)::r,m,h=>by
  unfold bindC;rw [zg λw Z=>h w (MV _ Z)];split
  ·rfl
  ·have:x≠n:=by rintro rfl;show h v Mo
   simp [this]
theorem zi {UI:Str->Option NameKind}:∀{P:τ} {vs:ρ} {i:Nat} {m:ι},P.Nodup->P[i]?=some x->vs[i]?=some v->UI x=some .local->
  bindL UI (P.zip vs) m x=some v
 | [],_,_,_,_,h,_,_=>by simp at h
 | _::_,[],_,_,_,_,h,_=>by simp at h
 | p::P,w::vs,0,m,X,Y,Z,U=>by
  simp at Y Z;subst Y;subst Z;change bindL UI ((p,w)::P.zip vs) m p=_;unfold bindL;rw [ze λv T=>(UG.mp X).1 (OF T).1,jY U];simp
 | p::P,w::vs,i+1,m,X,Y,Z,U=>by
  change bindL UI ((p,w)::P.zip vs) m x=_;unfold bindL;show zi (i:=i) (UG.mp X).2 (by simpa using Y) (by simpa using Z) U
theorem zk {UI:Str->Option NameKind}:∀{P:τ} {vs:ρ} {i:Nat} {m:ι},P.Nodup->P[i]?=some x->vs[i]?=some v->UI x≠some .local->
  bindC UI (P.zip vs) m x=some v
 | [],_,_,_,_,h,_,_=>by simp at h
 | _::_,[],_,_,_,_,h,_=>by simp at h
 | p::P,w::vs,0,m,X,Y,Z,U=>by
  simp at Y Z;subst Y;subst Z;change bindC UI ((p,w)::P.zip vs) m p=_;unfold bindC;rw [zg λv T=>(UG.mp X).1 (OF T).1,iO U];simp
 | p::P,w::vs,i+1,m,X,Y,Z,U=>by
  change bindC UI ((p,w)::P.zip vs) m x=_;unfold bindC;show zk (i:=i) (UG.mp X).2 (by simpa using Y) (by simpa using Z) U
def start (N:τ)(vs:γ):St:=vs.map some++JB (N.length-vs.length) none
def nN (CX:oI)(P:LS)(w:World)(K:Frag)(mg:ι)(gN:Heap)(N:τ)(Y:Str)(Z:Scope)(f:AZ)(U:Value)(A:Mf)(gV:List Env)(s:G_)(H:Hp)(E:XK):Cx where
 prog:=P
 w:=w
 K:=K
 mg:=mg
 gN:=gN
 A:=A.deeper (Qv Y Z s.heap.objs.size f U)
 N:=N
 nI:=s
 H₀:=H
 env:=Qv Y Z s.heap.objs.size f U
 gV:=gV
 stack:=Qv Y Z s.heap.objs.size f U::gV
 ex:=[]
 calm:=true
 fn:=λ_=>true
 pn:=[]
 xe:=λe T=>DA (DW P w) (A.deeper (Qv Y Z s.heap.objs.size f U)) (leaving (Qv Y Z s.heap.objs.size f U) e) (λ_ X=>CX gV H s E e X) (λS X=>CX gV H s E S X) T
def afq {Z:Scope}(h:Z.names.lookup x=some .cell):∃c,(cellsFrom n Z.names []).lookup x=some c:=by
 let q:=PySem.W.cellsFrom_some Z.names n [] (.inl h);show ajv.mp q
def ac_ {K:Frag}{us:ρ}{vs:γ}
  (S:aw N ps scope) (G:A.handled=none) (Y:LQ P w K mg gN A gV s H) (o:vs.length=ps.length) (r:Vals vs us)
  (x:InCallC s s.heap.objs.size (bindL (Qv qual scope s.heap.objs.size f cd).kindOf (ps.zip us) λ_=>none) (cellsFrom (s.heap.objs.size+1) scope.names []) (bindC (Qv qual scope s.heap.objs.size f cd).kindOf (ps.zip us) λ_=>none) s1):
  Inv (nN CX P w K mg gN N qual scope f cd A gV s H E) [] (start N vs) H s1:=by
 let C:ps.length<=N.length:=by have:=ox Wy S.pre;rw [Me] at this;omega
 let(M,B,rfl,J):=x.done;let X:∀b:AZ,b∉(nN CX P w K mg gN N qual scope f cd A gV s H E).ex:=λb z=>DB (show b∈([]:List AZ) from z) fN
 show((Y.mod,S.kind,O,O,DX _,λy z c M Z=>?_,λy U=>?_,λy c _ h=>?_,λ_=>G,Around.frames_deeper Y.frames,.inr #[O,O],λb z=>DB z (X b),Y.bs,Y.YV,λb _ _=>X b,λb z=>DB z (X b),Y.ug,Y.frf),
  O,Y.bare,Un.kept J,(_,x.toInCall.ns,λi y v M Z m=>?_),λy c h=>#[_,x.cell y c h],Y.cg.fresh (DX _),λy c h=>?_,λp R=>DB (show p∈([]:List (AZ×Obj)) from R) fN,Y.cg.kept J,?_)
 ·show name_of_addr x.apart (yj M) (yj Z)
 ·let U:scope.names.lookup y=some .cell\/scope.names.lookup y=some .free:=U
  rcases U with U|U
  ·show afq U
  ·show DB rfl (S.acs _ (yj U))
 ·show Qr (x.above y c (yj h))
 ·let Q:i<vs.length:=by
   unfold start at Z;by_cases Q:i<vs.length
   ·show Q
   ·rw [Mg (by simpa using Q)] at Z
    rw [Vh] at Z;split at Z<;>cases Z
  let D:vs[i]?=some v:=by
   unfold start at Z;rw [MF (by simpa using Q),ir] at Z;cases e:vs[i]? with
   | none=>erw [e] at Z
   | some a=>erw [e] at Z;rfl
  let(u,L,I):=r.get D
  let R:ps[i]?=some y:=by
   rwa [<-S.pre,agW cr]
  let T:ps.Nodup:=by rw [<-S.pre];show S.nd.sublist (List.take_sublist _ _)
  show(u,I,?_)
  rcases S.par y (IH R) with k|k
  ·show .inl #[k,zi T R L k]
  ·let(c,e):=afq (n:=s.heap.objs.size+1) k
   show .inr (.inl k,c,e,?_);let q:=x.cell y c e;rw [zk T R L (by change scope.names.lookup y≠_;rw [k];decide)] at q;show q
 ·show Y.cg.fresh (Qr (x.above y c (yj h)))
 ·unfold start
  change _=N.length;rw [JG,Wp,YU];omega
def zo {K:Frag}{g kV L i Y c oc:Value}{a od:Ζ}
  {vH:Ι}   (lk:K.lookup f=some (oc,od,.func (fnOf name qual params body scope g kV L i a Y c),vH)) (oO:codeIn K Y qual=true) (S:aw N ps scope)
  (T:∀vs H Q E,sp vs H Q E->vs.length=ps.length)
  (gG:∀(A:Mf)(U:List Env)(s:G_)(H:Hp)(vs:γ)(Q:VK)(E:XK),cp k (A.deeper (Qv qual scope s.heap.objs.size f Y))->sp vs H Q E->
   ∃t,qv (nN CX P w K mg gN N qual scope f Y A U s H E) body t/\t {nx:=λ_ Z=>Q .cK Z,rt:=Q} (start N vs) H):
  cO P w K mg gN CX (k+1) f (fnOf name qual params body scope g kV L i a Y c) ps sp:=by
 show#[T,λA U s H args us vs Q E z M hb r m=>?_];let hl:=T _ _ _ _ m;let KX:K.In s.heap:=M.mod.kin.keeps λb o e=>(M.bs b o e).1;let B:s.heap.NoLimit:=M.mod.nolimit.keeps λb o e=>(M.bs b o e).1
 let p:∀y∈ps.zip us,scope.names.lookup y.1=some .local\/(scope.names.lookup y.1=some .cell/\((cellsFrom (s.heap.objs.size+1) scope.names []).lookup y.1).isSome=true):=λ⟨n,v⟩ hy=>by
  rcases S.par n (OF hy).1 with q|q
  ·show .inl q
  ·show .inr #[q,PySem.W.cellsFrom_some _ _ _ (.inl q)]
 show codeAny_call_function z.depth (KX _ _ lk) rfl S.co S.gen rfl (PySem.W.codeRec_of KX oO) (hb _ _ _ _ ?_);show wpAny_newFunctionEnv_cells S.kind p λenv he j x=>?_;subst he;show#[B.keeps x.toInCall.keep,codeAny_func ?_];let(t,ht,hq):=gG A U s H vs Q E (z.deeper _) m;let I:Inv (nN CX P w K mg gN N qual scope f Y A U s H E) [] (start N vs) H j:=ac_ S z.hd M hl r x;show Qf (ht [] j (start N vs) H _ I hq) (λfl D X=>?_) λe D X=>X
 let R:∀{G :St} {Z:Hp} {v:V} {u:Value},Inv (nN CX P w K mg gN N qual scope f Y A U s H E) [] G Z D ->RelV v u->Q v Z ->CE U P w H s Q u D:=
  λ{G Z v u} J C q=>(v,Z,J.os,J.bare,J.gN,J.cg,C,q)
 cases fl with
 | ret u=>
  let(v,G,Z,J,C,q):=X;show R J C q
 | next=>
  let(G,Z,J,q):=X;show R (v:=V.cK) (u:=Value.none) J rfl q
 | brk=>
  let(_,_,_,q):=X;show False.elim q
 | cont=>
  let(_,_,_,q):=X;show False.elim q
section
variable {X:Cx}{x:Str}{p pos:Pos}{e:Expr}{es:Α}{t:TA}{id T:String}{r:List V->Hp->VK->Prop}
def afZ (r:List V->Hp->VK->Prop)(Q:VK)(vs:γ)(Z:Hp):Prop:=r vs Z Q
def tCB (r:List V->Hp->VK->Prop)(t:TA):TE:=λY H Q=>t Y H (afZ r Q)
def aS (C:lG X (.builtin id) r)(E:Gl X x)(G:X.mg x=none)(L:Qx x=some (.builtin id))(B:PA X (e::es) t)(J:x≠ "__name__":=by decide)(z:(x==("__debug__":Str))=false:=by decide)
  (D:JF (e::es) X.env=(false,II e X.env)::JF es X.env:=by rfl) (U:(QG pos (JF es X.env)).any (·.1)=false:=by rfl):PE X (.Call (.Name x p) (e::es) [] pos) (tCB r t):=by
 intro Z s Y H Q I h;show Zf (gZ I E G L ?_ J z);show PyProof.Rows.callWith_builtin1 (cJ (B pos Z s Y H _ I h) λR P ⟨S,y,A,N,M⟩=>C Z P Y y S R Q A N M) D U
def g_ (C:lG X (.type T) r)(E:Gl X x)(G:X.mg x=none)(L:Qx x=some (.type T))(B:PA X (e::es) t)(J:x≠ "__name__":=by decide)(z:(x==("__debug__":Str))=false:=by decide)
  (D:JF (e::es) X.env=(false,II e X.env)::JF es X.env:=by rfl) (U:(QG pos (JF es X.env)).any (·.1)=false:=by rfl):PE X (.Call (.Name x p) (e::es) [] pos) (tCB r t):=by
 intro Z s Y H Q I h;show Zf (gZ I E G L ?_ J z);show VJ (cJ (B pos Z s Y H _ I h) λR P ⟨S,y,A,N,M⟩=>C Z P Y y S R Q A N M) D U
end
end L2
namespace HT
open PySem PyProof.Rows
section
variable {prog:LS}{w:World}{A:Mf}{E:δ}{s:G_}
def HX (n d:Nat):Option Int->Nat
 | none=>d
 | some v=>if v<0 then (v+(n:Int)).toNat else min v.toNat n
def HY (n d:Nat):HX n d none=d:=rfl
def vi (n d k:Nat):HX n d (some (k:Int))=min k n:=by
 change (if (k:Int)<0 then ((k:Int)+(n:Int)).toNat else min (k:Int).toNat n)=min k n;rw [iO cr,amW]
end
end HT
namespace L2
open PySem PySem.Spec PyProof.Rows
abbrev TO:=St->Hp->(Option Int->Hp->Prop)->Prop
def PO (X:Cx)(e:Option Expr)(t:TO):Prop:=
 ∀(U:θ)(s:G_)(Y:St)(H:Hp)(Q:Option Int->Hp->Prop),Inv X U Y H s->t Y H Q->
  DA (DW X.prog X.w) X.A (evalPart e X.env) (λu T=>∃o Z,Inv X U Y Z T/\IsPart u o/\Q o Z) X.xe s
def aeA:TO:=λ_ H Q=>Q none H
inductive Uy (Q:(Option Int->Hp->Prop))(x:V)(Z:Hp):Prop
|mk (i:_)(_:x=.int i)(_:Q (some i) Z)
def af0 (t:TE):TO:=λY H Q=>t Y H (Uy Q)
section
variable {X:Cx}{e:Expr}{te:TE}{lo hi:Option Expr}{tl th:TO}{pos p2:Pos}
def eM:PO X none aeA:=by
 intro Z s Y H Q I h;rw [evalPart_none];show LN (none,H,I,.none,h)
def dD (h:PE X e te):PO X (some e) (af0 te):=by
 intro P s Y H Q I T;rw [evalPart_some];show cJ (h P s Y H _ I T) λu N ⟨x,R,S,Z,U⟩=>?_;let(i,rfl,q):=U;let(t,rfl):=Z;show(some i,R,S,.int i t,q)
def SlR (X:Cx)(r:Θ):Prop:=
 ∀(S:θ)(s:G_)(Y:St)(H:Hp)(x:V)(v vl Z:Value)(lo hi:Option Int)(U:AZ)(Q:VK),Inv X S Y H s->RelV x v->s.heap.IsSliceOf U vl Z .none->IsPart vl lo->IsPart Z hi->r x lo hi H Q->
  ∃T id,typeLookup (.type T) "__getitem__"=pure (some (.builtin id))/\s.TypeIs v T/\DA (DW X.prog X.w) X.A (getItem v (.ref U)) (EP X S Y Q) X.xe s
def af1 (r:Θ)(Q:VK)(x:V)(l:Option Int)(u:Option Int)(Z:Hp):Prop:=r x l u Z Q
def af2 (r:Θ)(th:TO)(Y:L2.St)(Q:VK)(x:V)(l:Option Int)(Z:Hp):Prop:=th Y Z (af1 r Q x l)
def af3 (r:Θ)(tl:TO)(th:TO)(Y:L2.St)(Q:VK)(x:V)(Z:Hp):Prop:=tl Y Z (af2 r th Y Q x)
def tSl (r:Θ)(te:TE)(tl th:TO):TE:=λY H Q=>te Y H (af3 r tl th Y Q)
def cX (z:SlR X r)(o:PE X e te)(y:PO X lo tl)(C:PO X hi th):PE X (.Subscript e (.Slice lo hi none p2) pos) (tSl r te tl th):=by
 intro U s Y H Q I h;show Subscript_ (cJ (o U s Y H _ I h) λv N ⟨x,c,g,M,G⟩=>?_);show wpAny_Slice (cJ (y U N Y c _ g G) λvl P ⟨l,f,i,D,J⟩=>cJ (C U P Y f _ i J) λS Z ⟨u,R,j,E,L⟩=>?_);rw [evalPart_none];show LN ?_;let k:Inv X U Y R {Z with heap:=Z.heap.push {cls:=.type "slice",data:=.fields (List.toArray [vl,S,.none])}}:=j.kept (t':=Z.toks) λb a q=>LM _ q;let(T,id,m,B,p):=z U {Z with heap:=Z.heap.push {cls:=.type "slice",data:=.fields (List.toArray [vl,S,.none])}} Y R x v vl S l u Z.heap.objs.size Q k M (Heap.IsSliceOf.new ..) D E L;change DA (DW X.prog X.w) X.A (subscriptTail e (.Slice lo hi none p2) v (.ref Z.heap.objs.size)) (EP X U Y Q) X.xe {Z with heap:=Z.heap.push {cls:=.type "slice",data:=.fields (List.toArray [vl,S,.none])}};show tail_any (ops:=[.ref Z.heap.objs.size,v]) B m p (by with_unfolding_all rfl)
def j6 (xs:γ)(lo hi:Option Int):List V:=(xs.drop (HT.HX xs.length 0 lo)).take (HT.HX xs.length xs.length hi-HT.HX xs.length 0 lo)
def aaw (xs:γ)(lo hi:Option Int):(j6 xs lo hi).length<=xs.length:=by
 unfold j6;rw [Me,Ux];omega
end
def LR (n:Nat)(i:Int):Option Nat:=if 0<=i then (if i<n then some i.toNat else none) else if -(n:Int)<=i then some (i+n).toNat else none
def iP {Z:Type}(xs:List Z)(i:Int):Option Z:=(LR xs.length i).bind λj=>xs[j]?
def aky (h:LR n i=some j):seqIndex? i n=some j/\j<n/\ -(n:Int)<=i/\i<n:=by
 unfold LR at h;by_cases Y:0<=i
 ·rw [jY Y] at h
  by_cases Z:i<n
  ·rw [jY Z] at h
   let e:i.toNat=j:=QI h;show(by rw [seqIndex_of Y Z,e],cr,cr,Z)
  ·erw [iO Z] at h
 ·rw [iO Y] at h
  by_cases Z: -(n:Int)<=i
  ·rw [jY Z] at h
   let e:(i+n).toNat=j:=QI h;show(by rw [seqIndex_neg cr Z,e],cr,Z,cr)
  ·erw [iO Z] at h
def AU {v:Z}(h:iP xs i=some v):∃j,seqIndex? i xs.length=some j/\xs[j]?=some v/\j<xs.length/\ -(xs.length:Int)<=i/\i<xs.length:=by
 unfold iP at h;cases e:LR xs.length i with
 | none=>erw [e] at h
 | some j=>
  rw [e] at h;let(T,U,X,Y):=aky e;show(j,T,h,U,X,Y)
def bI {j:Nat}{v:Z}(h:xs[j]?=some v):iP xs (j:Int)=some v:=by
 let Y:j<xs.length:=(be.mp h).1
 let e:LR xs.length (j:Int)=some j:=by
  unfold LR;rw [jY cr,jY cr];simp
 unfold iP;rwa [e]
def aeX (xs:List Z)(v:Z):iP (xs++[v]) (-1)=some v:=by
 let Y:(xs++[v]).length=xs.length+1:=by simp
 let e:LR (xs++[v]).length (-1)=some xs.length:=by
  unfold LR;rw [Y,iO eY,jY cr];congr 1;omega
 unfold iP;rw [e];change (xs++[v])[xs.length]?=some v;simp
def akp (b:Expr):Prop:=∀o i,subscripted b false o i=operate [o,i] (getItem o i)
def IxR (X:Cx)(r:R2):Prop:=
 ∀(U Z:Expr)(T:θ)(s:G_)(Y:St)(H:Hp)(x y:V)(v u:Value)(Q:VK),Inv X T Y H s->RelV x v->RelV y u->r x y H Q->
  subscripted Z false v u=operate [v,u] (getItem v u)->DA (DW X.prog X.w) X.A (subscriptTail U Z v u) (EP X T Y Q) X.xe s
def MtR (X:Cx)(id:String)(r:Ξ):Prop:=
 ∀(U:θ)(s:G_)(Y:St)(H:Hp)(x:V)(xs:γ)(v:Value)(Z:ρ)(Q:VK),Inv X U Y H s->RelV x v->Vals xs Z->r x xs H Q->
  DA (DW X.prog X.w) X.A (call (.builtin id) (v::Z)) (EP X U Y Q) X.xe s
section
variable {X:Cx}{a b:Expr}{ta tb:TE}{pos:Pos}
def UA (R:IxR X r)(N:PE X a ta)(P:PE X b tb)(S:akp b):PE X (.Subscript a b pos) (tOp r ta tb):=by
 intro J s Y H Q I h;show Subscript_ (ack N P I h λv u Z x y L M T U q=>R a b J Z Y L x y v u Q M T U q (S _ _))
inductive σ7 (K:Frag)(x:V)(y:V)(H:Hp)(Q:VK):Prop
|mk (p xs i v:_)(_:x=.ref p)(_:y=.int i)(_:bh K H p xs)(_:iP xs i=some v)(_:Q v H)
inductive σ8 (K:Frag)(x:V)(y:V)(H:Hp)(Q:VK):Prop
|mk (p xs i v:_)(_:x=.ref p)(_:y=.int i)(_:bQ K H p xs)(_:iP xs i=some v)(_:Q v H)
inductive af4 (x:V)(y:V)(H:Hp)(Q:VK):Prop
|mk (z i c:_)(_:x=.str z)(_:y=.int i)(_:z.length<=HZ)(_:iP z.cps.toList i=some c)(_:Q (.str #[(List.toArray [c])]) H)
def aE:IxR X (σ7 X.K):=by
 intro T S J s Y H x y v u Q I D E h N;let(p,xs,i,z,rfl,rfl,C,A,q):=h;cases D;let(t,rfl):=E;let(f,r,R,c):=I.list C;let(j,U,k,h3,m,o):=AU A;let(w,L,g):=r.get k;let B:=r.length;let hn:=qZ;let Z:EP X J Y Q w s:=(z,H,I,g,q);by_cases M:0<=i
 ·let P:i.toNat=j:=by
   rw [seqIndex_of M o] at U;show QI U
  show item_listR R.isList M cr (by rw [P];simpa using L) Z N
 ·let P:(i+(f.toArray.size:Int)).toNat=j:=by
   rw [seqIndex_neg cr m] at U;rw [QE,<-B];show QI U
  show subscriptTail_builtinR (x:=w) R.isList.typeIs slot_list_getitem.lookup
   (wpAny_getItem_list_neg (Q:=λr G=>r=w/\EP X J Y Q r G) R.isList cr (by rw [QE]<;>omega) cr (by rw [P];simpa using L) #[O,Z]) N
def rg:IxR X (σ8 X.K):=by
 intro Z U R s Y H x y v u Q I M N h L;let(p,xs,i,z,rfl,rfl,J,E,q):=h;cases M;let(t,rfl):=N;let(c,r,S,A):=I.tuple J;let(j,f,D,g,k,m):=AU E;let(w,C,B):=r.get D;let G:=r.length;let o:=qZ;let T:EP X R Y Q w s:=(z,H,I,B,q)
 show subscriptTail_builtinR (x:=w) S.typeIs slot_tuple_getitem.lookup
  (getItem_tuple (j:=j) (Q:=λr P=>r=w/\EP X R Y Q r P) S cr cr (by rwa [QE,<-G]) (by simpa using C) #[O,T]) L
def acv:IxR X af4:=by
 intro Z U p s Y H x y v u Q I R S h P;let(z,i,c,rfl,rfl,B,M,q):=h;let(t,rfl):=R;let(C,rfl):=S;let(j,T,G,w,J,L):=AU M;let N:z.cps.toList.length=z.length:=by simp [Str.length]
 rw [N] at T J L;let A:=qZ
 show tail_any (typeIs_str s z t) slot_str_getitem.lookup (getItem_str (c:=c) (by
  let D:decide (i < -(2^63:Int))=false:=RI cr;let E:decide (i≥2^63)=false:=RI cr
  rw [D,E,anJ]) (by rw [T];simpa using G) (.str #[(List.toArray [c])],H,I.tok _,#[_,O],q)) P
def aaL (BC:ρ)(n j:Nat)(u:Value):VZ (·.setIfInBounds j u) {cls:=.type "list",data:=.seq BC.toArray n}={cls:=.type "list",data:=.seq (BC.set j u).toArray n}:=by
 simp [VZ]
theorem Inv.lst {Y:St}(I:Inv X AO Y H s)(h:H p=some (.lst xs)):
  ∃(BC:ρ)(n:Nat),Vals xs BC/\s.heap.get? p=some {cls:=.type "list",data:=.seq BC.toArray n}/\xs.length<=HZ:=by
 let(z,BC,n,r,e):=I.cg p _ h;show(BC,n,r,e,z)
def Inv.acw {Y:St}{xs ys:γ}{BC oH:ρ}(I:Inv X AO Y H s)(h:H p=some (.lst xs))
  (T:s.heap.get? p=some {cls:=.type "list",data:=.seq BC.toArray n}) (Z:f {cls:=.type "list",data:=.seq BC.toArray n}={cls:=.type "list",data:=.seq oH.toArray n'}) (r:Vals ys oH) (U:ys.length<=HZ) (t:Nat):
  Inv X AO Y (upd H p (.lst ys)) {s with heap:=s.heap.update p f,toks:=t}:=by
 let e:(s.heap.update p f).get? p=some {cls:=.type "list",data:=.seq oH.toArray n'}:=by
  rw [N5 f T (by rw [Z]<;>rfl),Z]
 show I.write (x:=p) (e:=p) (by rw [h];trivial) (.inl rfl) (λb u S q=>(σ6 _ _ (IL S)).trans q) #[_,e] ?_;show(U,oH,n',r,e)
inductive abd (o:V)(i:V)(v:V)(H:Hp)(Q:(Hp->Prop)):Prop
|mk (p xs k j:_)(_:o=.ref p)(_:i=.int k)(_:H p=some (.lst xs))(_:LR xs.length k=some j)(_:Q (upd H p (.lst (xs.set j v))))
def set_list:afL X abd:=by
 intro B s Y H o i v A z u Q I J G L h;let(p,xs,k,j,rfl,rfl,R,E,q):=h;cases J;let(t,rfl):=G;let(M,n,r,U,y):=I.lst R;let(Z,w,C,D):=aky E;let T:=r.length;let x:=qZ
 let N:Inv X B Y (upd H p (.lst (xs.set j v))) {s with heap:=s.heap.update p (VZ (·.setIfInBounds j u))}:=
  I.acw R U (aaL M n j u) (r.set L j) (by rwa [HN]) s.toks
 by_cases P:0<=k
 ·let S:k.toNat=j:=by
   rw [seqIndex_of P D] at Z;show QI Z
  show PySem.W.ki_setAt U P cr (by rwa [QE,<-T]) (by rw [S];show(_,N,q))
 ·let S:(k+(M.toArray.size:Int)).toNat=j:=by
   rw [seqIndex_neg cr C] at Z;rw [QE,<-T];show QI Z
  show PySem.W.ki_setBack U cr (by rwa [QE,<-T]) cr (by rw [S];show(_,N,q))
def kvs (lo Z:Option Int)(n:Nat):(WA lo Z none n).1=((HT.HX n 0 lo:Nat):Int)/\(WA lo Z none n).2.1=((HT.HX n n Z:Nat):Int)/\(WA lo Z none n).2.2=1:=by
 show(?_,?_,O)
 ·cases lo with
  | none=>simp [WA,HT.HX]
  | some i=>
   simp only [WA,HT.HX,am',show(1:Int) > 0 by decide,if_true];by_cases h:i<0
   ·simp only [h,if_true]<;>omega
   ·simp only [h,if_false]<;>omega
 ·cases Z with
  | none=>simp [WA,HT.HX]
  | some i=>
   simp only [WA,HT.HX,am',show(1:Int) > 0 by decide,if_true];by_cases h:i<0
   ·simp only [h,if_true]<;>omega
   ·simp only [h,if_false]<;>omega
def akv (BC:ρ)(lo Z:Option Int):slicePick BC.toArray lo Z none=((BC.drop (HT.HX BC.length 0 lo)).take (HT.HX BC.length BC.length Z-HT.HX BC.length 0 lo)).toArray:=by
 let(T,U,Y):=kvs lo Z BC.toArray.size;unfold slicePick;rw [T,U,Y];simp only [sliceRange_one,pick_run,QE]<;>rfl
inductive af5 (K:Frag)(x:V)(lo:Option Int)(Z:Option Int)(H:Hp)(Q:VK):Prop
|mk (a xs:_)(_:x=.ref a)(_:bh K H a xs)(_:∀p,H p=none->Q (.ref p) (upd H p (.lst (j6 xs lo Z))))
def eO:SlR X (af5 X.K):=by
 intro C s Y H x v vl J lo U G Q I S L P R h;let(a,xs,rfl,M,q):=h;cases S;let(D,r,T,N):=I.list M;let Z:=r.length;show("list",_,slot_list_getitem.lookup,T.isList.typeIs,wpAny_getItem_list_slice T.isList L P R .none fN ?_ (by rw [QE]<;>omega));rw [akv,<-Z];show(.ref s.heap.objs.size,_,I.laid (t':=s.toks) (o:=.lst (j6 xs lo U)) (λb E q=>LM _ q) (DX _) ?_,O,q _ (I.cg.fresh (DX _)));show(GX (aaw xs lo U) N,_,0,(r.drop (HT.HX xs.length 0 lo)).take (HT.HX xs.length xs.length U-HT.HX xs.length 0 lo),QL _ rfl)
def lH:V->Bool
 | .cK=>true
 | .bl _=>true
 | .int _=>true
 | .str _=>true
 | _=>false
def AW:V->V->Bool
 | .cK,.cK=>true
 | .bl a,.bl b=>a==b
 | .bl a,.int b=>(if a then 1 else 0)==b
 | .int a,.bl b=>a==(if b then 1 else 0)
 | .int a,.int b=>a==b
 | .str a,.str b=>a==b
 | _,_=>false
def UB (U:RelV y u)(Z:RelV x v)(S:lH y=true)(T:lH x=true):SeqAt.EqAt A s u v (AW y x):=by
 cases y with
 | cK=>
  cases U;cases x with
  | cK=>cases Z;show SeqAt.EqAt.same _
  | bl b=>cases Z;show SeqAt.EqAt.none_bool b
  | int b=>let(t,rfl):=Z;show SeqAt.EqAt.none_int b t
  | str b=>let(t,rfl):=Z;show SeqAt.EqAt.none_str b t
  | _=>show DB (show false=true from T) P7
 | bl a=>
  cases U;cases x with
  | cK=>cases Z;show SeqAt.EqAt.bool_none a
  | bl b=>cases Z;show SeqAt.EqAt.bool_bool a b
  | int b=>let(t,rfl):=Z;show SeqAt.EqAt.bool_int a b t
  | str b=>let(t,rfl):=Z;show SeqAt.EqAt.bool_str a b t
  | _=>show DB (show false=true from T) P7
 | int a=>
  let(Y,rfl):=U;cases x with
  | cK=>cases Z;show SeqAt.EqAt.int_none a Y
  | bl b=>cases Z;show SeqAt.EqAt.int_bool a Y b
  | int b=>let(t,rfl):=Z;show SeqAt.EqAt.int_int a Y b t
  | str b=>let(t,rfl):=Z;show SeqAt.EqAt.int_str a Y b t
  | _=>show DB (show false=true from T) P7
 | str a=>
  let(Y,rfl):=U;cases x with
  | cK=>cases Z;show SeqAt.EqAt.str_none a Y
  | bl b=>cases Z;show SeqAt.EqAt.str_bool a Y b
  | int b=>let(t,rfl):=Z;show SeqAt.EqAt.str_int a Y b t
  | str b=>let(t,rfl):=Z;show SeqAt.EqAt.str_str a Y b t
  | _=>show DB (show false=true from T) P7
 | _=>show DB (show false=true from S) P7
def σ9 (x:V)(u:Value):Bool:=match u with
 | .none=>AW .cK x
 | .bool b=>AW (.bl b) x
 | .int i _=>AW (.int i) x
 | .str z _=>AW (.str z) x
 | _=>false
def UC (r:RelV y u)(f:lH y=true):σ9 x u=AW y x:=by
 cases y with
 | cK=>cases r;rfl
 | bl b=>cases r;rfl
 | int i=>let(t,rfl):=r;rfl
 | str z=>let(t,rfl):=r;rfl
 | _=>show DB (show false=true from f) P7
theorem AX :∀{xs:γ} {us:ρ},Vals xs us->xs.all lH=true->us.any (σ9 x)=xs.any λy=>AW y x
 | _,_,.nil,_=>rfl
 | y::xs,u::us,.cons r t,f=>by
  rw [amM,uh] at f;rw [sG,sG,UC r f.1,AX t f.2]
theorem vI (Y:RelV x v)(U:lH x=true):∀{xs:γ} {us:ρ},Vals xs us->xs.all lH=true->∀u∈us,SeqAt.EqAt A s u v (σ9 x u)
 | _,_,.nil,_=>λu Z=>by cases Z
 | y::xs,u::us,.cons r t,f=>λT Z=>by
  rw [amM,uh] at f
  rcases P4.mp Z with rfl|Z
  ·rw [UC r f.1];show UB r Y f.1 U
  ·show vI Y U t f.2 T Z
def inV (x:V)(xs:γ):Bool:=xs.any λy=>AW y x
inductive rIn (K:Frag)(neg:Bool)(x:V)(y:V)(H:Hp)(Q:VK):Prop
|mk (p xs:_)(_:y=.ref p)(_:(bh K H p xs\/bQ K H p xs))(_:lH x=true)(_:xs.all lH=true)(_:Q (.bl (if neg then !inV x xs else inV x xs)) H)
def oR:mZ X (Qo .NotIn) (rIn X.K true):=by
 intro J s Y H x y v u Q I P M h;let(p,xs,rfl,Z,N,T,q):=h;cases M
 rcases Z with Z|Z
 ·let(U,r,S,L):=I.list Z
  show SeqAt.notIn_listAt (σ9 x) S.isList (λw R=>vI P N r T w (by simpa using R)) (.bl _,H,I,O,?_);rwa [show U.toArray.any (σ9 x)=U.any (σ9 x) by simp,AX r T]
 ·let(U,r,S,L):=I.tuple Z
  show SeqAt.notIn_tupleAt (σ9 x) S (λw R=>vI P N r T w (by simpa using R)) (.bl _,H,I,O,?_);rwa [show U.toArray.any (σ9 x)=U.any (σ9 x) by simp,AX r T]
def aG:lG X (.builtin "len") (λxs H Q=>∃p ys,xs=[.ref p]/\(bh X.K H p ys\/bQ X.K H p ys)/\Q (.int ys.length) H):=by
 intro J s Y H xs M Q I r h;let(p,ys,rfl,U,q):=h;let(u,rfl,R):=vals1 r;cases R;let L:=qZ
 rcases U with U|U
 ·let(N,T,S,P):=I.list U
  let Z:=T.length;show Calls.call_len_list S.isList (by simp only [QE]<;>omega) (.int ys.length,H,I.tok _,#[s.toks+1,by rw [QE,Z]],q)
 ·let(N,T,S,P):=I.tuple U
  let Z:=T.length;show len_tuple S (by simp only [QE]<;>omega) (.int ys.length,H,I.tok _,#[s.toks+1,by rw [QE,Z]],q)
def tyV (K:Frag)(T:String)(x:V)(H:Hp):Prop:=match x with
 | .str _=>T="str"
 | .int _=>T="int"
 | .ref p=>(T="list"/\∃xs,bh K H p xs)\/(T="tuple"/\∃o,K.lookup p=some o/\o.cls=.type "tuple"/\o.dict=none)\/
   (T="dict"/\((∃Z,H p=some (.dK Z))\/∃Z,H p=some (.dT Z)))\/(T="set"/\∃S n,H p=some (.set S n))
 | _=>False
def UD {Y:St}(I:Inv X AO Y H s)(r:RelV x v)(ty:tyV X.K T x H):
  s.TypeIs v T/\∀a,v=.ref a->∃N,s.heap.get? a=some N/\N.dict=none:=by
 cases x with
 | str z=>
  let(t,rfl):=r;cases (show T="str" from ty);show#[typeIs_str s z t,λ_ e=>nomatch e]
 | int i=>
  let(t,rfl):=r;cases (show T="int" from ty);show#[typeIs_int s i t,λ_ e=>nomatch e]
 | ref p=>
  cases r
  rcases ty with ⟨rfl,xs,M⟩|⟨rfl,o,Z,L,R⟩|⟨rfl,Z⟩|⟨rfl,S,n,Z⟩
  ·let(G,_,P,_):=I.list M
   show#[P.isList.typeIs,λa e=>?_];cases e;let(o,n,e,c,R,_):=P;show(o,e,R)
  ·show#[(o,I.yb p o Z,L),λa e=>?_]
   cases e;show(o,I.yb _ o Z,R)
  ·let z:∃o,s.heap.get? p=some o/\o.ExactDict:=by
    rcases Z with ⟨J,Z⟩|⟨J,Z⟩
    ·let(_,_,_,_,o,_,_,e,U,_):=I.cg p _ Z
     show(o,e,U)
    ·let(_,_,_,_,o,_,_,e,U,_):=I.cg p _ Z
     show(o,e,U)
   let(o,e,U):=z;show#[(o,e,U.1),λa Q=>?_];cases Q;show(o,e,U.2.1)
  ·let(o,_,_,_,e,U,_):=I.cg p _ Z
   show#[(o,e,U.1),λa Q=>?_];cases Q;show(o,e,U.2.1)
 | _=>show False.elim ty
def af6 (r:Ξ)(Q:VK)(x:V)(xs:γ)(Z:Hp):Prop:=r x xs Z Q
def af7 (K:Frag)(T:String)(r:Ξ)(t:TA)(Y:L2.St)(Q:VK)(x:V)(Z:Hp):Prop:=tyV K T x Z/\t Y Z (af6 r Q x)
def tBM (K:Frag)(T:String)(r:Ξ)(Z:TE)(t:TA):TE:=λY H Q=>Z Y H (af7 K T r t Y Q)
variable {o e:Expr}{es:Α}{to:TE}{t:TA}{name:Str}{apos fP:Pos}{T id:String}{r:Ξ}
def ku (w:PlainAttrs T)(Z:Slot T name id)(U:typeOf (.builtin id)=pure (.type "method_descriptor"))(p:MtR X id r)(q:PE X o to)(m:PA X (e::es) t)
  (E:Wq o name X.env (II o X.env)=II o X.env:=by rfl)
  (S:((QG fP (JF (e::es) X.env)).all (λx=> !x.1) && (backToKw fP (ZU [] X.env)).all (λx=>x.1.isSome)
   && decide ((e::es).length+([]:List Keyword).length+(if ([]:List Keyword).isEmpty then 0 else 1)<30))=true:=by rfl)
  (G:(apos.endLine==fP.line)=true:=by rfl) (u:JF (e::es) X.env=(false,II e X.env)::JF es X.env:=by rfl) (R:(QG fP (JF es X.env)).any (·.1)=false:=by rfl):
  PE X (.Call (.Attribute o name apos) (e::es) [] fP) (tBM X.K T r to t):=by
 intro P s Y H Q I h;show wpAny_Call_method_late E S G rfl (cJ (q P s Y H _ I h) λv B ⟨x,f,L,N,ty,y⟩=>?_);let(j,k):=UD L N ty;show(T,id,w,Z,U,j,k,?_);let M:=m fP P B Y f _ L y;rw [u] at M ⊢;show yu (by change (false || (QG fP (JF es X.env)).any (·.1))=false;rw [R]<;>rfl) (Calls.evalArgs_plain ?_);show cJ M λD C ⟨J,g,i,A,z⟩=>p P C Y g x J v D Q i N A z
end
def MtM (X:Cx)(id:String)(r:Ξ):Prop:=
 ∀(U:θ)(s:G_)(Y:St)(H:Hp)(x:V)(xs:γ)(v:Value)(Z:ρ)(Q:VK),Inv X U Y H s->RelV x v->Vals xs Z->r x xs H Q->
  DA (DW X.prog X.w) X.A (call (.builtin id) (v::Z)) (EP X U Y Q) X.xe s
def Vals.one:∀{x:V} {us:ρ},Vals [x] us->∃u,us=[u]/\RelV x u
 | _,_,.cons r .nil=>(_,O,r)
theorem Vals.rep {xs:γ}{us:ρ}(h:Vals xs us):∀k:Nat,Vals (JB k xs).flatten (JB k us).flatten
 | 0=>.nil
 | k+1=>by
  rw [uv,uv,ON,ON];show Vals.append h (Vals.rep h k)
theorem foldl_rep (BC:ρ):∀(k:Nat)(Z:ρ),
  anu (λX Y=>X++Y) Z.toArray (JB k BC.toArray)=(Z++(JB k BC).flatten).toArray
 | 0,Z=>by simp
 | k+1,Z=>by
  let e:Z.toArray++BC.toArray=(Z++BC).toArray:=by simp
  let U:(Z++BC)++(JB k BC).flatten=Z++(JB (k+1) BC).flatten:=by
   rw [uv,ON,ZO]
  rw [<-U,<-foldl_rep BC k (Z++BC),<-e,uv,List.foldl_cons]
section
variable {X:Cx}{AO:θ}{Y:St}{H:Hp}{s:G_}{l b:AZ}{xs ys zs:γ}
def Inv.acy {BC oH:ρ}(I:Inv X AO Y H s)(Q:H l=some (.lst xs))
  (e:s.heap.get? l=some {cls:=.type "list",data:=.seq BC.toArray n}) (S:f BC.toArray=oH.toArray) (U:Vals ys oH) (Z:ys.length<=HZ):
  Inv X AO Y (upd H l (.lst ys)) {s with heap:=s.heap.update l (VZ f),toks:=t'}:=by
 let q:=PySem.IsL.update e f;rw [S] at q;show I.write (x:=l) (e:=l) (by rw [Q];show trivial) (.inl rfl) (λP u R T=>(σ6 s.heap (VZ f) (IL R)).trans T) #[_,q] ?_;show(Z,oH,_,U,q)
def Inv.acz {BC:ρ}(I:Inv X AO Y H s)(Z:Vals ys BC)(hz:ys.length<=HZ):
  Inv X AO Y (upd H s.heap.objs.size (.lst ys)) {s with heap:=s.heap.push {cls:=.type "list",data:=.seq BC.toArray},toks:=t'}:=
 I.laid (λ_ _ q=>LM _ q) (DX _) (hz,BC,0,Z,QL _ rfl)
theorem Inv.fresh (I:Inv X AO Y H s):H s.heap.objs.size=none:=I.cg.fresh (DX _)
def Inv.rh (I:Inv X AO Y H s)(Z:H l=some (.lst xs)):xs.length<=HZ/\∃(BC:ρ)(n:Nat),Vals xs BC/\xs.length=BC.length/\s.heap.get? l=some {cls:=.type "list",data:=.seq BC.toArray n}:=by
 let(z,BC,n,r,e):=I.cg l _ Z;show(z,BC,n,r,r.length,e)
def vL (h:n<=HZ):vW n=false:=by
 unfold vW;show RI cr
end
section
variable {X:Cx}
inductive N6 (x:V)(vs:γ)(H:Hp)(Q:VK):Prop
|mk (l xs y:_)(_:x=.ref l)(_:vs=[y])(_:H l=some (.lst xs))(_:xs.length<HZ)(_:Q .cK (upd H l (.lst (xs++[y]))))
def eE:MtM X "list.append" N6:=by
 intro J s Y H x P v N Q I T S h;let(l,xs,y,rfl,rfl,Z,M,q):=h;cases T;let(u,rfl,R):=S.one;let(z,U,n,r,L,e):=I.rh Z;show rA F.slot_list_append (_,e,O) F.entry_list_append (F.args_list_append_2 _ _) (PySem.list_append l U.toArray n u (by rw [QE];omega)) #[e,?_];show(.cK,_,I.acy (oH:=U++[u]) Z e fN (r.append (.cons R .nil)) ?_,O,q);rw [JG,ahF];omega
inductive N7 (x:V)(vs:γ)(H:Hp)(Q:VK):Prop
|mk (l b xs zs:_)(_:x=.ref l)(_:vs=[.ref b])(_:H l=some (.lst xs))(_:H b=some (.lst zs))(_:xs.length+zs.length<=HZ)(_:Q .cK (upd H l (.lst (xs++zs))))
def zq:MtM X "list.extend" N7:=by
 intro o s Y H x B v A Q I R P h;let(l,b,xs,D,rfl,rfl,S,J,y,q):=h;cases R;let(u,rfl,N):=P.one;cases N;let(z,Z,n,r,w,e):=I.rh S;let(C,U,L,M,p,G):=I.rh J;let T:Z.toArray.size+U.toArray.size<=HZ:=by rw [QE,QE];omega
 let E:¬ (!Z.toArray.isEmpty && vW (Z.toArray.size+U.toArray.size))=true:=by
  rw [vL T,OA];show P7
 show rA F.slot_list_extend (_,e,O) F.entry_list_extend (F.args_list_extend_2 _ _)
  (AutoSeq1.list_extend_list_list_0 l Z.toArray n b U.toArray L E (by rw [QE];omega) cr) (e,G,?_)
 show(.cK,_,I.acy (oH:=Z++U) S e fN (r.append M) ?_,O,q);rw [JG];omega
inductive af8 (x:V)(y:V)(H:Hp)(Q:VK):Prop
|mk (l b xs zs:_)(_:x=.ref l)(_:y=.ref b)(_:H l=some (.lst xs))(_:H b=some (.lst zs))(_:xs.length+zs.length<=HZ)(_:∀p,H p=none->Q (.ref p) (upd H p (.lst (xs++zs))))
def hV:mZ X (UM .Add) af8:=by
 intro w s Y H x y v u Q I S T h;let(l,b,xs,G,rfl,rfl,N,M,C,q):=h;cases S;cases T;let(z,U,n,r,B,e):=I.rh N;let(E,Z,D,R,A,J):=I.rh M;show PySem.P.add_list e J ?_ (by rw [QE,QE];omega);let L:U.toArray++Z.toArray=(U++Z).toArray:=by simp
 rw [L];show(.ref _,_,I.acz (t':=s.toks) (r.append R) (by rw [JG];omega),O,q _ I.fresh)
inductive af9 (x:V)(y:V)(H:Hp)(Q:VK):Prop
|mk (l k xs:_)(_:x=.ref l)(_:y=.int k)(_:H l=some (.lst xs))(_: -(2^63)<=k)(_:k<2^63)(_:xs.length*k.toNat<=HZ)(_:∀p,H p=none->Q (.ref p) (upd H p (.lst (JB k.toNat xs).flatten)))
def len_rep {Z:Type}(xs:List Z)(k:Nat):(JB k xs).flatten.length=k*xs.length:=by
 induction k with
 | zero=>simp
 | succ k Y=>rw [uv,ON,JG,Y,Nat.succ_mul,yw]
def rj:mZ X (UM .Mult) af9:=by
 intro i s Y H x y v u Q I E G h;let(l,k,xs,rfl,rfl,C,A,B,j,q):=h;cases E;let(t,rfl):=G;let(z,Z,n,r,D,e):=I.rh C;let S:Z.toArray.size*k.toNat<=HZ:=by rwa [QE,<-D]
 let L:¬ Z.toArray.size*k.toNat > (2^63-1) / 8:=by
  have:(HZ:Nat)<=(2^63-1) / 8:=eY
  omega
 let M:¬ (!Builtin.List.listFitsIndex k)=true:=by
  rw [fitsIndex_both A B];show P7
 let p:¬ vW (Z.toArray.size*k.toNat)=true:=by
  rw [vL S];show P7
 let N:anu (λP R=>P++R) #[] (JB (if Z.toArray.isEmpty=true then 0 else k.toNat) Z.toArray)=(JB k.toNat Z).flatten.toArray:=by
  let w:∀m:Nat,anu (λP R=>P++R) #[] (JB m Z.toArray)=(JB m Z).flatten.toArray:=λm=>by
   have:=foldl_rep Z m [];rwa [amy] at this
  rw [w];cases Z with
  | nil=>simp
  | cons a o=>rw [iO fN]
 show wpAny_binaryOp_repeat_ref (T:="list") (U:="int") eY (_,e,O) (λJ=>typeIs_int J k t) noFill_list_mul F.fills_int_mul F.slot_int_rmul repeat_list F.slot_int_index.lookup
  (rA F.slot_int_rmul (typeIs_int s k t) F.entry_int_rmul (F.args_int_rmul_2 _ _) (int___rmul___int_list k t l Z.toArray n)
   (e,O,(_,e,O),rA F.slot_list_mul (_,e,O) F.entry_list_mul (F.args_list_mul_2 _ _) (AutoListH.list___mul___list_int_3 l Z.toArray n k t M L p) #[e,?_]))
 rw [N];show(.ref _,_,I.acz (t':=s.toks) (r.rep k.toNat) (by rwa [len_rep,ZL]),O,q _ I.fresh)
end
end L2
namespace Att
open PySem PySem.W PySem.Calls PyProof.Rows
def afu :∀(Z:ο)(vs:ρ),WellAll P h vs (Z.map WData.int)->IntsAre vs Z:=by
 intro Z
 induction Z with
 | nil=>
  intro vs w;erw [Wv] at w;show .nil
 | cons n Z Y=>
  intro vs w;rw [M3] at w;cases w with
  | cons a b=>
   cases a;show .cons _ _ (Y _ b)
def Qb {l:OpenLaw}(H:l.most=some n){Y:ρ}
  (N:l.row.toRowW.claim.pre args=true) (T:WellAll P h Y args):
  ∃a vs Z,Y=[Value.ref a]/\args=[WData.list (Z.map WData.int)]/\h.get? a=some {cls:=.type "list",data:=.seq vs.toArray}/\IntsAre vs Z/\Z.length<=n:=by
 let S:WShape.hasAll [] args [.list .int]=true:=(pre_splitW N).1;let Q:l.pre.holds [] {args:=args}=true:=(pre_splitW N).2;let(d,r,rfl,D,E):=hasAllW_cons S;obtain rfl:=hasAllW_nil E;let(xs,rfl,G):=hasW_list D;let(Z,rfl):=items_int G
 let X:Z.length<=n:=by
  unfold OpenLaw.pre at Q
  let R:(WTm.not (.lt (.lit (.int (n:Int))) (.len (.arg 0)))).holds [] {args:=[.list (Z.map .int)]}=true:=by
   let R:=(holds_andW Q).1;rwa [H] at R
  let U:=condW_of R (w_not (w_lt w_lit (w_len_list (w_arg rfl))));rw [Wp] at U;show ajz λq=>?_;let J:(n:Int)<((Z.length:Nat):Int):=cr
  first
   | (rw [P9 J] at U;show DB U eY)
   | (simp at U;omega)
 cases T with
 | cons L M=>
  cases M;cases L with
  | list I C=>show(_,_,Z,O,O,I,afu Z _ C,X)
def Qc (l:OpenLaw)(args:List WData):l.row.toRowW.claim.post args (.bool true) args=true:=
 postW_of (r:=l.row.toRowW) (X:=(true==true))
  (show WShape.has [] (.bool true) .bool=true by first|rfl|decide|simp [WShape.has,WShape.arms,WShape.armsAll])
  (show(WTm.eq .res (.lit (.bool true))).value [] {args:=args,res:=some (.bool true),after:=args}=some (.bool (true==true)) from w_eq_bool (w_res rfl) w_lit) rfl
end Att
namespace L2
open PySem PySem.Spec PyProof.Rows
theorem zA:∀{vs:ρ} {Z:ο},IntsAre vs Z->Vals (Z.map V.int) vs
 | _,_,.nil=>.nil
 | _,_,.cons n t h=>.cons #[t,O] (zA h)
abbrev KOf {K:Frag}{h:Heap}(_:K.In h):Frag:=K
def inClass (s:Stmt)(j:Nat):Stmt:=match s with
 | .ClassDef _ _ _ Z _ _ _ _ _ _ _=>Z.getD j (.Pass (0,0,0,0))
 | _=>.Pass (0,0,0,0)
def aq (s:Stmt):Arguments:=match s with
 | .FunctionDef _ a _ _ _ _ _ _ _ _=>a
 | _=>{posonlyargs:=[],args:=[],vararg:=none,kwonlyargs:=[],kw_defaults:=[],kwarg:=none,defaults:=[]}
def ao (s:Stmt):List Stmt:=match s with
 | .FunctionDef _ _ b _ _ _ _ _ _ _=>b
 | _=>[]
def ae (s:Stmt):Scope:=match s with
 | .FunctionDef _ _ _ _ _ _ Z _ _ _=>Z
 | _=>{kind:=.function,names:=[],isGenerator:=false,isCoroutine:=false}
abbrev E0:XK:=λ_ _ _=>False
structure nO (K:Frag)(x qual:Str)(st:Stmt)(f:AZ)(fd:FuncData):Prop where
 ex:∃(oc:Value)(od:Ζ)(kV doc pm:Value)(an:Ζ)(cu ct:Value)(vH:Ι),
  fd=fnOf x qual (aq st) (ao st) (ae st) .none kV doc pm an cu ct/\K.lookup f=some (oc,od,.func fd,vH)/\codeIn K cu qual=true
 kp:keepIn K (.ref f)=true
section
variable {P:LS}{w:World}{K:Frag}{mg:ι}{gN:Heap}
def nO.binds {st:Stmt}(F:nO K x qual st f fd)
  (h:∀(kV Z Y:Value)(T:Ζ)(X U:Value)(us:ρ),us.length=ps.length->bindArgs (fnOf x qual (aq st) (ao st) (ae st) .none kV Z Y T X U) #[us,[]]=pure (ps.zip us)):Binds K fd ps []:=by
 let(Q,R,kV,Z,Y,T,X,U,S,rfl,lk,N):=F.ex;show .all (h kV Z Y T X U)
def cQ {st:Stmt}{R T:Ζ}{S:Ι}{kV Z X Y U:Value}(l:K.lookup f=some (oc,R,.func (fnOf x qual (aq st) (ao st) (ae st) .none kV Z X T Y U),S))
  (c:codeIn K Y qual=true) (k:keepIn K (.ref f)=true):nO K x qual st f (fnOf x qual (aq st) (ao st) (ae st) .none kV Z X T Y U):=#[(oc,R,kV,Z,X,T,Y,U,S,O,l,c),k]
end
def dI (Z:cp k A):A.units+1<Qu:=L_ (Nat.add_le_add_left (by decide:1<=64) _) Z.units
section
variable {X:Cx}
def pv (i:Nat){Z:Pos}(S:X.N[i]?=some x:=by rfl)(U:Vis X.env.scope x:=by first|show Qk rfl|show α8 (Qk rfl)|show α8 (α8 rfl))(T:(x==("__debug__":Str))=false:=by decide)
  (Y:(x==("__classdict__":Str))=false:=by decide):PE X (.Name x Z) (ab6 i):=ab7 S U T Y
end
def Za {A B:Prop}(h:B):if false=true then A else B:=by
 rwa [iO P7]
def Zc {A B:Prop}(h:A):if true=true then A else B:=by
 rwa [jY rfl]
def bP {c A B:Prop}[Decidable c](Y:c->A)(Z:¬ c->B):if c then A else B:=by
 by_cases h:c
 ·rw [jY h]
  show Y h
 ·rw [iO h]
  show Z h
def ar (H H':Hp):Prop:=∀b o,H b=some o->H' b=some o
def ar.refl (H:Hp):ar H H:=λ_ _ h=>h
def ar.trans (a:ar H H1)(b:ar H1 H2):ar H H2:=λc o h=>b c o (a c o h)
def ar.free (e:ar H H')(h:H' l=aol):H l=aol:=by
 cases q:H l with
 | none=>rfl
 | some o=>
  erw [e l o q] at h
def ar.seq {K:Frag}(e:ar H H')(h:bh K H a xs):bh K H' a xs:=by
 rcases h with (h|⟨o,h⟩)|h
 ·show .inl (.inl (e _ _ h))
 ·show .inl (.inr #[o,e _ _ h])
 ·show .inr h
end L2
namespace Ty
def gz (t b:Int):Int:=(Nl t b:Nat)
def sg (t b:Int):Int:=if b<0 then -gz t b else gz t b
def low (t b:Int):Int×Int:=(t.fdiv (sg t b),b.fdiv (sg t b))
def afp (a b:Int):Nl b (a.fmod b)=Nl a b:=by
 rw [amX,Int.gcd_sub_mul_left_right,Int.gcd_comm]
def zC {a b:Int}(h:b≠0):(a.fmod b).natAbs<b.natAbs:=by
 rcases ai0 b 0 with q|q|q
 ·let X:(-a).fmod (-b)= -(a.fmod b):=by
   rw [amX,amX,Int.neg_fdiv_neg,anh];omega
  let Y:=Ob (-a) (show 0 < -b by omega);let Z:=aiz (-a) (show 0 < -b by omega);omega
 ·show DB q h
 ·let Y:=Ob a q
  let Z:=aiz a q;omega
def AY (h:b≠0):0<gz t b:=by
 have:=anj.mpr (α8 h:t≠0\/b≠0);change (0:Int)<((Nl t b:Nat):Int);omega
def af' (h:b≠0):(gz t b).natAbs<=b.natAbs:=by
 let Z:Nl t b ∣ b.natAbs:=OZ.mpr (uq t b);let Y:=Nat.le_of_dvd cr Z;change ((Nl t b:Nat):Int).natAbs<=_;omega
def vM (h:b≠0):sg t b≠0:=by
 have:=AY (t:=t) h;unfold sg;split<;>omega
def acA :(sg t b).natAbs=(gz t b).natAbs:=by
 unfold sg;split
 ·show Uk _
 ·rfl
def aav (t b:Int):sg t b ∣ t:=by
 unfold sg gz;split
 ·show Int.neg_dvd.mpr (uC t b)
 ·show uC t b
def aat (t b:Int):sg t b ∣ b:=by
 unfold sg gz;split
 ·show Int.neg_dvd.mpr (uq t b)
 ·show uq t b
def dw {a g:Int}(h:g≠0)(d:g ∣ a):a=g*a.fdiv g:=by
 let(c,Z):=d;have:=agx h Z;rwa [this]
def vj (h:b≠0):t=sg t b*(low t b).1:=dw (vM h) (aav t b)
def oT (h:b≠0):b=sg t b*(low t b).2:=dw (vM h) (aat t b)
def mC (h:b≠0):0<(low t b).2:=by
 let e:=oT (t:=t) h;let g:=AY (t:=t) h
 rcases ai0 (low t b).2 0 with q|q|q
 ·exfalso
  by_cases c:b<0
  ·let s:sg t b= -gz t b:=by unfold sg;rw [jY c]
   rw [s] at e;have:=Int.mul_pos_of_neg_of_neg (show -gz t b<0 by omega) q;omega
  ·let s:sg t b=gz t b:=by unfold sg;rw [iO c]
   rw [s] at e;have:=agT g q;omega
 ·exfalso
  rw [q,Zm] at e;show h e
 ·show q
def aaO (h:b≠0):(low t b).1*b=t*(low t b).2:=by
 let Y:=vj (t:=t) h;let Z:=oT (t:=t) h
 calc (low t b).1*b=(low t b).1*(sg t b*(low t b).2):=by rw [<-Z]
  _=sg t b*(low t b).1*(low t b).2:=by rw [<-Wx,UL (low t b).1]
  _=t*(low t b).2:=by rw [<-Y]
def oU (h:b≠0):Nl (low t b).1 (low t b).2=1:=by
 let X:=vj (t:=t) h;let Y:=oT (t:=t) h
 let k:Nl t b=(sg t b).natAbs*Nl (low t b).1 (low t b).2:=by
  let q:=ana (sg t b) (low t b).1 (low t b).2;rwa [<-X,<-Y] at q
 let g:(sg t b).natAbs=Nl t b:=by
  rw [acA];rfl
 let p:=anj.mpr (α8 h:t≠0\/b≠0);rw [g] at k;let Z:Nl t b*1=Nl t b*Nl (low t b).1 (low t b).2:=by rwa [yx]
 show(aiT p Z).symm
def fT {g a:Int}(h:g≠0):a.natAbs<=(g*a).natAbs:=by
 rw [YT];have:1<=g.natAbs:=cr
 have:=RE a.natAbs this;omega
def iV (h:b≠0):(low t b).1.natAbs<=t.natAbs:=by
 let e:=vj (t:=t) h;have:=fT (g:=sg t b) (a:=(low t b).1) (vM h);rwa [<-e] at this
def iW (h:b≠0):(low t b).2.natAbs<=b.natAbs:=by
 let e:=oT (t:=t) h;have:=fT (g:=sg t b) (a:=(low t b).2) (vM h);rwa [<-e] at this
def UE (Y:g≠0)(X:t=g*x)(Z:b=g*y)(U:0<y)(S:Nl x y=1):low t b=(x,y):=by
 let T:b≠0:=by
  rw [Z];show ank Y cr
 let R:Nl t b=g.natAbs:=by
  rw [X,Z,ana,S,yx]
 let s:sg t b=g:=by
  unfold sg gz;rw [R];by_cases c:g<0
  ·have:b<0:=by rw [Z];show Int.mul_neg_of_neg_of_pos c U
   rw [jY this];omega
  ·have:¬ b<0:=by
    have:=rT (show 0<=g by omega) (show 0<=y by omega);omega
   rw [iO this];omega
 unfold low;rw [s];rw [agx Y X,agx Y Z]
def afc (Z:0<y)(h:Nl x y=1):low x y=(x,y):=UE (g:=1) eY cr cr Z h
def zD (Z:k≠0)(h:b≠0):low (k*t) (k*b)=low t b:=by
 show UE (g:=k*sg t b) (ank Z (vM h)) ?_ ?_ (mC h) (oU h)
 ·rw [Wx]
  show ox (k*·) (vj h)
 ·rw [Wx]
  show ox (k*·) (oT h)
def akn (Y:b≠0)(Z:c≠0)(h:t*c=u*b):low t b=low u c:=by
 rw [<-zD (t:=t) (b:=b) Z Y,<-zD (t:=u) (b:=c) Y Z];rw [UL c t,h,UL u b,UL c b]
end Ty
set_option maxHeartbeats 4000000
namespace Ty
open PySem PySem.Spec PyProof.Rows L2
open Builtin.Int (intBits)
section
variable {X:Cx}
def IE (i j:Int):Prop:=intBits i<=33554432/\intBits j<=33554432
def bY:mZ X (UM .Mult) (rI IE λi j=>.int (i*j)):=
 opI λ_ _ _ _ _ _ _ Z q=>mul_int q (IntMulOk.of_le Z.1 Z.2 eY)
end
inductive Da where
 | v (x:V)
 | t (ds:List Da)
 | l (ds:List Da)
mutual
def Is (K:Frag)(H:Hp):Da->V->Prop
 | .v x,u=>u=x/\lH x=true
 | .t ds,u=>∃p xs,u=.ref p/\bQ K H p xs/\oJ K H ds xs
 | .l ds,u=>∃p xs,u=.ref p/\bh K H p xs/\oJ K H ds xs
def oJ (K:Frag)(H:Hp):List Da->List V->Prop
 | [],[]=>True
 | d::ds,x::xs=>Is K H d x/\oJ K H ds xs
 | _,_=>False
end
mutual
def oV:Da->Da->Bool
 | .v x,.v y=>AW x y
 | .t ds,.t Z=>iX ds Z
 | .l ds,.l Z=>iX ds Z
 | _,_=>false
def iX:List Da->List Da->Bool
 | [],[]=>true
 | d::ds,e::Z=>oV d e && iX ds Z
 | _,_=>false
end
mutual
def alike:Da->Da->Bool
 | .v _,.v _=>true
 | .t ds,.t Z=>jC ds Z
 | .l ds,.l Z=>jC ds Z
 | _,_=>false
def jC:List Da->List Da->Bool
 | d::ds,e::Z=>alike d e && jC ds Z
 | _,_=>true
end
mutual
def dep:Da->Nat
 | .v _=>0
 | .t ds=>A_ ds+1
 | .l ds=>A_ ds+1
def A_:List Da->Nat
 | []=>0
 | d::ds=>max (dep d) (A_ ds)
end
theorem oJ.length {K:Frag}:∀{ds:List Da} {xs:γ},oJ K H ds xs->ds.length=xs.length
 | [],[],_=>rfl
 | _::_,_::_,h=>ox (·+1) (oJ.length (by unfold oJ at h;show h.2))
 | [],_::_,h=>by unfold oJ at h;show h.elim
 | _::_,[],h=>by unfold oJ at h;show h.elim
def oW (ds Z:List Da)(j:Nat):Bool:=match ds[j]?,Z[j]? with
 | some d,some e=>oV d e
 | _,_=>true
theorem h_:∀ds Z:List Da,iX ds Z=((LK (min ds.length Z.length)).all (oW ds Z) && ds.length==Z.length)
 | [],[]=>rfl
 | [],_::_=>by simp [iX]
 | _::_,[]=>by simp [iX]
 | d::ds,e::Z=>by
  let X:=h_ ds Z;let r:min (d::ds).length (e::Z).length=min ds.length Z.length+1:=by simp [Nat.succ_min_succ]
  rw [r,ajM,amM,List.all_map];let T:oW (d::ds) (e::Z) 0=oV d e:=rfl
  let U:(oW (d::ds) (e::Z) ∘ Nat.succ)=oW ds Z:=by
   funext j;rfl
  let Y:((d::ds).length==(e::Z).length)=(ds.length==Z.length):=by simp
  rw [T,U,Y,Bool.and_assoc,<-X];rfl
section
variable {X:Cx}{AO:θ}{Y:L2.St}{H:Hp}{s:G_}
def adC (h:lH x=true):AW x x=true:=by
 cases x<;>first|rfl|(simp [AW];done)|(cases h;done)
mutual
theorem BA (I:Inv X AO Y H s):∀(d e:Da)(x:V),Is X.K H d x->Is X.K H e x->alike d e=true->oV d e=true
 | .v a,.v b,x,U,Z,_=>by
  unfold Is at U Z;let(rfl,f):=U;let(rfl,_):=Z;unfold oV;show adC f
 | .t M,.t P,x,U,Z,a=>by
  unfold Is at U Z;let(p,xs,rfl,S,Q):=U;let(J,L,N,T,R):=Z;cases N;cases I.mB S T;unfold oV;unfold alike at a;show vN I M P xs Q R a
 | .l M,.l P,x,U,Z,a=>by
  unfold Is at U Z;let(p,xs,rfl,S,Q):=U;let(J,L,N,T,R):=Z;cases N;cases I.lC S T;unfold oV;unfold alike at a;show vN I M P xs Q R a
 | .v _,.t _,_,_,_,a=>by unfold alike at a;cases a
 | .v _,.l _,_,_,_,a=>by unfold alike at a;cases a
 | .t _,.v _,_,_,_,a=>by unfold alike at a;cases a
 | .t _,.l _,_,_,_,a=>by unfold alike at a;cases a
 | .l _,.v _,_,_,_,a=>by unfold alike at a;cases a
 | .l _,.t _,_,_,_,a=>by unfold alike at a;cases a
theorem vN (I:Inv X AO Y H s):∀(ds T:List Da)(xs:γ),oJ X.K H ds xs->oJ X.K H T xs->jC ds T=true->iX ds T=true
 | [],[],_,_,_,_=>by unfold iX;rfl
 | d::ds,e::T,x::xs,Z,U,a=>by
  unfold oJ at Z U;unfold jC at a;rw [uh] at a;unfold iX;rw [BA I d e x Z.1 U.1 a.1,vN I ds T xs Z.2 U.2 a.2];rfl
 | [],_::_,[],_,U,_=>by unfold oJ at U;show U.elim
 | [],_::_,_::_,Z,_,_=>by unfold oJ at Z;show Z.elim
 | _::_,[],[],Z,_,_=>by unfold oJ at Z;show Z.elim
 | _::_,[],_::_,_,U,_=>by unfold oJ at U;show U.elim
 | _::_,_::_,[],Z,_,_=>by unfold oJ at Z;show Z.elim
end
def in1_units (A:Mf):A.in1.units=A.units+1:=rfl
mutual
theorem akM (I:Inv X AO Y H s):∀(d e:Da)(x y:V)(u w:Value)(A:Mf),Is X.K H d x->Is X.K H e y->alike d e=true->RelV x u->RelV y w->A.units+dep d<Qu->SeqAt.EqAt A s u w (oV d e)
 | .v a,.v b,x,y,u,w,A,U,Z,_,J,L,_=>by
  unfold Is at U Z;let(rfl,f1):=U;let(rfl,f2):=Z;unfold oV;show UB J L f1 f2
 | .t M,.t N,x,y,u,w,A,U,Z,a,J,L,C=>by
  have g :=U;let T:=Z;unfold Is at U Z;let(p,xs,rfl,k,P):=U;let(i,o,rfl,m,Q):=Z;cases J;cases L;by_cases e:p=i
  ·subst e
   rw [BA I _ _ _ g T a];show .same _
  ·show .of_refs e ?_
   let(q,R,D,_):=I.tuple k;let(B,S,E,_):=I.tuple m;unfold oV;rw [h_,P.length,Q.length,R.length,S.length]
   let z:=SeqAt.RcAt.tuples (A:=A) (e:=oW M N) D E (by unfold dep at C;omega) λj c f=>by
    unfold dep at C;unfold alike at a;show lI I M N xs o q B A.in1 P Q a R S (by rw [in1_units];omega) j (by simpa using c) (by simpa using f)
   simpa using z
 | .l M,.l N,x,y,u,w,A,U,Z,a,J,L,C=>by
  have g :=U;let T:=Z;unfold Is at U Z;let(p,xs,rfl,k,P):=U;let(i,o,rfl,m,Q):=Z;cases J;cases L;by_cases e:p=i
  ·subst e
   rw [BA I _ _ _ g T a];show .same _
  ·show .of_refs e ?_
   let(q,R,D,_):=I.list k;let(B,S,E,_):=I.list m;unfold oV;unfold dep at C;unfold alike at a;by_cases G:q.length=B.length
   ·rw [h_,P.length,Q.length,R.length,S.length]
    let z:=SeqAt.RcAt.lists (A:=A) (e:=oW M N) D.isList E.isList (by simpa using G) cr λj c f=>
     lI I M N xs o q B A.in1 P Q a R S (by rw [in1_units];omega) j (by simpa using c) (by simpa using f)
    rw [G,Nat.min_self,beq_self_eq_true,anK];rwa [QE,G] at z
   ·let ne:iX M N=false:=by
     rw [h_,P.length,Q.length,R.length,S.length,beq_eq_false_iff_ne.mpr G,OA]
    rw [ne];show SeqAt.RcAt.lists_lengths D.isList E.isList (by simpa using G) cr
 | .v _,.t _,_,_,_,_,_,_,_,a,_,_,_=>by unfold alike at a;cases a
 | .v _,.l _,_,_,_,_,_,_,_,a,_,_,_=>by unfold alike at a;cases a
 | .t _,.v _,_,_,_,_,_,_,_,a,_,_,_=>by unfold alike at a;cases a
 | .t _,.l _,_,_,_,_,_,_,_,a,_,_,_=>by unfold alike at a;cases a
 | .l _,.v _,_,_,_,_,_,_,_,a,_,_,_=>by unfold alike at a;cases a
 | .l _,.t _,_,_,_,_,_,_,_,a,_,_,_=>by unfold alike at a;cases a
theorem lI (I:Inv X AO Y H s):∀(ds R:List Da)(xs ys:γ)(us ws:ρ)(A:Mf),oJ X.K H ds xs->oJ X.K H R ys->jC ds R=true->Vals xs us->Vals ys ws->A.units+A_ ds<Qu->
  ∀(j:Nat)(P:j<us.length)(Q:j<ws.length),SeqAt.EqAt A s us[j] ws[j] (oW ds R j)
 | d::ds,e::R,xs,ys,us,ws,A,U,Z,a,S,T,L,j,P,Q=>by
  cases xs with
  | nil=>unfold oJ at U;show U.elim
  | cons x xs=>
   cases ys with
   | nil=>unfold oJ at Z;show Z.elim
   | cons y ys=>
    cases S with
    | cons M S=>
     cases T with
     | cons N T=>
      unfold oJ at U Z;unfold jC at a;rw [uh] at a;unfold A_ at L;cases j with
      | zero=>show akM I d e x y _ _ A U.1 Z.1 a.1 M N cr
      | succ j=>show lI I ds R xs ys _ _ A U.2 Z.2 a.2 S T cr j (by simpa using P) (by simpa using Q)
 | [],_,xs,_,us,_,_,U,_,_,S,_,_,_,P,_=>by
  cases xs with
  | nil=>
   cases S;show DB P (Qn _)
  | cons x xs=>unfold oJ at U;show U.elim
 | _::_,[],_,ys,_,ws,_,_,Z,_,_,T,_,_,_,Q=>by
  cases ys with
  | nil=>
   cases T;show DB Q (Qn _)
  | cons y ys=>unfold oJ at Z;show Z.elim
end
end
section
variable {X:Cx}
inductive abe (K:Frag)(x:V)(y:V)(H:Hp)(Q:VK):Prop
|mk (ds Z:_)(_:((Is K H (.t ds) x/\Is K H (.t Z) y)\/(Is K H (.l ds) x/\Is K H (.l Z) y)))(_:jC ds Z=true)(_:A_ ds<=60)(_:Q (.bl (iX ds Z)) H)
def aj3 (b:X.A.units+64<Qu):mZ X (Qo .Eq) (abe X.K):=by
 intro AO s Y H x y v u Q I g i h;let(U,Z,h,a,hd,q):=h
 rcases h with ⟨M,N⟩|⟨M,N⟩
 ·unfold Is at M N
  let(p,xs,rfl,o,P):=M;let(f,C,rfl,B,R):=N;cases g;cases i;let(D,S,G,_):=I.tuple o;let(E,T,J,_):=I.tuple B
  let z:=SeqAt.RcAt.tuples (A:=X.A) (e:=oW U Z) G J cr λj k m=>
   lI I U Z xs C D E X.A.in1 P R a S T (by rw [in1_units];omega) j (by simpa using k) (by simpa using m)
  show z X.prog X.w X.xe _ (.bl _,H,I,O,?_);let e:=h_ U Z;rw [P.length,R.length,S.length,T.length] at e;simpa [e] using q
 ·unfold Is at M N
  let(p,xs,rfl,o,P):=M;let(f,C,rfl,B,R):=N;cases g;cases i;let(D,S,G,_):=I.list o;let(E,T,J,_):=I.list B;let e:=h_ U Z;rw [P.length,R.length,S.length,T.length] at e;by_cases L:D.length=E.length
  ·let z:=SeqAt.RcAt.lists (A:=X.A) (e:=oW U Z) G.isList J.isList (by simpa using L) cr λj k m=>
    lI I U Z xs C D E X.A.in1 P R a S T (by rw [in1_units];omega) j (by simpa using k) (by simpa using m)
   show z X.prog X.w X.xe _ (.bl _,H,I,O,?_);rw [L,Nat.min_self,beq_self_eq_true,anK] at e;simpa [e,L] using q
  ·let c:iX U Z=false:=by rw [e,beq_eq_false_iff_ne.mpr L,OA]
   rw [c] at q;show SeqAt.RcAt.lists_lengths G.isList J.isList (by simpa using L) cr X.prog X.w X.xe _ (.bl _,H,I,O,q)
end
def cn:Qx "len"=some (.builtin "len"):=by decide+kernel
def abf:Qx "abs"=some (.builtin "abs"):=by decide+kernel
def aga:Qx "str"=some (.type "str"):=by decide+kernel
def lJ:Qx "list"=some (.type "list"):=by decide+kernel
def acB (_ j:Int):Prop:=j≠0
def nz (h:j≠0):acB i j:=h
def iq :mZ X (UM .Mod) (rI acB λi j=>.int (i.fmod j)):=aex
end Ty
namespace TyAtt
open PySem PySem.W PySem.Calls PyProof.Rows
open Builtin.Int (intBits)
def adi {Z:ο}(h:(WData.list (Z.map WData.int)).layable=true)(U:n∈Z):intBits n<=1048576:=by
 let(_,_,X):=layableW_iff.mp h
 let a:∀(l:ο),n∈l->intBits n<=WData.weightAll (l.map WData.int):=by
  intro l
  induction l with
  | nil=>intro q;cases q
  | cons y r Y=>
   intro q;rw [M3];unfold WData.weightAll
   rcases P4.mp q with z|z
   ·subst z
    have:intBits n<=WData.weight (.int n):=by
     unfold WData.weight;show DX _
    omega
   ·have:=Y z
    omega
 let b:=a Z U;unfold WData.weight at X;omega
def IF {l:OpenLaw}{Z:τ}
  (u:l.most=some n) (E:d.params.defaults=[])
  (call:∀(w:World)(L Y:G_)(mg J:ι)(Q:AZ)(o:Obj)(M N U:Value)(a:AZ)(vs:ρ)(T:ο),
   Ground q Z [] XP w L mg J Y.heap->YP w Y.heap->
   Y.heap.get? Q=some o->o.data=.func (docDef d.name d.params d.body d.scope M N U)->Y.heap.CodeRec N d.name->mg d.name=some (.ref Q)->
   Y.heap.get? a=some {cls:=.type "list",data:=.seq vs.toArray}->IntsAre vs T->T.length<=n->(∀i∈T,intBits i<=1048576)->Y.gens= #[]->
   T8 (DW l.prog w) callerA (.call (.ref Q) #[[.ref a],[]]) (λr P=>r=.ok (.ret (.bool true))/\OldK Y.heap P.heap/\P.os=Y.os/\Va P.gens) Y):
  WalkO q Z XP YP l.row.toRowW d [] (λf vs=>PySem.call f vs):=by
 intro w L Y mg J G σ Q o M N U dV kV x g A B H j args C as Y_ R z I m;obtain rfl:dV=.none:=Dflts.none B E;obtain rfl:kV=.none:=Dflts.noKw B;let(a,vs,T,rfl,rfl,D,X,S):=Att.Qb u Y_ I;let c:∀i∈T,intBits i<=1048576:=λi k=>adi (layW_cons R).1 k;show enter_call (codeAny_mono (call w L Y mg J Q o M N U a vs T G σ x (fd_plain g) A H D X S c j) λr P y=>?_);let(rfl,h2,h3,b):=y;show(.inl (.bool true,.bool true,[],O,λ_=>O,.bool true,Att.Qc l _,λ_=>#[List.Pairwise.nil,λ_ p=>(nomatch p)]),h2,h3,b)
end TyAtt
namespace Ty
open PySem PySem.Spec PyProof.Rows L2
open Builtin.Int (intBits)
structure Fn (P:LS)(w:World)(K:Frag)(mg:ι)(gN:Heap)(CX:oI)(k:Nat)(x:Str)(ps:τ)(sp:Sp):Prop where
 ex:∃(f:AZ)(fd:FuncData),cO P w K mg gN CX k f fd ps sp/\Binds K fd ps []/\mg x=some (.ref f)/\keepIn K (.ref f)=true
structure Def (K:Frag)(mg:ι)(x:Str)(st:Stmt)(ps:τ):Prop where
 ex:∃(f:AZ)(dV oc:Value)(od:Ζ)(kV doc pm:Value)(an:Ζ)(cu ct:Value)(vH:Ι),
  K.lookup f=some (oc,od,.func (fnOf x x (aq st) (ao st) (ae st) dV kV doc pm an cu ct),vH)/\codeIn K cu x=true/\keepIn K (.ref f)=true/\
  Binds K (fnOf x x (aq st) (ao st) (ae st) dV kV doc pm an cu ct) ps []/\mg x=some (.ref f)
def Def.of {K:Frag}{st:Stmt}(F:nO K x x st f fd)(b:Binds K fd ps [])(m:mg x=some (.ref f)):Def K mg x st ps:=by
 let(T,U,kV,Z,X,P,R,Q,Y,rfl,lk,S):=F.ex;show(f,.none,T,U,kV,Z,X,P,R,Q,Y,lk,S,F.kp,b,m)
section
variable {P:LS}{w:World}{K:Frag}{mg:ι}{gN:Heap}{CX:oI}
def Def.ok {st:Stmt}(D:Def K mg x st ps)(S:aw N ps (ae st))(Y:∀vs H Q E,sp vs H Q E->vs.length=ps.length)
  (L:∀(f:AZ)(Z:Value)(A:Mf)(X:List Env)(s:G_)(H:Hp)(vs:γ)(Q:VK)(E:XK),cp k (A.deeper (Qv x (ae st) s.heap.objs.size f Z))->sp vs H Q E->
   ∃t,qv (nN CX P w K mg gN N x (ae st) f Z A X s H E).ve (ao st) t/\t {nx:=λ_ I=>Q .cK I,rt:=Q} (start N vs) H):Fn P w K mg gN CX (k+1) x ps sp:=by
 let(f,y,z,B,kV,J,C,p,Z,u,G,lk,T,R,b,m):=D.ex;show(f,_,zo lk T S Y λA X s H vs Q E M U=>?_,b,m,R);let(t,h,q):=L f Z A X s H vs Q E M U;show(t,h.ve,q)
def _root_.L2.nO.okG {st:Stmt}(F:nO K x x st f fd)(S:aw N ps (ae st))(Y:∀vs H Q E,sp vs H Q E->vs.length=ps.length)
  (M:∀(Z:Value)(A:Mf)(X:List Env)(s:G_)(H:Hp)(vs:γ)(Q:VK)(E:XK),cp k (A.deeper (Qv x (ae st) s.heap.objs.size f Z))->sp vs H Q E->
   ∃t,qv (nN CX P w K mg gN N x (ae st) f Z A X s H E).ve (ao st) t/\t {nx:=λ_ J=>Q .cK J,rt:=Q} (start N vs) H):cO P w K mg gN CX (k+1) f fd ps sp:=by
 let(C,D,kV,L,G,z,Z,B,I,rfl,lk,T):=F.ex;show zo lk T S Y λA X s H vs Q E R U=>?_;let(t,h,q):=M Z A X s H vs Q E R U;show(t,h.ve,q)
def IG (CX:oI):Prop:=∀Y H s e Z,CX Y H s E0 e Z ->False
def tI {X:Cx}(h:IG CX):Passes CX X.ve E0:=λ_ _ _ _ _ _ _ q=>(h _ _ _ _ _ q).elim
section
variable {X:Cx}{k:Nat}{ps:τ}{sp:Sp}{E:XK}{x:Str}{p pos:Pos}{e:Expr}{es:Α}{t:TA}
def tJ (F:Fn X.prog X.w X.K X.mg X.gN CX k x ps sp)(T:cp k X.A)(U:Passes CX X E)(Q:PA X (e::es) t)(S:Gl X x:=by rfl)(N:(x==("__debug__":Str))=false:=by decide)
  (R:JF (e::es) X.env=(false,II e X.env)::JF es X.env:=by rfl) (Z:(QG pos (JF es X.env)).any (·.1)=false:=by rfl):PE X (.Call (.Name x p) (e::es) [] pos) (N2 sp [] E t):=by
 let(f,M,G,b,m,Y):=F.ex;show aeE G T S m Y b .nil U Q N R Z
end
end
end Ty
namespace Ty
open PySem PySem.Spec PyProof.Rows
def agc (o:Obj):Option Value:=match o.data with
 | .fields Z=>Z[2]?
 | _=>none
end Ty
namespace Ty
open PySem PySem.Spec PyProof.Rows L2
def obj_some (x:dF P w H h a o):∃Z,h.get? a=some Z:=by
 cases o with
 | lst xs=>let(_,_,_,_,e):=x;show#[_,e]
 | tup xs=>let(_,_,_,Z,e,_):=x;show#[Z,e]
 | dK U=>let(_,_,_,_,Z,_,_,e,_):=x;show#[Z,e]
 | dT U=>let(_,_,_,_,Z,_,_,e,_):=x;show#[Z,e]
 | set S n=>let(Z,_,_,_,e,_):=x;show#[Z,e]
 | ins C Q X=>let(_,_,_,e,_):=x;show#[_,e]
 | own y=>show(show ∃o,h.get? a=some o from x)
 | xd X=>let(_,(Y,_,_,e,_),_):=x;show#[Y,e]
 | rng lo R=>let(_,_,_,e):=x;show#[_,e]
 | iL Z u=>show#[Z,x.1]
 | lj T=>show#[_,x]
 | met f y=>show#[_,x]
 | ext φ=>show x.2.1
def DictAt (h:Heap)(a:AZ)(Z:Ζ):Prop:=∃o,h.get? a=some o/\o.dict=Z/\agc o=some .none
def aU (P:LS)(w:World):oI:=λX H s E e Z=>∃(a:AZ)(cls S:Value)(U:Ζ)(Y:Hp)(B:Heap),
 e=.ref a/\Heap.FlyingW B X a cls S Z.heap/\DictAt Z.heap a U/\Un (NR X) [] H Y s.heap Z.heap/\mW P w Y Z.heap/\Z.os=s.os/\Va Z.gens/\
 (∀b o,s.heap.get? b=some o->b∉NR X->∃T,B.get? b=some T)/\(∀b u,Y b=some u->∃o,B.get? b=some o)/\E cls U Y
def aU.BB :IG (aU P w):=λ_ _ _ _ _ h=>by let(_,_,_,_,_,_,_,_,_,_,_,_,_,_,_,z):=h;show z
section
variable {P:LS}{w:World}{K:Frag}{mg:ι}{gN:Heap}{N:τ}{qual:Str}{scope:Scope}{f:AZ}{cu:Value}{A:Mf}{gV:List Env}{s0:G_}{H0:Hp}{E:XK}
abbrev qC (P:LS)(w:World)(K:Frag)(mg:ι)(gN:Heap)(N:τ)(qual:Str)(scope:Scope)(f:AZ)(cu:Value)(A:Mf)(gV:List Env)(s0:G_)(H0:Hp)(E:XK):Cx:=nN (aU P w) P w K mg gN N qual scope f cu A gV s0 H0 E
end
section
variable {X:Cx}{AO:θ}{Y:L2.St}{H H':Hp}{s:G_}
def XP (X:Cx)(AO:θ)(Y:L2.St)(E:XK)(e:Value)(Z:G_):Prop:=∃H s,Inv X AO Y H s/\aU X.prog X.w X.stack H s E e Z
end
set_option maxHeartbeats 1000000
section
variable {prog:LS}{w:World}{A:Mf}{R:Τ}{s:G_}
def its {Y:Α}(I:Nat->G_->Prop)
  (turn:∀n s,I n s->DA (DW prog w) A (pyNext it) (λr S=>match r with
   | none=>R (.ok .next) S
   | some v=>DA (DW prog w) A (O1 target it v) (λ_ X =>DA (DW prog w) A (assign target env v) (λ_ M=>
     DA (DW prog w) A (forIn Y true λc r=>if r=true then do let U <- isTrue c env (II c env);pure (ForInStep.yield U) else pure (ForInStep.yield r)) (λU T=>
      if U=true then DA (DW prog w) A (II elt env) (λx N=>
       DA (DW prog w) A (call (.builtin "list.append") [acc,x]) (λ_ P=>∃m,m<n/\I m P) (λ_ _=>False) N) (λ_ _=>False) T
      else ∃m,m<n/\I m T) (λ_ _=>False) M) (λ_ _=>False) X) (λ_ _=>False) S) (λ_ _=>False) s)
  (n:Nat) (h:I n s):
  T8 (DW prog w) A (.compLoop (.ListComp elt [(target,iter,Y,0)] scope pos) 0 it acc env) R s:=by
 show codeAny_loop rfl I (λn s D=>?_) n h;change DA _ A ((compTurn (.ListComp elt [(target,iter,Y,0)] scope pos) 0 it acc env).onRaise (λx=>do noteFrame x env;theTreesLotGoes x)) _ _ s;show wpAny_noted ?_;rw [compTurn_list];show IC (wpAny_standAt (IC (Qf (turn n s D) (λr S L=>?_) λ_ _ Z=>Z.elim)));cases r with
 | none=>show LN L
 | some v=>
  show IC (Qf L (λ_ X Q =>?_) λ_ _ Z=>Z.elim);show IC (Qf Q (λ_ M H=>IC (Qf H (λU T J=>?_) λ_ _ Z=>Z.elim)) λ_ _ Z=>Z.elim);cases U with
  | false=>show LN #[O,J]
  | true=>
   show IC (IC (Qf J (λx N E=>IC (Qf E (λ_ P G=>LN (LN #[O,G])) λ_ _ Z=>Z.elim)) λ_ _ Z=>Z.elim))
end
def bJ (Z:Env)(fr:τ):List (Str×AZ):=fr.filterMap λn=>(Z.cells.lookup n).map λc=>(n,c)
theorem lookup_mem {Z:Type}{c:Z}:∀{l:List (Str×Z)},l.lookup x=some c->(x,c)∈l
 | [],h=>by simp at h
 | (y,d)::r,h=>by
  rw [anb] at h;cases e:x==y with
  | true=>
   rw [e] at h;let Y:x=y:=by simpa using e
   cases h;rw [Y];show Mo
  | false=>
   rw [e] at h;show MV _ (lookup_mem h)
def aez (h:(x,c)∈bJ env fr):env.cells.lookup x=some c:=by
 let(n,_,e):=uu.mp h;cases q:env.cells.lookup n with
 | none=>erw [q] at e
 | some d=>
  rw [q] at e;let Z:(n,d)=(x,c):=QI e;cases Z;show q
def iQ (h:(bJ env fr).lookup x=some c):env.cells.lookup x=some c:=aez (lookup_mem h)
theorem rm (q:env.cells.lookup x=some c):∀{fr:τ},x∈fr->(bJ env fr).lookup x=some c
 | [],h=>nomatch h
 | y::r,h=>by
  unfold bJ;rw [HV];by_cases e:x=y
  ·subst e
   rw [q];simp
  ·let X:x∈r:=by
    rcases P4.mp h with z|z
    ·show DB z e
    ·show z
   let Y:=rm q X;cases z:env.cells.lookup y with
   | none=>show Y
   | some d=>
    change Uw x ((y,d)::_)=_;rw [anb];let Z:(x==y)=false:=by simpa using e
    rwa [Z]
def jD (Z:Env):List Str->Prop
 | []=>True
 | y::r=>(Z.kindOf y=some .cell\/Z.kindOf y=some .free)/\jD Z r
theorem jD.at :∀{fr:τ},jD env fr->x∈fr->env.kindOf x=some .cell\/env.kindOf x=some .free
 | [],_,h=>nomatch h
 | y::r,a,h=>by
  rcases P4.mp h with z|z
  ·rw [z]
   show a.1
  ·show jD.at a.2 z
section
variable {X:Cx}
def GO (X:Cx)(T:τ)(Z:Scope)(fn:Str->Bool)(U:List (Str×AZ))(C:AZ)(s:G_)(H:Hp)(Y:ψ):Cx:=
 {prog:=X.prog,w:=X.w,K:=X.K,mg:=X.mg,gN:=X.gN,A:=X.A,N:=T,nI:=s,H₀:=H,env:=compEnvC Z U C X.env,gV:=X.stack,stack:=X.stack,ex:=Y,fn:=fn,calm:=X.calm,pn:=[],xe:=λ_ _=>False}
abbrev vm (X:Cx)(T:τ)(Z:Scope)(U:List (Str×AZ))(C:AZ)(s:G_)(H:Hp)(Y:ψ):Cx:=GO X T Z (λ_=>false) U C s H Y
structure Ze (X:Cx)(scope:Scope)(ow:AZ->List (Str×AZ))(fn:Str->Bool)(fr:τ)(kI:Ψ):Prop where
 vO:qk scope X.env=pure (bJ X.env fr)
 kind:scope.kind=.function
 names:∀y∈scope.names,y.2=.local->scope.names.lookup y.1=some .local
 free:∀y∈scope.names,y.2=.free->y.1∈fr
 kI:kI.map (λi=>X.N[i]?)=fr.map some
 out:jD X.env fr
 inn:jD (compEnvC scope [] 0 X.env) fr
 new:∀{s:G_} {Q:Env->G_->Prop} {E:δ},(∀h',h'.Ns s.heap.objs.size (λ_=>none)->(∀b o,s.heap.get? b=some o->h'.get? b=some o)->(∀x c,(ow s.heap.objs.size).lookup x=some c->h'.IsCell c none)->
   Q (newEnv scope s.heap.objs.size X.env.globals (ow s.heap.objs.size++bJ X.env fr) X.env.qual none .none (some X.env) ZT) {s with heap:=h',toks:=s.toks+([]:List (Str×Value)).length})->
  DA (DW X.prog X.w) X.A (newFunctionEnv scope X.env.globals (bJ X.env fr) [] X.env.qual none .none (some X.env)) Q E s
 ge:∀C x c,(ow C).lookup x=some c->C<c
 one:∀C x z c,(ow C).lookup x=some c->(ow C).lookup z=some c->x=z
 fn1:∀C x,fn x=true->(ow C).lookup x≠none
 only:∀z∈scope.names,z.2=.cell->fn z.1=true
 ny:∀C,∀x∈fr,(ow C).lookup x=none
def zE {o Z:List (Str×AZ)}(h:(o++Z).lookup x=some c):o.lookup x=some c\/(o.lookup x=none/\Z.lookup x=some c):=by
 rw [aiA] at h;cases e:o.lookup x with
 | none=>rw [e] at h;show .inr #[O,h]
 | some d=>rw [e] at h;show .inl h
structure BD (X:Cx)(scope:Scope)(fr:τ)(kI:Ψ):Prop where
 vO:qk scope X.env=pure (bJ X.env fr)
 cell:∀y∈scope.names,y.2≠.cell
 kind:scope.kind=.function
 names:∀y∈scope.names,y.2=.local->scope.names.lookup y.1=some .local
 free:∀y∈scope.names,y.2=.free->y.1∈fr
 kI:kI.map (λi=>X.N[i]?)=fr.map some
 out:jD X.env fr
 inn:jD (compEnvC scope [] 0 X.env) fr
def PF (X:Cx)(Z:Α)(t:TT):Prop:=
 ∀(U:θ)(s:G_)(Y:L2.St)(H:Hp)(Q:Bool->Hp->Prop),Inv X U Y H s->t Y H Q->
  DA (DW X.prog X.w) X.A (forIn Z true λc r=>if r=true then do let T <- isTrue c X.env (II c X.env);pure (ForInStep.yield T) else pure (ForInStep.yield r)) (TP X U Y Q) X.xe s
def oX:TT:=λ_ H Q=>Q true H
def j7:PF X [] oX:=λ_ _ _ H _ I h=>wpAny_tests_nil (H,I,h)
def acE (h:PT X c t):PF X [c] t:=λZ s Y H Q I q=>wpAny_tests_one (h Z s Y H Q I q)
def sB (k:Nat)(kI:Ψ)(Y:L2.St):L2.St:=JB k none++kI.map λi=>(Y[i]?).getD none
def vP (D:AZ)(g:TG)(M:TT)(L:TE)(J:It)(I:L2.St)(G:Hp)(Q:VK):Prop:=∃W:Nat->Nat->L2.St->List V->Hp->Prop,
 (∃m,W 0 m I [] (upd G D (.lst [])))/\∀i m S Z U,W i m S Z U->(J.stop i U/\Q (.ref D) U)\/(J.go i U/\∀x N,J.S3 i U x N->g x S N λT H=>M T H λb P=>
  if b=true then L T P λv R=>R D=some (.lst Z)/\Z.length<HZ/\∃Y,Y<m/\W (i+1) Y T (Z++[v]) (upd R D (.lst (Z++[v]))) else ∃Y,Y<m/\W (i+1) Y T Z P)
def aj1 (k:Nat)(kI:Ψ)(g:TG)(U:TT)(T:TE)(Y:L2.St)(Q:VK)(J:It)(Z:Hp):Prop:=∀D,Z D=none->vP D g U T J (sB k kI Y) Z Q
def tK (k:Nat)(kI:Ψ)(Z:TI)(g:TG)(U:TT)(T:TE):TE:=λY H Q=>Z Y H (aj1 k kI g U T Y Q)
def acF (h:(sB k kI Y)[i]?=some (some v)):k<=i/\∃j,kI[i-k]?=some j/\Y[j]?=some (some v):=by
 unfold sB at h;by_cases c:i<k
 ·rw [MF (by simpa using c),Vh,jY c] at h
  cases h
 ·rw [Mg (by simpa using ajz c),YU,ir] at h
  show#[ajz c,?_];cases e:kI[i-k]? with
  | none=>erw [e] at h
  | some j=>
   rw [e] at h;show(j,O,?_);let Z:(Y[j]?).getD none=some v:=QI h;cases z:Y[j]? with
   | none=>erw [z] at Z
   | some o=>
    rw [z] at Z;show ox some Z
def vQ {Y:L2.St}
    {RR:Value->AZ->Result->G_->Prop} {E:δ} (hc:X.calm=true) (B:Ze X scope ow fn fr kI)
  (hg:∀C s H U,PG (GO X (tn++fr) scope fn (ow C++bJ X.env fr) C s H U) target g) (ht:∀C s H U,PF (GO X (tn++fr) scope fn (ow C++bJ X.env fr) C s H U) ifs tt) (he:∀C s H U,PE (GO X (tn++fr) scope fn (ow C++bJ X.env fr) C s H U) elt te)
  (I2:Inv X AO Y H2 s2) (T:Turn X.prog X.w X.K target J U it tnn) (st2:tnn 0 s2.heap) (f2:∀b∈U,qX X AO H2 b) (q:∀D,H2 D=none->vP D g tt te J (sB tn.length kI Y) H2 Q)
  (fin:∀D C H' G m,Inv X AO Y H' G ->G.heap.Ns C m->qX X AO H' C->Q (.ref D) H' ->RR (.ref D) C (.ok .next) G):
  DA (DW X.prog X.w) X.A (newList []) (λacc s₃=>DA (DW X.prog X.w) X.A (newFunctionEnv scope X.env.globals (bJ X.env fr) [] X.env.qual none .none (some X.env)) (λage s₄=>
   T8 (DW X.prog X.w) X.A (.compStart (.ListComp elt [(target,iter,ifs,0)] scope pos) 0 (.ref it) acc {age with scope:=relabel scope X.env}) (RR acc age.locals) s₄) E s₃) E s2:=by
 show wpAny_newObj_type (B.new (λoe acG hk₁ hc₁=>?_));let S:Inv X AO Y (upd H2 s2.heap.objs.size (.lst [])) {s2 with heap:=s2.heap.push {cls:=.type "list",data:=.seq ([]:List Value).toArray}}:=I2.acz (t':=s2.toks) (BC:=[]) .nil (P1 _);let(W,(m0,w0),turn):=q s2.heap.objs.size (I2.cg.fresh (DX _));generalize hH3:upd H2 s2.heap.objs.size (.lst [])=P at S w0
 let f3:∀b∈U,qX X AO P b:=λb Z=>by
  let(a0,a1):=f2 b Z;show#[?_,a1];let(o,e,_):=T.obj _ _ st2 b Z;rwa [<-hH3,ag (P6 (JN e))]
 generalize hD:s2.heap.objs.size=D at*;generalize hs3:({s2 with heap:=s2.heap.push {cls:=.type "list",data:=.seq ([]:List Value).toArray}}:G_)=R at*;let e3:R.heap=s2.heap.push {cls:=.type "list",data:=.seq ([]:List Value).toArray}:=by rw [<-hs3]
 let st3:tnn 0 R.heap:=T.keep _ _ _ st2 λb _ o e=>by rw [e3];show LM _ e
 let M:∀b o,R.heap.get? b=some o->oe.get? b=some o:=λb o e=>hk₁ b o e;generalize hC:R.heap.objs.size=C at*;let I:R.heap.objs.size<=C:=O8 hC;let I4:Inv X AO Y P {R with heap:=oe,toks:=R.toks+([]:List (Str×Value)).length}:=S.kept M
 let fpC:∀b∈U,b≠C:=λb Z z=>by
  let(o,e,_):=T.obj _ _ st3 b Z;show DB z (P6 (P_ (JN e) I))
 let nst:∀b∈U,b∉NR X.stack:=λb Z z=>(P4.mp (S.LF b z)).elim (f3 b Z).2.1 (f3 b Z).2.2.1
 let old:∀x c,(bJ X.env fr).lookup x=some c->c<C:=λx c e=>by
  let(v,ic):=S.cell x c (iQ e);rw [<-hC];show ic.lt
 let aoC:∀x z c,(ow C++bJ X.env fr).lookup x=some c->(ow C++bJ X.env fr).lookup z=some c->x=z:=λx z c e1 e2=>by
  rcases zE e1 with L|⟨_,L⟩<;>rcases zE e2 with b2|⟨_,b2⟩
  ·show B.one _ _ _ _ L b2
  ·show DB (old z c b2) (Nat.lt_asymm (B.ge _ _ _ L))
  ·show DB (old x c L) (Nat.lt_asymm (B.ge _ _ _ b2))
  ·show S.ok.inj x z c (iQ L) (iQ b2)
 let aoD:∀x c,fn x=true->(ow C++bJ X.env fr).lookup x=some c->R.heap.objs.size<=c:=λx c f e=>by
  rcases zE e with L|⟨a1,L⟩
  ·show GX (O8 hC) (Qr (B.ge _ _ _ L))
  ·show DB a1 (B.fn1 C x f)
 let nfp:∀b∈U,∀x c,(ow C++bJ X.env fr).lookup x=some c->c≠b:=λb Z x c e=>by
  rcases zE e with L|⟨a1,L⟩
  ·let(o,eo,_):=T.obj _ _ st3 b Z
   have:=JN eo;rw [hC] at this;show IL (P6 (O7 this (B.ge _ _ _ L)))
  ·show(f3 b Z).2.2.2.2.1 x c (iQ L)
 let agg:∀{x:Str} {c:AZ},x∈fr->(bJ X.env fr).lookup x=some c->(ow C++bJ X.env fr).lookup x=some c:=λ{x c} f e=>by
  rwa [aiA,B.ny C x f]
 let okB:(GO X (tn++fr) scope fn (ow C++bJ X.env fr) C R P U).Ok:=by
  show(S.ok.mod,B.kind,S.ok.glob,S.ok.blt,I,aoC,λx f=>?_,aoD,S.ok.hd,S.ok.frames,.inl rfl,
   λb Z=>#[fpC b Z,λx c e=>nfp b Z x c e],S.bs,GX S.ok.YV S.sz,λb o e Z=>?_,nst,S.stack,S.NS)
  ·let hm:∃k,(x,k)∈scope.names/\k≠.local/\(k=.cell\/k=.free):=by
    have:∃k',(relabel scope X.env).names.lookup x=some k'/\(k'=.cell\/k'=.free):=by
     rcases f with z|z
     ·show(_,z,.inl rfl)
     ·show(_,z,.inr rfl)
    let(k',e',h'):=this;let((n,k),hn,en):=GV.mp (lookup_mem e');dsimp only at en;by_cases cc:(k==NameKind.free && X.env.scope.kind==.function && X.env.kindOf n==some .cell)=true
    ·rw [jY cc] at en
     cases en
     let kf:k=.free:=by
      rw [uh,uh] at cc;simpa using cc.1.1
     show(k,hn,(by intro z;erw [kf] at z),.inr kf)
    ·rw [iO cc] at en
     cases en;show(k',hn,λz'=>by rcases h' with y|y<;>(erw [y] at z'),h')
   let(k,hk,_,h2):=hm
   rcases h2 with z|z
   ·cases e:(ow C).lookup x with
    | none=>show DB e (B.fn1 C x (B.only _ hk z))
    | some c=>show#[c,by change Uw x (ow C++_)=_;rw [aiA,e];rfl]
   ·let hf:=B.free _ hk z
    let(c,ec):=S.ok.has x (B.out.at hf);show#[c,agg hf (rm ec hf)]
  ·let(_,_,_,h1,_):=f3 b Z
   rcases h1 with z|z
   ·show S.ok.T9 b o e z
   ·show Qh _ (P_ (P_ (JN e) S.ok.YV) z)
 let IB:Inv (GO X (tn++fr) scope fn (ow C++bJ X.env fr) C R P U) [] (sB tn.length kI Y) P {R with heap:=oe,toks:=R.toks+([]:List (Str×Value)).length}:=by
  show(okB,O,S.bare,Un.kept M,(_,acG,λi x v e1 e2 _=>?_),λx c e=>(zE e).elim (λz=>#[none,hc₁ x c z]) (λz=>I4.cell x c (iQ z.2)),?_,λx c e=>(zE e).elim (λz=>S.cg.fresh (GX I (Qr (B.ge _ _ _ z)))) (λz=>S.lB x c (iQ z.2)),λp hp=>(nomatch hp),S.cg.kept M,?_)
  ·let(hk,j,ej,es):=acF e2
   have LV :fr[i-tn.length]?=some x:=by
    let z:(tn++fr)[i]?=some x:=e1;rwa [Mg hk] at z
   let f:x∈fr:=IH LV
   let eN:X.N[j]?=some x:=by
    let z:=ox (λl:List (Option Str)=>l[i-tn.length]?) B.kI;simp only [ir,ej,LV,amz] at z;show QI z
   let ko:=B.out.at f;let(m,hn,hl):=I4.loc;let(u,r,lk):=hl j x v eN es (by rcases ko with z|z;show .inr (.inl z);show .inr (.inr z));show(u,r,?_)
   rcases lk with ⟨k1,_⟩|⟨_,c,ec,ic⟩
   ·rcases ko with z|z<;>(erw [z] at k1)
   ·show .inr (B.inn.at f,c,agg f (rm ec f),ic)
  ·show S.cg.fresh I
  ·have:=ox Wy B.kI
   simp only [Wp] at this;change (sB tn.length kI Y).length=(tn++fr).length;unfold sB;simp [this]
 let UH:∀{H':Hp},(∀b∈U,H' b=none)->∀b∈U,qX (GO X (tn++fr) scope fn (ow C++bJ X.env fr) C R P U) [] H' b:=λhn b Z=>
  (hn b Z,fpC b Z,nst b Z,.inl Z,nfp b Z,λp hp=>(nomatch hp))
 let st4:tnn 0 oe:=T.keep _ _ _ st3 λb _ o e=>M b o e
 let loop:T8 (DW X.prog X.w) X.A (.compLoop (.ListComp elt [(target,iter,ifs,0)] scope pos) 0 (.ref it) (.ref D) (compEnvC scope (ow C++bJ X.env fr) C X.env)) (RR (.ref D) C) {R with heap:=oe,toks:=R.toks+([]:List (Str×Value)).length}:=by
  show its (λn G=>∃i Y' ys H',Inv (GO X (tn++fr) scope fn (ow C++bJ X.env fr) C R P U) [] Y' H' G/\tnn i G.heap/\(∀b∈U,H' b=none)/\W i n Y' ys H') ?_ m0 (0,_,[],P,IB,st4,λb Z=>(f3 b Z).1,w0);rintro n s5 ⟨i,Y5,ys,H5,I5,st5,fr5,w5⟩
  rcases turn i n Y5 ys H5 w5 with ⟨stop,qn⟩|⟨go,step⟩
  ·show Qf (T.done (GO X (tn++fr) scope fn (ow C++bJ X.env fr) C R P U) rfl rfl rfl hc i [] s5 Y5 H5 (λ_ _=>False) I5 (UH fr5) st5 stop) (λr s6 ⟨hr,I6⟩=>?_) λ_ _ z=>z
   subst hr;let(m,hn,_):=I6.loc;let J6:Inv X AO Y H5 s6:=S.afD (ch:=U) I6.os I6.gN I6.cg I6.bare λb Z=>((f3 b Z).2.2.2.1,(f3 b Z).2.1,(f3 b Z).2.2.2.2.1,(f3 b Z).2.2.2.2.2);show fin D C H5 s6 m J6 hn (S.ye I I6.free) qn
  ·show Qf (T.item (GO X (tn++fr) scope fn (ow C++bJ X.env fr) C R P U) rfl rfl rfl hc i [] s5 Y5 H5 (λ_ _=>False) I5 (UH fr5) st5 go) (λr s6 ⟨u,hr,h6⟩=>?_) λ_ _ z=>z
   subst hr;show Qf h6 (λ_ s7 ⟨x,H7,I7,r7,y7,st7,fr7⟩=>?_) λ_ _ z=>z;let I7':=I7.pinned (UH fr7) (T.obj _ _ st7)
   let held:∀{Y' :L2.St} {H':Hp} {G:G_},Inv (GO X (tn++fr) scope fn (ow C++bJ X.env fr) C R P U) ([]++vF U s7.heap) Y' H' G ->tnn (i+1) G.heap/\∀b∈U,H' b=none:=λ{Y' H' G} I'=>by
    show#[T.keep _ _ _ st7 λb Z o e=>(I'.pin (b,o) (V2 _ (V2 _ (j4 Z e)))).1,λb Z=>?_];let(o,e,d):=T.obj _ _ st7 b Z;show(I'.pin (b,o) (V2 _ (V2 _ (j4 Z e)))).2.1
   show Qf (hg C R P U _ s7 Y5 H7 x u _ I7' r7 (step x H7 y7)) (λ_ s8 ⟨Y8,H8,I8,q8⟩=>?_) λ_ _ z=>z;show Qf (ht C R P U _ s8 Y8 H8 _ I8 q8) (λok s9 ⟨H9,I9,q9⟩=>?_) λ_ _ z=>z;cases ok with
   | false=>
    rw [iO P7] at q9;let(m',hm,w9):=q9;rw [iO P7];let(a,b):=held I9;show(m',hm,i+1,Y8,ys,H9,I9.lF,a,b,w9)
   | true=>
    rw [jY rfl] at q9;rw [jY rfl];show Qf (he C R P U _ s9 Y8 H9 _ I9 q9) (λv yh ⟨y9,Oa,I10,r10,hDD,hl,m',hm,w10⟩=>?_) λ_ _ z=>z;show Qf (eE (X:=GO X (tn++fr) scope fn (ow C++bJ X.env fr) C R P U) _ yh Y8 Oa (.ref D) [y9] (.ref D) [v] (λ_ H'=>W (i+1) m' Y8 (ys++[y9]) H') I10 rfl (.cons r10 .nil) (D,ys,y9,O,O,hDD,hl,w10)) (λ_ vn ⟨z,S5,I11,_,q11⟩=>?_) λ_ _ z=>z;let(a,b):=held I11;show(m',hm,i+1,Y8,ys++[y9],S5,I11.lF,a,b,q11)
 show codeAny_compStart_list loop (T.self X.A 0 _ _ _ st4 loop)
def ako (k:X.calm=true)(B:Ze X scope ow fn fr kI)(y:PI X target iter wi)
  (u:∀C s H Z,PG (GO X (tn++fr) scope fn (ow C++bJ X.env fr) C s H Z) target g) (G:∀C s H Z,PF (GO X (tn++fr) scope fn (ow C++bJ X.env fr) C s H Z) ifs tt) (p:∀C s H Z,PE (GO X (tn++fr) scope fn (ow C++bJ X.env fr) C s H Z) elt te)
  (E:∀x,σ5 iter X.env x=pure x:=by intro _;rfl):PE X (.ListComp elt [(target,iter,ifs,0)] scope pos) (tK tn.length kI wi g tt te):=by
 intro R s Y H Q I h;rw [eval_ListComp];show wpAny_comprehension_free (use:=none) rfl E B.vO B.kind B.names (cJ (y R s Y H _ I h) λv s1 f=>cJ f λL s2 i=>?_);let(it,Z,P,J,H2,rfl,I2,T,U,f2,q):=i;show vQ (Q:=Q) (RR:=λS C=>compPost (DW X.prog X.w) X.A X.xe none (EP X R Y Q) S C) k B u G p I2 T U f2 q ?_;intro D C H' N m I' z fc M;let(g0,g1,g2,g3,a,c):=fc;show(m,z,λh' Ly =>(.ref D,H',I'.turned (t':=N.toks) (λb o j e=>(Ly.2 b j).trans e) g0 g1 g3 a c,O,M))
def aey {k:Pos}(hN:X.N.Nodup)(P:X.N[i]?=some y)(hx:Loc X.env.scope y)
  (hc:X.calm=true) (B:Ze X scope ow fn fr kI) (hi:PI X target iter wi)
  (hg:∀C s H Z,PG (GO X (tn++fr) scope fn (ow C++bJ X.env fr) C s H Z) target g) (ht:∀C s H Z,PF (GO X (tn++fr) scope fn (ow C++bJ X.env fr) C s H Z) ifs tt) (he:∀C s H Z,PE (GO X (tn++fr) scope fn (ow C++bJ X.env fr) C s H Z) elt te)
  (S6:Vw (.ListComp elt [(target,iter,ifs,0)] scope pos) (some (.Name y py)) k.line X.env=pure true:=by rfl)
  (hs:∀x,σ5 iter X.env x=pure x:=by intro _;rfl) (hf:X.fn y=true\/X.env.scope.names.lookup y=some .local:=by first|show .inl rfl|show .inr rfl|assumption):
  PS X (.Assign [.Name y py] (.ListComp elt [(target,iter,ifs,0)] scope pos) k) (LJ (tK tn.length kI wi g tt te) (dZ i)):=by
 intro p s Y H D I h;rw [exec_Assign_Name_used _ _ _ _ S6];show IC (wpAny_standAt (IC ?_));change DA _ X.A (do let _ <- comprehension (.ListComp elt [(target,iter,ifs,0)] scope pos) scope X.env _ (newList []) false (II iter X.env) (some (assign (.Name y py) X.env))) _ _ s
 show IC (Qf (wpAny_comprehension_free (use:=some (assign (.Name y py) X.env)) (Q:=λ_ U=>SP X p D .next U) rfl hs B.vO B.kind B.names
  (cJ (hi p s Y H _ I h) λv s1 h1=>cJ h1 λitv s2 h2=>?_)) (λ_ U hq=>LN (LN hq)) λ_ _ e=>e)
 let(it,Z,c,J,H2,rfl,I2,T,S,f2,q):=h2;show vQ (Q:=λv H1=>dZ i v Y H1 D.nx) (RR:=λL C=>compPost (DW X.prog X.w) X.A X.xe (some (assign (.Name y py) X.env)) (λ_ U=>SP X p D .next U) L C) hc B hg ht he I2 T S f2 q ?_;intro E C H' U m I' hn fc qq;let(g0,f,g2,g3,j,g5):=fc;change DA _ X.A (assign (.Name y py) X.env (.ref E)) _ _ _;show wpAny_assign_Name (y6 I' hN P hx (v:=.ref E) (u:=.ref E) rfl (λR G ⟨a,sb,ha⟩=>?_) hf)
 let M:C≠a:=by
  rcases ha with z|z
  ·rw [z]
   show f
  ·show λe=>j y a z e.symm
 show(m,hn.sameBut sb M,λh' Ly =>(_,H',G.turned (t':=R.toks) (λb o hb e=>(Ly.2 b hb).trans e) g0 f g3 j g5,qq))
def BD.g {kI:Ψ}(B:BD X scope fr kI):Ze X scope (λ_=>[]) (λ_=>false) fr kI:=
 (B.vO,B.kind,B.names,B.free,B.kI,B.out,B.inn,λR=>wpAny_newFunctionEnv B.cell (by intro y S;simp at S) (λU Y Z=>R U Y (λb o e=>(Z.2 b (P6 (JN e))).trans (LM _ e)) λ_ _ z=>(nomatch z)) B.kind,
  λ_ _ _ z=>(nomatch z),λ_ _ _ _ z=>(nomatch z),λ_ _ z=>(nomatch z),λz T e=>DB e (B.cell z T),λ_ _ _=>O)
def agb (Q:X.calm=true)(B:BD X scope fr kI)(T:PI X target iter wi)
  (S:∀C s H Z,PG (vm X (tn++fr) scope (bJ X.env fr) C s H Z) target g) (Y:∀C s H Z,PF (vm X (tn++fr) scope (bJ X.env fr) C s H Z) ifs tt) (R:∀C s H Z,PE (vm X (tn++fr) scope (bJ X.env fr) C s H Z) elt te)
  (U:∀x,σ5 iter X.env x=pure x:=by intro _;rfl):PE X (.ListComp elt [(target,iter,ifs,0)] scope pos) (tK tn.length kI wi g tt te):=
 ako Q B.g T S Y R U
def ag_ {U:Pos}(I:X.N.Nodup)(Y:X.N[i]?=some y)(T:Loc X.env.scope y)
  (J:X.calm=true) (B:BD X scope fr kI) (Q:PI X target iter wi)
  (P:∀C s H Z,PG (vm X (tn++fr) scope (bJ X.env fr) C s H Z) target g) (S:∀C s H Z,PF (vm X (tn++fr) scope (bJ X.env fr) C s H Z) ifs tt) (L:∀C s H Z,PE (vm X (tn++fr) scope (bJ X.env fr) C s H Z) elt te)
  (G:Vw (.ListComp elt [(target,iter,ifs,0)] scope pos) (some (.Name y py)) U.line X.env=pure true:=by rfl)
  (R:∀x,σ5 iter X.env x=pure x:=by intro _;rfl) (M:X.fn y=true\/X.env.scope.names.lookup y=some .local:=by first|show .inl rfl|show .inr rfl|assumption):
  PS X (.Assign [.Name y py] (.ListComp elt [(target,iter,ifs,0)] scope pos) U) (LJ (tK tn.length kI wi g tt te) (dZ i)):=
 aey I Y T J B.g Q P S L G R M
end
section
variable {D:AZ}{te:TE}{mw:L2.St}{H1:Hp}{Q:VK}
def LW (n:Nat)(xs:Nat->V)(Z:Nat->List V->Hp->Prop)(N:Z 0 [] (upd H1 D (.lst [])))
  (M:∀i ys H,i<n->Z i ys H->J.go i H/\∀x H',J.S3 i H x H' ->H'=H/\x=xs i) (stop:∀ys H,Z n ys H->J.stop n H)
  (S:∀i ys H (R:VK),i<n->Z i ys H->H D=some (.lst ys)->(∀v X,X D=some (.lst ys)->ys.length<HZ->Z (i+1) (ys++[v]) (upd X D (.lst (ys++[v])))->R v X)->te (some (xs i)::mw) H R)
  (P:∀ys H,Z n ys H->H D=some (.lst ys)->Q (.ref D) H):vP D (dZ 0) oX te J (none::mw) H1 Q:=by
 show(λi m Y ys H=>m=n-i/\i<=n/\(∃o,Y=o::mw)/\Z i ys H/\H D=some (.lst ys),(n,by simp,P1 _,#[none,O],N,af),?_);rintro i m Y ys H ⟨rfl,C,⟨o,rfl⟩,p,T⟩;by_cases U:i<n
 ·let(I,L):=M i ys H U p
  show .inr #[I,λx H' y=>?_];let(E,G):=L x H' y;subst E G;unfold dZ oX;dsimp only;rw [jY rfl];show S i ys _ _ U p T λv X a b c=>(a,b,n-(i+1),cr,O,cr,#[_,O],c,af)
 ·let e:i=n:=cr
  subst e;show .inl #[stop ys H p,P ys H p T]
end
structure Mk0 (K:Frag)(C:AZ):Prop where
 makes:Wg K C=true
 init:P5 K (.ref C) "__init__"=some (some (.builtin "object.__init__"))
 kp:keepIn K (.ref C)=true
def agi (C:AZ):TE:=λ_ H Q=>∀x Z,H x=none->H Z=none->Z≠x->Q (.ref x) (upd (upd H Z (.own x)) x (.ins C Z []))
section
variable {X:Cx}
def aj0 {Y:L2.St}(M:Mk0 X.K C)(I:Inv X AO Y H s)(h:agi C Y H Q):DA (DW X.prog X.w) X.A (call (.ref C) []) (EP X AO Y Q) X.xe s:=by
 let S:=h (s.heap.objs.size+1) s.heap.objs.size (I.cg.fresh (N3 _)) (I.cg.fresh (DX _)) (P6 (Qg _));let P:=Inv.made (C:=C) I;have σ:=PySem.W.makes_of (M:=DW X.prog X.w) I.yb M.makes;show wpAny_call (aaN I.yb M.makes M.init (λZ=>PySem.W.Looks.of_pure (PySem.W.oi_bind Z)) ?_)
 let R:((s.heap.push UK).push (UJ C s.heap.objs.size)).get? (s.heap.objs.size+1)=some (UJ C s.heap.objs.size):=by
  have:=QL (s.heap.push UK) (o:=UJ C s.heap.objs.size) rfl
  rwa [ZW] at this
 let T:PySem.W.Looks (DW X.prog X.w) ((s.heap.push UK).push (UJ C s.heap.objs.size)) (typeOf (.ref (s.heap.objs.size+1))) (.ref C):=(PySem.W.Looks.ld R).andThen .now
 let U:PySem.W.Looks (DW X.prog X.w) ((s.heap.push UK).push (UJ C s.heap.objs.size)) (isInstance (.ref (s.heap.objs.size+1)) (.type "object")) true:=
  T.andThen (σ.top.keeps λb o e=>LM _ (LM _ e))
 show codeAny_call_builtin PySem.W.oi_plain PySem.W.entry_oi (@PySem.W.check_slot (DW X.prog X.w) _ _ _ "object.__init__" "object" "__init__" (.ref (s.heap.objs.size+1)) [] [] _ PySem.W.oi_kind PySem.W.oi_split U (PySem.W.oi_args (.ref (s.heap.objs.size+1))) ?_);rw [PySem.W.oi_run];show LN (And.intro rfl ⟨V.ref (s.heap.objs.size+1),_,P,rfl,S⟩)
def acJ (M:Mk0 X.K C)(U:Gl X x)(Z:X.mg x=some (.ref C))(T:(x==("__debug__":Str))=false:=by decide):PE X (.Call (.Name x p) [] [] pos) (agi C):=by
 intro S s Y H Q I h;show Zf (oP I U Z ?_ T);show PySem.W.callWith_K0 I.yb M.kp (aj0 M I h)
end
structure bN (P:LS)(w:World)(K:Frag)(mg:ι)(gN:Heap)(CX:oI)(k:Nat)(C:AZ)(m:Str)(ps:τ)(sp:Sp):Prop where
 ex:∃(f:AZ)(fd:FuncData),y_ K C/\Meth K C m f/\cO P w K mg gN CX k f fd ps sp/\Binds K fd ps []
theorem bN.mono {K:Frag}(M:bN P w K mg gN CX j C m ps sp)(h:j<=k):bN P w K mg gN CX k C m ps sp:=by
 let(f,Z,a,b,c,d):=M.ex;show(f,Z,a,b,c.mono h,d)
section
variable {X:Cx}{CX:oI}{k:Nat}{E:XK}{m:Str}{pos apos:Pos}{e o:Expr}{es:Α}{ta:TE}{t:TA}
inductive abh (P:LS)(w:World)(K:Frag)(mg:ι)(gN:Heap)(CX:oI)(k:Nat)(m:Str)(E:XK)(t:TA)(Y:L2.St)(Q:VK)(x:V)(T:Hp):Prop
|mk (a C S U ps Z:_)(_:x=.ref a)(_:T a=some (.ins C S U))(_:U.lookup m=none)(_:bN P w K mg gN CX k C m ps Z)(_:t Y T λvs R=>Z (x::vs) R Q E)
def acK (P:LS)(w:World)(K:Frag)(mg:ι)(gN:Heap)(CX:oI)(k:Nat)(m:Str)(E:XK)(ta:TE)(t:TA):TE:=λY H Q=>ta Y H (abh P w K mg gN CX k m E t Y Q)
def fj (L:PE X o ta)(N:cp k X.A)(R:Passes CX X E)
  (P:II (.Call (.Attribute o m apos) [] [] pos) X.env=(do
   let U <- II o X.env
   standAt apos.atName
   let (f,first) <- Wf [U] (getMethod U m pl)
   callWith pos f first (QG pos (JF [] X.env)) (backToKw pos (ZU [] X.env))):=by rfl):
  PE X (.Call (.Attribute o m apos) [] [] pos) (acK X.prog X.w X.K X.mg X.gN CX k m E ta iN):=by
 intro B s Y H Q I h;show PySem.W.methodCall_KW (pl:=pl) (cJ (L B s Y H _ I h) λu y ⟨x,b,Z,S,a,C,g,j,p,z,G,D,l,M,q⟩=>?_) P;subst G;obtain rfl:u=Value.ref a:=S;let(f,i,c,T,F,J):=M.ex;show nM Z D c T l ?_;show PySem.W.callWith_K0 (first:=[.ref a]) Z.yb T.kp (AS (us:=[.ref a]) (vs:=[.ref a]) (qu:=[]) F N J .nil R Z (.cons rfl .nil) q)
def d6 {pl:Sem Bool}(B:PE X o ta)(D:cp k X.A)(J:Passes CX X E)(y:PA X (e::es) t)
  (i:JF (e::es) X.env=(false,II e X.env)::JF es X.env:=by rfl) (P:(QG pos (JF es X.env)).any (·.1)=false:=by rfl)
  (G:II (.Call (.Attribute o m apos) (e::es) [] pos) X.env=(do
   let Z <- II o X.env
   standAt apos.atName
   let (f,first) <- Wf [Z] (getMethod Z m pl)
   callWith pos f first (QG pos (JF (e::es) X.env)) (backToKw pos (ZU [] X.env))):=by rfl):
  PE X (.Call (.Attribute o m apos) (e::es) [] pos) (acK X.prog X.w X.K X.mg X.gN CX k m E ta t):=by
 intro R s Y H Q I h;show PySem.W.methodCall_KW (pl:=pl) (cJ (B R s Y H _ I h) λu N ⟨x,g,S,L,a,C,dx,fs,ps,b,p,j,l,M,q⟩=>?_) G;subst p;obtain rfl:u=Value.ref a:=L;let(f,fd,c,U,F,z):=M.ex;show nM S j c U l ?_;show N4 (first:=[.ref a]) (h₀:=X.gN) I.ok.mod.kin U.kp (cJ (y pos R N Y g _ S q) λus s2 ⟨vs,H2,T,r,q2⟩=>#[T.yb,?_]) i P;show AS (us:=.ref a::us) (vs:=.ref a::vs) (qu:=[]) F D z .nil J T (.cons rfl r) ?_;rwa [amx]
end
def abi (h:IG CX)(e:X.xe=λ_ _=>False):Passes CX X E0:=λ_ _ _ _ _ _ _ q=>(h _ _ _ _ _ q).elim
section
variable {X:Cx}
inductive agj (x:V)(lo:Option Int)(Z:Option Int)(H:Hp)(Q:VK):Prop
|mk (z:_)(_:x=.str z)(_:z.length<=HZ)(_:Q (.str (Txt.slice z lo Z)) H)
def acL:SlR X agj:=by
 intro J s Y H x v vl N lo L M Q I S T P R h;let(z,rfl,U,q):=h;let(t,rfl):=S;show("str",_,F.slot_str_getitem.lookup,typeIs_str _ _ _,?_);cases P<;>cases R
 ·show NU (l:=none) (u:=none) (st:=none) T rfl (O0 #[GX (Txt.slice_le z _ _) U,λZ k=>(.str _,H,I.tok k,#[Z,O],q)])
 ·rename_i j uj
  show NU (l:=none) (u:=some (j,uj)) (st:=none) T rfl (O0 #[GX (Txt.slice_le z _ _) U,λZ k=>(.str _,H,I.tok k,#[Z,O],q)])
 ·rename_i i ui
  show NU (l:=some (i,ui)) (u:=none) (st:=none) T rfl (O0 #[GX (Txt.slice_le z _ _) U,λZ k=>(.str _,H,I.tok k,#[Z,O],q)])
 ·rename_i i ui j uj
  show NU (l:=some (i,ui)) (u:=some (j,uj)) (st:=none) T rfl (O0 #[GX (Txt.slice_le z _ _) U,λZ k=>(.str _,H,I.tok k,#[Z,O],q)])
inductive abj (x:V)(y:V)(H:Hp)(Q:VK):Prop
|mk (z n:_)(_:x=.str z)(_:y=.int n)(_:MulOk z n)(_:Q (.str (Txt.mul z n)) H)
def BE:mZ X (UM .Mult) abj:=by
 intro R s Y H x y v u Q I T U h;let(z,n,rfl,rfl,S,q):=h;let(t,rfl):=T;let(Z,rfl):=U;show SB.mul S λZ k=>(.str _,H,I.tok k,#[Z,O],q)
end
end Ty
set_option maxHeartbeats 1000000
set_option maxHeartbeats 4000000
namespace Ty
open PySem PySem.Spec PyProof.Rows L2 PySem.NumText
def dg (m:Nat):List Nat:=(Nat.toDigits 10 m).map Char.toNat
def tx (n:Int):Str:=Ql (toString n)
def agk:Str:=Ql "/"
def nt (q:Int×Int):Str:=if q.2=1 then tx q.1 else tx q.1++agk++tx q.2
def isStar:Expr->Bool
 | .Starred .. =>true
 | _=>false
def acu {Z:Α}(h:isStar e=false):JF (e::Z) env=(false,II e env)::JF Z env:=by
 cases e<;>first|rfl|(cases h;done)
def Lz (Y:PE X e te)(Z:PA X es t)(h:isStar e=false:=by rfl):PA X (e::es) (tG te t):=akN Y Z (acu h)
end Ty
namespace Ty
open PySem PySem.Spec PyProof.Rows L2
section
variable {D:AZ}{te:TE}{mw:L2.St}{H1:Hp}{Q:VK}
def aX (D:AZ)(H H':Hp):Prop:=∀b o,b≠D->H b=some o->H' b=some o
def aX.of (s:ar H H'):aX D H H':=λb o _ e=>s b o e
theorem aX.upd :aX D H (upd H D o):=λb Z n e=>by rwa [ag n]
def aeu (n:Nat)(xs:Nat->V)(Rel:Nat->V->Hp->Prop)(S:H1 D=none)(E:n<HZ)
  (I:∀i H,i<n->ar H1 H->J.go i H/\∀x H',J.S3 i H x H' ->H'=H/\x=xs i) (stop:∀H,ar H1 H->J.stop n H)
  (T:∀i v H H' ys,H D=some (.lst ys)->aX D H H' ->Rel i v H->Rel i v H')
  (M:∀i H (R:VK),i<n->ar H1 H->(∀v Z,ar H Z->Rel i v Z->R v Z)->te (some (xs i)::mw) H R)
  (L:∀ys H,ys.length=n->(∀i v,ys[i]?=some v->Rel i v H)->ar H1 H->H D=some (.lst ys)->Q (.ref D) H):
  vP D (dZ 0) oX te J (none::mw) H1 Q:=by
 show LW n xs (λi ys H=>ys.length=i/\(∀i v,ys[i]?=some v->Rel i v H)/\ar H1 H) (O,λi v e=>by simp at e,λb o e=>by rwa [ag (aj e S)]) ?_ ?_ ?_ ?_
 ·rintro i ys H U ⟨_,_,s⟩
  show I i H U s
 ·rintro ys H ⟨_,_,s⟩
  show stop H s
 ·rintro i ys H R U ⟨l,r,s⟩ Y k
  show M i H R U s λv Z X P=>k v Z (X _ _ Y) cr (by simp [l],λj u e=>?_,λb o e=>?_)
  ·by_cases c:j<ys.length
   ·rw [MF c] at e
    let N:=T j u H Z ys Y (aX.of X) (r j u e);show T j u Z _ ys (X _ _ Y) aX.upd N
   ·rw [Mg cr] at e
    let G:j=i:=by
     by_cases z:j-ys.length=0
     ·omega
     ·rw [JM (by simp;omega)] at e
      cases e
    subst G
    have:v=u:=by
     rw [show j-ys.length=0 by omega] at e;show QI e
    subst this;show T j v Z _ ys (X _ _ Y) aX.upd P
  ·rw [ag (aj e S)]
   show X _ _ (s _ _ e)
 ·rintro ys H ⟨l,r,s⟩ Y
  show L ys H l r s Y
def eG {K:Frag}(Rel:Nat->V->Hp->Prop)(T:H1 D=none)(S:xs.length<HZ)(Y:∀H,ar H1 H->bh K H a xs)
  (M:∀i v H H' ys,H D=some (.lst ys)->aX D H H' ->Rel i v H->Rel i v H')
  (P:∀i x H (R:VK),xs[i]?=some x->ar H1 H->(∀v X,ar H X->Rel i v X->R v X)->te (some x::mw) H R)
  (N:∀ys H,ys.length=xs.length->(∀i v,ys[i]?=some v->Rel i v H)->ar H1 H->H D=some (.lst ys)->Q (.ref D) H):
  vP D (dZ 0) oX te (Itl K a) (none::mw) H1 Q:=by
 show aeu xs.length (λi=>(xs[i]?).getD .cK) Rel T S (λi H Z s=>#[(xs,xs[i],Y H s,gE Z),λx H' y=>#[y.1,?_]]) (λH s=>(xs,Y H s,DX _)) M (λi H R Z s k=>?_) N
 ·rw [y.2 xs (Y H s)];rfl
 ·let e:xs[i]?=some xs[i]:=gE Z
  let U:=P i _ H R e s k;rw [<-(show(xs[i]?).getD .cK=xs[i] by rw [e];rfl)] at U;show U
end
section
variable {X:Cx}{AO:θ}{Y:L2.St}{H:Hp}{s:G_}{h':Heap}
def Inv.vo {T:ψ}(I:Inv X AO Y H s)(k:∀b o,b∉T->s.heap.get? b=some o->h'.get? b=some o)(S:∀b∈T,qX X AO H b):Inv X AO Y H {s with heap:=h',toks:=t'}:=by
 let U:∀b u,H b=some u->b∉T:=λb u e z=>by erw [(S b z).1] at e
 show I.step (g':=s.gens) (d':=s.drawn) (ch:=T) (λb P=>?_) (λb o _ _ Z e _=>k b o Z e) (λb o _ _ Z e _=>#[o.slots,k b o Z e]) (λ_ _ _ _ n=>n)
  (λb o Z e=>#[o,k b o Z e]) (λ_ _ e=>e) (λ_ _ _ e=>e) (λb D e=>#[#[],by rw [e];simp]) (λm Q=>?_) (λb u e=>?_) I.bare
 ·let(B,J,C,L,M,N):=S b P
  show(L,J,M,N)
 ·let(o,G,E,R,r):=Q
  show(o,G,E,k _ o (λz=>(S _ z).2.1 rfl) R,r)
 ·show(I.cg b u e).vC (λc v Z q=>k c v ?_ q) (λ_ q=>q) λ_ _ q=>q
  rcases Z with z|z
  ·rw [z];show U b u e
  ·show U c _ z
def Inv.BF {Q:ψ}{T:AZ}{xs:γ}{BC:ρ}(I:Inv X AO Y H s)(k:∀b o,b∉Q->s.heap.get? b=some o->h'.get? b=some o)(P:∀b∈Q,qX X AO H b)(N:s.heap.objs.size<=T)
  (hz:xs.length<=HZ) (L:Vals xs BC) (G:IsTup h' T BC.toArray):Inv X AO Y (upd H T (.tup xs)) {s with heap:=h',toks:=t'}:=by
 let S:=I.cg.fresh N;let U:∀b u,H b=some u->b∉Q:=λb u e z=>by erw [(P b z).1] at e
 let J:∀b o,s.heap.get? b=some o->b≠T:=λb o e=>P6 (P_ (JN e) N)
 show I.step (g':=s.gens) (d':=s.drawn) (ch:=Q) (λb R=>?_) (λb o _ _ Z e _=>k b o Z e) (λb o _ _ Z e _=>#[o.slots,k b o Z e]) (λb o _ e n=>by rwa [ag (J b o e)])
  (λb o Z e=>#[o,k b o Z e]) (λb M e=>by rwa [ag (aj e S)]) (λb o u e=>by rwa [ag (aj e S)]) (λb p e=>#[#[],by rw [ag (aj e S),e];simp]) (λm D=>?_) (λb u e=>?_) I.bare
 ·let(i,y,j,A,B,C):=P b R
  show(A,y,B,C)
 ·let(o,x,w,E,r):=D
  show(o,x,w,k _ o (λz=>(P _ z).2.1 rfl) E,r)
 ·by_cases R:b=T
  ·subst R
   erw [af] at e;show(hz,BC,L,G)
  ·rw [ag R] at e
   show(I.cg b u e).vC (λc v Z q=>k c v ?_ q) (λc q=>by rwa [ag (aj q S)]) λc M q=>by rwa [ag (aj q S)]
   rcases Z with z|z
   ·rw [z];show U b u e
   ·show U c _ z
end
def Itz (K:Frag)(a b:AZ):It:=
 (λi H=>∃xs Z x y,bh K H a xs/\bh K H b Z/\xs[i]?=some x/\Z[i]?=some y,
  λi H v Y=>∃p x y,(∀xs,bh K H a xs->xs[i]?=some x)/\(∀Z,bh K H b Z->Z[i]?=some y)/\v=.ref p/\H p=none/\Y=upd H p (.tup [x,y]),
  λi H=>∃xs Z,bh K H a xs/\bh K H b Z/\(xs.length<=i\/Z.length<=i))
def ae1 {K:Frag}{es:Α}(a b z TI TO T U:AZ)(D:ZipApart z TI TO T U a b):
  Turn P w K (.Tuple es k pos) (Itz K a b) [z,TI,TO,T,U] z (λi h=>IsZip h z TI TO .none/\IsPair h TI (.ref T) (.ref U)/\(∃x y,IsPair h TO x y)/\h.IsListIter T a i/\h.IsListIter U b i) where
 mem:=by simp
 obj:=λi h st c N=>by
  let(R,S,(x,y,Q),(o1,e1,c1,d1),(o2,e2,c2,d2)):=st;have m :c=z\/c=TI\/c=TO\/c=T\/c=U:=by simpa using N
  rcases m with e|e|e|e|e<;>subst e
  ·show(_,R,λv z=>by cases z)
  ·show(_,S,λv z=>by cases z)
  ·show(_,Q,λv z=>by cases z)
  ·show(_,e1,λv z=>by erw [d1] at z)
  ·show(_,e2,λv z=>by erw [d2] at z)
 keep:=λi h A st k=>by
  let(R,S,(x,y,Q),J,L):=st;show(k z fN _ R,k TI fN _ S,(x,y,k TO fN _ Q),J.at λo e=>k T fN o e,L.at λo e=>k U fN o e)
 item:=by
  intro X hP hw hK N i AO s Y H E I B st hg;subst hP hw hK;let(R,S,(x0,y0,Q),J,L):=st;let(xs,ys,x,y,C,G,ex,ey):=hg;let(BC,g,p,_):=I.list C;let(jts,GK,f,_):=I.list G;let(u,hu,ru):=g.get ex;let(v,hv,j):=GK.get ey;show wpAny_pyNext_zip_item D R S Q J L p.isList f.isList (x:=u) (y:=v) (by simpa using hu) (by simpa using hv) λA a1 a2 a3 a4 a5 a6 a7=>?_;show(_,O,wpAny_letOwnedTupleGo_zip (s:={s with heap:=A}) a1 λXg b1 sb=>?_);let nz:∀c,c≠z->∀o,A.get? c=some o->Xg.get? c=some o:=λc N o e=>(sb.2 c N).trans e
  let kk:∀b o,b∉[z,TI,TO,T,U]->s.heap.get? b=some o->Xg.get? b=some o:=λb o M e=>by
   have Z :b≠z/\b≠TI/\b≠TO/\b≠T/\b≠U:=by simpa using M
   show nz b Z.1 o (a7 b o Z.1 Z.2.2.1 Z.2.2.2.1 Z.2.2.2.2 e)
  let sz:∀c o,s.heap.get? c=some o->s.heap.objs.size≠c:=λc o e=>ZM (JN e);let tz:s.heap.objs.size≠z:=sz _ _ R;let hn:=I.cg.fresh (DX s.heap.objs.size)
  let I2:Inv X AO Y (upd H s.heap.objs.size (.tup [x,y])) {s with heap:=Xg,toks:=s.toks}:=
   Inv.BF I kk B (DX _) (by change 2<=HZ;decide) (BC:=[u,v]) (.cons ru (.cons j .nil)) (_,nz _ tz _ a5,O,_,O)
  show(.ref s.heap.objs.size,_,I2,O,(s.heap.objs.size,x,y,λXh q=>by rwa [I.lC q C],λys' q=>by rwa [I.lC q G],O,hn,O),(b1,nz _ D.TIz _ (a7 _ _ D.TIz D.TITO D.TIi1 D.TIi2 S),(_,_,nz _ D.TOz _ a2),a3.at λo e=>nz _ D.i1z o e,a4.at λo e=>nz _ D.i2z o e),λb M=>?_)
  let ob:∃o,s.heap.get? b=some o:=by
   let(o1,e1,_):=J;let(o2,e2,_):=L;have m :b=z\/b=TI\/b=TO\/b=T\/b=U:=by simpa using M
   rcases m with e|e|e|e|e<;>subst e
   ·show#[_,R]
   ·show#[_,S]
   ·show#[_,Q]
   ·show#[_,e1]
   ·show#[_,e2]
  let(o,e):=ob;rw [ag (IL (sz _ _ e))];show(B b M).1
 done:=by
  intro X hP hw hK N i AO s Y H E I B st hg;subst hP hw hK;let(R,S,(x0,y0,Q),J,L):=st;let(xs,ys,C,G,ee):=hg;let(BC,g,p,_):=I.list C;let(jts,GK,f,_):=I.list G;let l1:=g.length;let l2:=GK.length;show wpAny_pyNext_zip_end (I.ok.hd N) D R S Q J L p.isList f.isList ?_ λA kk=>#[O,Inv.vo I (λb o M e=>?_) B]
  ·rcases ee with e|e
   ·show .inl (by simp;omega)
   ·show .inr (by simp;omega)
  ·have Z :b≠z/\b≠TI/\b≠TO/\b≠T/\b≠U:=by simpa using M
   show kk b o Z.1 Z.2.2.1 Z.2.2.2.1 Z.2.2.2.2 e
 self:=λ_ _ _ _ _ st h=>wpAny_pyIter_zip st.1 h
def boot_zip:Qx "zip"=some (.type "zip"):=by decide+kernel
section
variable {X:Cx}
inductive abk (K:Frag)(R:(It->Hp->Prop))(vs:γ)(Z:Hp):Prop
|mk (a b:_)(_:vs=[.ref a,.ref b])(_:(∃xs,bh K Z a xs))(_:(∃ys,bh K Z b ys))(_:R (Itz K a b) Z)
def aoG (K:Frag)(Z:TA):TI:=λY H R=>Z Y H (abk K R)
def lK {p U:Pos}{es:Α}{k:Nat}{AR:Pos}(hg:Gl X "zip")(f:X.mg "zip"=none)(ha:PA X [e1,e2] ta)(g:JF [e1,e2] X.env=[(false,II e1 X.env),(false,II e2 X.env)]:=by rfl)(E:JF [e2] X.env=[(false,II e2 X.env)]:=by rfl):
  PI X (.Tuple es k AR) (.Call (.Name "zip" p) [e1,e2] [] U) (aoG X.K ta):=by
 intro AO s Y H R I h;show Call_ (gZ I hg f boot_zip (VJ (cJ (ha U AO s Y H _ I h) λus Z ⟨vs,H1,S,C,A⟩=>?_) (by rw [g,E]) (by rw [E];rfl)));let(a,b,e,(xs,j),(ys,m),q):=A;subst e;cases C with
 | cons r Q=>
  cases Q with
  | cons B Q=>
   cases Q;cases r;cases B;let(BC,rv,J,_):=S.list j;let(u,GK,T,_):=S.list m;let w:a<Z.heap.objs.size:=by let(o,P,_):=J.isList;show JN P
   let x:b<Z.heap.objs.size:=by let(o,P,_):=T.isList;show JN P
   show call_zip_2 J.isList T.isList λh' G y D M N i hk=>wpAny_pyIter_zip (s:={Z with heap:=h'}) G ?_;show(Z.heap.objs.size+4,[Z.heap.objs.size+4,Z.heap.objs.size+2,Z.heap.objs.size+3,Z.heap.objs.size,Z.heap.objs.size+1],_,_,H1,O,S.kept (t':=Z.toks) hk,ae1 a b _ _ _ _ _ ?_,(G,y,(_,_,D),M,N),λc hc=>?_,q)
   ·constructor<;>(intro z;simp only [AZ] at*;omega)
   ·have L :Z.heap.objs.size<=c:=by
     have:c=Z.heap.objs.size+4\/c=Z.heap.objs.size+2\/c=Z.heap.objs.size+3\/c=Z.heap.objs.size\/c=Z.heap.objs.size+1:=by simpa using hc
     simp only [AZ] at*;omega
    show S.ye L (S.cg.fresh L)
theorem tM (Y:ο)(Z:Nat->Int)(U:∀i (h:i<Y.length),Z i=Y[i]):∀j,j<=Y.length->preSum Z j=(Y.take j).sum
 | 0,_=>by simp [preSum]
 | j+1,h=>by
  rw [preSum,tM Y Z U j cr,U j cr,List.take_succ_eq_append_getElem cr,anl];simp
inductive agn (K:Frag)(xs:γ)(H:Hp)(Q:VK):Prop
|mk (p:AZ)(Z:ο)(_:xs=[.ref p])(_:bh K H p (Z.map V.int))(_:Q (.int Z.sum) H)
def akc (m:X.calm=true):lG X (.builtin "sum") (agn X.K):=by
 intro c s Y H xs a Q I r h;let(p,Z,rfl,y,q):=h;let(u,rfl,D):=vals1 r;cases D;let(S,L,R,hz):=I.list y;let T:=L.length;rw [Wp] at T;show call_sum_walkG (wpAny_pyIter_list R.isList ?_);let g:p≠s.heap.objs.size:=by let(o,P,_):=R.isList;show P6 (JN P)
 show(s.heap.objs.size,_,_,S.toArray.size,_,_,λi=>Z.getD i 0,O,Walks.list (by show I.ok.hd m) s.heap.objs.size p g S.toArray,#[(_,QL _ rfl,O,O),R.isList.at λo e=>LM _ e],λb k=>?_,λi v B=>?_,λj M t' w=>?_)
 ·have C :b=s.heap.objs.size\/b=p:=by simpa using k
  rw [ZW]
  rcases C with e|e
  ·rw [e];show Qg _
  ·rw [e]
   let(o,P,_):=R.isList;show ZN (JN P)
 ·let U:S[i]?=some v:=by simpa using B
  let hi:i<S.length:=(be.mp U).1;have J :i<Z.length:=cr
  let(u',A,E):=L.get (i:=i) (x:=.int Z[i]) (by rw [ir,gE J];rfl);erw [U] at A;let(t,e):=E;show#[t,by rw [e];change Value.int Z[i] t=Value.int (Z.getD i 0) t;rw [JC,gE J];rfl]
 ·let e:preSum (λi=>Z.getD i 0) S.toArray.size=Z.sum:=by
   rw [tM Z _ (λi h=>by rw [JC,gE h];rfl) _ (by simp;omega),Zt (by simp;omega)]
  rw [e]
  let f:Inv X c Y H {s with heap:=j,toks:=M}:=I.kept (t':=M) λb o N=>w b o (λz=>by
   let G:b=s.heap.objs.size:=by simpa using z
   rw [G] at N
   show DB (JN N) (Qh _)) (LM _ N)
  show(.int Z.sum,H,f,#[_,O],q)
def boot_sum:Qx "sum"=some (.builtin "sum"):=by decide+kernel
inductive UO (K:Frag)(xs:γ)(H:Hp)(Q:VK):Prop
|mk (p:AZ)(ys:γ)(_:xs=[.ref p])(_:bh K H p ys)(_:∀l,H l=none->Q (.ref l) (upd H l (.lst ys)))
def nS:lG X (.type "list") (UO X.K):=by
 intro C s Y H xs B Q I r h;let(p,T,rfl,P,q):=h;let(u,rfl,S):=vals1 r;cases S;let(D,Z,(o,n,e,c,A,d),R):=I.list P;let U:=Z.length;show call_list_seq p (.inl rfl) e c d (λJ G L M=>?_) (by simp;omega);let N:=I.cg.fresh (DX s.heap.objs.size);let E:Inv X C Y (upd H s.heap.objs.size (.lst T)) {s with heap:=J,toks:=s.toks}:=I.laid (t':=s.toks) L (DX _) (R,D,G,Z,M);show(.ref _,_,E,O,q _ N)
end
section
variable {X:Cx}{K:Frag}
def gH (h:X.K=K):IxR X (σ8 K):=by subst h;show rg
def oY (h:X.K=K):IxR X (σ7 K):=by subst h;show aE
def j9 {k:Nat}{Z:Pos}(T:X.K=K)(U:X.calm=true)(h:PGs X es t)
  (Y:(α9 es X.env).length=n:=by rfl) (S:(α9 es X.env).findIdx? (·.1)=none:=by rfl):PG X (.Tuple es k Z) (Ud K n t):=by subst T;show g6 U h Y S
end
section
variable {D:AZ}{te:TE}{mw:L2.St}{H1:Hp}{Q:VK}
def lM {K:Frag}(Rel:Nat->V->Hp->Prop)(I:H1 D=none)(hn:xs.length<HZ)(hl:ys.length=xs.length)(P:∀H,ar H1 H->bh K H a xs)(S:∀H,ar H1 H->bh K H b ys)
  (N:∀i v H H' ys,H D=some (.lst ys)->aX D H H' ->Rel i v H->Rel i v H')
  (k:∀i x y H (R:VK),xs[i]?=some x->ys[i]?=some y->ar H1 H->(∀v Z,ar H Z->Rel i v Z->R v Z)->te (some x::some y::mw) H R)
  (g:∀zs H,zs.length=xs.length->(∀i v,zs[i]?=some v->Rel i v H)->ar H1 H->H D=some (.lst zs)->Q (.ref D) H):
  vP D (Ud K 2 (HH (dZ 0) (HH (dZ 1) acd))) oX te (Itz K a b) (none::none::mw) H1 Q:=by
 show(λi m Y zs H=>m=xs.length-i/\i<=xs.length/\(∃o J,Y=o::J::mw)/\(zs.length=i/\(∀i v,zs[i]?=some v->Rel i v H)/\ar H1 H)/\H D=some (.lst zs),(xs.length,by simp,P1 _,(none,none,O),(O,λi v e=>by simp at e,λb o e=>by rwa [ag (aj e I)]),af),?_);rintro i m Y zs H ⟨rfl,hi,⟨o,J,rfl⟩,⟨l,r,s⟩,T⟩;by_cases w:i<xs.length
 ·let L:xs[i]?=some xs[i]:=gE w
  let M:ys[i]?=some (ys[i]'cr):=gE cr;show .inr #[(xs,ys,_,_,P H s,S H s,L,M),λv H' y=>?_];let(p,x,y,B,C,rfl,A,rfl):=y;let L:=B xs (P H s);let M:=C ys (S H s);let X:ar H (upd H p (.tup [x,y])):=λb o e=>by rwa [ag (aj e A)]
  show(p,_,O,bQ.of af,O,_,_,O,_,_,O,O,?_);unfold oX;dsimp only;rw [jY rfl];show k i x y _ _ L M (λb o e=>X _ _ (s _ _ e)) λv Z U G=>(U _ _ (X _ _ T),cr,xs.length-(i+1),cr,O,cr,(_,_,O),(by simp [l],λj u e=>?_,λb o e=>?_),af)
  ·by_cases c:j<zs.length
   ·rw [MF c] at e
    let E:=N j u H Z zs T (aX.of λb o q=>U _ _ (X _ _ q)) (r j u e);show N j u Z _ zs (U _ _ (X _ _ T)) aX.upd E
   ·rw [Mg cr] at e
    let f:j=i:=by
     by_cases z:j-zs.length=0
     ·omega
     ·rw [JM (by simp;omega)] at e
      cases e
    subst f
    have:v=u:=by
     rw [show j-zs.length=0 by omega] at e;show QI e
    subst this;show N j v Z _ zs (U _ _ (X _ _ T)) aX.upd G
  ·rw [ag (aj e I)]
   show U _ _ (X _ _ (s _ _ e))
 ·let e:i=xs.length:=cr
  subst e;show .inl #[(xs,ys,P H s,S H s,.inl (DX _)),g zs H l r s T]
end
open Builtin.Int (intBits)
def ago:Qx "sum"=some (.builtin "sum"):=boot_sum
def vl (q:Int×Int):Rat:=(q.1:Rat) / (q.2:Rat)
structure Sm (T B:Nat)(q:Int×Int):Prop where
 pos:0<q.2
 low:Nl q.1 q.2=1
 top:q.1.natAbs<=2^T
 bot:q.2.natAbs<=2^B
def c7 {b:Int}(h:b≠0):(b:Rat)≠0:=by simpa using h
def iY (h:b≠0):vl (low t b)=(t:Rat) / (b:Rat):=by
 let c:=aaO (t:=t) h;let p:=mC (t:=t) h;let Y:=c7 h;let Z:=c7 (b:=(low t b).2) cr;let X:((low t b).1:Rat)*b=t*(low t b).2:=by exact_mod_cast c
 unfold vl;grind
def aac {t b u c:Int}(Y:b≠0)(Z:c≠0)(h:(t:Rat) / b=(u:Rat) / c):t*c=u*b:=by
 let U:=c7 Y;let X:=c7 Z;have:(t:Rat)*c=u*b:=by grind
 exact_mod_cast this
def acP (Y:0<q.2)(Z:0<r.2)(U:Nl q.1 q.2=1)(X:Nl r.1 r.2=1)(h:vl q=vl r):q=r:=by
 let c:=aac (t:=q.1) (b:=q.2) (u:=r.1) (c:=r.2) cr cr h;let e:=akn (t:=q.1) (b:=q.2) (u:=r.1) (c:=r.2) cr cr c;rw [afc Y U,afc Z X] at e;show Zx (ox aoq e) (ox aor e)
def ac0 {b d:Int}(Z:d≠0)(h:d ∣ b):((b.fdiv d:Int):Rat)=(b:Rat) / d:=by
 let e:=dw Z h;let Y:=c7 Z;have:(b:Rat)=d*(b.fdiv d:Int):=by exact_mod_cast e
 grind
def aoI (xs ys:ο):Int:=(Qe (λa b=>a*b) xs ys).sum
def jM (xs ys:ε):Rat:=(Qe (λa b=>vl a*vl b) xs ys).sum
def abw {xs ys:ε}:jM (x::xs) (y::ys)=vl x*vl y+jM xs ys:=by simp [jM]
def iB (ts:ο)(qs:ε)(b:Int):Prop:=ts.length=qs.length/\∀(i:Nat)(t:Int)(q:Int×Int),ts[i]?=some t->qs[i]?=some q->(t:Rat)=vl q*b
def iB.tail {ts:ο}{qs:ε}(h:iB (t::ts) (q::qs) b):iB ts qs b:=#[by simpa using h.1,λi Z Y U X=>h.2 (i+1) Z Y (by simpa using U) (by simpa using X)]
def j_ {a b:Int}(Y:a.natAbs<=2^m)(Z:b.natAbs<=2^n):(a*b).natAbs<=2^(m+n):=by
 rw [YT,Uv];show Qq Y Z
def acQ {a b:Int}(Y:a.natAbs<=2^m)(Z:b.natAbs<=2^m):(a+b).natAbs<=2^(m+1):=by
 have:=yy a b;rw [Ve];omega
def iC {a:Int}(h:a.natAbs<=2^m)(Z:m<=n):a.natAbs<=2^n:=GX h (Qt eY Z)
def iu (h:a.natAbs<=2^m)(Z:m<n):intBits a<=n:=intBits_le_iff.mpr (L_ h (Nat.pow_lt_pow_right eY Z))
def dE (U:a.natAbs<=2^m)(X:b.natAbs<=2^n)(Y:m<30000000)(Z:n<30000000):IE a b:=#[GX (iu U Y) eY,GX (iu X Z) eY]
def Sm.up (h:Sm T B q)(Z:T<=T')(Y:B<=B'):Sm T' B' q:=(h.pos,h.low,iC h.top Z,iC h.bot Y)
def ae9 {b d:Int}(P:0<b)(X:0<d):0<b.fdiv (gz b d)*d/\b ∣ b.fdiv (gz b d)*d/\d ∣ b.fdiv (gz b d)*d/\(b.fdiv (gz b d)*d).natAbs<=b.natAbs*d.natAbs:=by
 let T:=AY (t:=b) (b:=d) cr;let R:gz b d ∣ b:=uC ..;let S:gz b d ∣ d:=uq ..;let Z:=dw (g:=gz b d) cr R;let Q:=dw (g:=gz b d) cr S;generalize gz b d=g at*
 let Y:0<b.fdiv g:=by
  rcases ai0 (b.fdiv g) 0 with z|z|z
  ·exfalso
   have:=agT T z;omega
  ·rw [z] at Z;omega
  ·show z
 show(RL Y X,#[d.fdiv g,?_],#[b.fdiv g,UL ..],?_)
 ·have:b.fdiv g*d=b.fdiv g*(g*d.fdiv g):=by rw [<-Q]
  rw [this];let U:b*d.fdiv g=g*b.fdiv g*d.fdiv g:=by rw [<-Z]
  rw [U];rw [<-Wx,UL (b.fdiv g) g]
 ·rw [YT]
  show RE _ (by
   have:=fT (g:=g) (a:=b.fdiv g) cr;rw [<-Z] at this
   show this)
def zaa {b:Int}(Z:0<q.2)(h:q.2 ∣ b):((q.1*b.fdiv q.2:Int):Rat)=vl q*b:=by
 let e:=ac0 (b:=b) (d:=q.2) cr h;have:((q.1*b.fdiv q.2:Int):Rat)=q.1*((b.fdiv q.2:Int):Rat):=by push_cast;rfl
 rw [this,e];unfold vl;grind
def jN {b d:Int}(Z:d≠0)(h:d ∣ b):(b.fdiv d).natAbs<=b.natAbs:=by
 have:=fT (g:=d) (a:=b.fdiv d) Z;rwa [<-dw Z h] at this
section
variable {D:AZ}{te:TE}{mw:L2.St}{H1:Hp}{Q:VK}
def af_ (n:Nat)(xs:Nat->V)(Rel:Nat->V->Hp->Prop)(S:H1 D=none)(E:n<HZ)
  (I:∀i H,i<n->ar H1 H->J.go i H/\∀x H',J.S3 i H x H' ->H'=H/\x=xs i) (stop:∀H,ar H1 H->J.stop n H)
  (T:∀i v H H' ys,H D=some (.lst ys)->aX D H H' ->Rel i v H->Rel i v H')
  (M:∀i H (R:VK),i<n->ar H1 H->(∃ys,H D=some (.lst ys))->(∀v Z,ar H Z->Rel i v Z->R v Z)->te (some (xs i)::mw) H R)
  (L:∀ys H,ys.length=n->(∀i v,ys[i]?=some v->Rel i v H)->ar H1 H->H D=some (.lst ys)->Q (.ref D) H):
  vP D (dZ 0) oX te J (none::mw) H1 Q:=by
 show LW n xs (λi ys H=>ys.length=i/\(∀i v,ys[i]?=some v->Rel i v H)/\ar H1 H) (O,λi v e=>by simp at e,λb o e=>by rwa [ag (aj e S)]) ?_ ?_ ?_ ?_
 ·rintro i ys H U ⟨_,_,s⟩
  show I i H U s
 ·rintro ys H ⟨_,_,s⟩
  show stop H s
 ·rintro i ys H R U ⟨l,r,s⟩ Y k
  show M i H R U s #[_,Y] λv Z X P=>k v Z (X _ _ Y) cr (by simp [l],λj u e=>?_,λb o e=>?_)
  ·by_cases c:j<ys.length
   ·rw [MF c] at e
    let N:=T j u H Z ys Y (aX.of X) (r j u e);show T j u Z _ ys (X _ _ Y) aX.upd N
   ·rw [Mg cr] at e
    let G:j=i:=by
     by_cases z:j-ys.length=0
     ·omega
     ·rw [JM (by simp;omega)] at e
      cases e
    subst G
    have:v=u:=by
     rw [show j-ys.length=0 by omega] at e;show QI e
    subst this;show T j v Z _ ys (X _ _ Y) aX.upd P
  ·rw [ag (aj e S)]
   show X _ _ (s _ _ e)
 ·rintro ys H ⟨l,r,s⟩ Y
  show L ys H l r s Y
def ka {K:Frag}(Rel:Nat->V->Hp->Prop)(T:H1 D=none)(S:xs.length<HZ)(Y:∀H,ar H1 H->bh K H a xs)
  (M:∀i v H H' ys,H D=some (.lst ys)->aX D H H' ->Rel i v H->Rel i v H')
  (P:∀i x H (R:VK),xs[i]?=some x->ar H1 H->(∃ys,H D=some (.lst ys))->(∀v X,ar H X->Rel i v X->R v X)->te (some x::mw) H R)
  (N:∀ys H,ys.length=xs.length->(∀i v,ys[i]?=some v->Rel i v H)->ar H1 H->H D=some (.lst ys)->Q (.ref D) H):
  vP D (dZ 0) oX te (Itl K a) (none::mw) H1 Q:=by
 show af_ xs.length (λi=>(xs[i]?).getD .cK) Rel T S (λi H Z s=>#[(xs,xs[i],Y H s,gE Z),λx H' y=>#[y.1,?_]]) (λH s=>(xs,Y H s,DX _)) M (λi H R Z s L k=>?_) N
 ·rw [y.2 xs (Y H s)];rfl
 ·let e:xs[i]?=some xs[i]:=gE Z
  let U:=P i _ H R e s L k;rw [<-(show(xs[i]?).getD .cK=xs[i] by rw [e];rfl)] at U;show U
end
end Ty
namespace L2
open PySem PySem.Spec PyProof.Rows
section
variable {κ:Type}[DecidableEq κ]
def ff (AV:List (κ×V))(k:κ):Option V:=(AV.find? λZ=>decide (Z.1=k)).map (·.2)
def putK (AV:List (κ×V))(k:κ)(v:V):List (κ×V):=
 if (AV.any λZ=>decide (Z.1=k))=true then AV.map (λZ=>if Z.1=k then (Z.1,v) else Z) else AV++[(k,v)]
def fU {k:κ}(e:p.1=k):ff (p::r) k=some p.2:=by simp [ff,rV,e]
def dy {k:κ}(e:¬ p.1=k):ff (p::r) k=ff r k:=by simp [ff,rV,e]
theorem oZ (k:κ):∀AV:List (κ×V),(AV.any λZ=>decide (Z.1=k))=(ff AV k).isSome
 | []=>rfl
 | p::r=>by
  rw [sG];by_cases e:p.1=k
  ·simp only [fU e,P9 e,Bool.true_or,Option.isSome_some]
  ·rw [dy e,RI e,Bool.false_or];show oZ k r
def iD (AV:List (κ×V))(k:κ)(v:V):(putK AV k v).length<=AV.length+1:=by
 unfold putK;split
 ·rw [Wp];omega
 ·rw [JG,Qz,amA];omega
def fV {k:κ}(v:V)(h:ff AV k=none):putK AV k v=AV++[(k,v)]:=by
 unfold putK;rw [oZ,h];show iO eY
def j3.jO {o:ω}(r:j3 o u):o.isSome=u.isSome:=by
 cases o with
 | none=>cases u with
  | none=>rfl
  | some _=>show(show False from r).elim
 | some _=>cases u with
  | none=>show(show False from r).elim
  | some _=>rfl
theorem j3.getD {o:ω}(r:j3 o u)(Z:RelV d d'):RelV (o.getD d) (u.getD d'):=by
 cases o with
 | none=>cases u with
  | none=>show Z
  | some _=>show(show False from r).elim
 | some _=>cases u with
  | none=>show(show False from r).elim
  | some _=>show r
def KV.val (r:KV AV vs)(k:κ):j3 (ff AV k) (valueAt vs k):=by
 unfold KV at r
 induction r with
 | nil=>show True.intro
 | @cons p q U Z h t T=>
  let(X,S):=h;by_cases e:p.1=k
  ·let Y:q.1=k:=X.symm.trans e
   let b:valueAt (q::Z) k=some q.2:=by simp [valueAt,rV,Y]
   rwa [fU e,b]
  ·let Y:¬ q.1=k:=λz=>e (X.trans z)
   let b:valueAt (q::Z) k=valueAt Z k:=by simp [valueAt,rV,Y]
   rwa [dy e,b]
theorem KV.any (r:KV AV vs)(k:κ):(AV.any λZ=>decide (Z.1=k))=vs.any λZ=>decide (Z.1=k):=by
 unfold KV at r
 induction r with
 | nil=>rfl
 | cons h t Y=>rw [sG,sG,Y,h.1]
def KV.acR (r:KV AV vs)(k:κ)(X:RelV y u):
  KV (AV.map λZ=>if Z.1=k then (Z.1,y) else Z) (vs.map λZ=>if Z.1=k then (Z.1,u) else Z):=by
 unfold KV at r ⊢
 induction r with
 | nil=>show .nil
 | @cons p q R S h t U=>
  rw [M3,M3];show .cons ?_ U;let(Y,T):=h;by_cases e:p.1=k
  ·rw [jY e,jY (Y.symm.trans e)];show#[Y,X]
  ·rw [iO e,iO (λz=>e (Y.trans z))];show#[Y,T]
def KV.put (r:KV AV vs)(k:κ)(Z:RelV y u):KV (putK AV k y) (stored vs k u):=by
 unfold putK stored;rw [r.any k];by_cases e:(vs.any λY=>decide (Y.1=k))=true
 ·rw [jY e,jY e];show r.acR k Z
 ·rw [iO e,iO e];show rS r #[O,Z]
theorem KV.length {vs:List (κ×Value)}(r:KV AV vs):AV.length=vs.length:=Mx r
end
def tN (r:RelV (kV k) u):(bO P w).is k u=true:=by
 cases k with
 | inl i=>let(t,e):=(show ∃t,u=Value.int i t from r);subst e;show aad P w i t
 | inr x=>let(t,e):=(show ∃t,u=Value.str x t from r);subst e;show aaY P w x t
theorem zG :∀{ks:List Key} {us:ρ},Vals (ks.map kV) us->ItemsAre (bO P w) ks us
 | [],_,r=>by erw [Wv] at r;show .nil
 | k::ks,_,r=>by
  rw [M3] at r;cases r with
  | cons h t=>show .cons (tN h) (zG t)
abbrev KT (H:Hp):List (List Key×V)->List (List Key×AZ×Value)->Prop:=Paired λp q=>p.1=q.1/\H q.2.1=some (.tup (p.1.map kV))/\RelV p.2 q.2.2
def KT.val {AV:Ρ}{xs:Υ}(r:KT H AV xs)(k:List Key):j3 (ff AV k) ((atKey xs k).map (·.2)):=by
 induction r with
 | nil=>show True.intro
 | @cons p q U Z h t T=>
  let(X,_,S):=h;by_cases e:p.1=k
  ·let Y:q.1=k:=X.symm.trans e
   let b:atKey (q::Z) k=some q.2:=by simp [atKey,rV,Y]
   rwa [fU e,b]
  ·let Y:¬ q.1=k:=λz=>e (X.trans z)
   let b:atKey (q::Z) k=atKey Z k:=by simp [atKey,rV,Y]
   rwa [dy e,b]
def KT.acR {AV:Ρ}{xs:Υ}(r:KT H AV xs)(k:List Key)(U:RelV y u):
  KT H (AV.map λY=>if Y.1=k then (Y.1,y) else Y) (xs.map (putAt k u)):=by
 induction r with
 | nil=>show .nil
 | @cons p q Q R h t T=>
  rw [M3,M3];show .cons ?_ T;let(Z,X,S):=h;unfold putAt;by_cases e:p.1=k
  ·rw [jY e,jY (Z.symm.trans e)];show(Z,X,U)
  ·rw [iO e,iO (λz=>e (Z.trans z))];show(Z,X,S)
def KT.put {AV:Ρ}{xs:Υ}(r:KT H AV xs)(k:List Key)(X:H b=some (.tup (k.map kV)))(Z:RelV y u):
  KT H (putK AV k y) (storedH xs k b u):=by
 let e:(AV.any λY=>decide (Y.1=k))=(atKey xs k).isSome:=by
  rw [oZ,(r.val k).jO,ai_]
 unfold putK storedH;rw [e];by_cases q:(atKey xs k).isSome=true
 ·rw [jY q,jY q];show r.acR k Z
 ·rw [iO q,iO q];show rS r (O,X,Z)
def KT.keeps {AV:Ρ}{xs:Υ}(r:KT H AV xs)(Z:∀b ys,H b=some (.tup ys)->H' b=some (.tup ys)):KT H' AV xs:=
 Paired.cF r λ_ _ z=>(z.1,Z _ _ z.2.1,z.2.2)
section
variable {P:LS}{w:World}{H:Hp}{h:Heap}{a:AZ}
def abm (Z:mW P w H h)(e:Rd H a u):dF P w H h a u:=e.ok Z
def m5 (Z:mW P w H h)(e:Rd H a (.dK AV)):AV.length<=HZ/\(a==U')=false/\∃vs,KV AV vs/\h.DictOf (bO P w) a vs:=
 show dF P w H h a (.dK AV) from abm Z e
def vR (Z:mW P w H h)(e:H a=some (.dK AV)):AV.length<=HZ/\(a==U')=false/\∃vs,KV AV vs/\h.DictOf (bO P w) a vs:=m5 Z (.inl e)
def rn (Z:mW P w H h)(e:H a=some (.tup (ks.map kV))):(tupleKind (bO P w)).is h ks a:=by
 let(_,T,r,o,U,X,n,Y):=(show dF P w H h a (.tup (ks.map kV)) from Z a _ e);show(o,T.toArray,n,U,X,Y,by simpa using zG r)
def vS (Y:mW P w H h)(e:Rd H a (.dT AV)):AV.length<=HZ/\(a==U')=false/\
  ∃xs,KT H AV xs/\h.DictOfH (tupleKind (bO P w)) a xs:=by
 let(z,y,xs,r,o,M,L,N,Q,R,S,T):=(show dF P w H h a (.dT AV) from abm Y e);show(z,y,xs,r,o,M,L,N,Q,R,S,λx Z=>?_,T)
 let all:∀{l:Ρ} {m:Υ},KT H l m->∀x∈m,(tupleKind (bO P w)).is h x.1 x.2.1:=by
  intro l m q
  induction q with
  | nil=>intro x Z;show nomatch Z
  | @cons p q I J X t U=>
   intro x Z
   rcases P4.mp Z with e|Z
   ·subst e
    show rn Y (by rw [<-X.1];show X.2.1)
   ·show U x Z
 show all r x Z
def agp (Z:mW P w H h)(e:H a=some (.dT AV)):AV.length<=HZ/\(a==U')=false/\
  ∃xs,KT H AV xs/\h.DictOfH (tupleKind (bO P w)) a xs:=vS Z (.inl e)
end
def ia (H:Hp)(a:AZ)(y:V)(r:ω):Prop:=
 (∃Z k,Rd H a (.dK Z)/\y=kV k/\r=ff Z k)\/∃Z k b,Rd H a (.dT Z)/\y=.ref b/\H b=some (.tup (k.map kV))/\r=ff Z k
def mS (H:Hp)(a:AZ)(y v:V)(H':Hp):Prop:=
 (∃Z k,H a=some (.dK Z)/\y=kV k/\Z.length<HZ/\H'=upd H a (.dK (putK Z k v)))\/
 ∃Z k b,H a=some (.dT Z)/\y=.ref b/\H b=some (.tup (k.map kV))/\Z.length<HZ/\H'=upd H a (.dT (putK Z k v))
theorem ia.k {AV:η}{k:Key}(e:H a=some (.dK AV)):ia H a (kV k) (ff AV k):=.inl (AV,k,.inl e,O,O)
theorem mS.k {AV:η}{k:Key}(e:H a=some (.dK AV))(Z:AV.length<HZ):mS H a (kV k) v (upd H a (.dK (putK AV k v))):=.inl (AV,k,e,O,Z,O)
section
variable {X:Cx}{AO:θ}{Y:St}{H:Hp}{s:G_}{a:AZ}{y v:V}{u r:Value}{o:ω}{A:Mf}{E:δ}
def Inv.big (I:Inv X AO Y H s):U'<s.heap.objs.size:=by
 let h:LO<s.heap.objs.size:=(I.mod.glob.keeps I.bk).lt;show O7 eY h
def aet {Q:δ}(G:A.units+1<Qu)(I:Inv X AO Y H s)(g:ia H a y (some v))(L:RelV y u)(h:∀U M,Inv X AO Y H M ->RelV v U ->Q U M):
  DA (DW X.prog X.w) A (getItem (.ref a) u) Q E s:=by
 rcases g with ⟨x,k,e,R,l⟩|⟨x,k,b,e,R,B,l⟩
 ·subst R
  let(z,C,J,Z,P):=m5 I.cg e;let(U,T,N):=j3.some_of (v:=v) (o:=valueAt J k) (by rw [l];show Z.val k);show wpAny_getItem_of (tN L) P.mapOf T (h U _ (I.tok _) N)
 ·subst R
  cases (show u=Value.ref b from L);let(z,C,xs,Z,P):=vS I.cg e;let(U,T,N):=j3.some_of (v:=v) (o:=(atKey xs k).map (·.2)) (by rw [l];show Z.val k);let(p,D,S):=MK.mp T;show wpAny_getItem_heap (yg G) (rn I.cg B) P D ?_;rw [S];show h U _ (I.tok _) N
def aoJ {Q:δ}(N:A.units+1<Qu)(I:Inv X AO Y H s)(g:ia H a y o)(P:RelV y u)(h:∀R,Inv X AO Y H R ->Q (.bool o.isSome) R):
  DA (DW X.prog X.w) A (Qo .In u (.ref a)) Q E s:=by
 rcases g with ⟨L,k,e,T,l⟩|⟨L,k,b,e,T,M,l⟩
 ·subst T
  let(z,U,J,Z,S):=m5 I.cg e;show wpAny_in_of (tN P) U S.mapOf ?_;rw [<-(Z.val k).jO,<-l];show h _ (I.tok _)
 ·subst T
  cases (show u=Value.ref b from P);let(z,U,xs,Z,S):=vS I.cg e;show wpAny_in_heap (yg N) (rn I.cg M) U S ?_;let q:=(Z.val k).jO;rw [ai_] at q;rw [<-q,<-l];show h _ (I.tok _)
def ahw {Q:δ}(N:A.units+1<Qu)(I:Inv X AO Y H s)(g:ia H a y o)(P:RelV y u)(h:∀R,Inv X AO Y H R ->Q (.bool (!o.isSome)) R):
  DA (DW X.prog X.w) A (Qo .NotIn u (.ref a)) Q E s:=by
 rcases g with ⟨L,k,e,T,l⟩|⟨L,k,b,e,T,M,l⟩
 ·subst T
  let(z,U,J,Z,S):=m5 I.cg e;show wpAny_notIn_of (tN P) U S.mapOf ?_;rw [<-(Z.val k).jO,<-l];show h _ (I.tok _)
 ·subst T
  cases (show u=Value.ref b from P);let(z,U,xs,Z,S):=vS I.cg e;show wpAny_notIn_heap (yg N) (rn I.cg M) U S ?_;let q:=(Z.val k).jO;rw [ai_] at q;rw [<-q,<-l];show h _ (I.tok _)
def vp (I:Inv X AO Y H s)(U:Mut (H a))(T:yt a s.heap h')(S:∃q,h'.get? a=some q)(Z:dF X.prog X.w (upd H a ob) h' a ob):
  Inv X AO Y (upd H a ob) {s with heap:=h',toks:=t'}:=
 I.write (x:=a) (e:=a) U (.inl rfl) (λb q R z=>(T.2 b R).trans z) S Z
def LX {AV:η}(z:AV.length<=HZ)(U:(a==U')=false)(Z:KV AV vs)(T:h'.DictOf (bO P w) a vs):
  dF P w H' h' a (.dK AV):=(z,U,vs,Z,T)
def adz (j:A.units+1<Qu)(I:Inv X AO Y H s)(g:mS H a y v H')(C:RelV y u)(B:RelV v r)(h:∀D,Inv X AO Y H' D ->Q () D):
  DA (DW X.prog X.w) A (setItem (.ref a) u r) Q E s:=by
 rcases g with ⟨T,k,e,L,l,J⟩|⟨T,k,b,e,L,p,l,J⟩
 ·subst L J
  let(z,M,m,Z,G):=vR I.cg e;let R:m.length<=HZ:=by rwa [<-Z.length]
  let N:(putK T k v).length<=HZ:=by have:=iD T k v;omega
  show wpAny_setItem_pairs (hsz:=R) (tN C) G λx U P=>h _ ?_;let i:∃q,x.get? a=some q:=let ⟨q,_,_,S,_⟩:=U;#[q,S];show vp I (by rw [e];show True.intro) P i (LX N M (Z.put k B) U)
 ·subst L J
  cases (show u=Value.ref b from C);let(z,M,xs,Z,G):=agp I.cg e;let R:xs.length<=HZ:=by rwa [<-Mx Z]
  let N:(putK T k v).length<=HZ:=by have:=iD T k v;omega
  show wpAny_setItem_heap (hsz:=R) (yg j) (rn I.cg p) G λx U P=>h _ ?_;let(q,es,ep,S,h2,h3,h4,_,f):=U;show vp I (by rw [e];show True.intro) P #[q,S] (N,M,_,(Z.put k p B).keeps λc ys ec=>?_,q,es,ep,S,h2,h3,h4,f);rwa [ag (afy ec e (λz=>nomatch z))]
end
section
variable {X:Cx}{AO:θ}{Y:St}{H:Hp}{s:G_}{a:AZ}{AV:η}{k:Key}{u:Value}{A:Mf}{E:δ}
def agq {Q:δ}(I:Inv X AO Y H s)(e:Rd H a (.dK AV))(h:∀t U,Inv X AO Y H U ->Q (.int AV.length t) U):DA (DW X.prog X.w) A (call (.builtin "len") [.ref a]) Q E s:=by
 let(z,T,R,Z,S):=m5 I.cg e;show call_len_dict T S (by rw [<-Z.length];rw [sizeLine_eq] at z;omega) ?_;rw [<-Z.length];show h _ _ (I.tok _)
end
def agr (i:Expr):Prop:=∀Z Y,subscripted i false Z Y=operate [Z,Y] (getItem Z Y)
def ahr {E:δ}{T id:String}{Q:δ}
  (L:typeLookup (.type T) "__getitem__"=pure (some (.builtin id))) (M:agr slice)
  (h:DA (DW prog w) A (II value env) (λo S=>DA (DW prog w) A (II slice env) (λi Y=>Y.TypeIs o T/\DA (DW prog w) A (getItem o i) Q E Y) E S) E s):
  DA (DW prog w) A (II (.Subscript value slice pos) env) Q E s:=by
 show Subscript_ (Qf h (λo S P=>Qf P (λi Y X=>?_) λ_ _ x=>x) λ_ _ x=>x);let(R,X):=X;unfold subscriptTail;show IC ?_;rw [getitemInPython_of_ne R.not_modules];show IC (wpAny_specialOf R L ?_)
 let Z:DA (DW prog w) A (subscripted slice false o i) (λr U=>DA (DW prog w) A (letTemporaryGo value o r >>=λ_=>pure r) Q E U) E Y:=by
  rw [M o i];show wpAny_operating (Qf X (λr U N=>IC (wpAny_letTemporaryGo (LN N))) λ_ _ x=>x)
 first
  | show LN (IC Z)
  | show IC (LN (IC Z))
  | show IC Z
def aaP {Y:St}(I:Inv X AO Y H s)(g:ia H a y o):s.TypeIs (.ref a) "dict":=by
 rcases g with ⟨U,k,e,_,_⟩|⟨U,k,b,e,_,_,_⟩
 ·let(_,_,T,_,Z):=m5 I.cg e
  show Z.typeIs
 ·let(_,_,xs,_,Z):=vS I.cg e
  show Z.typeIs
inductive UQ (Q:VK)(x:V)(y:V)(Z:Hp):Prop
|mk (a v:_)(_:x=.ref a)(_:ia Z a y (some v))(_:Q v Z)
def ahn (ty:TE)(Y:L2.St)(Q:VK)(x:V)(Z:Hp):Prop:=ty Y Z (UQ Q x)
def ags (Z ty:TE):TE:=λY H Q=>Z Y H (ahn ty Y Q)
inductive abo (Q:VK)(y:V)(x:V)(Z:Hp):Prop
|mk (a o:_)(_:x=.ref a)(_:ia Z a y o)(_:Q (.bl o.isSome) Z)
def acT (Z:TE)(Y:L2.St)(Q:VK)(y:V)(X:Hp):Prop:=Z Y X (abo Q y)
def aoK (ty Z:TE):TE:=λY H Q=>ty Y H (acT Z Y Q)
inductive IJ (Q:VK)(y:V)(x:V)(Z:Hp):Prop
|mk (a o:_)(_:x=.ref a)(_:ia Z a y o)(_:Q (.bl (!o.isSome)) Z)
def acN (Z:TE)(Y:L2.St)(Q:VK)(y:V)(X:Hp):Prop:=Z Y X (IJ Q y)
def ahl (ty Z:TE):TE:=λY H Q=>ty Y H (acN Z Y Q)
inductive UR (D:Ends)(Y:L2.St)(v:V)(x:V)(y:V)(X:Hp):Prop
|mk (a Z:_)(_:x=.ref a)(_:mS X a y v Z)(_:D.nx Y Z)
def agS (ty:TE)(D:Ends)(Y:L2.St)(v:V)(x:V)(Z:Hp):Prop:=ty Y Z (UR D Y v x)
def agN (Z:TE)(ty:TE)(D:Ends)(Y:L2.St)(v:V)(X:Hp):Prop:=Z Y X (agS ty D Y v)
def agt (X ty Z:TE):TS:=λD Y H=>Z Y H (agN X ty D Y)
section
variable {X:Cx}{o i e value:Expr}{pos pos' AR:Pos}{td ty tv:TE}
def jk (M:X.A.units+1<Qu)(J:PE X o td)(G:PE X i ty)(L:agr i):PE X (.Subscript o i pos) (ags td ty):=by
 intro U s Y H Q I h;show ahr PySem.F.slot_dict_getitem.lookup L (cJ (J U s Y H _ I h) λu T ⟨x,z,C,R,N⟩=>cJ (G U T Y z _ C N) λk m ⟨y,B,Z,S,a,v,E,g,P⟩=>?_);subst E;obtain rfl:u=Value.ref a:=R;show#[aaP Z g,aet M Z g S λq p D w =>(v,B,D,w,P)]
def LY (M:X.A.units+1<Qu)(J:PE X i ty)(L:PE X o td):PC X .In i o (aoK ty td):=by
 intro Z s Y H Q I h;show cJ (J Z s Y H _ I h) λp U ⟨y,z,C,T,P⟩=>cJ (L Z U Y z _ C P) λu q ⟨x,B,D,S,a,N,G,g,R⟩=>?_;subst G;obtain rfl:u=Value.ref a:=S;show aoJ M D g T λw E=>(.bl N.isSome,B,E,O,R)
def mD (M:X.A.units+1<Qu)(J:PE X i ty)(L:PE X o td):PC X .NotIn i o (ahl ty td):=by
 intro Z s Y H Q I h;show cJ (J Z s Y H _ I h) λp U ⟨y,z,C,T,P⟩=>cJ (L Z U Y z _ C P) λu q ⟨x,B,D,S,a,N,G,g,R⟩=>?_;subst G;obtain rfl:u=Value.ref a:=S;show ahw M D g T λw E=>(.bl (!N.isSome),B,E,O,R)
def gI (J:X.A.units+1<Qu)(E:PE X o td)(C:PE X i ty)(L:PE X value tv)(G:Vw value (some (.Subscript o i pos')) pos.line X.env=pure false):
  PS X (.Assign [.Subscript o i pos'] value pos) (agt td ty tv):=by
 intro Z s Y H D I h;show wpAny_Assign_Subscript (cJ (L Z s Y H _ I h) λr T ⟨v,j,p,Q,M⟩=>cJ (E Z T Y j _ p M) λu U ⟨x,k,q,R,N⟩=>cJ (C Z U Y k _ q N) λb c ⟨y,H3,w,S,a,m,B,g,P⟩=>?_) G;subst B;obtain rfl:u=Value.ref a:=R;show adz J w g S Q λf z=>(Y,m,z,P)
end
def afb (h:Heap)(Z:U'<h.objs.size):dF P w H (h.push {cls:=.type "dict",data:=.dict #[]}) h.objs.size (.dK []):=
 (P1 _,beq_eq_false_iff_ne.mpr (IL (P6 Z)),[],.nil,Heap.DictOf.new h)
def acU:TE:=λ_ H Q=>∀p,H p=none->Q (.ref p) (upd H p (.dK []))
section
variable {X:Cx}{pos:Pos}
def fW:PE X (.Dict [] [] pos) acU:=λZ s Y H Q I h=>
 wpAny_Dict_empty (.ref s.heap.objs.size,_,I.laid (a:=s.heap.objs.size) (o:=.dK []) (t':=s.toks) (λ_ _ q=>LM _ q) (DX _) (afb s.heap I.big),O,h _ (I.cg.fresh (DX _)))
end
def LZ:List (TE×TE)->St->Hp->(List (V×V)->Hp->Prop)->Prop
 | [],_,H,Q=>Q [] H
 | (X,Z)::r,Y,H,Q=>X Y H λx S=>Z Y S λy T=>LZ r Y T λps U=>Q ((x,y)::ps) U
abbrev VV:List (V×V)->List (Value×Value)->Prop:=Paired λp q=>RelV p.1 q.1/\RelV p.2 q.2
def PPs (X:Cx)(T:Pos)(U:List (Option Expr))(Z:Α)(L:List (TE×TE)):Prop:=
 ∀(P:θ)(s:G_)(Y:St)(H:Hp)(Q:List (V×V)->Hp->Prop),Inv X P Y H s->LZ L Y H Q->
  DA (DW X.prog X.w) X.A (evalPairs (pairTrees U Z X.env T)) (λN M=>∃S R,Inv X P Y R M/\VV S N/\Q S R) X.xe s
def agU :PPs X pos [] [] []:=λZ s Y H Q I h=>pairTrees_nil_walk ([],H,I,.nil,h)
def vT (D:PE X k tk)(G:PE X v tv)(E:PPs X pos ks vs Zn):
  PPs X pos (some k::ks) (v::vs) ((tk,tv)::Zn):=λU s Y H Q I h=>
 pairTrees_cons_walk (cJ (D U s Y H _ I h) λu S ⟨x,q,A,P,L⟩=>cJ (G U S Y q _ A L) λo T ⟨y,w,B,R,M⟩=>
  cJ (E U T Y w _ B M) λp m ⟨J,z,C,Z,N⟩=>((x,y)::J,z,C,.cons #[P,R] Z,N))
def d7 (AV Z:η):List (Key×V):=Z.foldl (λY X=>putK Y X.1 X.2) AV
def KV.merge:∀{Z:η} {rs:List (Key×Value)} {AV:η} {vs:List (Key×Value)},KV Z rs->KV AV vs->KV (d7 AV Z) (merged vs rs):=by
 intro Z rs AV vs r;unfold KV at r
 induction r generalizing AV vs with
 | nil=>intro q;show q
 | @cons p q T U h t X=>
  intro Y
  let e:KV (putK AV p.1 p.2) (stored vs q.1 q.2):=by
   have:=Y.put p.1 h.2;rw [<-h.1];show this
  show X e
theorem jE:∀(Z AV:η),(d7 AV Z).length<=AV.length+Z.length
 | [],AV=>by change AV.length<=AV.length+0;omega
 | p::r,AV=>by
  let X:=jE r (putK AV p.1 p.2);let Y:=iD AV p.1 p.2;change (d7 (putK AV p.1 p.2) r).length<=_;rw [Qz];omega
theorem vU :∀{AV:η} {ws:List (Value×Value)},VV (AV.map λZ=>(kV Z.1,Z.2)) ws->∃rs,Carries (bO P w) ws rs/\KV AV rs
 | [],_,r=>by erw [Wv] at r;show([],True.intro,.nil)
 | p::AV,_,r=>by
  rw [M3] at r;cases r with
  | @cons a b as X h t=>
   let(rs,c,q):=vU (P:=P) (w:=w) t;let(U,Y):=b;show((p.1,Y)::rs,(tN h.1,O,c),.cons #[O,h.2] q)
def agu (S:List (TE×TE)):TE:=λY H Q=>∀p,H p=none->LZ S Y (upd H p (.dK [])) λT U=>U p=some (.dK [])/\∃Z:List (Key×V),T=Z.map (λX=>(kV X.1,X.2))/\Z.length<=15/\Q (.ref p) (upd U p (.dK (d7 [] Z)))
def agM (h:PPs X pos keys values Zn)(j:keys.all (·.isSome)=true)(A:keys.length=values.length)(p:keys≠[])
  (T:keys.length<=15):PE X (.Dict keys values pos) (agu Zn):=by
 intro g s Y H Q I q;let B:=I.cg.fresh (DX s.heap.objs.size);let i:=I.laid (a:=s.heap.objs.size) (o:=.dK []) (h':=s.heap.push {cls:=.type "dict",data:=.dict #[]}) (t':=s.toks) (λ_ _ q=>LM _ q) (DX _) (afb s.heap I.big);show wpAny_Dict_walk (knd:=bO X.prog X.w) j A p T (cJ (h g _ Y _ _ i (q _ B)) λf b ⟨ps,H2,S,U,e,R,m,lk,G⟩=>?_);subst m;let(M,c,L):=vU (P:=X.prog) (w:=X.w) U;let(z,x,N,J,k):=vR S.cg e;cases J;show(M,c,k,λh' Z D=>(.ref s.heap.objs.size,_,?_,O,G))
 let E:(d7 [] R).length<=HZ:=by
  let u:=jE R [];rw [amA] at u;rw [sizeLine_eq];omega
 let y:∃q,h'.get? s.heap.objs.size=some q:=let ⟨q,_,_,C,_⟩:=Z;#[q,C];show vp S (by rw [e];show True.intro) D y (LX E x (L.merge .nil) Z)
structure M1 (X:Cx)(o:Expr)(m:Str)(apos:Pos)(e:Expr)(fP:Pos):Prop where
 gN:Wq o m X.env (II o X.env)=II o X.env
 few:((QG fP (JF [e] X.env)).all (λx=> !x.1) && (backToKw fP (ZU [] X.env)).all (λx=>x.1.isSome)
  && decide (([e]:List Expr).length+([]:List Keyword).length+(if ([]:List Keyword).isEmpty then 0 else 1)<30))=true
 line:(apos.endLine==fP.line)=true
 trees:QG fP (JF [e] X.env)=[(false,II e X.env)]
structure M2 (X:Cx)(o:Expr)(m:Str)(apos:Pos)(e f:Expr)(fP:Pos):Prop where
 gN:Wq o m X.env (II o X.env)=II o X.env
 few:((QG fP (JF [e,f] X.env)).all (λx=> !x.1) && (backToKw fP (ZU [] X.env)).all (λx=>x.1.isSome)
  && decide (([e,f]:List Expr).length+([]:List Keyword).length+(if ([]:List Keyword).isEmpty then 0 else 1)<30))=true
 line:(apos.endLine==fP.line)=true
 trees:QG fP (JF [e,f] X.env)=[(false,II e X.env),(false,II f X.env)]
def IsD (H:Hp)(a:AZ):Prop:=(∃Z,Rd H a (.dK Z))\/∃Z,Rd H a (.dT Z)
def US {Y:St}(I:Inv X AO Y H s)(d:IsD H a):
  s.TypeIs (.ref a) "dict"/\(∀b,Value.ref a=.ref b->∃Z,s.heap.get? b=some Z/\Z.dict=none)/\(a==U')=false:=by
 rcases d with ⟨Q,e⟩|⟨Q,e⟩
 ·let(_,T,P,_,U):=m5 I.cg e
  show(U.typeIs,λb q=>?_,T);cases q;let(Z,_,_,R,S,_):=U;show(Z,R,S.2.1)
 ·let(_,T,xs,_,U):=vS I.cg e
  show(U.typeIs,λb q=>?_,T);cases q;let(Z,_,_,R,S,_):=U;show(Z,R,S.2.1)
section
variable {X:Cx}{AO:θ}{Y:St}{H:Hp}{s:G_}{a:AZ}{y d:V}{u r:Value}{o:ω}{A:Mf}{E:δ}
def acV {Q:δ}(L:A.units+1<Qu)(I:Inv X AO Y H s)(g:ia H a y o)(N:RelV y u)(M:RelV d r)(h:∀R P,Inv X AO Y H P ->RelV (o.getD d) R ->Q R P):
  DA (DW X.prog X.w) A (call (.builtin "dict.get") [.ref a,u,r]) Q E s:=by
 rcases g with ⟨G,k,e,S,l⟩|⟨G,k,b,e,S,J,l⟩
 ·subst S
  let(z,T,D,Z,U):=m5 I.cg e;show yo PySem.F.slot_dict_get U.typeIs PySem.F.entry_dict_get (PySem.F.args_dict_get_3 _ _ _) (meets_dict_get_default (bO X.prog X.w) a (tN N) T r) (_,U.mapOf,h _ _ (I.tok _) ?_);rw [l];show(Z.val k).getD M
 ·subst S
  cases (show u=Value.ref b from N);let(z,T,xs,Z,U):=vS I.cg e;show yo PySem.F.slot_dict_get U.typeIs PySem.F.entry_dict_get (PySem.F.args_dict_get_3 _ _ _) (meetsH_dict_get_default (tupleKind (bO X.prog X.w)) a b T r) (yg L,k,xs,rn I.cg J,U,h _ _ (I.tok _) ?_);rw [l];show(Z.val k).getD M
end
def zar (ty:TE)(tx:TE)(Y:L2.St)(Q:VK)(x:V)(X:Hp):Prop:=∃a,x=.ref a/\IsD X a/\ty Y X λy U=>tx Y U λz Z=>∃o,ia Z a y o/\Q (o.getD z) Z
def acW (Z ty tx:TE):TE:=λY H Q=>Z Y H (zar ty tx Y Q)
section
variable {X:Cx}{o e f:Expr}{apos fP:Pos}{td ty tx:TE}
def zak (D:X.A.units+1<Qu)(C:PE X o td)(w:PE X e ty)(B:PE X f tx)(m:M2 X o "get" apos e f fP):PE X (.Call (.Attribute o "get" apos) [e,f] [] fP) (acW td ty tx):=by
 intro Z s Y H Q I h;show wpAny_Call_method m.gN m.few m.line PySem.F.plainAttrs_dict PySem.F.slot_dict_get PySem.F.type_dict_get (cJ (C Z s Y H _ I h) λu P ⟨x,b,U,L,a,q,d,E⟩=>?_);subst q;obtain rfl:u=Value.ref a:=L;let(S,T,_):=US U d;show(S,T,?_);rw [m.trees]
 show yu rfl (Calls.evalArgs_plain (Zg (cJ (w Z P Y b _ U E) λiv R ⟨y,c,j,M,G⟩=>
  Zg (cJ (B Z R Y c _ j G) λfv s3 ⟨z,i,k,N,ov,g,J⟩=>pZ ?_))))
 show acV D k g M N λw' s4 p GK =>(_,i,p,GK,J)
end
end L2
namespace Ty
open PySem PySem.Spec PyProof.Rows L2
section
variable {X:Cx}
def afk {Y:L2.St}(I:Inv X AO Y H s):s.heap.NoSeer:=I.ok.mod.seer.keeps I.bk
def cp.py (r:cp k A)(h:32<=k):A.depth+Builtin.pylongFrames<ZE:=by
 have:=r.dp;have:Builtin.pylongFrames=100:=rfl;omega
def fX (T:X.prog.given.tree=none)(S:X.A.depth+Builtin.pylongFrames<ZE)(J:X.stack=env::l)(L:env.scope.isGenerator=false)(M:env.scope.isCoroutine=false)(N:env.builtins=ZT)(P:env.globals=LO):
  mZ X (UM .FloorDiv) (rI acB λi j=>.int (i.fdiv j)):=by
 intro E s Y H x y v u Q I U Z h;let(i,j,rfl,rfl,R,q):=h;let(t,rfl):=U;let(G,rfl):=Z;show floordiv_int R (.int _,H,I.tok _,#[_,O],q) (.inr (PylongRoom.of I.nolimit S (SeerAt.of (afk I) T (by rw [I.ok.frames,J]) L M N P)))
end
section
variable {prog:LS}{w:World}{A:Mf}{E:δ}{s:G_}{KK:Type}[DecidableEq KK]{knd:KeyKind prog w KK}
def aeB (U:s.heap.DictOf knd d AV)(h:Q false s):DA (DW prog w) A (Builtin.List.listLengthHint (.ref d)) Q E s:=by
 unfold Builtin.List.listLengthHint;show IC (wpAny_specialOf (name:=Ql "__len__") U.typeIs F.slot_dict_len.lookup ?_);generalize Y:("dict.__len__":String)=X
 wp_delta
 rw [show splitId X=some ("dict","__len__") from by subst Y;decide+kernel];subst Y;show IC (wpAny_isInstance (T:="dict") (b:=true) U.typeIs (by rw [isSubtype_type];kernel_rfl) ?_);show wpAny_ite_split (λZ=>DB Z eY) (λ_=>?_);show wpAny_ite_split (λ_=>?_) (λZ=>DB (by decide+kernel) Z);show IC (wpAny_typeOf (T:="dict") U.typeIs ?_);show LN h
def abL {R:Τ}(hh:A.handled=none)(hd:(d==U')=false)(N:s.heap.DictAt knd d AV ep)(H:AV.length<=HZ)(S:AZ)(Y:Value)(c₀:Nat)(y:s.heap.get? S=some {cls:=.type "list",data:=.seq #[] c₀})
  (hR:∀c C B M,(∀b o,b≠S->s.heap.get? b=some o->c.get? b=some o)->c.get? S=some {cls:=.type "list",dict:=none,data:=.seq B M,slots:= #[]}->
   ItemsOf (λi v=>∃k x,AV[i]?=some (k,x)/\knd.is k v=true) B AV.length->R (.ok (.ret Y)) {s with heap:=c,toks:=C}):
  DA (DW prog w) A.in1 (NW (.ref S) (.ref d) Y)
   (λa U=>match a with | .done f=>R (.ok f) U | .again M=>M.quiet=true/\T8 (DW prog w) A M R U) (λe U=>R (.error e) U) s:=by
 let(od,es,I,oO,kb,hk0,hp0,hn0):=id N;let hT:s.TypeIs (.ref d) "dict":=N.dictOf.typeIs
 let X:S≠d:=λe=>by
  rw [e] at y;erw [y] at I;cases kb
 let p:d≠s.heap.objs.size:=P6 (JN I);let P:S≠s.heap.objs.size:=P6 (JN y)
 let j:S∉[s.heap.objs.size,d]:=λN=>by
  rcases P4.mp N with z|z
  ·show P z
  ·show X (MJ.mp z)
 let W:=(Walks.dictKeys (knd:=knd) (A:=A.in1) hh s.heap.objs.size d p AV ep).toS;unfold NW;show IC (wpAny_typeOf (T:="dict") hT ?_);let h1:Builtin.List.listSameRef (.ref S) (.ref d)=false:=by simp [Builtin.List.listSameRef,X]
 let h2:(Value.type "dict"==Value.type "list")=false:=eY
 let h3:(Value.type "dict"==Value.type "tuple")=false:=eY
 simp only [h1,h2,h3,anJ,Oc,if_false];show IC (wpAny_pyIter_dict hd N ?_);let Q:(s.heap.push {cls:=.type "dict_keyiterator",data:=.fields (List.toArray [.ref d,.int 0 0,.int AV.length 0,.int ep 0])}).DictAt knd d AV ep:=N.at' λo e=>LM _ e;show IC (Vb (aeB (knd:=knd) Q.dictOf ?_));let Z:=LM {cls:=.type "dict_keyiterator",data:=.fields (List.toArray [.ref d,.int 0 0,.int AV.length 0,.int ep 0])} y;let J:(s.heap.push {cls:=.type "dict_keyiterator",data:=.fields (List.toArray [.ref d,.int 0 0,.int AV.length 0,.int ep 0])}).IsKeyIter s.heap.objs.size d 0 AV.length ep:=(_,QL _ rfl,O,O)
 let L:∀(h:Heap)(c₁ C:Nat),h.IsKeyIter s.heap.objs.size d 0 AV.length ep->h.DictAt knd d AV ep->(∀b o,b≠S->s.heap.get? b=some o->h.get? b=some o)->
   h.get? S=some {cls:=.type "list",data:=.seq #[] c₁}->T8 (DW prog w) A (.builtin "list.extend.loop" #[[.ref S,.ref s.heap.objs.size,Y],[]]) R {s with heap:=h,toks:=C}:=by
  intro h c₁ C u q hk Z;show codeAny_extend_loopS W H S j Y AV.length 0 _ #[] c₁ rfl (P1 _) #[u,q] Z (ItemsOf.nil _) λU B M Zp g lO=>?_;rw [Moved.eq_with Zp];show hR U.heap U.toks B M (λb o G e=>Zp.heap b o (λQp=>?_) (hk b o G e)) g lO
  rcases P4.mp Qp with e'|Qp
  ·show G e'
  ·show DB (JN e) (by rw [MJ.mp Qp];show Qh _)
 show wpAny_ite_split (λ_=>?_) (λ_=>LN #[plainId_quiet F.plain_extend_loop _,L _ c₀ _ J Q (λb o _ e=>LM _ e) Z]);show IC (wpAny_rule ?_);show IC ?_;change DA _ _ (updateSeq S (·.push .none) >>=λ_=>updateSeq S (·.pop)) _ _ _;show IC (N_ Z rfl ?_);let D:=N5 (VZ (·.push Value.none)) Z rfl;show N_ (hz:=by seq_fits) D rfl ?_;let m:=N5 (VZ (·.pop)) D rfl;show LN #[plainId_quiet F.plain_extend_loop _,L _ _ _ (J.at λo e=>?_) (Q.at' λo e=>?_) (λb o G e=>?_) m]
 ·show(σ6 _ _ P).trans ((σ6 _ _ P).trans e)
 ·show(σ6 _ _ X).trans ((σ6 _ _ X).trans e)
 ·show(σ6 _ _ (IL G)).trans ((σ6 _ _ (IL G)).trans (LM _ e))
def ae_ {R:Τ}(m:A.handled=none)(j:(d==U')=false)(C:s.heap.DictAt knd d AV ep)(X:AV.length<=HZ)(S:AZ)(U:s.heap.get? S=some {cls:=.type "list",data:=.seq #[]})
  (g:∀T M P Z,(∀b o,b≠S->s.heap.get? b=some o->T.get? b=some o)->T.get? S=some {cls:=.type "list",dict:=none,data:=.seq P Z,slots:= #[]}->
   ItemsOf (λi v=>∃k x,AV[i]?=some (k,x)/\knd.is k v=true) P AV.length->R (.ok (.ret .none)) {s with heap:=T,toks:=M}):
  DA (DW prog w) A.in1 (Builtin.«list.__init__» #[[.ref S,.ref d],[]])
   (λD Q=>match D with | .done f=>R (.ok f) Q | .again Z=>Z.quiet=true/\T8 (DW prog w) A Z R Q) (λe Q=>R (.error e) Q) s:=by
 let(c,es,J,a,z,q,y,u):=id C
 let H:S≠d:=λe=>by
  rw [e] at U;erw [U] at J;cases z
 change DA _ _ (do let L <- Builtin.List.listItems (.ref S);Builtin.List.listUpdate (.ref S) (λ_=> #[]);letGo L.toList.reverse;NW (.ref S) (.ref d) .none) _ _ s;show IC ?_;unfold Builtin.List.listItems;show IC (NX U rfl (LN ?_));change DA _ _ (updateSeq S (λ_=> #[]) >>=λ_=>letGo (#[]:Array Value).toList.reverse >>=λ_=>NW (.ref S) (.ref d) .none) _ _ s;show IC (N_ U rfl ?_);let I:=N5 (VZ (λ_=>(#[]:Array Value))) U rfl
 let Y:∀b o,b≠S->s.heap.get? b=some o->(s.heap.update S (VZ (λ_=>(#[]:Array Value)))).get? b=some o:=
  λb o N e=>(σ6 _ _ (IL N)).trans e
 show IC (wpAny_letGo ?_);show abL m j (C.at' λo e=>Y d o (IL H) e) X S .none _ I λT M P Z p G B=>?_;show g T M P Z (λb o N e=>p b o N (Y b o N e)) G B
def aeH {Q:δ}(I:A.handled=none)(H:(d==U')=false)(L:s.heap.DictAt knd d AV ep)(Y:AV.length<=HZ)
  (G:∀h' U X S,(∀b o,s.heap.get? b=some o->h'.get? b=some o)->
   h'.get? s.heap.objs.size=some {cls:=.type "list",dict:=none,data:=.seq X S,slots:= #[]}->ItemsOf (λi v=>∃k x,AV[i]?=some (k,x)/\knd.is k v=true) X AV.length->Q (.ref s.heap.objs.size) {s with heap:=h',toks:=U}):
  DA (DW prog w) A (call (.type "list") [.ref d]) Q E s:=by
 show callType_codes (Q₁:=λZ R=>Z=.ref s.heap.objs.size/\R={s with heap:=s.heap.push {cls:=.type "list",data:=.seq #[]}}) F.called_list (F.typeCall_list_1 _) F.entry_list_init
  (code_list_new _ #[O,O]) λZ R N=>?_
 let(rfl,rfl):=N;let P:(s.heap.push {cls:=.type "list",data:=.seq #[]}).get? s.heap.objs.size=some {cls:=.type "list",data:=.seq #[]}:=QL _ rfl;show((_,P,O),F.args_list_init_2 _ _,ae_ (A:=A.in1) I H (L.at' λo e=>LM _ e) Y _ P λh' U X S J T M=>?_);show#[O,G h' U X S (λb o e=>J b o (P6 (JN e)) (LM _ e)) T M]
end
theorem aQ :∀{Y:List Z} {X:List β} {i:Nat} {a:Z},Paired F Y X->Y[i]?=some a->∃b,X[i]?=some b/\F a b
 | _,_,_,_,.nil,h=>by simp at h
 | _,_,0,_,.cons r _,h=>by
  cases h;show(_,O,r)
 | _,_,i+1,_,.cons _ t,h=>by
  let(b,e,f):=aQ (i:=i) t (by simpa using h);show(b,by simpa using e,f)
theorem fm :∀{Y:List Z} {X:List β},Y.length=X.length->(∀(i:Nat)(a:Z)(b:β),Y[i]?=some a->X[i]?=some b->F a b)->Paired F Y X
 | [],[],_,_=>.nil
 | a::Y,b::X,h,f=>.cons (f 0 a b rfl rfl) (fm (by simpa using h) λi a b T U=>f (i+1) a b (by simpa using T) (by simpa using U))
 | [],_::_,h,_=>by simp at h
 | _::_,[],h,_=>by simp at h
def BG (h:(bO P w).is k u=true):RelV (kV k) u:=by
 rcases cR h with ⟨i,t,rfl,rfl⟩|⟨x,t,rfl,rfl⟩
 ·show#[t,O]
 ·show#[t,O]
section
variable {X:Cx}
inductive UW (xs:γ)(H:Hp)(Q:VK):Prop
|mk (p:AZ)(AV:η)(_:xs=[.ref p])(_:Rd H p (.dK AV))(_:∀l,H l=none->Q (.ref l) (upd H l (.lst (AV.map λZ=>kV Z.1))))
def nY (j:X.calm=true):lG X (.type "list") UW:=by
 intro AO s Y H xs us Q I r h;let(p,N,rfl,D,q):=h;let(u,rfl,L):=vals1 r;cases L;let(z,m,vs,Z,o,c,ep,B,E,G,y,C,A):=m5 I.cg D;let hl:=Z.length;show aeH (knd:=bO X.prog X.w) (I.ok.hd j) m (o,c,B,E,G,y,C,A) cr λf T R c' J g S=>?_;have GJ :=I.cg.fresh (DX s.heap.objs.size)
 let M:Vals (N.map λU=>kV U.1) R.toList:=fm (by have:=S.1;simp;omega) λi a b P e2=>by
  rw [ir] at P;let(U,ek,rfl):=MK.mp P;let(q',eq,e3,_):=aQ Z ek;let(k,x,e4,e5):=S.2 i b (by simpa using e2);erw [eq] at e4;rw [e3];show BG e5
 let I2:Inv X AO Y (upd H s.heap.objs.size (.lst (N.map λU=>kV U.1))) {s with heap:=f,toks:=T}:=I.laid (t':=T) J (DX _) (by rwa [Wp],R.toList,c',M,by simpa using g);show(.ref _,_,I2,O,q _ GJ)
def Inv.freeze {Y:L2.St}(I:Inv X AO Y H s)(e:H d=some (.dK AV))(T:s.heap.get? d=some o):Inv X AO Y (upd H d (.iL o (.dK AV))) s:=by
 let Z:∀b u,H b=some u->b≠d->upd H d (.iL o (.dK AV)) b=some u:=λb u q n=>by rwa [ag n]
 show I.step (g':=s.gens) (t':=s.toks) (d':=s.drawn) (ch:=[]) (λ_ z=>nomatch z) (λb o _ _ _ e _=>e) (λb o _ _ _ e _=>#[o.slots,e]) (λb o _ _ n=>by rw [ag (λz=>by erw [z,e] at n)];show n) (λb o _ e=>#[o,e])
  (λb xs q=>Z b _ q λz=>by erw [z,e] at q) (λb Q u q=>Z b _ q λz=>by erw [z,e] at q) (λb R q=>#[#[],by rw [Z b _ q λz=>by erw [z,e] at q];simp]) (λm S=>S) (λb u q=>?_) I.bare
 by_cases U:b=d
 ·subst U
  erw [af] at q;show#[T,I.cg b _ e]
 ·rw [ag U] at q
  show(I.cg b u q).vC (λ_ _ _ k=>k) (λc k=>Z c _ k λz=>by erw [z,e] at k) λc xs k=>Z c _ k λz=>by erw [z,e] at k
def Itd (d:AZ)(o:Obj)(AV:η):It:=
 (λi H=>H d=some (.iL o (.dK AV))/\i<AV.length,
  λi H v Z=>∃p k x,AV[i]?=some (k,x)/\v=.ref p/\H p=none/\Z=upd H p (.tup [kV k,x]),
  λi H=>H d=some (.iL o (.dK AV))/\AV.length<=i)
def BH (T:mW P w H h)(e:H d=some (.iL o (.dK AV)))(Y:o.data=.dict es0 ep):
  (d==U')=false/\∃vs,KV AV vs/\h.DictAt (bO P w) d vs ep/\AV.length<=HZ:=by
 let(U,z,J,vs,Z,I,G,E,N,R,S,L,Q,M):=T d _ e;erw [U] at N;erw [Y] at S;show(J,vs,Z,(o,es0,U,R,Y,L,Q,M),z)
def akI:entryFor table "dict_itemiterator.__iter__"=some Builtin.«dict_keyiterator.__iter__»:=
 entryFor_alias (id':="dict_keyiterator.__iter__") (by kernel_rfl) (by first|rfl|decide+kernel|(unfold String.splitOn;simp+decide [String.splitOnAux])) (by decide+kernel) (by kernel_rfl)
def abn {E:δ}{Q:δ}(st:IsItemIter s.heap it d i n ep ok ov)(h:Q (.ref it) s):DA (DW P w) A (pyIter (.ref it)) Q E s:=by
 let Z:s.TypeIs (.ref it) "dict_itemiterator":=(_,st,O);show wpAny_pyIter_slot Z F.slot_dict_itemiterator_iter (wpAny_call_entry F.slot_dict_itemiterator_iter Z akI ?_ (F.args_dict_itemiterator_iter_1 _));change DA _ _ (ret (.ref it)) _ _ s;show LN (_,O,"dict_itemiterator",_,Z,F.slot_dict_itemiterator_next.lookup,h)
def vX {K:Frag}{es:Α}(d it:AZ)(o:Obj)(AV:η)(j:o.data=.dict es0 ep)(UN:it≠d):
  Turn P w K (.Tuple es k pos) (Itd d o AV) [it] it (λi h=>∃S T,IsItemIter h it d i AV.length ep S T) where
 mem:=by simp
 obj:=λi h st b U=>by
  let e:b=it:=by simpa using U
  subst e;let(S,T,st):=st;show(_,st,λv z=>by cases z)
 keep:=λi h M st k=>by
  let(S,T,st):=st;show(S,T,k it fN _ st)
 item:=by
  intro X B G A N i a s Y H E I Q st C;subst B G A;let(S,T,st):=st;let(y,m):=C;let(hd,vs,Z,q,_):=BH I.cg y j;let g:AV[i]?=some AV[i]:=gE m;let((k',u),ev,e1,ru):=aQ Z g;let R:=Z.length;rw [R] at st;show wpAny_pyNext_items_item st q ev λJ M LL L tup sz kk=>?_;show(_,O,wpAny_letOwnedTupleGo_items (s:={s with heap:=M}) L λf aoM sb=>?_);let D:∀c o,s.heap.get? c=some o->s.heap.objs.size≠c:=λc o e=>ZM (JN e);let p:s.heap.objs.size≠it:=D _ _ st;let nz:∀c,c≠it->∀o,M.get? c=some o->f.get? c=some o:=λc N o e=>(sb.2 c N).trans e;let hn:=I.cg.fresh (DX s.heap.objs.size);have LV :AV[i].1=k':=e1
  let I2:Inv X a Y (upd H s.heap.objs.size (.tup [kV AV[i].1,AV[i].2])) {s with heap:=f,toks:=s.toks}:=
   Inv.BF I (λb o U e=>nz b (by simpa using U) o (kk b o (by simpa using U) e)) Q (DX _) (by change 2<=HZ;decide) (BC:=[J,u]) (.cons (by rw [LV];show BG LL) (.cons ru .nil)) (_,nz _ p _ tup,O,_,O)
  show(.ref s.heap.objs.size,_,I2,O,(s.heap.objs.size,AV[i].1,AV[i].2,g,O,hn,O),(_,_,by rwa [R]),λb U=>?_);let x:b=it:=by simpa using U
  rw [ag (by rw [x];show IL p)];show(Q b U).1
 done:=by
  intro X B G A N i a s Y H E I Q st C;subst B G A;let(S,T,st):=st;let(y,m):=C;let(hd,vs,Z,q,_):=BH I.cg y j;let R:=Z.length;rw [R] at st;let(f0,f1,f2,f3,f4,f5):=Q it fN;show wpAny_pyNext_items_end (I.ok.hd N) st q (JM cr) λM x=>#[O,I.turned (t':=s.toks) (λb o U e=>x b o U e) f0 f1 f3 f4 f5]
 self:=λ_ _ _ _ _ st h=>by
  let(S,T,st):=st;show abn st h
inductive Of (R:(It->Hp->Prop))(x:V)(Z:Hp):Prop
|mk (d AV:_)(_:x=.ref d)(_:Z d=some (.dK AV))(_:∀o,R (Itd d o AV) (upd Z d (.iL o (.dK AV))))
def acZ (Z:TE):TI:=λY H R=>Z Y H (Of R)
def vY {U y:Pos}{es:Α}{k:Nat}{AR:Pos}(ho:PE X e te)(j:Wq e "items" X.env (II e X.env)=II e X.env:=by rfl)(m:(U.endLine==y.line)=true:=by rfl):
  PI X (.Tuple es k AR) (.Call (.Attribute e "items" U) [] [] y) (acZ te):=by
 intro p s Y H R I h;show wpAny_Call_method0_late j m (cJ (ho p s Y H _ I h) λv Z ⟨x,H1,G,i,g⟩=>?_);let(d,E,rfl,e,q):=g;cases i;let(z,hd,S,Q,o,P,N,L,a,C,hk,hp,hn):=vR G.cg e;let(B,h2):=UD (T:="dict") G (show RelV (.ref d) (.ref d) from rfl) (.inr (.inr (.inl #[O,.inl #[E,e]])));let u:Z.heap.DictAt (bO X.prog X.w) d S N:=(o,P,L,a,C,hk,hp,hn);let c:=Q.length;show("dict","dict.items",F.plainAttrs_dict,O5,F.type_dict_items,B,h2,yu rfl (PySem.evalArgs_none ?_));show yo O5 B F.entry_dict_items (F.args_dict_items_1 _) (meets_dict_items (bO X.prog X.w) d hd) #[#[S,u.dictOf],?_];let J:=Inv.freeze G e L;let M:(Z.heap.push {cls:=.type "dict_items",data:=.fields (List.toArray [.ref d])}).DictAt (bO X.prog X.w) d S N:=u.at' λo e=>LM _ e;change DA (DW X.prog X.w) X.A (pyIter (.ref Z.heap.objs.size)) _ _ _;show wpAny_pyIter_items (s:={Z with heap:=Z.heap.push {cls:=.type "dict_items",data:=.fields (List.toArray [.ref d])}}) (_,QL _ rfl,O,O) M ?_;let D:(Z.heap.push {cls:=.type "dict_items",data:=.fields (List.toArray [.ref d])}).objs.size=Z.heap.objs.size+1:=ZW ..
 let f:(Z.heap.push {cls:=.type "dict_items",data:=.fields (List.toArray [.ref d])}).objs.size≠d:=by
  rw [D];show IL (P6 (ZN (JN L)))
 let I3:Inv X p Y (upd H1 d (.iL o (.dK E))) {Z with heap:=(Z.heap.push {cls:=.type "dict_items",data:=.fields (List.toArray [.ref d])}).push {cls:=.type "dict_itemiterator",data:=.fields (List.toArray [.none,.bool false,.ref d,.int 0 0,.int S.length 0,.int N 0,.none,.none])}}:=J.kept (t':=Z.toks) λb o e=>LM _ (LM _ e);show(_,[_],_,_,_,O,I3,vX d _ o E C f,(_,_,by rw [c];show QL _ rfl),λb hb=>?_,q o);let eb:b=(Z.heap.push {cls:=.type "dict_items",data:=.fields (List.toArray [.ref d])}).objs.size:=by simpa using hb
 let le:Z.heap.objs.size<=b:=by rw [eb,D];show N3 _
 show J.ye le (J.cg.fresh le)
end
end Ty
namespace Ty
def ev:List Int->(Nat->Rat)->Rat
 | [],_=>0
 | a::r,z=>(a:Rat)*z 0+ev r (λi=>z (i+1))
theorem L':∀(l:ο)(z y:Nat->Rat),ev l (λi=>z i+y i)=ev l z+ev l y
 | [],_,_=>by simp [ev];grind
 | a::r,z,y=>by
  simp only [ev];rw [L' r (λi=>z (i+1)) (λi=>y (i+1))];grind
theorem vq:∀(l:ο)(z:Nat->Rat),(∀j,((l.getD j 0:Int):Rat)*z j=0)->ev l z=0
 | [],_,_=>rfl
 | a::r,z,h=>by
  let Y:=h 0;let Z:=vq r (λi=>z (i+1)) (λj=>by simpa using h (j+1));simp only [ev];rw [Z];simp at Y;grind
theorem nZ:∀(l:ο)(z:Nat->Rat)(p:Nat),(∀j,j≠p->((l.getD j 0:Int):Rat)*z j=0)->ev l z=((l.getD p 0:Int):Rat)*z p
 | [],_,_,_=>by simp [ev]
 | a::r,z,0,h=>by
  let Z:=vq r (λi=>z (i+1)) (λj=>by simpa using h (j+1) cr);simp only [ev];rw [Z];simp;grind
 | a::r,z,p+1,h=>by
  let Y:=h 0 cr;let Z:=nZ r (λi=>z (i+1)) p (λj X=>by simpa using h (j+1) cr);simp only [ev];rw [Z];simp at Y;simp;grind
theorem UX :∀{Y Z X:ο},Y.length=Z.length->X.length=Z.length->(∀j,s*Y.getD j 0=t*Z.getD j 0-u*X.getD j 0)->∀z:Nat->Rat,(s:Rat)*ev Y z=t*ev Z z-u*ev X z
 | [],[],[],_,_,_,z=>by simp [ev];grind
 | a::Y,b::Z,c::X,S,T,h,z=>by
  let U:=h 0;let Q:=UX (by simpa using S) (by simpa using T) (λj=>by simpa using h (j+1)) (λi=>z (i+1));simp at U;let R:(s:Rat)*a=t*b-u*c:=by exact_mod_cast U
  simp only [ev];grind
 | [],_::_,_,h,_,_,_=>by simp at h
 | _::_,[],_,h,_,_,_=>by simp at h
 | _,[],_::_,_,h,_,_=>by simp at h
 | _,_::_,[],_,h,_,_=>by simp at h
def gJ:List Rat->List (List Int)->Nat->Rat
 | c::y,o::os,j=>c*((o.getD j 0:Int):Rat)+gJ y os j
 | _,_,_=>0
theorem ae4 (X:s≠0)(j:Nat):∀(os:ζ)(Y Z:Μ),Y.length=os.length->Z.length=os.length->s*gJ (Qe (λa b=>(t*a-u*b) / s) Y Z) os j=t*gJ Y os j-u*gJ Z os j
 | [],[],[],_,_=>by simp [gJ];grind
 | o::os,a::Y,b::Z,T,U=>by
  let S:=ae4 (t:=t) (u:=u) X j os Y Z (by simpa using T) (by simpa using U);simp only [aj_,gJ];grind
 | [],_::_,_,h,_=>by simp at h
 | [],[],_::_,_,h=>by simp at h
 | _::_,[],_,h,_=>by simp at h
 | _::_,_::_,[],_,h=>by simp at h
theorem zH (j:Nat):∀(os:ζ),gJ (JB os.length 0) os j=0
 | []=>rfl
 | o::os=>by
  simp only [Qz,uv,gJ];rw [zH j os];grind
def rB (os:ζ)(l:ο):Prop:=∃y:List Rat,y.length=os.length/\∀j,((l.getD j 0:Int):Rat)=gJ y os j
theorem zaz:∀{os:ζ} {l:ο},l∈os->rB os l
 | o::os,l,h=>by
  rcases P4.mp h with z|z
  ·subst z
   show(1::JB os.length 0,by simp,λj=>?_);simp only [gJ];rw [zH];grind
  ·let(y,Y,Z):=zaz z
   show(0::y,by simp [Y],λj=>?_);simp only [gJ];rw [<-Z j];grind
def zac (T:s≠0)(h:∀j,s*new.getD j 0=t*line.getD j 0-u*BJ.getD j 0)(R:rB os line)(S:rB os BJ):rB os new:=by
 let(Y,U,N):=R;let(Z,X,P):=S;have M :=c7 T;show(Qe (λa b=>((t:Rat)*a-u*b) / s) Y Z,by simp [U,X],λj=>?_);let k:=ae4 (t:=(t:Rat)) (u:=(u:Rat)) M j os Y Z U X;rw [<-N j,<-P j] at k;let Q:(s:Rat)*(new.getD j 0:Int)=t*(line.getD j 0:Int)-u*(BJ.getD j 0:Int):=by exact_mod_cast h j
 rw [<-Q] at k;grind
def tO (y:Μ):Nat->Rat:=λi=>if i<y.length then y.getD i 0 else -1
theorem Ma (j:Nat)(c:Int):∀(os:ζ)(y:Μ),y.length=os.length->ev (os.map (λo=>o.getD j 0)++[c]) (tO y)=gJ y os j-c
 | [],[],_=>by simp [ev,tO,gJ];grind
 | o::os,a::y,h=>by
  let Z:=Ma j c os y (by simpa using h)
  let Y:(λi=>tO (a::y) (i+1))=tO y:=by
   funext i;simp [tO]
  simp only [M3,OH,ev,gJ];rw [Y,Z];simp [tO];grind
 | [],_::_,h=>by simp at h
 | _::_,[],h=>by simp at h
theorem vZ (k:Rat)(j:Nat):∀(os:ζ)(y:Μ),gJ (y.map (λa=>a*k)) os j=gJ y os j*k
 | [],_=>by cases ‹List Rat› <;> simp [gJ]<;>grind
 | _::_,[]=>by simp [gJ]
 | o::os,a::y=>by
  simp only [M3,gJ];rw [vZ k j os y];grind
structure xY (line BJ new:ο)(c:Nat):Prop where
 len:new.length=line.length
 UZ:new.getD c 0=0
 ib:∃s t u:Int,s≠0/\t≠0/\∀j,s*new.getD j 0=t*line.getD j 0-u*BJ.getD j 0
def xY.zero (h:xY line BJ new c)(X:line.getD j 0=0)(Y:BJ.getD j 0=0):new.getD j 0=0:=by
 let(s,t,u,Z,_,e):=h.ib;have:=e j;rw [X,Y,Zm,Zm,Int.sub_self] at this
 rcases amB.mp this with z|z
 ·show DB z Z
 ·show z
theorem xY.at (h:xY line BJ new c)(Y:BJ.getD j 0=0)(X:line.getD j 0≠0):new.getD j 0≠0:=by
 let(s,t,u,U,Z,e):=h.ib;have:=e j;rw [Y] at this;intro z;rw [z,Zm,Zm,Int.sub_zero] at this
 rcases amB.mp this.symm with y|y
 ·show Z y
 ·show X y
def xY.comb (h:xY line BJ new c)(X:rB os line)(Y:rB os BJ):rB os new:=by
 let(s,t,u,Z,U,e):=h.ib;show zac Z e X Y
theorem xY.ev (h:xY line BJ new c)(U:BJ.length=line.length)(T:Ty.ev BJ z=0):Ty.ev new z=0 ↔ Ty.ev line z=0:=by
 let(s,t,u,X,Y,e):=h.ib;let k:=UX h.len U e z;rw [T] at k;have S :=c7 X;let Z:=c7 Y;constructor
 ·intro w
  rw [w] at k;grind
 ·intro w
  rw [w] at k;grind
end Ty
namespace Ty
open PySem PySem.Spec PyProof.Rows L2
def Itn (K:Frag)(a:AZ):It:=
 (λi H=>∃xs x,bh K H a xs/\xs[i]?=some x,
  λi H v Z=>∃p x,(∀xs,bh K H a xs->xs[i]?=some x)/\v=.ref p/\H p=none/\Z=upd H p (.tup [.int (i:Int),x]),
  λi H=>∃xs,bh K H a xs/\xs.length<=i)
def adb {K:Frag}{es:Α}(a e it:AZ)(f:e≠it):
  Turn P w K (.Tuple es k pos) (Itn K a) [e,it] e (λi h=>(∃Z,IsEnum h e it ((i:Nat):Int) Z)/\h.IsListIter it a i) where
 mem:=by simp
 obj:=λi h st c T=>by
  let((Z,U),(o1,m,c1,d1)):=st;have J :c=e\/c=it:=by simpa using T
  rcases J with z|z<;>subst z
  ·show(_,U,λv z=>by cases z)
  ·show(_,m,λv z=>by erw [d1] at z)
 keep:=λi h L st k=>by
  let((Z,U),R):=st;show#[#[Z,k e fN _ U],R.at λo e=>k it fN o e]
 item:=by
  intro X A C y T i AO s Y H E I M st B;subst A C y;let((Z,U),R):=st;let(xs,x,N,ex):=B;let(BC,G,p,_):=I.list N;let(u,hu,ru):=G.get ex;show wpAny_pyNext_enum_item U R p.isList (x:=u) (by simpa using hu) f λL a1 a2 a3 a4 a5=>?_;show(_,O,wpAny_letOwnedTupleGo_enum (s:={s with heap:=L,toks:=s.toks+1}) a1 λj b1 sb=>?_);let nz:∀c,c≠e->∀o,L.get? c=some o->j.get? c=some o:=λc T o q=>(sb.2 c T).trans q
  let D:∀b o,b∉[e,it]->s.heap.get? b=some o->j.get? b=some o:=λb o S q=>by
   have Q :b≠e/\b≠it:=by simpa using S
   show nz b Q.1 o (a5 b o Q.1 Q.2 q)
  let g:∀c o,s.heap.get? c=some o->s.heap.objs.size≠c:=λc o q=>ZM (JN q);let tz:s.heap.objs.size≠e:=g _ _ U;let hn:=I.cg.fresh (DX s.heap.objs.size)
  let I2:Inv X AO Y (upd H s.heap.objs.size (.tup [.int (i:Int),x])) {s with heap:=j,toks:=s.toks+1}:=
   Inv.BF I D M (DX _) (by change 2<=HZ;decide) (BC:=[.int i s.toks,u]) (.cons #[_,O] (.cons ru .nil)) (_,nz _ tz _ a3,O,_,O)
  show(.ref s.heap.objs.size,_,I2,O,(s.heap.objs.size,x,λXh q=>by rwa [I.lC q N],O,hn,O),#[#[_,by show b1],a2.at λo q=>nz _ (IL f) o q],λb S=>?_)
  let ob:∃o,s.heap.get? b=some o:=by
   let(o1,m,_):=R;have J :b=e\/b=it:=by simpa using S
   rcases J with z|z<;>subst z
   ·show#[_,U]
   ·show#[_,m]
  let(o,q):=ob;rw [ag (IL (g _ _ q))];show(M b S).1
 done:=by
  intro X A C y T i AO s Y H E I M st B;subst A C y;let((Z,U),R):=st;let(xs,N,ee):=B;let(BC,G,p,_):=I.list N;let l1:=G.length;show wpAny_pyNext_enum_end (I.ok.hd T) U R p.isList (by simp;omega) λL D=>#[O,Inv.vo I (λb o S q=>?_) M];have Q :b≠e/\b≠it:=by simpa using S
  show D b o Q.2 q
 self:=λ_ _ _ _ _ st h=>by
  let((Z,U),_):=st;show wpAny_pyIter_enum U h
def boot_enumerate:Qx "enumerate"=some (.type "enumerate"):=by decide+kernel
section
variable {X:Cx}
inductive U0 (K:Frag)(R:(It->Hp->Prop))(vs:γ)(Z:Hp):Prop
|mk (a:_)(_:vs=[.ref a])(_:(∃xs,bh K Z a xs))(_:R (Itn K a) Z)
def agB (K:Frag)(Z:TA):TI:=λY H R=>Z Y H (U0 K R)
def o9 {x:Α}(C:Gl X "enumerate")(E:X.mg "enumerate"=none)(A:PA X [e1] ta)(G:JF [e1] X.env=[(false,II e1 X.env)]:=by rfl):
  PI X (.Tuple x k AR) (.Call (.Name "enumerate" p) [e1] [] pos) (agB X.K ta):=by
 intro u s Y H R I h;show Call_ (gZ I C E boot_enumerate (VJ (cJ (A pos u s Y H _ I h) λm Z ⟨o,w,U,P,N⟩=>?_) G rfl));let(a,e,(xs,L),q):=N;subst e;cases P with
 | cons r Q=>
  cases Q;cases r;let(i,j,M,_):=U.list L;show call_enumerate_list M.isList λy S z J D=>wpAny_pyIter_enum (s:={Z with heap:=y}) S ?_;show(Z.heap.objs.size+1,[Z.heap.objs.size+1,Z.heap.objs.size],_,_,w,O,U.kept (t':=Z.toks) D,adb a _ _ (Nat.succ_ne_self _),#[#[_,S],z],λc B=>?_,q)
  have T :Z.heap.objs.size<=c:=by
   have:c=Z.heap.objs.size+1\/c=Z.heap.objs.size:=by simpa using B
   simp only [AZ] at*;omega
  show U.ye T (U.cg.fresh T)
def any_range (Z:List Bool):(LK Z.length).any (λi=>(Z[i]?).getD true)=Z.any id:=by
 rw [r_,AG,AG];constructor
 ·rintro ⟨i,Y,h⟩
  have U :i<Z.length:=QF.mp Y;rw [gE U] at h;show(Z[i],QJ U,h)
 ·rintro ⟨b,T,h⟩
  let(i,Y):=LP T;show(i,QF.mpr (be.mp Y).1,by rwa [Y])
inductive agC (K:Frag)(xs:γ)(H:Hp)(Q:VK):Prop
|mk (p:AZ)(Z:List Bool)(_:xs=[.ref p])(_:bh K H p (Z.map V.bl))(_:Q (.bl (Z.any id)) H)
def adF (z:X.calm=true):lG X (.builtin "any") (agC X.K):=by
 intro AO s Y H xs us Q I r h;let(p,Z,rfl,C,q):=h;let(u,rfl,G):=vals1 r;cases G;let(R,P,S,hz):=I.list C;show call_any_walk (wpAny_pyIter_list S.isList ?_);let c:p≠s.heap.objs.size:=by let(o,B,_):=S.isList;show P6 (JN B)
 let a:Inv X AO Y H {s with heap:=s.heap.push {cls:=.type "list_iterator",data:=.fields (List.toArray [.ref p,.int 0 0])}}:=I.kept (t':=s.toks) λb o e=>LM _ e;let(j,k,f2,m,w,x):=I.ye (H':=H) (DX s.heap.objs.size) (I.cg.fresh (DX _));let N:R.length=Z.length:=by rw [<-P.length,Wp]
 show(s.heap.objs.size,_,_,_,_,_,λi=>(Z[i]?).getD true,O,Walks.list (A:=X.A.in1) (I.ok.hd z) s.heap.objs.size p c R.toArray,#[(_,QL _ rfl,O,O),S.isList.at λo e=>LM _ e],?_,λh' L E=>?_)
 ·intro i v s' Q' E' D T
  let U:R[i]?=some v:=by simpa using D
  let M:i<Z.length:=by rw [<-N];show(be.mp U).1
  let f:(Z.map V.bl)[i]?=some (.bl Z[i]):=by rw [ir,gE M];rfl
  let(u,g,J):=P.get f;erw [U] at g;cases J;dsimp only at T;rw [gE M] at T;show Zd T
 ·show(.bl (Z.any id),H,a.turned (t':=L) (it:=s.heap.objs.size) (λb o y e=>E b o (by simpa using y) e) j k m w x,?_,q)
  change _=_;rw [<-any_range Z,QE,N]
def agD:Qx "any"=some (.builtin "any"):=by decide+kernel
end
def lQ {K:Frag}{g:TG}{R:TS}{D:Ends}(Z:Nat->L2.St->Hp->Prop)(A:Z 0 Y H)(E:∀i Y H,i<=xs.length->Z i Y H->bh K H a xs)
  (G:∀i x Y H p,xs[i]?=some x->Z i Y H->H p=none->g (.ref p) Y (upd H p (.tup [.int (i:Int),x])) λU S=>R {D with nx:=Z (i+1),ct:=Z (i+1),bk:=D.nx} U S) (B:∀Y H,Z xs.length Y H->D.nx Y H):
  ∃W:Nat->Nat->L2.St->Hp->Prop,(∃m,W 0 m Y H)/\∀i m Y H,W i m Y H->
   ((Itn K a).stop i H/\D.nx Y H)\/((Itn K a).go i H/\∃N:L2.St->Hp->Prop,(∀T X,N T X ->∃Q,Q<m/\W (i+1) Q T X)/\∀x X,(Itn K a).S3 i H x X ->g x Y X λU S=>R {D with nx:=N,ct:=N,bk:=D.nx} U S):=by
 show(λi m Y H=>m=xs.length-i/\i<=xs.length/\Z i Y H,(xs.length,by simp,P1 _,A),?_);rintro i m Y H ⟨rfl,C,p⟩;let q:=E i Y H C p;by_cases I:i<xs.length
 ·let e:xs[i]?=some xs[i]:=gE I
  show .inr ((xs,_,q,e),Z (i+1),λT X z=>(xs.length-(i+1),cr,O,cr,z),λx X y=>?_);let(L,M,P,rfl,J,rfl):=y;show G i M Y H L (P xs q) p J
 ·let e:i=xs.length:=cr
  subst e;show .inl #[(xs,q,DX _),B Y H p]
def mE {g:TG}{R:TS}{D:Ends}(Z:Nat->L2.St->Hp->Prop)(A:Z 0 Y H)(E:∀i Y H,i<=AV.length->Z i Y H->H d=some (.iL o (.dK AV)))
  (G:∀i k x Y H p,AV[i]?=some (k,x)->Z i Y H->H p=none->g (.ref p) Y (upd H p (.tup [kV k,x])) λU S=>R {D with nx:=Z (i+1),ct:=Z (i+1),bk:=D.nx} U S) (B:∀Y H,Z AV.length Y H->D.nx Y H):
  ∃W:Nat->Nat->L2.St->Hp->Prop,(∃m,W 0 m Y H)/\∀i m Y H,W i m Y H->
   ((Itd d o AV).stop i H/\D.nx Y H)\/((Itd d o AV).go i H/\∃N:L2.St->Hp->Prop,(∀T X,N T X ->∃Q,Q<m/\W (i+1) Q T X)/\∀x X,(Itd d o AV).S3 i H x X ->g x Y X λU S=>R {D with nx:=N,ct:=N,bk:=D.nx} U S):=by
 show(λi m Y H=>m=AV.length-i/\i<=AV.length/\Z i Y H,(AV.length,by simp,P1 _,A),?_);rintro i m Y H ⟨rfl,C,p⟩;let q:=E i Y H C p;by_cases I:i<AV.length
 ·show .inr (#[q,I],Z (i+1),λT X z=>(AV.length-(i+1),cr,O,cr,z),λx X y=>?_)
  let(L,k,M,P,rfl,J,rfl):=y;show G i k M Y H L P p J
 ·let e:i=AV.length:=cr
  subst e;show .inl #[#[q,DX _],B Y H p]
open Builtin.Int (intBits)
section
variable {X:Cx}
def U1 (i j:Int):Prop:=intBits i+intBits j<=134217728
def jn:mZ X (UM .Mult) (rI U1 λi j=>.int (i*j)):=
 opI λ_ _ _ _ _ _ _ Z q=>mul_int q (IntMulOk.of_le (DX _) (DX _) Z)
def iF (Y:a.natAbs<=2^m)(Z:b.natAbs<=2^n)(h:m+n<=134000000):U1 a b:=by
 let T:=iu Y (Qg m);let U:=iu Z (Qg n);unfold U1;omega
end
def ar.gx {K:Frag}(e:ar H H')(h:bQ K H a xs):bQ K H' a xs:=by
 rcases h with (h|⟨o,h⟩)|h
 ·show .inl (.inl (e _ _ h))
 ·show .inl (.inr #[o,e _ _ h])
 ·show .inr h
section
variable {D:AZ}{te:TE}{mw:L2.St}{H1:Hp}{Q:VK}
def zI {K:Frag}(Rel:Nat->V->Hp->Prop)(I:H1 D=none)(hn:xs.length<HZ)(hl:ys.length=xs.length)(P:∀H,ar H1 H->bh K H a xs)(S:∀H,ar H1 H->bh K H b ys)
  (N:∀i v H H' ys,H D=some (.lst ys)->aX D H H' ->Rel i v H->Rel i v H')
  (k:∀i x y H (R:VK),xs[i]?=some x->ys[i]?=some y->ar H1 H->(∃ys,H D=some (.lst ys))->(∀v X,ar H X->Rel i v X->R v X)->te (some x::some y::mw) H R)
  (g:∀zs H,zs.length=xs.length->(∀i v,zs[i]?=some v->Rel i v H)->ar H1 H->H D=some (.lst zs)->Q (.ref D) H):
  vP D (Ud K 2 (HH (dZ 0) (HH (dZ 1) acd))) oX te (Itz K a b) (none::none::mw) H1 Q:=by
 show(λi m Y zs H=>m=xs.length-i/\i<=xs.length/\(∃o J,Y=o::J::mw)/\(zs.length=i/\(∀i v,zs[i]?=some v->Rel i v H)/\ar H1 H)/\H D=some (.lst zs),(xs.length,by simp,P1 _,(none,none,O),(O,λi v e=>by simp at e,λb o e=>by rwa [ag (aj e I)]),af),?_);rintro i m Y zs H ⟨rfl,hi,⟨o,J,rfl⟩,⟨l,r,s⟩,U⟩;by_cases w:i<xs.length
 ·let L:xs[i]?=some xs[i]:=gE w
  let M:ys[i]?=some (ys[i]'cr):=gE cr;show .inr #[(xs,ys,_,_,P H s,S H s,L,M),λv H' y=>?_];let(p,x,y,B,C,rfl,A,rfl):=y;let L:=B xs (P H s);let M:=C ys (S H s);let Z:ar H (upd H p (.tup [x,y])):=λb o e=>by rwa [ag (aj e A)]
  show(p,_,O,bQ.of af,O,_,_,O,_,_,O,O,?_);unfold oX;dsimp only;rw [jY rfl];show k i x y _ _ L M (λb o e=>Z _ _ (s _ _ e)) #[zs,Z _ _ U] λv X T G=>(T _ _ (Z _ _ U),cr,xs.length-(i+1),cr,O,cr,(_,_,O),(by simp [l],λj u e=>?_,λb o e=>?_),af)
  ·by_cases c:j<zs.length
   ·rw [MF c] at e
    let E:=N j u H X zs U (aX.of λb o q=>T _ _ (Z _ _ q)) (r j u e);show N j u X _ zs (T _ _ (Z _ _ U)) aX.upd E
   ·rw [Mg cr] at e
    let f:j=i:=by
     by_cases z:j-zs.length=0
     ·omega
     ·rw [JM (by simp;omega)] at e
      cases e
    subst f
    have:v=u:=by
     rw [show j-zs.length=0 by omega] at e;show QI e
    subst this;show N j v X _ zs (T _ _ (Z _ _ U)) aX.upd G
  ·rw [ag (aj e I)]
   show T _ _ (Z _ _ (s _ _ e))
 ·let e:i=xs.length:=cr
  subst e;show .inl #[(xs,ys,P H s,S H s,.inl (DX _)),g zs H l r s U]
end
def m6 (K:Frag)(H:Hp)(v:V)(q:Int×Int):Prop:=∃p,v=.ref p/\bQ K H p [.int q.1,.int q.2]
def m6.gO {K:Frag}(h:m6 K H v q)(s:ar H H'):m6 K H' v q:=by
 let(p,e,k):=h;show(p,e,Ty.ar.gx s k)
def bT (K:Frag)(H:Hp)(us:γ)(qs:ε):Prop:=us.length=qs.length/\∀(i:Nat)(u:V)(q:Int×Int),us[i]?=some u->qs[i]?=some q->m6 K H u q
theorem bT.gO {K:Frag}(h:bT K H us qs)(s:ar H H'):bT K H' us qs:=#[h.1,λi u q Y Z=>(h.2 i u q Y Z).gO s]
def bT.at {K:Frag}(h:bT K H us qs){i:Nat}(e:us[i]?=some u):∃q,qs[i]?=some q/\m6 K H u q:=by
 let X:i<us.length:=(be.mp e).1;let Y:=h.1;let Z:qs[i]?=some (qs[i]'cr):=gE cr;show(_,Z,h.2 i u _ e Z)
theorem bT.set {K:Frag}(h:bT K H us qs)(n:m6 K H v q):bT K H (us.set j v) (qs.set j q):=by
 show#[by simp [h.1],λi u U Z Y=>?_];rw [Qs] at Z Y;by_cases c:j=i
 ·subst c
  rw [jY rfl] at Z Y;let l:=h.1;by_cases X:j<us.length
  ·rw [jY X] at Z
   rw [jY cr] at Y;cases Z;cases Y;show n
  ·rw [iO X] at Z
   cases Z
 ·rw [iO c] at Z Y
  show h.2 i u U Z Y
def ac1 (K:Frag)(H:Hp)(a:AZ)(qs:ε):Prop:=∃Z,bh K H a Z/\bT K H Z qs
def sumTo:Nat->(Nat->Rat)->Rat
 | 0,_=>0
 | n+1,f=>f 0+sumTo n (λi=>f (i+1))
theorem sumTo_add:∀(n:Nat)(f g:Nat->Rat),sumTo n (λi=>f i+g i)=sumTo n f+sumTo n g
 | 0,_,_=>by simp [sumTo];grind
 | n+1,f,g=>by
  simp only [sumTo];rw [sumTo_add n (λi=>f (i+1)) (λi=>g (i+1))];grind
theorem sumTo_mul (c:Rat):∀(n:Nat)(f:Nat->Rat),sumTo n (λi=>c*f i)=c*sumTo n f
 | 0,_=>by simp [sumTo]
 | n+1,f=>by
  simp only [sumTo];rw [sumTo_mul c n (λi=>f (i+1))];grind
theorem sumTo_zero:∀(n:Nat)(f:Nat->Rat),(∀i,f i=0)->sumTo n f=0
 | 0,_,_=>rfl
 | n+1,f,h=>by
  simp only [sumTo];rw [h 0,sumTo_zero n (λi=>f (i+1)) (λi=>h (i+1))];grind
theorem iZ:∀(n:Nat)(l:ο)(z:Nat->Rat),l.length<=n->ev l z=sumTo n (λj=>((l.getD j 0:Int):Rat)*z j)
 | n,[],z,_=>by
  rw [sumTo_zero n _ (λi=>by simp)];rfl
 | 0,_::_,_,h=>by simp at h
 | n+1,a::r,z,h=>by
  simp only [ev,sumTo];rw [iZ n r (λi=>z (i+1)) (by simpa using h)];simp
theorem agG (n:Nat)(z:Nat->Rat):∀(y:Μ)(os:ζ),(∀o∈os,o.length<=n)->(∀o∈os,ev o z=0)->sumTo n (λj=>gJ y os j*z j)=0
 | c::y,o::os,X,Y=>by
  let U:=agG n z y os (λx Z=>X x (MV _ Z)) (λx Z=>Y x (MV _ Z));let e:=Y o Mo;rw [iZ n o z (X o Mo)] at e
  let k:(λj=>gJ (c::y) (o::os) j*z j)=λj=>c*(((o.getD j 0:Int):Rat)*z j)+gJ y os j*z j:=by
   funext j;simp only [gJ];grind
  rw [k,sumTo_add,sumTo_mul,e,U];grind
 | [],os,_,_=>sumTo_zero n _ (λj=>by cases os<;>simp [gJ])
 | _::_,[],_,_=>sumTo_zero n _ (λj=>by simp [gJ])
def afa {os:ζ}(h:rB os l)(Y:l.length<=n)(Z:∀o∈os,o.length<=n)(hz:∀o∈os,ev o z=0):ev l z=0:=by
 let(y,_,e):=h;rw [iZ n l z Y,<-agG n z y os Z hz];congr 1;funext j;rw [e j]
theorem zaw:∀{ts:ο} {qs xs:ε} {d:Int×Int} {b:Int},iB ts (qs++[d]) b->xs.length=qs.length->ev ts (tO (xs.map vl))=(jM qs xs-vl d)*b
 | [],qs,xs,d,b,h,_=>by have:=h.1;simp at this
 | t::ts,[],[],d,b,h,_=>by
  let e:=h.2 0 t d rfl rfl;let l:=h.1;have:ts=[]:=by simpa using l
  subst this;simp [ev,tO,jM];rw [e];grind
 | t::ts,q::qs,x::xs,d,b,h,Z=>by
  let e:=h.2 0 t q rfl rfl;let Y:=zaw (ts:=ts) (qs:=qs) (xs:=xs) (d:=d) (b:=b) h.tail (by simpa using Z)
  let X:(λi=>tO ((x::xs).map vl) (i+1))=tO (xs.map vl):=by
   funext i;simp [tO]
  simp only [ev];rw [X,Y,e];let T:tO ((x::xs).map vl) 0=vl x:=by simp [tO]
  let U:jM (q::qs) (x::xs)=vl q*vl x+jM qs xs:=by simp [jM]
  rw [T,U];grind
 | _::_,[],_::_,_,_,_,Z=>by simp at Z
 | _::_,_::_,[],_,_,_,Z=>by simp at Z
def ac2 (e:H d=some o):upd H d o=H:=by
 funext b;by_cases z:b=d
 ·subst z
  rw [af,e]
 ·rw [ag z]
section
variable {X:Cx}
def acD (R:(It->Hp->Prop))(x:V)(Y:Hp):Prop:=∃d Z,x=.ref d/\Rd Y d (.dK Z)/\∀o,R (Itd d o Z) (upd Y d (.iL o (.dK Z)))
def aes (Z:TE):TI:=λY H R=>Z Y H (acD R)
def ab3 {U m:Pos}{es:Α}{k:Nat}{AR:Pos}(ho:PE X e te)(f:Wq e "items" X.env (II e X.env)=II e X.env:=by rfl)(i:(U.endLine==m.line)=true:=by rfl):
  PI X (.Tuple es k AR) (.Call (.Attribute e "items" U) [] [] m) (aes te):=by
 intro D s Y H R I h;show wpAny_Call_method0_late f i (cJ (ho D s Y H _ I h) λv Z ⟨x,j,G,c,q1⟩=>?_);let(d,E,rfl,e,q):=q1;cases c;let(z,hd,S,Q,o,P,N,T,u,y,hk,hp,hn):=m5 G.cg e;let L:Z.heap.DictAt (bO X.prog X.w) d S N:=(o,P,T,u,y,hk,hp,hn);let p:Z.TypeIs (.ref d) "dict":=L.dictOf.typeIs
 let h2:∀a,Value.ref d=.ref a->∃B,Z.heap.get? a=some B/\B.dict=none:=λa z=>by
  cases z;show(o,T,u.2.1)
 let lv:=Q.length;show("dict","dict.items",F.plainAttrs_dict,O5,F.type_dict_items,p,h2,yu rfl (PySem.evalArgs_none ?_));show yo O5 p F.entry_dict_items (F.args_dict_items_1 _) (meets_dict_items (bO X.prog X.w) d hd) #[#[S,L.dictOf],?_]
 let J:Inv X D Y (upd j d (.iL o (.dK E))) Z:=by
  rcases e with e|⟨o',e⟩
  ·show Inv.freeze G e T
  ·let g:=(G.cg d _ e).1
   erw [T] at g;rwa [ac2 e]
 let M:(Z.heap.push {cls:=.type "dict_items",data:=.fields (List.toArray [.ref d])}).DictAt (bO X.prog X.w) d S N:=L.at' λo e=>LM _ e;change DA (DW X.prog X.w) X.A (pyIter (.ref Z.heap.objs.size)) _ _ _;show wpAny_pyIter_items (s:={Z with heap:=Z.heap.push {cls:=.type "dict_items",data:=.fields (List.toArray [.ref d])}}) (_,QL _ rfl,O,O) M ?_;let C:(Z.heap.push {cls:=.type "dict_items",data:=.fields (List.toArray [.ref d])}).objs.size=Z.heap.objs.size+1:=ZW ..
 let ne:(Z.heap.push {cls:=.type "dict_items",data:=.fields (List.toArray [.ref d])}).objs.size≠d:=by
  rw [C];show IL (P6 (ZN (JN T)))
 let I3:Inv X D Y (upd j d (.iL o (.dK E))) {Z with heap:=(Z.heap.push {cls:=.type "dict_items",data:=.fields (List.toArray [.ref d])}).push {cls:=.type "dict_itemiterator",data:=.fields (List.toArray [.none,.bool false,.ref d,.int 0 0,.int S.length 0,.int N 0,.none,.none])}}:=J.kept (t':=Z.toks) λb o e=>LM _ (LM _ e);show(_,[_],_,_,_,O,I3,vX d _ o E y ne,(_,_,by rw [lv];show QL _ rfl),λb hb=>?_,q o);let eb:b=(Z.heap.push {cls:=.type "dict_items",data:=.fields (List.toArray [.ref d])}).objs.size:=by simpa using hb
 let le:Z.heap.objs.size<=b:=by rw [eb,C];show N3 _
 show J.ye le (J.cg.fresh le)
end
section
variable {X:Cx}
def acY:Qx "sorted"=some (.builtin "sorted"):=by decide+kernel
inductive Oi (Q:VK)(vs:γ)(Z:Hp):Prop
|mk (n:Nat)(_:vs=[.int (n:Int)])(_:n<=1000)(_:∀l,Z l=none->Q (.ref l) (upd Z l (.lst ((LK n).map λ(i:Nat)=>V.int (i:Int)))))
def ac3 (Z:TA):TE:=λY H Q=>Z Y H (Oi Q)
def acX {p T S U:Pos}(g:X.calm=true)(k:Gl X "list")(m:X.mg "list"=none)(P:Gl X "range")(R:X.mg "range"=none)(f:PA X [a] ta)(u:JF [a] X.env=[(false,II a X.env)]:=by rfl)
  (J:JF [.Call (.Name "range" T) [a] [] U] X.env=[(false,II (.Call (.Name "range" T) [a] [] U) X.env)]:=by rfl):PE X (.Call (.Name "list" p) [.Call (.Name "range" T) [a] [] U] [] S) (ac3 ta):=by
 intro C s Y H Q I h;show Call_ (gZ I k m lJ (VJ ?_ J rfl));rw [J];change DA _ _ (spliced ((false,II (.Call (.Name "range" T) [a] [] U) X.env)::[])) _ _ s;show Zg ?_;show Call_ (gZ I P R boot_range (VJ (cJ (f U C s Y H _ I h) λus Z ⟨vs,H1,D,y,x⟩=>?_) u rfl));let(n,e,L,q):=x;subst e;cases y with
 | cons r z=>
  cases z;let(t,rfl):=r;show call_range_1 (pZ ?_);let E:Inv X C Y H1 {Z with heap:=Z.heap.push {cls:=.type "range",data:=.fields (List.toArray [.int 0 Z.toks,.int (n:Int) t,.int 1 (Z.toks+1)])},toks:=Z.toks+1+1}:=D.kept λb o e=>LM _ e;show call_list_range (n:=n) (D.ok.hd g) (IsRange.new ..) (small_one eY eY cr cr) (by rw [rangeSize_one];split<;>omega) (GX L eY) λh' B M c' w c N=>?_;have GJ :=E.cg.fresh (DX (Z.heap.push {cls:=.type "range",data:=.fields (List.toArray [.int 0 Z.toks,.int (n:Int) t,.int 1 (Z.toks+1)])}).objs.size)
  let A:Vals ((LK n).map λ(i:Nat)=>V.int (i:Int)) M.toList:=fm (by have:=N.1;simp;omega) λi a b G e2=>by
   rw [ir] at G;let(j,ej,rfl):=MK.mp G;let(hj,rfl):=be.mp ej;let(t',e4):=N.2 i b (by simpa using e2);rw [amQ];show#[t',by rw [e4];simp]
  let I3:=E.laid (t':=B) (o:=.lst ((LK n).map λ(i:Nat)=>V.int (i:Int))) w (DX _) (by simp;show GX L eY,M.toList,c',A,by simpa using c);show(.ref _,_,I3,O,q _ GJ)
inductive abp (xs:γ)(H:Hp)(Q:VK):Prop
|mk (p:AZ)(AV:η)(_:xs=[.ref p])(_:Rd H p (.dK AV))(_:Q (.int (AV.length:Int)) H)
def zJ:lG X (.builtin "len") abp:=by
 intro N s Y H xs S Q I r h;let(p,P,rfl,U,q):=h;let(u,rfl,Z):=vals1 r;cases Z;show agq I U λt R T=>(.int _,H,T,#[t,O],q)
end
section
variable {X:Cx}
def Inv.agE {Y:L2.St}(I:Inv X AO Y H s)(e:H d=some (.iL o u))(n:∀P Z,X.H₀ d≠some (.iL P Z))(nt:∀xs,u≠.tup xs):Inv X AO Y (upd H d u) s:=by
 let U:∀b Z,H b=some Z ->b≠d->upd H d u b=some Z:=λb u q n=>by rwa [ag n]
 let T:∀b,H b=none->upd H d u b=none:=λb q=>by rw [ag (λz=>by erw [z,e] at q)];show q
 show(I.ok,I.os,I.bare,(I.gN.keep,I.gN.slot,λb S q z N=>T b (I.gN.free b S q z N),I.gN.there,λb xs q=>?_,λb S Z q=>?_,λb Q q=>?_),I.loc,I.cell,T _ I.free,λx c q=>T _ (I.lB x c q),λp M=>?_,?_,I.len)
 ·let z:=I.gN.AK b xs q
  show U b _ z λy=>by erw [y,e] at z
 ·let z:=I.gN.x6 b S Z q
  show U b _ z λy=>by rw [y] at q;show n _ _ q
 ·let(m,z):=I.gN.x9 b Q q
  show#[m,U b _ z λy=>by erw [y,e] at z]
 ·let(G,J,L):=I.pin p M
  show(G,T _ J,L)
 ·let st:∀{b Z},dF X.prog X.w H s.heap b Z ->dF X.prog X.w (upd H d u) s.heap b Z:=λ{b Z} k=>k.vC (λ_ _ _ z=>z) (λc z=>U c _ z λy=>by erw [y,e] at z) λc xs z=>U c _ z λy=>by erw [y,e] at z
  intro b Z q;by_cases R:b=d
  ·subst R
   erw [af] at q;show st (I.cg b _ e).2
  ·rw [ag R] at q
   show st (I.cg b Z q)
def agF (H0:Hp)(t:TS):TS:=λD Y H=>t {D with nx:=λR Z=>∃d o U,Z d=some (.iL o (.dK U))/\(∀S T,H0 d≠some (.iL S T))/\D.nx R (upd Z d (.dK U))} Y H
def vt {st:Stmt}(h:PS X st t):PS X st (agF X.H₀ t):=by
 intro T s Y H D I q;show Qf (h T s Y H _ I q) (λf S z=>?_) λ_ _ z=>z;cases f with
 | next=>
  let(Z,R,U,d,o,Q,e,n,k):=z;show(Z,_,Inv.agE U e n (λ_ z=>nomatch z),k)
 | brk=>show z
 | cont=>show z
 | ret u=>show z
def Itk (d:AZ)(o:Obj)(AV:η):It:=
 (λi H=>H d=some (.iL o (.dK AV))/\i<AV.length,
  λi H v Z=>Z=H/\∃k x,AV[i]?=some (k,x)/\v=kV k,
  λi H=>H d=some (.iL o (.dK AV))/\AV.length<=i)
def akm {K:Frag}(d it:AZ)(o:Obj)(AV:η)(m:o.data=.dict es0 ep):
  Turn P w K tg (Itk d o AV) [it] it (λi h=>h.IsKeyIter it d i AV.length ep) where
 mem:=by simp
 obj:=λi h st b U=>by
  let e:b=it:=by simpa using U
  subst e;let(o,e,c,d):=st;show(o,e,λv z=>by erw [d] at z)
 keep:=λi h R st k=>st.at λo e=>k it fN o e
 item:=by
  intro X L N J j i f s Y H E I S st M;subst L N J;let(G,p):=M;let(hd,a,Z,x,_):=BH I.cg G m;let g:AV[i]?=some AV[i]:=gE p;let((k',u),ev,e1,ru):=aQ Z g;let T:=Z.length;rw [T] at st;let(y,A,f2,B,C,D):=S it fN;show wpAny_pyNext_dict_item st x ev λQ R LL q sb=>?_;let I1:Inv X f Y H {s with heap:=R}:=I.turned (t':=s.toks) (λb o U e=>(sb.2 b U).trans e) y A B C D;rw [<-T] at q;let(o',e',c',d'):=id q;have LV :AV[i].1=k':=e1;show(Q,O,Uh (s:={s with heap:=R}) e' c' d' eY (kV AV[i].1,H,I1,by rw [LV];show BG LL,(O,AV[i].1,AV[i].2,g,O),q,λb U=>(S b U).1))
 done:=by
  intro X L N J j i f s Y H E I S st M;subst L N J;let(G,p):=M;let(hd,a,Z,x,_):=BH I.cg G m;let T:=Z.length;rw [T] at st;let(y,A,f2,B,C,D):=S it fN;show wpAny_pyNext_dict_end (I.ok.hd j) st x (JM cr) λR eb=>#[O,I.turned (t':=s.toks) (λb o U e=>eb b o U e) y A B C D]
 self:=λ_ _ _ _ _ st h=>wpAny_pyIter_keyiter st h
inductive U4 (R:(It->Hp->Prop))(x:V)(Z:Hp):Prop
|mk (d AV:_)(_:x=.ref d)(_:Z d=some (.dK AV))(_:∀o,R (Itk d o AV) (upd Z d (.iL o (.dK AV))))
def agH (Z:TE):TI:=λY H R=>Z Y H (U4 R)
def agA (y:PE X e te):PI X tg e (agH te):=by
 intro G s Y H R I h;show cJ (y G s Y H _ I h) λv Z ⟨x,f,J,E,D⟩=>?_;let(d,P,rfl,e,q):=D;cases E;let(z,m,N,U,o,T,S,L,B,M,p,A,u):=vR J.cg e;let i:Z.heap.DictAt (bO X.prog X.w) d N S:=(o,T,L,B,M,p,A,u);let C:=U.length;let Q:=Inv.freeze J e L;show wpAny_pyIter_dict m i ?_;let g:Inv X G Y (upd f d (.iL o (.dK P))) {Z with heap:=Z.heap.push {cls:=.type "dict_keyiterator",data:=.fields (List.toArray [.ref d,.int 0 0,.int N.length 0,.int S 0])}}:=Q.kept (t':=Z.toks) λb o e=>LM _ e;show(Z.heap.objs.size,[Z.heap.objs.size],_,_,_,O,g,akm d _ o P M,(show Heap.IsKeyIter _ _ d 0 P.length S from (_,QL _ rfl,O,by rw [C];rfl)),λb k=>?_,q o);let j:b=Z.heap.objs.size:=by simpa using k
 let le:Z.heap.objs.size<=b:=by rw [j];show DX _
 show Q.ye le (Q.cg.fresh le)
def zat {g:TG}{Q:TS}{D:Ends}(Z:Nat->L2.St->Hp->Prop)(C:Z 0 Y H)(I:∀i Y H,i<=AV.length->Z i Y H->H d=some (.iL o (.dK AV)))
  (J:∀i k x Y H,AV[i]?=some (k,x)->Z i Y H->g (kV k) Y H λT R=>Q {D with nx:=Z (i+1),ct:=Z (i+1),bk:=D.nx} T R) (E:∀Y H,Z AV.length Y H->D.nx Y H):
  ∃W:Nat->Nat->L2.St->Hp->Prop,(∃m,W 0 m Y H)/\∀i m Y H,W i m Y H->
   ((Itk d o AV).stop i H/\D.nx Y H)\/((Itk d o AV).go i H/\∃N:L2.St->Hp->Prop,(∀S U,N S U ->∃P,P<m/\W (i+1) P S U)/\∀x U,(Itk d o AV).S3 i H x U ->g x Y U λT R=>Q {D with nx:=N,ct:=N,bk:=D.nx} T R):=by
 show(λi m Y H=>m=AV.length-i/\i<=AV.length/\Z i Y H,(AV.length,by simp,P1 _,C),?_);rintro i m Y H ⟨rfl,G,p⟩;let q:=I i Y H G p;by_cases L:i<AV.length
 ·show .inr (#[q,L],Z (i+1),λS U z=>(AV.length-(i+1),cr,O,cr,z),λx U y=>?_)
  let(rfl,k,M,B,rfl):=y;show J i k M Y _ B p
 ·let e:i=AV.length:=cr
  subst e;show .inl #[#[q,DX _],E Y H p]
end
structure ac4 (K:Frag)(x qual:Str)(st:Stmt)(f:AZ)(fd:FuncData):Prop where
 ex:∃(dV oc:Value)(od:Ζ)(kV doc pm:Value)(an:Ζ)(cu ct:Value)(vH:Ι),
  fd=fnOf x qual (aq st) (ao st) (ae st) dV kV doc pm an cu ct/\K.lookup f=some (oc,od,.func fd,vH)/\codeIn K cu qual=true
 kp:keepIn K (.ref f)=true
section
variable {P:LS}{w:World}{K:Frag}{mg:ι}{gN:Heap}{CX:oI}
def ae2 {st:Stmt}{R T:Ζ}{S:Ι}{kV Z X Y U:Value}(l:K.lookup f=some (oc,R,.func (fnOf x qual (aq st) (ao st) (ae st) dV kV Z X T Y U),S))
  (c:codeIn K Y qual=true) (k:keepIn K (.ref f)=true):ac4 K x qual st f (fnOf x qual (aq st) (ao st) (ae st) dV kV Z X T Y U):=#[(dV,oc,R,kV,Z,X,T,Y,U,S,O,l,c),k]
def afx {st:Stmt}(F:nO K name qual st f fd)(S:aw N ps (ae st))(Y:∀vs H Q E,sp vs H Q E->vs.length=ps.length)
  (M:∀(Z:Value)(A:Mf)(X:List Env)(s:G_)(H:Hp)(vs:γ)(Q:VK)(E:XK),cp k (A.deeper (Qv qual (ae st) s.heap.objs.size f Z))->sp vs H Q E->
   ∃t,qv (qC P w K mg gN N qual (ae st) f Z A X s H E).ve (ao st) t/\t {nx:=λ_ J=>Q .cK J,rt:=Q} (start N vs) H):cO P w K mg gN (aU P w) (k+1) f fd ps sp:=by
 let(C,D,kV,L,G,z,Z,B,I,rfl,lk,T):=F.ex
 show zo lk T S Y λA X s H vs Q E R U=>by
  let(t,h,q):=M Z A X s H vs Q E R U;show(t,h.ve,q)
def zaj {st:Stmt}(F:ac4 K name qual st f fd)(S:aw N ps (ae st))(Y:∀vs H Q E,sp vs H Q E->vs.length=ps.length)
  (M:∀(Z:Value)(A:Mf)(X:List Env)(s:G_)(H:Hp)(vs:γ)(Q:VK)(E:XK),cp k (A.deeper (Qv qual (ae st) s.heap.objs.size f Z))->sp vs H Q E->
   ∃t,qv (qC P w K mg gN N qual (ae st) f Z A X s H E).ve (ao st) t/\t {nx:=λ_ J=>Q .cK J,rt:=Q} (start N vs) H):cO P w K mg gN (aU P w) (k+1) f fd ps sp:=by
 let(B,C,D,kV,L,G,y,Z,z,I,rfl,lk,T):=F.ex
 show zo lk T S Y λA X s H vs Q E R U=>by
  let(t,h,q):=M Z A X s H vs Q E R U;show(t,h.ve,q)
end
structure Mb (P:LS)(w:World)(K:Frag)(mg:ι)(gN:Heap)(CX:oI)(k:Nat)(C:AZ)(m:Str)(ps:τ)(ds:ρ)(sp:Sp):Prop where
 ex:∃(f:AZ)(fd:FuncData),y_ K C/\Meth K C m f/\cO P w K mg gN CX k f fd ps sp/\Binds K fd ps ds
section
variable {X:Cx}{CX:oI}{k:Nat}{E:XK}{m:Str}{pos apos:Pos}{e o:Expr}{es:Α}{ta:TE}{t:TA}
inductive U6 (P:LS)(w:World)(K:Frag)(mg:ι)(gN:Heap)(CX:oI)(k:Nat)(m:Str)(E:XK)(t:TA)(Y:L2.St)(Q:VK)(x:V)(T:Hp):Prop
|mk (a C S U ps Z:_)(_:x=.ref a)(_:T a=some (.ins C S U))(_:U.lookup m=none)(_:Mb P w K mg gN CX k C m ps [.none] Z)(_:t Y T λvs R=>Z (x::vs++[.cK]) R Q E)
def agI (P:LS)(w:World)(K:Frag)(mg:ι)(gN:Heap)(CX:oI)(k:Nat)(m:Str)(E:XK)(ta:TE)(t:TA):TE:=λY H Q=>ta Y H (U6 P w K mg gN CX k m E t Y Q)
def zaU {pl:Sem Bool}(z:PE X o ta)(B:cp k X.A)(G:Passes CX X E)(p:PA X (e::es) t)
  (g:JF (e::es) X.env=(false,II e X.env)::JF es X.env:=by rfl) (P:(QG pos (JF es X.env)).any (·.1)=false:=by rfl)
  (D:II (.Call (.Attribute o m apos) (e::es) [] pos) X.env=(do
   let Z <- II o X.env
   standAt apos.atName
   let (f,first) <- Wf [Z] (getMethod Z m pl)
   callWith pos f first (QG pos (JF (e::es) X.env)) (backToKw pos (ZU [] X.env))):=by rfl):
  PE X (.Call (.Attribute o m apos) (e::es) [] pos) (agI X.prog X.w X.K X.mg X.gN CX k m E ta t):=by
 intro R s Y H Q I h;show PySem.W.methodCall_KW (pl:=pl) (cJ (z R s Y H _ I h) λu N ⟨x,b,S,L,a,C,dx,fs,ps,sp,j,i,l,M,q⟩=>?_) D;subst j;obtain rfl:u=Value.ref a:=L;let(f,fd,c,U,F,y):=M.ex;show nM S i c U l ?_;show N4 (first:=[.ref a]) (h₀:=X.gN) I.ok.mod.kin U.kp (cJ (p pos R N Y b _ S q) λus s2 ⟨vs,H2,T,r,J⟩=>#[T.yb,?_]) g P;show AS (us:=.ref a::us) (vs:=.ref a::vs) (qu:=[.cK]) F B y (.cons rfl .nil) G T (.cons rfl r) J
end
theorem c_ {κ:Type}[DecidableEq κ]{k:κ}:∀{AV:List (κ×V)},k∉AV.map (·.1)->ff AV k=none
 | [],_=>rfl
 | p::r,h=>by
  rw [M3,P4,not_or] at h;rw [dy (λe=>h.1 e.symm)];show c_ h.2
theorem rC {κ:Type}[DecidableEq κ]{k:κ}:∀{AV:List (κ×V)},k∈AV.map (·.1)->∃v,ff AV k=some v
 | p::r,h=>by
  by_cases e:p.1=k
  ·show#[_,fU e]
  ·rw [dy e]
   rw [M3,P4] at h
   rcases h with h|h
   ·show DB h.symm e
   ·show rC h
structure U7 (K:Frag)(C:AZ):Prop where
 cls:y_ K C
 pl:e_ K C "pin_places"
 wy:e_ K C "pin_ways"
 br:e_ K C "bar_ends"
abbrev frF (Y Z pB:AZ):List (Str×V):=[("pin_places",.ref Y),("pin_ways",.ref Z),("bar_ends",.ref pB)]
abbrev Pt:=(Int×Int)×(Int×Int)
abbrev _root_.Κ:=List (Str×Pt)
abbrev gU (p:Pt):List Da:=[.t [.v (.int p.1.1),.v (.int p.1.2)],.t [.v (.int p.2.1),.v (.int p.2.2)]]
def bw (H H':Hp):Prop:=∀b xs,Rd H b (.tup xs)->Rd H' b (.tup xs)
def bw.of (s:ar H H'):bw H H':=λb xs e=>by
 rcases e with e|⟨o,e⟩
 ·show .inl (s _ _ e)
 ·show .inr #[o,s _ _ e]
def bw.trans (a:bw H H1)(b:bw H1 H2):bw H H2:=λc xs e=>b c xs (a c xs e)
def bw.dict (e:H d=some (.dK AV)):bw H (upd H d o):=λb xs r=>by
 rcases r with r|⟨o,r⟩
 ·show .inl (by rw [ag (λz=>by erw [z,e] at r)];show r)
 ·show .inr #[o,by rw [ag (λz=>by erw [z,e] at r)];show r]
def bw.list (e:H d=some (.lst xs)):bw H (upd H d o):=λb xs r=>by
 rcases r with r|⟨o,r⟩
 ·show .inl (by rw [ag (λz=>by erw [z,e] at r)];show r)
 ·show .inr #[o,by rw [ag (λz=>by erw [z,e] at r)];show r]
def bw.gx {K:Frag}(s:bw H H')(q:bQ K H p xs):bQ K H' p xs:=by
 rcases q with q|q
 ·show .inl (s _ _ q)
 ·show .inr q
def m6.aY {K:Frag}(h:m6 K H v q)(s:bw H H'):m6 K H' v q:=by
 let(p,e,k):=h;show(p,e,s.gx k)
def Spot (K:Frag)(H:Hp)(v:V)(p:Pt):Prop:=∃a Y Z,v=.ref a/\bQ K H a [Y,Z]/\m6 K H Y p.1/\m6 K H Z p.2
theorem Spot.aY {K:Frag}(h:Spot K H v p)(s:bw H H'):Spot K H' v p:=by
 let(a,Y,Z,e,T,U,X):=h;show(a,Y,Z,e,s.gx T,U.aY s,X.aY s)
def afr {K:Frag}(h:m6 K H v q):Is K H (.t [.v (.int q.1),.v (.int q.2)]) v:=by
 let(p,rfl,e):=h;unfold Is;show(p,_,O,e,?_);unfold oJ;show#[by unfold Is;show#[O,O],?_];unfold oJ;show#[by unfold Is;show#[O,O],?_];unfold oJ;trivial
def Spot.is {K:Frag}(h:Spot K H v p):Is K H (.t (gU p)) v:=by
 let(a,T,U,rfl,X,Y,Z):=h;unfold Is;show(a,_,O,X,?_);unfold oJ;show#[afr Y,?_];unfold oJ;show#[afr Z,?_];unfold oJ;trivial
def zas (p q:Pt):iX (gU p) (gU q)=decide (p=q):=by
 let e:iX (gU p) (gU q)=((p.1.1==q.1.1 && (p.1.2==q.1.2 && true)) && ((p.2.1==q.2.1 && (p.2.2==q.2.2 && true)) && true)):=by
  simp only [gU,iX,oV,AW]
 rw [e];let((a,b),c,d):=p;let((R,S),T,U):=q;by_cases h:a=R <;> by_cases X:b=S <;> by_cases Y:c=T <;> by_cases Z:d=U <;> simp [h,X,Y,Z,Prod.mk.injEq]
def tQ (p q:Pt):jC (gU p) (gU q)=true:=by simp [gU,jC,alike]
def zK (p:Pt):A_ (gU p)<=60:=by simp [gU,A_,dep]
structure jf (K:Frag)(H:Hp)(C a dx pP pW pB:AZ)(ps:Κ)(bs:Ε)(kP kW kB:η):Prop where
 obj:H a=some (.ins C dx (frF pP pW pB))
 pl:H pP=some (.dK kP)
 wy:H pW=some (.dK kW)
 br:H pB=some (.dK kB)
 ne1:pP≠pW
 ne2:pP≠pB
 ne3:pW≠pB
 rp:Paired (λ(p:Str×Pt) (kv:Key×V)=>kv.1=.inr p.1/\Spot K H kv.2 p.2) ps kP
 rb:Paired (λ(b:Str×Str×Str) (kv:Key×V)=>kv.1=.inr b.1/\∃p,kv.2=.ref p/\Rd H p (.tup [.str b.2.1,.str b.2.2])) bs kB
section
variable {K:Frag}{H H':Hp}{C a dx pP pW pB:AZ}{ps:Κ}{bs:Ε}{kP kW kB:η}
theorem jo {R:(Str×Z)->(Key×V)->Prop}:∀{l:List (Str×Z)} {AV:η},Paired (λb Y=>Y.1=.inr b.1/\R b Y) l AV->AV.map (·.1)=l.map (λb=>(Qw b.1:Key))
 | _,_,.nil=>rfl
 | _,_,.cons h t=>by rw [M3,M3,h.1,jo t]
def jq {l:τ}:(Qw x:Key)∈l.map (λb=>(Qw b:Key)) ↔ x∈l:=by
 constructor
 ·intro h
  let(y,Z,e):=GV.mp h;show Wz e▸Z
 ·show λh=>GV.mpr (x,h,O)
def jf.IU (R:jf K H C a dx pP pW pB ps bs kP kW kB)(s:bw H H')(U:H' a=H a)(X:H' pP=H pP)(Y:H' pW=H pW)(Z:H' pB=H pB):jf K H' C a dx pP pW pB ps bs kP kW kB:=
 (U.trans R.obj,X.trans R.pl,Y.trans R.wy,Z.trans R.br,R.ne1,R.ne2,R.ne3,Paired.cF R.rp λ_ _ h=>#[h.1,h.2.aY s],Paired.cF R.rb λ_ _ h=>#[h.1,by let(p,e,k):=h.2;show(p,e,s _ _ k)])
def jf.gO (R:jf K H C a dx pP pW pB ps bs kP kW kB)(s:ar H H'):jf K H' C a dx pP pW pB ps bs kP kW kB:=
 R.IU (.of s) ((s _ _ R.obj).trans R.obj.symm) ((s _ _ R.pl).trans R.pl.symm) ((s _ _ R.wy).trans R.wy.symm) ((s _ _ R.br).trans R.br.symm)
def jf.Oo (R:jf K H C a dx pP pW pB ps bs kP kW kB):kB.map (·.1)=(bs.map (·.1)).map (λb=>(Qw b:Key)):=by
 rw [jo R.rb,P2];rfl
def jf.Oq (R:jf K H C a dx pP pW pB ps bs kP kW kB):kP.map (·.1)=(ps.map (·.1)).map (λb=>(Qw b:Key)):=by
 rw [jo R.rp,P2];rfl
def jf.bar (R:jf K H C a dx pP pW pB ps bs kP kW kB)(x:Str):(ff kB (.inr x)).isSome=decide (x∈bs.map (·.1)):=by
 by_cases h:x∈bs.map (·.1)
 ·let(v,e):=rC (AV:=kB) (k:=.inr x) (by rw [R.Oo];show jq.mpr h)
  rw [e,P9 h];rfl
 ·rw [c_ (by rw [R.Oo];show λz=>h (jq.mp z)),RI h]
  rfl
def jf.pin (R:jf K H C a dx pP pW pB ps bs kP kW kB)(x:Str):(ff kP (.inr x)).isSome=decide (x∈ps.map (·.1)):=by
 by_cases h:x∈ps.map (·.1)
 ·let(v,e):=rC (AV:=kP) (k:=.inr x) (by rw [R.Oq];show jq.mpr h)
  rw [e,P9 h];rfl
 ·rw [c_ (by rw [R.Oq];show λz=>h (jq.mp z)),RI h]
  rfl
def jf.ab (R:jf K H C a dx pP pW pB ps bs kP kW kB):a≠pP/\a≠pW/\a≠pB:=
 (λz=>(by have h:=R.obj;erw [z,R.pl] at h),λz=>(by have h:=R.obj;erw [z,R.wy] at h),λz=>(by have h:=R.obj;erw [z,R.br] at h))
def jf.ac5 (R:jf K H C a dx pP pW pB ps bs kP kW kB)(Z:Rd H t (.tup [.str one,.str kG])):
  jf K (upd H pB (.dK (kB++[(.inr x,.ref t)]))) C a dx pP pW pB ps (bs++[(x,(one,kG))]) kP kW (kB++[(.inr x,.ref t)]):=by
 let s:bw H (upd H pB (.dK (kB++[(.inr x,.ref t)]))):=.dict R.br
 show(by rw [ag R.ab.2.2];show R.obj,by rw [ag R.ne2];show R.pl,by rw [ag R.ne3];show R.wy,af,R.ne1,R.ne2,R.ne3,Paired.cF R.rp λ_ _ h=>#[h.1,h.2.aY s],
  rS (Paired.cF R.rb λ_ _ h=>#[h.1,by let(p,e,k):=h.2;show(p,e,s _ _ k)]) (O,t,O,s _ _ Z))
theorem d3 :∀{l:List Z} {m:List β},Paired R l m->Paired (λb a=>R a b) m l
 | _,_,.nil=>.nil
 | _,_,.cons h t=>.cons h (d3 t)
def jf.ac6 (R:jf K H C a dx pP pW pB ps bs kP kW kB)(Z:Spot K H (.ref t) p):
  jf K (upd H pP (.dK (kP++[(.inr x,.ref t)]))) C a dx pP pW pB (ps++[(x,p)]) bs (kP++[(.inr x,.ref t)]) kW kB:=by
 let s:bw H (upd H pP (.dK (kP++[(.inr x,.ref t)]))):=.dict R.pl
 show(by rw [ag R.ab.1];show R.obj,af,by rw [ag (IL R.ne1)];show R.wy,by rw [ag (IL R.ne2)];show R.br,R.ne1,R.ne2,R.ne3,
  rS (Paired.cF R.rp λ_ _ h=>#[h.1,h.2.aY s]) #[O,Z.aY s],Paired.cF R.rb λ_ _ h=>#[h.1,by let(p,e,k):=h.2;show(p,e,s _ _ k)])
def jf.Ot (R:jf K H C a dx pP pW pB ps bs kP kW kB)(Z :η):jf K (upd H pW (.dK Z)) C a dx pP pW pB ps bs kP Z kB:=by
 let s:bw H (upd H pW (.dK Z)):=.dict R.wy
 show(by rw [ag R.ab.2.1];show R.obj,by rw [ag R.ne1];show R.pl,af,by rw [ag (IL R.ne3)];show R.br,R.ne1,R.ne2,R.ne3,
  Paired.cF R.rp λ_ _ h=>#[h.1,h.2.aY s],Paired.cF R.rb λ_ _ h=>#[h.1,by let(p,e,k):=h.2;show(p,e,s _ _ k)])
def zM (xs:τ):(xs.map V.str).all lH=true:=by
 rw [List.all_map,anc];show λ_ _=>O
theorem v9 :∀(xs:τ),inV (.str x) (xs.map V.str)=decide (x∈xs)
 | []=>rfl
 | y::ys=>by
  let Z:=v9 (x:=x) ys;unfold inV at Z ⊢;rw [M3,sG,Z];by_cases e:y=x
  ·subst e
   simp [AW]
  ·let Y:¬ x=y:=λz=>e z.symm
   simp [AW,e,Y]
end
open Builtin.Int (intBits)
def qr (r:Rat):Int×Int:=(r.num,(r.den:Int))
def cY (r:Rat):0<(qr r).2:=by
 have:=r.den_pos;change (0:Int)<(r.den:Int);omega
def lR (r:Rat):Nl (qr r).1 (qr r).2=1:=by
 have:=r.reduced;change Nl r.num (r.den:Int)=1;unfold Nl;simpa [Nat.Coprime] using this
def eh (r:Rat):vl (qr r)=r:=by
 change (r.num:Rat) / ((r.den:Int):Rat)=r;rw [<-amZ];show amR r
def zN (h:0<q.2)(g:Nl q.1 q.2=1):q=qr (vl q):=acP h (cY _) g (lR _) (eh _).symm
def d9 (h:b≠0):low t b=qr ((t:Rat) / (b:Rat)):=by
 rw [<-iY h];show zN (mC h) (oU h)
def n_ (h:qr a=qr b):a=b:=by
 rw [<-eh a,<-eh b,h]
def v_ (i:Int):qr (i:Rat)=(i,1):=by
 let e:(i,(1:Int))=qr (vl (i,1)):=zN (by change (0:Int)<1;decide) (by change Nl i 1=1;simp)
 let v:vl (i,(1:Int))=(i:Rat):=by
  unfold vl;change (i:Rat) / ((1:Int):Rat)=i;have:((1:Int):Rat)=1:=by rfl
  rw [this];grind
 rw [e,v]
def rD (r:Rat):qr (-r)=(-(qr r).1,(qr r).2):=by
 let e:((-(qr r).1,(qr r).2):Int×Int)=qr (vl (-(qr r).1,(qr r).2)):=zN (cY r) (by
  have:=lR r;change Nl (-(qr r).1) (qr r).2=1;rw [Int.neg_gcd]
  show this)
 let v:vl (-(qr r).1,(qr r).2)= -r:=by
  let h:=eh r;unfold vl at h ⊢;push_cast;rw [<-h];grind
 rw [e,v]
def IW :((qr r).2:Rat)≠0:=c7 (QD (cY r))
def ac7 (a b:Rat):low ((qr a).1*(qr b).2+(qr b).1*(qr a).2) ((qr a).2*(qr b).2)=qr (a+b):=by
 let Y:=cY a;let Z:=cY b;rw [d9 (QD (RL Y Z))];let U:=eh a;let X:=eh b;let S:=IW (r:=a);let T:=IW (r:=b);unfold vl at U X;congr 1;push_cast;grind
def BI (a b:Rat):low ((qr a).1*(qr b).2-(qr b).1*(qr a).2) ((qr a).2*(qr b).2)=qr (a-b):=by
 let Y:=cY a;let Z:=cY b;rw [d9 (QD (RL Y Z))];let U:=eh a;let X:=eh b;let S:=IW (r:=a);let T:=IW (r:=b);unfold vl at U X;congr 1;push_cast;grind
def ac8 (a b:Rat):low ((qr a).1*(qr b).1) ((qr a).2*(qr b).2)=qr (a*b):=by
 let Y:=cY a;let Z:=cY b;rw [d9 (QD (RL Y Z))];let U:=eh a;let X:=eh b;let S:=IW (r:=a);let T:=IW (r:=b);unfold vl at U X;congr 1;push_cast;grind
structure Sz (k:Nat)(r:Rat):Prop where
 top:intBits (qr r).1<=k
 bot:intBits (qr r).2<=k
def Sz.up (h:Sz k r)(Z:k<=l):Sz l r:=#[GX h.top Z,GX h.bot Z]
def aj9 (Y:intBits a<=k)(Z:intBits b<=k):intBits (a+b)<=k+1:=by
 rw [intBits_le_iff] at Y Z ⊢;have:=yy a b;rw [Ve];omega
def afm (Y:intBits a<=k)(Z:intBits b<=k):intBits (a-b)<=k+1:=by
 rw [intBits_le_iff] at Y Z ⊢;have:=ajb a b;rw [Ve];omega
def rE (Z:b≠0)(X:intBits t<=k)(Y:intBits b<=k):Sz k ((t:Rat) / (b:Rat)):=by
 rw [<-iY Z];let e:=zN (mC (t:=t) Z) (oU Z);show#[by rw [<-e];show intBits_le_of_natAbs (iV Z) X,by rw [<-e];show intBits_le_of_natAbs (iW Z) Y]
def IX (Z:b≠0)(e:low t b=qr r)(X:intBits t<=k)(Y:intBits b<=k):Sz k r:=by
 let z:=d9 (t:=t) Z;rw [z] at e;have:=n_ e;rw [<-this];show rE Z X Y
def Sz.add (Y:Sz k a)(Z:Sz l b):Sz (k+l+1) (a+b):=
 IX (QD (RL (cY a) (cY b))) (ac7 a b) (aj9 (Ws Y.top Z.bot) (by rw [yw];show Ws Z.top Y.bot)) (am0 (Ws Y.bot Z.bot))
def Sz.sub (Y:Sz k a)(Z:Sz l b):Sz (k+l+1) (a-b):=
 IX (QD (RL (cY a) (cY b))) (BI a b) (afm (Ws Y.top Z.bot) (by rw [yw];show Ws Z.top Y.bot)) (am0 (Ws Y.bot Z.bot))
def Sz.mul (Y:Sz k a)(Z:Sz l b):Sz (k+l) (a*b):=
 IX (QD (RL (cY a) (cY b))) (ac8 a b) (Ws Y.top Z.top) (Ws Y.bot Z.bot)
def Sz.neg (Z:Sz k a):Sz k (-a):=by
 show#[?_,?_]
 ·rw [rD]
  have:=Z.top;rw [intBits_le_iff] at this ⊢;change (-(qr a).1).natAbs<2^k;rw [Uk];show this
 ·rw [rD]
  show Z.bot
def Mc {i:Int}(h:i.natAbs<2^k)(Z:1<=k):Sz k (i:Rat):=by
 show#[?_,?_]
 ·rw [v_]
  show intBits_le_iff.mpr h
 ·rw [v_]
  show intBits_le_iff.mpr ?_;change 1<2^k;show Nat.one_lt_two_pow cr
def ie (K:Frag)(H:Hp)(v:V)(r:Rat):Prop:=m6 K H v (qr r)
def gP (K:Frag)(H:Hp)(v:V)(p:Rat×Rat):Prop:=∃a Y Z,v=.ref a/\bQ K H a [Y,Z]/\ie K H Y p.1/\ie K H Z p.2
section
variable {K:Frag}{H H':Hp}{v:V}{r:Rat}{p:Rat×Rat}
theorem ie.aY (h:ie K H v r)(s:bw H H'):ie K H' v r:=m6.aY h s
theorem ie.gO (h:ie K H v r)(s:ar H H'):ie K H' v r:=m6.gO h s
theorem gP.aY (h:gP K H v p)(s:bw H H'):gP K H' v p:=by
 let(a,Y,Z,e,T,U,X):=h;show(a,Y,Z,e,s.gx T,U.aY s,X.aY s)
def gP.gO (h:gP K H v p)(s:ar H H'):gP K H' v p:=h.aY (.of s)
abbrev IY (p:Rat×Rat):Pt:=(qr p.1,qr p.2)
def gP.agJ (h:gP K H v p):Spot K H v (IY p):=h
def mT (K:Frag)(H:Hp)(us:γ)(ps:Β):Prop:=Paired (gP K H) us ps
theorem mT.aY (h:mT K H us ps)(s:bw H H'):mT K H' us ps:=Paired.cF h λ_ _ z=>z.aY s
def mT.gO (h:mT K H us ps)(s:ar H H'):mT K H' us ps:=h.aY (.of s)
end
section
variable {X:Cx}
def aeI {Y:L2.St}(I:Inv X AO Y H s)(L:gP X.K H v p)(M:gP X.K H v q):p=q:=by
 let(a,D,E,rfl,S,(z,rfl,Q),A,rfl,R):=L;let(y,G,J,e,T,(B,rfl,N),C,rfl,P):=M;cases e;cases I.mB S T;let U:=I.mB Q N;let Z:=I.mB R P;simp only [List.cons.injEq,V.int.injEq,and_true] at U Z;show Zx (n_ (Zx U.1 U.2)) (n_ (Zx Z.1 Z.2))
def agK (K:Frag)(neg:Bool):R2:=λx y H Q=>∃p l Y Z,y=.ref l/\bh K H l Y/\gP K H x p/\mT K H Y Z/\Q (.bl (if neg then !decide (p∈Z) else decide (p∈Z))) H
def agL {Y:L2.St}{BC:ρ}(I:Inv X AO Y H s)(hu:A.units+60<Qu)(g:gP X.K H x p)(k:RelV x v)(w:mT X.K H us ps)(B:Vals us BC):
  ∃e:Value->Bool,(∀y,y∈BC.toArray->SeqAt.EqAt A s y v (e y))/\BC.toArray.any e=decide (p∈ps):=by
 let S:∀(j:Nat)(y:Value),BC[j]?=some y->∃u q,us[j]?=some u/\ps[j]?=some q/\RelV u y/\gP X.K H u q:=λj y N=>by
  let(u,M,U):=aQ (d3 B) N;let(q,R,Z):=aQ w M;show(u,q,M,R,U,Z)
 show(λy=> @decide (∃u q,RelV u y/\gP X.K H u q/\q=p) (w6 _),λy G=>?_,?_)
 ·let(j,P,N):=IA.mp (by simpa using G:y∈BC)
  let(u,q,M,R,U,Z):=S j y (by rw [gE P,N]);let z:=akM (A:=A) I (.t (gU (IY q))) (.t (gU (IY p))) u x y v Z.agJ.is g.agJ.is (by unfold alike;show tQ _ _) U k (by have:=zK (IY q);unfold dep;simp only [gU,A_,dep] at this ⊢;omega)
  let e:oV (.t (gU (IY q))) (.t (gU (IY p)))= @decide (∃u q,RelV u y/\gP X.K H u q/\q=p) (w6 _):=by
   unfold oV;rw [zas];by_cases c:q=p
   ·subst c
    rw [P9 rfl]
    symm
    show @P9 _ (w6 _) (u,q,U,Z,O)
   ·rw [RI (λz=>c (Zx (n_ (ox aoq z)) (n_ (ox aor z))))]
    symm
    show @RI _ (w6 _) λ⟨m,i,T,Q,D⟩=>?_;let(a,_,_,rfl,_):=id Z;let(C,_,_,rfl,_):=id Q;let J:y=Value.ref a:=U;let L:y=Value.ref C:=T;erw [J] at L;show c ((aeI I Z Q).trans D)
  rwa [e] at z
 ·rw [r_,decide_eq_true_iff]
  simp only [List.any_toArray,AG];constructor
  ·rintro ⟨y,G,N⟩
   let(j,P,E):=IA.mp G;let(u,q,M,R,U,Z):=S j y (by rw [gE P,E]);let(m,i,T,Q,D):= @Qd _ (w6 _) N;let(a,_,_,rfl,_):=id Z;let(C,_,_,rfl,_):=id Q;let J:y=Value.ref a:=U;let L:y=Value.ref C:=T;erw [J] at L;rw [<-D,<-aeI I Z Q];show IH R
  ·intro f
   let(j,P,E):=IA.mp f;let b:us.length=ps.length:=Mx w;let li:us.length=BC.length:=B.length;have o :j<BC.length:=cr
   show(BC[j],QJ o,?_);let(u,q,M,R,U,Z):=S j BC[j] (gE o);erw [gE P,E] at R;show @P9 _ (w6 _) (u,p,U,Z,O)
def zaR (D:X.A.units+64<Qu):mZ X (Qo .In) (agK X.K false):=by
 intro B s Y H x y v u Q I U Z h;let(p,l,J,G,rfl,P,R,N,q):=h;cases Z;let(C,T,S,E):=I.list P;let(e,M,L):=agL (A:=X.A.in1) I (by rw [in1_units];omega) R U N T;show SeqAt.in_listAt e S.isList M (.bl _,H,I,O,?_);rwa [L]
end
def oa {R:(Str×Z)->(Key×V)->Prop}:∀{l:List (Str×Z)} {AV:η},Paired (λb X=>X.1=.inr b.1/\R b X) l AV->(l.map (·.1)).Nodup->(x,y)∈l->∃v,ff AV (.inr x)=some v/\R (x,y) (.inr x,v):=λ{l AV} p Y m=>by
 induction p with
 | nil=>cases m
 | cons h t U=>
  rw [M3,UG] at Y
  rcases P4.mp m with e|m
  ·subst e
   show(_,fU h.1,?_);let T:=h.2;rwa [<-h.1]
  ·let(v,e,r):=U Y.2 m
   show(v,?_,r);rw [dy (λz=>?_)]
   ·show e
   ·rw [h.1] at z
    show Y.1 (Wz z▸GV.mpr (_,m,O))
def LB (K:Frag)(H:Hp)(X:Ο)(U:η):Prop:=
 Paired (λ(p:Str×List (Rat×Rat)) (Y:Key×V)=>Y.1=.inr p.1/\∃l Z,Y.2=.ref l/\H l=some (.lst Z)/\mT K H Z p.2) X U
theorem LB.gO {K:Frag}(h:LB K H pw kW)(s:ar H H'):LB K H' pw kW:=
 Paired.cF h λ_ _ z=>#[z.1,by let(l,Z,U,X,Y):=z.2;show(l,Z,U,s _ _ X,Y.gO s)]
theorem LB.dict {K:Frag}(h:LB K H pw kW)(e:H d=some (.dK AV)):LB K (upd H d o) pw kW:=
 Paired.cF h λ_ _ z=>#[z.1,by
  let(l,Y,U,Z,X):=z.2
  show(l,Y,U,by rw [ag (λq=>by erw [q,e] at Z)];show Z,X.aY (.dict e))]
def LB.keys {K:Frag}(h:LB K H pw kW):kW.map (·.1)=(pw.map (·.1)).map (λb=>(Qw b:Key)):=by
 rw [jo h,P2];rfl
def jf.ends {K:Frag}(R:jf K H C a dx pP pW pB ps bs kP kW kB)(Z:(bs.map (·.1)).Nodup)(m:(x,(one,kG))∈bs):
  ∃p,ff kB (.inr x)=some (.ref p)/\Rd H p (.tup [.str one,.str kG]):=by
 let(v,e,p,Y,r):=oa R.rb Z m;have X :v=.ref p:=Y;show(p,by rw [e,X],r)
def jf.place {K:Frag}(R:jf K H C a dx pP pW pB ps bs kP kW kB)(Z:(ps.map (·.1)).Nodup)(m:(x,p)∈ps):
  ∃v,ff kP (.inr x)=some v/\Spot K H v p:=oa R.rp Z m
structure ba where
 nm:Str
 sp:Rat×Rat
 ws:List (Rat×Rat)
abbrev _root_.υ:=List ba
structure cf where
 nm:Str
 one:ba
 kG:ba
abbrev _root_.Δ:=List cf
inductive zO (K:Frag)(H:Hp)(C a:AZ)(AO:υ)(AP:Δ):Prop
|mk (S X Y pB:AZ)(U Z T:η)(_:jf K H C a S X Y pB (AO.map λp=>(p.nm,IY p.sp)) (AP.map λb=>(b.nm,(b.one.nm,b.kG.nm))) U Z T)(_:LB K H (AO.map λp=>(p.nm,p.ws)) Z)
def zO.ex {K:Frag}(h:zO K H C a AO AP):zO K H C a AO AP:=h
structure jr (AO:υ)(AP:Δ):Prop where
 np:(AO.map (·.nm)).Nodup
 nb:(AP.map (·.nm)).Nodup
 ends:∀b∈AP,b.one∈AO/\b.kG∈AO/\b.one.nm≠b.kG.nm
 sz:∀p∈AO,Sz 24 p.sp.1/\Sz 24 p.sp.2/\∀w∈p.ws,Sz 22 w.1/\Sz 22 w.2
 lp:AO.length<=7
 lb:AP.length<=8
 lw:∀p∈AO,p.ws.length<=2
theorem zO.gO {K:Frag}(h:zO K H C a AO AP)(s:ar H H'):zO K H' C a AO AP:=by
 let(S,Y,Z,pB,U,X,T,R,W):=h.ex;show(S,Y,Z,pB,U,X,T,R.gO s,W.gO s)
def PtD (K:Frag)(H:Hp)(AV:η)(F:ς):Prop:=
 ∀Z,(ff AV (.inr Z)=none/\F Z=none)\/∃v p,ff AV (.inr Z)=some v/\F Z=some p/\gP K H v p
section
variable {K:Frag}{H H':Hp}{AV:η}
theorem PtD.gO (h:PtD K H AV F)(s:ar H H'):PtD K H' AV F:=λZ=>by
 rcases h Z with h|⟨v,q,U,X,Y⟩
 ·show .inl h
 ·show .inr (v,q,U,X,Y.gO s)
def PtD.aoP (h:PtD K H AV F)(n:gP K H v q):gP K H ((ff AV (.inr x)).getD v) ((F x).getD q):=by
 rcases h x with ⟨Y,Z⟩|⟨u,U,Y,Z,X⟩
 ·rw [Y,Z]
  show n
 ·rw [Y,Z]
  show X
end
def zaL {K:Frag}{g:TG}{P:TS}{D:Ends}(Z:Nat->L2.St->Hp->Prop)(B:Z 0 Y H)(E:∀i Y H,Z i Y H->bh K H a xs/\bh K H b ys)
  (G:∀i x y Y H p,xs[i]?=some x->ys[i]?=some y->Z i Y H->H p=none->g (.ref p) Y (upd H p (.tup [x,y])) λS Q=>P {D with nx:=Z (i+1),ct:=Z (i+1),bk:=D.nx} S Q) (C:∀Y H,Z (min xs.length ys.length) Y H->D.nx Y H):
  ∃W:Nat->Nat->L2.St->Hp->Prop,(∃m,W 0 m Y H)/\∀i m Y H,W i m Y H->
   ((Itz K a b).stop i H/\D.nx Y H)\/((Itz K a b).go i H/\∃N:L2.St->Hp->Prop,(∀R X,N R X ->∃M,M<m/\W (i+1) M R X)/\∀x X,(Itz K a b).S3 i H x X ->g x Y X λS Q=>P {D with nx:=N,ct:=N,bk:=D.nx} S Q):=by
 show(λi m Y H=>m=min xs.length ys.length-i/\i<=min xs.length ys.length/\Z i Y H,(min xs.length ys.length,by simp,P1 _,B),?_);rintro i m Y H ⟨rfl,q,p⟩;let(T,U):=E i Y H p;by_cases u:i<min xs.length ys.length
 ·let I:i<xs.length:=cr
  let J:i<ys.length:=cr
  show .inr ((xs,ys,xs[i],ys[i],T,U,gE I,gE J),Z (i+1),λR X z=>(min xs.length ys.length-(i+1),cr,O,cr,z),λv X y=>?_);let(c,x,y,w,A,rfl,L,rfl):=y;show G i x y Y H c (w xs T) (A ys U) p L
 ·let e:i=min xs.length ys.length:=cr
  subst e;show .inl #[(xs,ys,T,U,cr),C Y H p]
def o_ {Z:Type}{nm:Z->Str}{l:List Z}(S:(l.map nm).Nodup){b X:Z}(h:l[i]?=some b)(m:X ∈l.take i):nm X≠nm b:=λe=>by
 let Q:=(be.mp h).1;let(j,R,Y):=IA.mp m;rw [am1] at Y;rw [Me] at R;let T:(l.map nm)[j]?=some (nm b):=by rw [ir,gE cr,Y,<-e];rfl
 let U:(l.map nm)[i]?=some (nm b):=by rw [ir,h];rfl
 have:=(ajc (by rw [Wp];omega) S).mp (T.trans U.symm);omega
def take_snoc {Z:Type}{l:List Z}{b:Z}(h:l[i]?=some b):l.take (i+1)=l.take i++[b]:=by rw [OM,h];rfl
theorem zaq {κ:Type}[DecidableEq κ]:∀{AV:List (κ×V)} {t:Nat} {k:κ} {y:V},(AV.map (·.1)).Nodup->AV[t]?=some (k,y)->ff AV k=some y
 | p::r,0,k,y,Z,e=>by
  cases e;show fU rfl
 | p::r,t+1,k,y,Z,e=>by
  rw [M3,UG] at Z;let Y:r[t]?=some (k,y):=e;rw [dy (λz=>Z.1 (z▸GV.mpr (_,IH Y,O)))];show zaq Z.2 Y
def rF (s:ar H H')(n:H' p=none):H p=none:=by
 cases e:H p with
 | none=>rfl
 | some o=>erw [s _ _ e] at n
abbrev i0 (h:Heap)(z TI TO:AZ)(Y:Value)(Z:Bool):Prop:=
 h.get? z=some {cls:=.type "zip",dict:=none,data:=.fields (List.toArray [Y,.bool Z,.bool false,.ref TI,.ref TO]),slots:= #[]}
section
variable {prog:LS}{w:World}{A:Mf}{E:δ}{s:G_}
def ab' (h:s.heap.get? a=some o)(q:Q (some o) s):DA (DW prog w) A (loadIfAlive a) Q E s:=λΓ p _=>by
 change Sem.wp _ _ (.loadIfAlive a .pure) _ _ _ _;rwa [Sem.wp_loadIfAlive,h]
def zae {z TI TO T:AZ}(hz:i0 s.heap z TI TO (PZ T) fb)(X:s.heap.get? T=some o)
  (Y:∀h',i0 h' z TI TO (PZ T) true->yt z s.heap h' ->Q false {s with heap:=h'}):DA (DW prog w) A (Ou (.ref z)) Q E s:=by
 unfold Ou;show IC (rP hz rfl (x:=PZ T) rfl ?_);change DA _ _ (loadIfAlive ((T:Int)).toNat >>=_) _ _ _;show IC (ab' (o:=o) (by simpa using X) ?_);simp only [Option.isNone_some,Oc,if_false];show IC (rP hz rfl (x:=.bool fb) rfl ?_);cases fb with
 | true=>
  change DA _ _ (if (Value.bool true !=Value.bool true)=true then _ else _) _ _ _;rw [iO eY];show LN (Y s.heap hz #[O,λ_ _=>O])
 | false=>
  change DA _ _ (if (Value.bool false !=Value.bool true)=true then _ else _) _ _ _;rw [jY eY];show IC (wpAny_setField_rec hz fN λh' Z U =>LN (Y h' Z U))
def aev {z TI TO T X Y P R:AZ}{xs ys:Ν}{Q:δ}(D:ZipApart z TI TO X Y P R)
  (hz:i0 s.heap z TI TO (PZ T) fb) (q:s.heap.get? T=some o) (C:IsPair s.heap TI (.ref X) (.ref Y))
  (k:s.heap.IsListIter X P k1) (m:s.heap.IsListIter Y R k2) (f:s.heap.IsList P xs) (b:s.heap.IsList R ys) (u:xs[k1]?=some x) (B:ys[k2]?=some y)
  (p:∀h',i0 h' z TI TO (PZ T) true->h'.IsListIter X P (k1+1)->h'.IsListIter Y R (k2+1)->IsPair h' s.heap.objs.size x y->h'.objs.size=s.heap.objs.size+1->
   (∀c o,c≠z->c≠X->c≠Y->s.heap.get? c=some o->h'.get? c=some o)->Q (.ref s.heap.objs.size) {s with heap:=h'}):
  DA (DW prog w) A (Builtin.«zip.__next__» #[[.ref z],[]]) (λH G=>∃v,H=.done (.ret v)/\Q v G) E s:=by
 change DA _ _ (field (.ref z) 2 >>=_) _ _ _;show IC (rP hz rfl (x:=.bool false) rfl ?_);change DA _ _ (field (.ref z) 3 >>=_) _ _ _;show IC (rP hz rfl (x:=.ref TI) rfl ?_);show IC (NX C rfl ?_);change DA _ _ (Ou (.ref z) >>=_) _ _ _;show IC (zae hz q λoe L U=>?_);simp only [Oc,if_false];show IC ?_;change DA _ _ (forIn [Value.ref X,Value.ref Y].toArray _ _) _ _ _;rw [amS];simp only [anm,anw];show IC (IC (Vb ?_));change DA _ _ (NV (.ref X) >>=_) _ _ _;show IC (wpAny_nextOf_list_item (k.extBut U.extBut D.i1z) (f.extBut U.extBut D.l1z) u λa I S=>LN ?_);show LN ?_;show IC (IC (Vb ?_));change DA _ _ (NV (.ref Y) >>=_) _ _ _;show IC (wpAny_nextOf_list_item ((m.extBut U.extBut D.i2z).extBut S.extBut D.i12.symm) ((b.extBut U.extBut D.l2z).extBut S.extBut D.l2i1) B λN J Z=>LN ?_);show LN (LN ?_);show IC (wpAny_newTuple (hsz:=(by change 2<=HZ;decide)) ?_);let hsz:N.objs.size=s.heap.objs.size:=by rw [Z.1,S.1,U.1]
 show LN (_,O,?_);let M:i0 N z TI TO (PZ T) true:=Z.extBut _ _ D.i2z.symm (S.extBut _ _ D.i1z.symm L);change Q (.ref N.objs.size) _;rw [hsz];show p _ (LM _ M) ((I.extBut Z.extBut D.i12).at λo e=>LM _ e) (J.at λo e=>LM _ e) ?_ (by rw [ZW,hsz]) λc o g i j e=>LM _ (Z.extBut _ _ j (S.extBut _ _ i (U.extBut _ _ g e)));change (N.push _).get? _=_;rw [<-hsz];show QL _ rfl
def ahx {z TI TO T X Y R S:AZ}{xs ys:Ν}(H:A.handled=none)(D:ZipApart z TI TO X Y R S)
  (hz:i0 s.heap z TI TO (PZ T) fb) (m:s.heap.get? T=some o) (y:IsPair s.heap TI (.ref X) (.ref Y))
  (C:s.heap.IsListIter X R k1) (k:s.heap.IsListIter Y S k2) (B:s.heap.IsList R xs) (f:s.heap.IsList S ys) (g:xs[k1]?=none\/ys[k2]?=none)
  (G:∀h' e,(∀c o,c≠z->c≠X->c≠Y->s.heap.get? c=some o->h'.get? c=some o)->(∃o,h'.get? e=some o/\o.cls=.type "StopIteration")->E (.ref e) {s with heap:=h'}):
  DA (DW prog w) A (Builtin.«zip.__next__» #[[.ref z],[]]) Q E s:=by
 change DA _ _ (field (.ref z) 2 >>=_) _ _ _;show IC (rP hz rfl (x:=.bool false) rfl ?_);change DA _ _ (field (.ref z) 3 >>=_) _ _ _;show IC (rP hz rfl (x:=.ref TI) rfl ?_);show IC (NX y rfl ?_);change DA _ _ (Ou (.ref z) >>=_) _ _ _;show IC (zae hz m λb q Z=>?_);simp only [Oc,if_false];show IC ?_;change DA _ _ (forIn [Value.ref X,Value.ref Y].toArray _ _) _ _ _;rw [amS];simp only [anm,anw];show IC (IC (Vb ?_));change DA _ _ (NV (.ref X) >>=_) _ _ _;cases P:xs[k1]? with
 | none=>
  show IC (wpAny_nextOf_list_end H (C.extBut Z.extBut D.i1z) (B.extBut Z.extBut D.l1z) P λI e U M=>?_);show G I e (λc o J L _ x=>U _ _ L (Z.extBut _ _ J x)) M
 | some x=>
  let p:ys[k2]?=none:=by rcases g with h|h;erw [P] at h;show h
  show IC (wpAny_nextOf_list_item (C.extBut Z.extBut D.i1z) (B.extBut Z.extBut D.l1z) P λI j U=>LN ?_);show LN ?_;show IC (IC (Vb ?_));change DA _ _ (NV (.ref Y) >>=_) _ _ _;show IC (wpAny_nextOf_list_end H ((k.extBut Z.extBut D.i2z).extBut U.extBut D.i12.symm) ((f.extBut Z.extBut D.l2z).extBut U.extBut D.l2i1) p λu e N M=>?_);show G u e (λc o J L i x=>N _ _ i (U.extBut _ _ L (Z.extBut _ _ J x))) M
def abv {z TI TO T Y Z S U:AZ}{xs ys:Ν}{Q:Ω}(D:ZipApart z TI TO Y Z S U)
  (hz:i0 s.heap z TI TO (PZ T) fb) (M:s.heap.get? T=some o) (R:IsPair s.heap TI (.ref Y) (.ref Z))
  (I:s.heap.IsListIter Y S k1) (J:s.heap.IsListIter Z U k2) (p:s.heap.IsList S xs) (m:s.heap.IsList U ys) (N:xs[k1]?=some x) (P:ys[k2]?=some y)
  (L:∀h',i0 h' z TI TO (PZ T) true->h'.IsListIter Y S (k1+1)->h'.IsListIter Z U (k2+1)->IsPair h' s.heap.objs.size x y->h'.objs.size=s.heap.objs.size+1->
   (∀c o,c≠z->c≠Y->c≠Z->s.heap.get? c=some o->h'.get? c=some o)->Q (some (.ref s.heap.objs.size)) {s with heap:=h'}):
  DA (DW prog w) A (pyNext (.ref z)) Q E s:=by
 let X:s.TypeIs (.ref z) "zip":=(_,hz,O);unfold pyNext
 show IC (wpAny_attempt (wpAny_callSpecial?_slot (name:=Ql "__next__") X NZ
  (wpAny_call_entry NZ X F.entry_zip_next
   (aev D hz M R I J p m N P λh' q u B C G H=>LN (L h' q u B C G H)) (F.args_zip_next_1 _))))
def acS {z TI TO T X Y S U:AZ}{xs ys:Ν}{Q:Ω}(M:A.handled=none)(D:ZipApart z TI TO X Y S U)
  (hz:i0 s.heap z TI TO (PZ T) fb) (I:s.heap.get? T=some o) (R:IsPair s.heap TI (.ref X) (.ref Y))
  (C:s.heap.IsListIter X S k1) (G:s.heap.IsListIter Y U k2) (y:s.heap.IsList S xs) (x:s.heap.IsList U ys) (B:xs[k1]?=none\/ys[k2]?=none)
  (H:∀h',(∀c o,c≠z->c≠X->c≠Y->s.heap.get? c=some o->h'.get? c=some o)->Q none {s with heap:=h'}):DA (DW prog w) A (pyNext (.ref z)) Q E s:=by
 let Z:s.TypeIs (.ref z) "zip":=(_,hz,O);unfold pyNext
 show IC (wpAny_attempt (wpAny_callSpecial?_slot (name:=Ql "__next__") Z NZ
  (wpAny_call_entry NZ Z F.entry_zip_next (ahx M D hz I R C G y x B λh' e N L=>?_) (F.args_zip_next_1 _))))
 let(o,P,J):=L;show IC (wpAny_isInstance (T:="StopIteration") (b:=true) (o,P,J) isSubtype_stop ?_);show LN (H _ N)
end
def Xi (h:Heap)(z TI TO Y Z a b S:AZ)(i:Nat):Prop:=(i0 h z TI TO .none false\/∃(T:AZ)(o:Obj)(X:Bool),i0 h z TI TO (PZ T) X/\h.get? T=some o/\T≠z/\T≠TO/\T≠Y/\T≠Z/\T≠S)/\IsPair h TI (.ref Y) (.ref Z)/\(∃x y,IsPair h TO x y)/\h.IsListIter Y a i/\h.IsListIter Z b i
section
variable {prog:LS}{w:World}{A:Mf}{E:δ}{s:G_}{z TI TO i1 i2 a b S:AZ}{i:Nat}
def Xi.frame (st:Xi h z TI TO i1 i2 a b S i)(k:∀c o,c≠S->h.get? c=some o->h'.get? c=some o)(nz:z≠S)(I:TI≠S)(J:TO≠S)(L:i1≠S)(M:i2≠S):Xi h' z TI TO i1 i2 a b S i:=by
 let(Z,N,(x,y,X),D,G):=st;show(?_,k _ _ I N,(x,y,k _ _ J X),D.at λo e=>k _ o L e,G.at λo e=>k _ o M e)
 rcases Z with Z|⟨T,o,C,Z,H,P,Q,R,U,Y⟩
 ·show .inl (k _ _ nz Z)
 ·show .inr (T,o,C,k _ _ nz Z,k _ _ Y H,P,Q,R,U,Y)
def Xi.item {xs ys:Ν}{Q:Ω}(D:ZipApart z TI TO i1 i2 a b)(st:Xi s.heap z TI TO i1 i2 a b S i)(hS:s.heap.get? S=some oS)
  (LC:s.heap.IsList a xs) (GN:s.heap.IsList b ys) (g:xs[i]?=some x) (j:ys[i]?=some y)
  (hQ:∀h',Xi h' z TI TO i1 i2 a b S (i+1)->IsPair h' s.heap.objs.size x y->(∀c o,c∉[z,TI,TO,i1,i2]->s.heap.get? c=some o->h'.get? c=some o)->Q (some (.ref s.heap.objs.size)) {s with heap:=h'}):
  DA (DW prog w) A (pyNext (.ref z)) Q E s:=by
 let(Y,U,(x0,y0,P),L,M):=st;let lt:∀{c o},s.heap.get? c=some o->s.heap.objs.size≠c:=λe=>ZM (JN e);let I:∃o,s.heap.get? i1=some o:=by let(o,e,_):=L;show#[o,e]
 let J:∃o,s.heap.get? i2=some o:=by let(o,e,_):=M;show#[o,e]
 let(o1,I):=I;let(o2,J):=J;let X:∀{c:AZ},c∉[z,TI,TO,i1,i2]->c≠z/\c≠TI/\c≠TO/\c≠i1/\c≠i2:=λh=>by simpa using h
 rcases Y with Y|⟨T,o,fb,Y,f,k,t2,m,p,t5⟩
 ·show wpAny_pyNext_zip_item D Y U P L M LC GN g j λh' q a2 u B R a6 Z=>?_
  show hQ h' (.inr (_,_,false,q,R,lt Y,lt P,lt I,lt J,lt hS),Z _ _ D.TIz D.TITO D.TIi1 D.TIi2 U,(_,_,a2),u,B) R λc o N e=>?_;let(C,c2,c3,G,H):=X N;show Z c o C c3 G H e
 ·show abv D Y f U L M LC GN g j λh' q u B R a6 Z=>?_
  show hQ h' (.inr (T,o,true,q,Z _ _ k m p f,k,t2,m,p,t5),Z _ _ D.TIz D.TIi1 D.TIi2 U,(_,_,Z _ _ D.TOz D.TOi1 D.TOi2 P),u,B) R λc o N e=>?_;let(C,c2,c3,G,H):=X N;show Z c o C G H e
def Xi.fin {xs ys:Ν}{Q:Ω}(L:A.handled=none)(D:ZipApart z TI TO i1 i2 a b)(st:Xi s.heap z TI TO i1 i2 a b S i)
  (B:s.heap.IsList a xs) (y:s.heap.IsList b ys) (C:xs[i]?=none\/ys[i]?=none)
  (J:∀h',(∀c o,c∉[z,TI,TO,i1,i2]->s.heap.get? c=some o->h'.get? c=some o)->Q none {s with heap:=h'}):DA (DW prog w) A (pyNext (.ref z)) Q E s:=by
 let(Y,M,(m,p,x),H,I):=st;let Z:∀{c:AZ},c∉[z,TI,TO,i1,i2]->c≠z/\c≠TI/\c≠TO/\c≠i1/\c≠i2:=λh=>by simpa using h
 rcases Y with Y|⟨T,o,fb,Y,u,t1,f,g,j,k⟩
 ·show wpAny_pyNext_zip_end L D Y M x H I B y C λh' X=>J h' λc o U e=>?_
  let(N,q,G,P,R):=Z U;show X c o N G P R e
 ·show acS L D Y u M H I B y C λh' X=>J h' λc o U e=>?_
  let(N,q,G,P,R):=Z U;show X c o N P R e
end
section
variable {X:Cx}{AO:θ}{Y:L2.St}
def ab2 (h:H p=none)(o:HO):ar H (upd H p o):=λb u q=>by rwa [ag (aj q h)]
def boot_list:Qx "list"=some (.type "list"):=by decide+kernel
end
def amG (l:AZ)(BC:Ν)(n:Nat)(b:AZ)(Z:Ν)(Q:Nat)(d:Ζ)(S:Ι)(P:¬(!BC.isEmpty && vW (BC.size+Z.size))=true)(X:BC.size<=HZ)(C:BC.size+Z.size<=HZ+1):
  Meets (Builtin.«list.extend» #[[.ref l,.ref b],[]]) (λ_ R s=>s.heap.get? l=some {cls:=.type "list",dict:=none,data:=.seq BC n,slots:= #[]}/\s.heap.get? b=some {cls:=.type "tuple",dict:=d,data:=.seq Z Q,slots:=S}/\
   R (.ok (.ret Value.none)) {s with heap:=s.heap.update l (VZ λx=>x++Z),toks:=s.toks}):=
 .of_wp λU w A R s h=>by
  let(L,g,D,M,os):=s;let(T,N,h):=h;let E:=AutoSeq1.idx_int;let G:=AutoSeq1.sub_tuple_tuple;let H:=AutoSeq1.sub_list_list;let I:=AutoSeq1.sub_tuple_list;let J:=AutoSeq1.sub_list_tuple;let Y:(BC++Z).size<=HZ+1:=by rwa [Array.size_append]
  wp_walk using (N_ T rfl (hz:=X) (_hz':=Y)),wpAny_loadPart' T,wpAny_loadPart' N
  show(_,O,h)
section
variable {X:Cx}
def agO (K:Frag):V->List V->Hp->VK->Prop:=λx Y H Q=>∃l b xs Z,x=.ref l/\Y=[.ref b]/\H l=some (.lst xs)/\bQ K H b Z/\xs.length+Z.length<=1000/\Q .cK (upd H l (.lst (xs++Z)))
def akw:MtR X "list.extend" (agO X.K):=by
 intro g s Y H x o v m Q I M L h;let(l,b,xs,w,rfl,rfl,R,C,k,q):=h;cases M;let(u,rfl,J):=L.one;cases J;let(z,Z,n,r,j,e):=I.rh R;let(U,S,P,p):=I.tuple C;let i:=S.length;let A:(1000:Nat)<=HZ:=eY
 let T:Z.toArray.size+U.toArray.size<=HZ:=by rw [QE,QE];omega
 let y:¬ (!Z.toArray.isEmpty && vW (Z.toArray.size+U.toArray.size))=true:=by
  rw [vL T,OA];show P7
 let((c,d,dt,N),B,D,G,E):=P;obtain rfl:c=Value.type "tuple":=D;obtain rfl:dt=_:=E
 show rA F.slot_list_extend (_,e,O) F.entry_list_extend (F.args_list_extend_2 _ _)
  (amG l Z.toArray n b U.toArray G d N y (by rw [QE];omega) cr) (e,B,?_)
 show(.cK,_,I.acy (oH:=Z++U) R e fN (r.append S) ?_,O,q);rw [JG];omega
end
def lead:typeLookup (.type "zip") "__getattr__"=pure none:=by rw [typeLookup_type,builtinLookup_eq_fast];kernel_rfl
def acO:typeLookup (.type "zip") "keys"=pure none:=by rw [typeLookup_type,builtinLookup_eq_fast];kernel_rfl
def aaQ:entryFor table "zip.__getattribute__"=some Builtin.«object.__getattribute__»:=
 entryFor_alias (id':="object.__getattribute__") (by kernel_rfl) (by decide+kernel) (by decide+kernel) (by kernel_rfl)
def tR:entryFor table "dict.update.loop"=some Builtin.«dict.update.loop»:=entryFor_of_tree (by kernel_rfl)
def js:plainId "dict.update.loop"=true:=by decide+kernel
def aeD (a:AZ)(vs:Ν)(u:Tok):
  Meets (Builtin.«object.__getattribute__» #[[.ref a,.str "keys" u],[]]) (λA R s=>s.heap.get? a=some {cls:=.type "zip",dict:=none,data:=.fields vs,slots:= #[]}/\raisesAttr (.ref a) "keys" A R s):=
 Meets.of_wp λY w A R s Z=>by
  let(T,g,d,X,os):=s;let(U,Z):=Z;let Q:((T,g,d,X,os):G_).TypeIs (.ref a) "zip":=(_,U,O);let S:=acO;unfold Builtin.«object.__getattribute__»
  repeat (any_goals (first|(assumption)|wp_step))
  show wpAny_raiseAttrError Z.1 Z.2 (attrMsg_fits (by decide+kernel) (by decide+kernel))
section
variable {prog:LS}{w:World}{A:Mf}{E:δ}{s:G_}
def aa6 {vs:Ν}{Q:Ω}(T:s.heap.get? z=some {cls:=.type "zip",dict:=none,data:=.fields vs,slots:= #[]})(P:A.handled=none)
  (h:∀Y X,(∀b o,s.heap.get? b=some o->Y.get? b=some o)->Q none {s with heap:=Y,toks:=X}):DA (DW prog w) A (getAttr? (.ref z) "keys") Q E s:=by
 let(R,g,d,X,os):=s;let S:∀Z,((R,g,d,Z,os):G_).TypeIs (.ref z) "zip":=λ_=>(_,T,O);let G:=sub_AttributeError;let H:=F.slot_zip_getattribute.lookup;let I:=F.slot_zip_getattribute.bind (.ref z);let J:=lead;unfold getAttr? getAttrBy? getAttrBy
 repeat (any_goals (first|(assumption)|show S _|((with_reducible change DA _ _ (call (Value.builtin "zip.__getattribute__") _ _) _ _ _);show rA F.slot_zip_getattribute (S _) aaQ (F.args_zip_getattribute_2 _ _) (aeD z vs _) ⟨T,P,λY Z e U =>?_⟩)|wp_step))
 let(M,N,L):=U.there;change DA _ _ (getattributeRaised _ _ _ _ _ _ _) _ _ _;unfold getattributeRaised
 repeat (any_goals (first|(assumption)|wp_step))
 show h _ _ U.keeps
def akk {z TI TO:AZ}{Q:δ}(C:A.in1.in1.handled=none)(hz:IsZip s.heap z TI TO f0)
  (H:∀(h':Heap)(P:Nat)(R:Τ),(∀b o,s.heap.get? b=some o->h'.get? b=some o)->h'.get? s.heap.objs.size=some {cls:=.type "dict",data:=.dict #[]}->
   (∀N,Q (.ref s.heap.objs.size) N ->R (.ok (.ret .none)) N)->T8 (DW prog w) A.in1 (.builtin "dict.update.loop" #[[.ref s.heap.objs.size,.ref z,PZ 0,.none],[]]) R {s with heap:=h',toks:=P}):
  DA (DW prog w) A (call (.type "dict") [.ref z]) Q E s:=by
 show callType_codes (Q₁:=λY I=>Y=.ref s.heap.objs.size/\I={s with heap:=s.heap.push {cls:=.type "dict",data:=.dict #[]}}) F.kt_called_dict (F.kt_typeCall_dict_1 _) F.entry_dict_init (kt_code_dict_new _ #[O,O]) ?_;rintro Y I ⟨rfl,rfl⟩;let T:(s.heap.push {cls:=.type "dict",data:=.dict #[]}).get? s.heap.objs.size=some {cls:=.type "dict",data:=.dict #[]}:=QL _ rfl;let L:∀b o,s.heap.get? b=some o->(s.heap.push {cls:=.type "dict",data:=.dict #[]}).get? b=some o:=λb o e=>LM _ e;generalize B:s.heap.objs.size=S at T H ⊢;generalize s.heap.push {cls:=.type "dict",data:=.dict #[]}=U at T L ⊢;let Z:U.get? z=_:=L _ _ hz;let X:Shared.TypeIs {s with heap:=U} (.ref S) "dict":=(_,T,O);let D:Shared.TypeIs {s with heap:=U} (.ref z) "zip":=(_,Z,O);show(X,F.args_dict_init_2 _ _,?_);unfold Builtin.«dict.__init__»;show IC ?_;unfold Builtin.Dict.selfAndRest;show IC (wpAny_notOrdered_dict X ?_);show LN ?_;change DA _ _ (Builtin.Dict.updateFrom "dict.__init__" S (.ref z) [] .none) _ _ _;unfold Builtin.Dict.updateFrom;show IC (wpAny_typeOf D ?_);rw [jY eY];show IC (aa6 (s:={s with heap:=U}) Z C λh' P M=>?_);rw [jY (by rfl)];show IC (wpAny_rule ?_);let J:IsZip h' z TI TO f0:=M _ _ Z;show IC (wpAny_pyIter_zip (s:={s with heap:=h',toks:=P}) J ?_);show LN #[plainId_quiet js _,H _ _ _ (λb o e=>M _ _ (L _ _ e)) (M _ _ T) λN G=>#[O,G]]
end
section
variable {X:Cx}{AO:θ}{Y:L2.St}
def aaa (AV Z:η)(U:Key×V):d7 AV (Z++[U])=putK (d7 AV Z) U.1 U.2:=by
 unfold d7;rw [am2];rfl
def ac9 {z TI TO N P a b S:AZ}{R:Τ}{ks:List Key}(hh:A'.in1.handled=none)(D:ZipApart z TI TO N P a b)(na:a≠S)(nb:b≠S)(hk1:ks.length<=1000):
  ∀(k i:Nat)(s:G_)(H:Hp),min ks.length ys.length-i=k->i<=min ks.length ys.length->Inv X AO Y H s->(∀c∈[z,TI,TO,N,P],qX X AO H c)->Xi s.heap z TI TO N P a b S i->
  H a=some (.lst (ks.map kV))->H b=some (.lst ys)->H S=some (.dK (d7 [] ((ks.zip ys).take i)))->aX S H0 H->
  (∀s' H',Inv X AO Y H' s' ->aX S H0 H' ->H' S=some (.dK (d7 [] (ks.zip ys)))->R (.ok (.ret .none)) s')->
  T8 (DW X.prog X.w) A' (.builtin "dict.update.loop" #[[.ref S,.ref z,PZ (i:Int),.none],[]]) R s:=by
 let aGT:(ks.zip ys).length=min ks.length ys.length:=ano;intro k
 induction k with
 | zero=>
  intro i s H hk hi I L st A B T U f;show codeAny_builtin tR ?_;rw [Around.under_plainId js _];change DA _ A'.in1 (pyNext (.ref z) >>=_) _ _ s;let(z1,BC,n1,r1,l1,e1):=I.rh A;let(z2,j,n2,r2,l2,e2):=I.rh B;rw [Wp] at l1;show IC (st.fin hh D (_,e1,O,_,O) (_,e2,O,_,O) ?_ λJ m=>?_)
  ·by_cases c:ks.length<=i
   ·show .inl (by simp;omega)
   ·show .inr (by simp;omega)
  ·rw [Zt cr] at T
   show IC (LN (LN (f _ H (Inv.vo (t':=s.toks) I m L) U T)))
 | succ k ih=>
  intro i s H hk hi I L st A B T U f;show codeAny_builtin tR ?_;rw [Around.under_plainId js _];change DA _ A'.in1 (pyNext (.ref z) >>=_) _ _ s;let(z1,BC,n1,r1,l1,e1):=I.rh A;let(z2,j,n2,r2,l2,e2):=I.rh B;let lx:i<ks.length:=cr
  let ly:i<ys.length:=cr
  let(u,hu,ru):=r1.get (i:=i) (x:=kV ks[i]) (by rw [ir,gE lx];rfl);let(v,hv,rv):=r2.get (i:=i) (x:=ys[i]) (gE ly);let(zS0,aGU,vs0,aGV,dd0):=vR I.cg T;let(oS,_,_,eS,_):=id dd0;show IC (st.item D eS (_,e1,O,_,O) (_,e2,O,_,O) (x:=u) (y:=v) (by simpa using hu) (by simpa using hv) λJ Ui ht m=>?_)
  let Z:∀c∈[z,TI,TO,N,P],c≠S:=λc C e=>by
   have:=(L c C).1;erw [e,T] at this
  let I2:Inv X AO Y H {s with heap:=J,toks:=s.toks}:=Inv.vo (t':=s.toks) I m L;let(zS,g,vs,Q,dd):=vR I2.cg T;let hT:Shared.TypeIs {s with heap:=J,toks:=s.toks} (.ref s.heap.objs.size) "tuple":=(_,ht,O);show IC (Vb ?_);show IC (wpAny_tryCatch ?_);unfold Builtin.Dict.pairItems;show IC (wpAny_typeOf hT ?_);rw [jY eY];show IC (NX ht rfl (LN ?_));change DA _ A'.in1 (Wf [u,v] (dictSet S u v)) _ _ _;show Vb ?_;let M:vs.length<=HZ:=by rwa [<-Q.length]
  show wpAny_dictSet_pairs (hsz:=M) (tN ru) dd λh2 G sb=>?_;let he:∃q,h2.get? S=some q:=let ⟨q,_,_,hq,_⟩:=G;#[q,hq]
  let etk:(ks.zip ys).take (i+1)=(ks.zip ys).take i++[(ks[i],ys[i])]:=by
   rw [OM];have:(ks.zip ys)[i]?=some (ks[i],ys[i]):=by rw [List.getElem?_zip_eq_some];show#[gE lx,gE ly]
   rw [this];rfl
  let E:d7 [] ((ks.zip ys).take (i+1))=putK (d7 [] ((ks.zip ys).take i)) ks[i] ys[i]:=by rw [etk,aaa]
  let hl:(putK (d7 [] ((ks.zip ys).take i)) ks[i] ys[i]).length<=HZ:=by
   rw [<-E];let h1:=jE ((ks.zip ys).take (i+1)) [];rw [Me,amA] at h1;show GX (show(d7 [] ((ks.zip ys).take (i+1))).length<=1000 by omega) eY
  let I3:Inv X AO Y (upd H S (.dK (putK (d7 [] ((ks.zip ys).take i)) ks[i] ys[i]))) {s with heap:=h2,toks:=s.toks+1}:=vp (s:={s with heap:=J,toks:=s.toks}) (t':=s.toks+1) I2 (by rw [T];show True.intro) sb he (LX hl g (Q.put ks[i] rv) G);let kS:∀c o,c≠S->J.get? c=some o->h2.get? c=some o:=λc o n e=>(sb.2 c n).trans e;show LN #[plainId_quiet js _,?_];let p:∀{c:AZ} {o:HO},H c=some o->c≠S->(upd H S (.dK (putK (d7 [] ((ks.zip ys).take i)) ks[i] ys[i]))) c=some o:=λ{c o} e n=>by rwa [ag n]
  show ih (i+1) _ _ cr cr I3 (λc C=>?_) (Ui.frame kS (Z z fN) (Z TI fN) (Z TO fN) (Z N fN) (Z P fN)) (p A na) (p B nb) (by rw [E,af]) (λc o n e=>p (U c o n e) n) f;let(f0,f1,f2,f3,f4,f5):=L c C;show(by rwa [ag (Z c C)],f1,f2,f3,f4,f5)
def akA (Q:VK)(vs:γ)(Z:Hp):Prop:=∃(a b:AZ)(U:List Key)(S:γ),vs=[.ref a,.ref b]/\Z a=some (.lst (U.map kV))/\Z b=some (.lst S)/\U.length<=1000/\∀(l:AZ)(T:Hp),ar Z T ->Z l=none->T l=some (.dK (d7 [] (U.zip S)))->Q (.ref l) T
def ac' (Z:TA):TE:=λY H Q=>Z Y H (akA Q)
def boot_dict:Qx "dict"=some (.type "dict"):=by decide+kernel
def ajZ {p U p' J:Pos}(hc:X.calm=true)(g:Gl X "dict")(m:X.mg "dict"=none)(hg:Gl X "zip")(hm:X.mg "zip"=none)(ha:PA X [P,S] ta)(hs:JF [P,S] X.env=[(false,II P X.env),(false,II S X.env)]:=by rfl)(P8:JF [S] X.env=[(false,II S X.env)]:=by rfl)
  (G:JF [(.Call (.Name "zip" p) [P,S] [] U:Expr)] X.env=[(false,II (.Call (.Name "zip" p) [P,S] [] U) X.env)]:=by rfl):
  PE X (.Call (.Name "dict" p') [.Call (.Name "zip" p) [P,S] [] U] [] J) (ac' ta):=by
 intro AO s Y H Q I h;show Call_ (gZ I g m boot_dict (VJ ?_ G rfl));rw [G];change DA _ _ (spliced ((false,II (.Call (.Name "zip" p) [P,S] [] U) X.env)::[])) _ _ s;show Zg ?_;show Call_ (gZ I hg hm boot_zip (VJ (cJ (ha U AO s Y H _ I h) λus Z ⟨vs,H1,M,r1,q1⟩=>?_) (by rw [hs,P8]) (by rw [P8];rfl)));let(a,b,ks,ys,e,w,x,k,q):=q1;subst e;cases r1 with
 | cons r B=>
  cases B with
  | cons r' B=>
   cases B;cases r;cases r';let(z1,BC,n1,r1,l1,P):=M.rh w;let(z2,jts,n2,r2,l2,S):=M.rh x;let lt1:a<Z.heap.objs.size:=JN P;let lt2:b<Z.heap.objs.size:=JN S;show call_zip_2 (_,P,O,_,O) (_,S,O,_,O) λT hz nQ zF i j u hk=>pZ ?_;let D:Inv X AO Y H1 {Z with heap:=T,toks:=Z.toks}:=M.kept (t':=Z.toks) hk;let E:=D.cg.fresh (DX T.objs.size);show akk (s:={Z with heap:=T}) (M.ok.hd hc) hz λh2 tk R L f hR=>?_;let lt':LO<T.objs.size:=(D.mod.glob.keeps D.bk).lt;let ns:(T.objs.size==U')=false:=beq_eq_false_iff_ne.mpr (IL (P6 (O7 eY lt')));let I3:Inv X AO Y (upd H1 T.objs.size (.dK [])) {Z with heap:=h2,toks:=tk}:=D.laid (t':=tk) L (DX _) (P1 _,ns,[],.nil,_,_,_,f,(O,O,O),O,λ_ he=>by simp at he,Pairs.nil,anx)
   let st:Xi h2 (Z.heap.objs.size+4) (Z.heap.objs.size+2) (Z.heap.objs.size+3) Z.heap.objs.size (Z.heap.objs.size+1) a b T.objs.size 0:=
    (.inl (L _ _ hz),L _ _ nQ,(_,_,L _ _ zF),i.at λo e=>L _ o e,j.at λo e=>L _ o e)
   let na:a≠T.objs.size:=aj w E;let nb:b≠T.objs.size:=aj x E;let C:=ab2 E (.dK []);show ac9 (A':=X.A.in1) (H0:=H1) (ks:=ks) (ys:=ys) (M.ok.hd hc) ?_ na nb k (min ks.length ys.length) 0 _ _ cr (P1 _) I3 (λN xX =>?_) st (C _ _ w) (C _ _ x) af (λb' o n e=>C _ _ e) λs' H' I' y c=>hR s' (.ref T.objs.size,H',I',O,q _ H' (λb' o e=>y b' o (aj e E) e) E c)
   ·constructor<;>(intro z;simp only [AZ] at*;omega)
   ·let hc2:N=Z.heap.objs.size+4\/N=Z.heap.objs.size+2\/N=Z.heap.objs.size+3\/N=Z.heap.objs.size\/N=Z.heap.objs.size+1:=by simpa using xX
    let hb:Z.heap.objs.size<=N:=by
     simp only [AZ] at*;omega
    let S9:N≠T.objs.size:=by
     rw [u];simp only [AZ] at*;omega
    show M.ye hb ?_;rw [ag S9];show M.cg.fresh hb
end
def bT.snoc {K:Frag}(h:bT K H us qs)(n:m6 K H v q):bT K H (us++[v]) (qs++[q]):=by
 show#[by simp [h.1],λi u X Z Y=>?_];let l:=h.1;by_cases c:i<us.length
 ·rw [MF c] at Z
  rw [MF cr] at Y;show h.2 i u X Z Y
 ·rw [Mg cr] at Z Y
  by_cases z:i-us.length=0
  ·rw [z] at Z
   rw [show i-qs.length=0 by omega] at Y;cases Z;cases Y;show n
  ·rw [JM (by simp;omega)] at Z
   cases Z
theorem bT.aY {K:Frag}(h:bT K H us qs)(s:bw H H'):bT K H' us qs:=#[h.1,λi u q Y Z=>(h.2 i u q Y Z).aY s]
variable {X:Cx}
theorem bw.ks (Z:H D=some (.lst ys))(ks:aX D H H'):bw H H':=λb xs r=>by
 rcases r with r|⟨Y,r⟩
 ·show .inl (ks _ _ (λe=>by erw [e,Z] at r) r)
 ·show .inr #[Y,ks _ _ (λe=>by erw [e,Z] at r) r]
section
variable {D:AZ}{te:TE}{mw:L2.St}{H1:Hp}{Q:VK}
def aa7 {K:Frag}(J:List V->Hp->Prop)(P:H1 D=none)(E:xs.length<HZ)(T:∀H,ar H1 H->bh K H a xs)(G:J [] (upd H1 D (.lst [])))
  (L:∀(i:Nat) x ys H (R:VK),xs[i]?=some x->ys.length=i->J ys H->ar H1 H->H D=some (.lst ys)->(∀v Z,ar H Z->J (ys++[v]) (upd Z D (.lst (ys++[v])))->R v Z)->te (some x::mw) H R)
  (I:∀ys H,ys.length=xs.length->J ys H->ar H1 H->H D=some (.lst ys)->Q (.ref D) H):
  vP D (dZ 0) oX te (Itl K a) (none::mw) H1 Q:=by
 show LW xs.length (λi=>(xs[i]?).getD .cK) (λi ys H=>ys.length=i/\J ys H/\ar H1 H) (O,G,λb o e=>by rwa [ag (aj e P)]) ?_ ?_ ?_ ?_
 ·rintro i ys H U ⟨_,_,s⟩
  show#[(xs,xs[i],T H s,gE U),λx C y=>#[y.1,by rw [y.2 xs (T H s)];rfl]]
 ·rintro ys H ⟨_,_,s⟩
  show(xs,T H s,DX _)
 ·rintro i ys H R U ⟨l,j,s⟩ Y k
  let e:xs[i]?=some xs[i]:=gE U;let N:=L i _ ys H R e l j s Y λv Z S M=>k v Z (S _ _ Y) cr (by simp [l],M,λb o e=>by rw [ag (aj e P)];show S _ _ (s _ _ e));rw [<-(show(xs[i]?).getD .cK=xs[i] by rw [e];rfl)] at N;show N
 ·rintro ys H ⟨l,j,s⟩ Y
  show I ys H l j s Y
end
end Ty
namespace Ty
theorem zP {Z:Type}[DecidableEq Z]:∀{l m:List Z},l.Nodup->(∀x∈l,x∈m)->l.length<=m.length
 | [],_,_,_=>P1 _
 | x::l,m,h,k=>by
  let(T,U):=UG.mp h;let Y:=k x Mo;have:=zP (l:=l) (m:=m.erase x) U λy X=>(List.mem_erase_of_ne (λz:y=x=>T (by rwa [<-z]))).mpr (k y (MV _ X));rw [List.length_erase_of_mem Y] at this;let p:=List.length_pos_of_mem Y;change l.length+1<=m.length;omega
def box (B:Nat):Nat->List (List Int)
 | 0=>[[]]
 | n+1=>(box B n).flatMap λy=>(LK (B+1)).map λ(a:Nat)=>(a:Int)::y
theorem aaf {Z:Type}(c:Nat):∀l:List Z,(l.map λ_=>c).sum=l.length*c
 | []=>by simp
 | _::l=>by
  rw [M3,amN,aaf c l,Qz,UP];omega
theorem BK (B:Nat):∀n,(box B n).length=(B+1)^n
 | 0=>rfl
 | n+1=>by
  let Z:=BK B n;unfold box;rw [List.length_flatMap];have:((box B n).map λy=>((LK (B+1)).map λ(a:Nat)=>(a:Int)::y).length)=(box B n).map λ_=>B+1:=HS λy _=>by rw [Wp,Zq]
  rw [this,aaf,Z,Ve]
theorem zQ (B:Nat):∀n,(box B n).Nodup
 | 0=>by simp [box]
 | n+1=>by
  let Y:=zQ B n;unfold box;unfold List.Nodup at Y ⊢;rw [List.pairwise_flatMap];show#[λy _=>?_,Y.imp λ{S T} Z x U z X e=>?_]
  ·rw [ajd]
   show AF.imp λ{a b} Z e=>Z (by injection e with e _;show Int.ofNat.inj e)
  ·let(a,_,rfl):=GV.mp U
   let(b,_,rfl):=GV.mp X;injection e with _ e
   show Z e
theorem mF :∀{n:Nat} {y:ο},y∈box B n ↔ y.length=n/\∀a∈y,0<=a/\a<=(B:Int)
 | 0,y=>by
  unfold box;rw [MJ];constructor
  ·intro e
   rw [e];show#[O,λa h=>nomatch h]
  ·intro h
   show IK.mp h.1
 | n+1,y=>by
  unfold box;rw [Zo];constructor
  ·rintro ⟨z,hz,T⟩
   let(a,U,rfl):=GV.mp T;let(Z,Y):=(mF (n:=n)).mp hz;have:=QF.mp U;show#[by simp [Z],λb X=>?_]
   rcases P4.mp X with e|e
   ·rw [e]
    omega
   ·show Y b e
  ·rintro ⟨Z,Y⟩
   match y,Z with
   | a::z,Z=>
    let U:=Y a Mo;show(z,(mF (n:=n)).mpr #[by simpa using Z,λb X=>Y b (MV _ X)],GV.mpr (a.toNat,QF.mpr (show a.toNat<B+1 by omega),?_));rw [show((a.toNat:Nat):Int)=a by omega]
def jP:List Int->List Int->Int
 | a::e,b::y=>a*b+jP e y
 | _,_=>0
theorem zaX:∀(e:ο) {y z:ο},y.length=z.length->jP e (Qe (λa b=>a-b) y z)=jP e y-jP e z
 | [],y,z,h=>by simp [jP]
 | a::e,[],[],h=>by simp [jP]
 | a::e,b::y,c::z,h=>by
  let Z:=zaX e (y:=y) (z:=z) (by simpa using h);rw [aj_];simp only [jP];rw [Z,Int.mul_sub];omega
theorem Ow :∀{e y:ο},(∀a∈e,a.natAbs<=A)->(∀b∈y,b.natAbs<=B)->(jP e y).natAbs<=e.length*(A*B)
 | [],y,_,_=>by simp [jP]
 | a::e,[],_,_=>by simp [jP]
 | a::e,b::y,X,Y=>by
  let U:=Ow (e:=e) (y:=y) (λx Z=>X x (MV _ Z)) λx Z=>Y x (MV _ Z);simp only [jP]
  let m:(a*b).natAbs<=A*B:=by
   rw [YT];show Qq (X a Mo) (Y b Mo)
  let t:=yy (a*b) (jP e y);rw [Qz,UP,KR];omega
def Vc {eqs:ζ}(k:eqs.length<n)(f:1<=A)(J:∀e∈eqs,e.length=n/\∀a∈e,a.natAbs<=A):∃z:List Int,z.length=n/\(∃a∈z,a≠0)/\(∀a∈z,a.natAbs<=(2*n*A)^eqs.length)/\∀e∈eqs,jP e z=0:=by
 generalize H:2*n*A=C;generalize g:C^eqs.length=B
 let c1:1<=C:=by
  rw [<-H];show Qq (show 1<=2*n by omega) f
 generalize I:n*(A*B)=M
 let R:¬ ∀y∈box B n,∀z∈box B n,(eqs.map λe=>jP e y+(M:Int))=(eqs.map λe=>jP e z+(M:Int))->y=z:=by
  intro inj
  let G:((box B n).map λy=>eqs.map λe=>jP e y+(M:Int)).Nodup:=by
   unfold List.Nodup;rw [ajd];show List.Pairwise.imp_of_mem (λ{y z} U Q S e=>S (inj y U z Q e)) (zQ B n)
  let le:=zP G (m:=box (2*M) eqs.length) λx o=>by
   let(y,U,rfl):=GV.mp o;let(E,Y):=mF.mp U;show mF.mpr #[by simp,λa T=>?_];let(e,Z,rfl):=GV.mp T
   let b1:=Ow (A:=A) (B:=B) (J e Z).2 (y:=y) λb j=>by
    have:=Y b j
    omega
   rw [(J e Z).1,I] at b1;omega
  rw [Wp,BK,BK] at le
  let P:2*M+1<=C*(B+1):=by
   let e3:2*M=C*B:=by rw [<-I,<-H,<-O6,<-O6]
   rw [e3,ani];omega
  let e2:(2*M+1)^eqs.length<=B*(B+1)^eqs.length:=by
   have:=ah_ P eqs.length;rwa [Nat.mul_pow,g] at this
  let e4:(B+1)^(eqs.length+1)<=(B+1)^n:=Qt cr k
  let e5:B*(B+1)^eqs.length<(B+1)^(eqs.length+1):=by
   rw [Ve,ZL ((B+1)^eqs.length)];show Nat.mul_lt_mul_of_pos_right (Qg B) (Nat.pow_pos cr)
  omega
 let(y,p):=Oj.mp R;let(U,u):=OL.mp p;let(z,w):=Oj.mp u;let(Q,D):=OL.mp w;let(ee,S):=OL.mp D;let(E,Y):=mF.mp U;let(lz,bz):=mF.mp Q;let N:y.length=z.length:=cr
 show(Qe (λa b=>a-b) y z,by rw [Od];omega,?_,?_,λe Z=>?_)
 ·apply Qi
  intro h;show S (List.ext_getElem N λi h1 c=>?_);let h':∀a∈Qe (λa b=>a-b) y z,a=0:=λa T=>Qi λq=>h (a,T,q)
  let m:y[i]-z[i]∈Qe (λa b=>a-b) y z:=by
   show IH (i:=i) ?_;rw [YZ,gE h1,gE c]
  have:=h' _ m;omega
 ·intro a T
  let(i,X):=LP T;rw [YZ] at X
  let L:i<y.length:=by
   apply Qi;intro q;erw [JM cr] at X
  rw [gE L,gE (show i<z.length by omega)] at X;let ea:y[i]-z[i]=a:=QI X;let q1:=Y _ (QJ L)
  let q2:=bz _ (QJ (show i<z.length by omega));omega
 ·rw [zaX e N]
  let(i,X):=LP Z;let P:=ox (λl:List Int=>l[i]?) ee;simp only [ir,X,amz,Option.some.injEq] at P;omega
def col (l:ο)(j:Nat):Rat:=((l.getD j 0:Int):Rat)
inductive d5 (A:ζ):(Nat->Rat)->Prop
 | zero:d5 A (λ_=>0)
 | put {f:Nat->Rat} (c:Rat) {a:ο} (h:a∈A) (Z:d5 A f):d5 A (λj=>f j+c*col a j)
def d5.congr (h:d5 A f)(e:∀j,f j=g j):d5 A g:=(funext e:f=g)▸h
def d5.add (X:d5 A f)(Y:d5 A g):d5 A (λj=>f j+g j):=by
 induction Y with
 | zero=>show X.congr λj=>by grind
 | put c h _ Z=>show(d5.put c h Z).congr λj=>by grind
def d5.mul (k:Rat)(Y:d5 A f):d5 A (λj=>k*f j):=by
 induction Y with
 | zero=>show d5.zero.congr λj=>by grind
 | put c h _ Z=>show(d5.put (k*c) h Z).congr λj=>by grind
def d5.mem (h:a∈A):d5 A (col a):=(d5.put 1 h d5.zero).congr λj=>by grind
def d5.trans (Y:d5 A f)(h:∀a∈A,d5 B (col a)):d5 B f:=by
 induction Y with
 | zero=>show d5.zero
 | put c X _ Z=>show Z.add ((h _ X).mul c)
def d5.mono (Z:d5 A f)(h:∀a∈A,a∈B):d5 B f:=Z.trans λa Y=>d5.mem (h a Y)
def d5.first {l:ο}{A:ζ}(X:d5 (l::A) f):∃a:Rat,d5 A (λj=>f j-a*col l j):=by
 induction X with
 | zero=>show#[0,d5.zero.congr λj=>by grind]
 | put c h _ Y=>
  let(a,Z):=Y
  rcases P4.mp h with e|e
  ·subst e
   show#[a+c,Z.congr λj=>by grind]
  ·show#[a,(d5.put c e Z).congr λj=>by grind]
def d5.last (Z:d5 (A++[l]) f):∃a:Rat,d5 A (λj=>f j-a*col l j):=d5.first (Z.mono λa Y=>by
 rcases MU.mp Y with z|z
 ·show MV _ z
 ·rw [MJ.mp z]
  show Mo)
def d5.van (Y:d5 A f)(h:∀a∈A,col a c=0):f c=0:=by
 induction Y with
 | zero=>rfl
 | put k X _ Z=>
  dsimp only;rw [Z,h _ X];grind
structure S_ (nd:ν):Prop where
 nn:(nd.map (·.1)).Nodup
 here:∀x∈nd,x.2.getD x.1 0≠0
 off:∀x∈nd,∀y∈nd,x.1≠y.1->x.2.getD y.1 0=0
theorem S_.zero:∀{U:ν} {f:Nat->Rat},S_ U->d5 (U.map (·.2)) f->(∀x∈U,f x.1=0)->∀j,f j=0
 | [],f,_,T,_=>λj=>by
  have:∀{g:Nat->Rat},d5 [] g->g j=0:=λ{g} h=>h.van λa X=>nomatch X;show this T
 | x::r,f,P,T,Y=>by
  let(a,X):=d5.first T;let S:=UG.mp P.nn
  let v:f x.1-a*col x.2 x.1=0:=X.van (c:=x.1) λb R=>by
   let(y,Z,rfl):=GV.mp R;unfold col;rw [P.off y (MV _ Z) x Mo (λz=>S.1 (by change x.1∈_;rw [<-z];show GV.mpr (y,Z,O)))];rfl
  rw [Y x Mo] at v;let M:col x.2 x.1≠0:=c7 (P.here x Mo);let Q:a=0:=by grind
  subst Q;let N:S_ r:=(S.2,λy Z=>P.here y (MV _ Z),λy Z z Y=>P.off y (MV _ Z) z (MV _ Y));show S_.zero N (X.congr (g:=f) λj=>by grind) λy Z=>Y y (MV _ Z)
def S_.one (P:S_ Z)(U:d5 (Z.map (·.2)) f){x:Χ}(Y:x∈Z)(hz:∀y∈Z,y.1≠x.1->f y.1=0):∃a:Rat,∀j,f j=a*col x.2 j:=by
 let T:col x.2 x.1≠0:=c7 (P.here x Y);show#[f x.1 / col x.2 x.1,λj=>?_];let g:d5 (Z.map (·.2)) λj=>f j+ -(f x.1 / col x.2 x.1)*col x.2 j:=d5.put _ (GV.mpr (x,Y,O)) U
 have:=P.zero g (λy X=>by
  by_cases c:y.1=x.1
  ·rw [c]
   grind
  ·rw [hz y X c]
   have:col x.2 y.1=0:=by
    unfold col;rw [P.off x Y y X (IL c)];rfl
   rw [this]
   grind) j
 grind
def m7:List Int->List (List Int)->Nat->Int
 | z::zs,a::A,j=>z*a.getD j 0+m7 zs A j
 | _,_,_=>0
theorem pe:∀(zs:ο)(A:ζ),d5 A (λj=>((m7 zs A j:Int):Rat))
 | [],A=>d5.zero.congr λj=>by simp [m7]
 | _::_,[]=>d5.zero.congr λj=>by simp [m7]
 | z::zs,a::A=>by
  let Z:=(pe zs A).mono (B:=a::A) λb Y=>MV _ Y;show(d5.put (z:Rat) (Mo) Z).congr λj=>?_;simp only [m7,col];push_cast;grind
theorem BL (c:Nat):∀(zs:ο)(A:ζ),jP (A.map λa=>a.getD c 0) zs=m7 zs A c
 | [],A=>by cases A<;>simp [m7,jP]
 | _::_,[]=>by simp [m7,jP]
 | z::zs,a::A=>by
  simp only [M3,jP,m7];rw [BL c zs A,UL]
theorem Mh (j:Nat):∀{zs:ο} {A:ζ},(∀z∈zs,z.natAbs<=α)->(∀a∈A,(a.getD j 0).natAbs<=E)->(m7 zs A j).natAbs<=A.length*(α*E)
 | [],A,_,_=>by simp [m7]
 | _::_,[],_,_=>by simp [m7]
 | z::zs,a::A,X,Y=>by
  let U:=Mh j (zs:=zs) (A:=A) (λx Z=>X x (MV _ Z)) λx Z=>Y x (MV _ Z);simp only [m7]
  let m:(z*a.getD j 0).natAbs<=α*E:=by
   rw [YT];show Qq (X z Mo) (Y a Mo)
  let t:=yy (z*a.getD j 0) (m7 zs A j);rw [Qz,UP,KR];omega
theorem wc (j:Nat):∀{zs:ο} {A:ζ} (z:Int) (a:ο),zs.length=A.length->m7 (zs++[z]) (A++[a]) j=m7 zs A j+z*a.getD j 0
 | [],[],z,a,_=>by simp [m7]
 | y::zs,b::A,z,a,h=>by
  let Z:=wc j (zs:=zs) (A:=A) z a (by simpa using h);simp only [OH,m7];rw [Z];omega
def Prm (l:ο):Prop:=∀d:Int,(∀j,d ∣ l.getD j 0)->d.natAbs=1
def Vd (p:Prm l){v:Nat->Int}(T:a≠0)(h:∀j,((v j:Int):Rat)=a*col l j)(j:Nat):(l.getD j 0).natAbs<=(v j).natAbs:=by
 let e:∀j,v j*(a.den:Int)=a.num*l.getD j 0:=λj=>by
  let Z:=h j
  let Y:a=(a.num:Rat) / ((a.den:Int):Rat):=by
   rw [<-amZ];show(amR a).symm
  let U:((a.den:Int):Rat)≠0:=c7 (by have:=a.den_pos;omega);rw [Y] at Z;unfold col at Z
  let S:((v j*(a.den:Int):Int):Rat)=((a.num*l.getD j 0:Int):Rat):=by
   rw [Vg,Vg];generalize ((a.den:Int):Rat)=D at U Z;grind
  show GZ.mp S
 let R:∀j,(a.den:Int) ∣ l.getD j 0:=λj=>by
  let Z:a.den ∣ a.num.natAbs*(l.getD j 0).natAbs:=by
   rw [<-YT,<-e j,YT];show#[(v j).natAbs,by rw [ZL];rfl]
  let Y:=Nat.Coprime.dvd_of_dvd_mul_left (Nat.Coprime.symm a.reduced) Z;show OZ.mp (by simpa using Y)
 let Q:a.den=1:=by simpa using p _ R
 let X:=e j;rw [Q] at X;let P:a.num≠0:=λz=>T (Rat.num_eq_zero.mp z);have:v j=a.num*l.getD j 0:=by simpa using X
 rw [this,YT];show Nat.le_mul_of_pos_left _ cr
def aff (p:Prm l):¬ ∀j,l.getD j 0=0:=λh=>by
 have:=p 0 λj=>by rw [h j];show Int.dvd_refl 0
 simp at this
structure Ta (os:ζ)(nd:ν)(lv ps qs:ζ):Prop where
 po:∀p∈ps,p∈os
 qo:∀q∈qs,q∈os
 lp:ps.length=nd.length
 lq:qs.length=lv.length
 s1:∀x∈nd,d5 ps (col x.2)
 s2:∀p∈ps,d5 (nd.map (·.2)) (col p)
 s3:∀(i:Nat)(l q:ο),lv[i]?=some l->qs[i]?=some q->d5 (ps++[q]) (col l)/\d5 (nd.map (·.2)++[l]) (col q)
 ind:∀zs:List Int,zs.length=ps.length->(∀j,m7 zs ps j=0)->∀a∈zs,a=0
def Ta.start (os:ζ):Ta os [] os [] os:=by
 show(by simp,λq X=>X,O,O,by simp,by simp,λi l q U Y=>?_,λT h _ a Z=>?_)
 ·rw [U] at Y
  cases Y;show#[d5.mem fN,d5.mem fN]
 ·rw [IK.mp h] at Z
  cases Z
def S_.cols (P:S_ Z)(X:d5 (Z.map (·.2)) (col l))(hz:∀x∈Z,l.getD x.1 0=0):∀j,l.getD j 0=0:=λj=>by
 have:=P.zero X (λx Y=>by unfold col;rw [hz x Y];rfl) j;unfold col at this;show GZ.mp (this.trans (by rfl))
def zaT {A:ζ}(X:∀a∈A,∀j,(a.getD j 0).natAbs<=2^b):(A.map λa=>a.getD c 0).length=A.length/\∀x∈A.map (λa=>a.getD c 0),x.natAbs<=2^b:=by
 show#[by simp,λx Z=>?_];let(a,Y,rfl):=GV.mp Z;show X a Y c
def Ta.left (Z:Ta os Y lv ps qs)(P:S_ Y){i b:Nat}{l:ο}(e:lv[i]?=some l)(hz:∀x∈Y,l.getD x.1 0=0)(H:∀o∈os,∀j,(o.getD j 0).natAbs<=2^b)(L:Prm l)(j:Nat):(l.getD j 0).natAbs<=(Y.length+1)*((2*(Y.length+1)*2^b)^Y.length*2^b):=by
 let hi:i<qs.length:=by
  rw [Z.lq];show(be.mp e).1
 obtain ⟨q,D⟩:∃q,qs[i]?=some q:=#[_,gE hi];let(u,w):=Z.s3 i l q e D
 let G:∀a∈ps++[q],∀j,(a.getD j 0).natAbs<=2^b:=λa X=>by
  rcases MU.mp X with z|z
  ·show H a (Z.po a z)
  ·rw [MJ.mp z]
   show H q (Z.qo q (IH D))
 let I:(ps++[q]).length=Y.length+1:=by simp [Z.lp]
 let(zs,R,nz,bz,p):=Vc (n:=Y.length+1) (A:=2^b) (eqs:=Y.map λx=>(ps++[q]).map λa=>a.getD x.1 0) fN (Ur) λy Q=>by
  let(x,T,rfl):=GV.mp Q;rw [<-I];show zaT G
 rw [Wp] at bz
 let B:∀x∈Y,m7 zs (ps++[q]) x.1=0:=λx T=>by
  rw [<-BL];show p _ (GV.mpr (x,T,O))
 let k:d5 (Y.map (·.2)++[l]) λj=>((m7 zs (ps++[q]) j:Int):Rat):=(pe zs (ps++[q])).trans λa X=>by
  rcases MU.mp X with z|z
  ·show(Z.s2 a z).mono λy Q=>V7 _ Q
  ·rw [MJ.mp z]
   show w
 let(a,X):=d5.last k
 let E:=P.zero X λx T=>by
  rw [B x T];unfold col;rw [hz x T];change ((0:Int):Rat)-a*((0:Int):Rat)=0;grind
 by_cases c:a=0
 ·exfalso
  subst c
  let C:∀j,m7 zs (ps++[q]) j=0:=λj=>by
   have:=E j;let h:((m7 zs (ps++[q]) j:Int):Rat)=((0:Int):Rat):=by grind
   show GZ.mp h
  obtain ⟨U,z,rfl⟩:∃U z,zs=U ++[z]:=by
   rcases amC zs with h|⟨U,z,h⟩
   ·rw [h] at R
    simp at R
   ·show(U,z,by rw [h,amD])
  let S:U.length=ps.length:=by
   rw [Z.lp];simpa using R
  let M:∀j,m7 U ps j+z*q.getD j 0=0:=λj=>by
   rw [<-wc j z q S];show C j
  by_cases N:z=0
  ·subst N
   let(x,T,J):=nz;let all:=Z.ind U S λj=>by simpa using M j
   rcases MU.mp T with h|h
   ·show J (all x h)
   ·show J (MJ.mp h)
  ·let g:d5 ps (col q):=((pe U ps).mul (-1 / (z:Rat))).congr λj=>by
    let m:((m7 U ps j+z*q.getD j 0:Int):Rat)=((0:Int):Rat):=by rw [M j]
    rw [anp,Vg] at m;let zr:(z:Rat)≠0:=c7 N;unfold col;grind
   let f:d5 ps (col l):=u.trans λa X=>by
    rcases MU.mp X with h|h
    ·show d5.mem h
    ·rw [MJ.mp h]
     show g
   show aff L (P.cols (f.trans Z.s2) hz)
 ·let le:=Vd L c (v:=λj=>m7 zs (ps++[q]) j) (λj=>by have:=E j;grind) j
  show GX le ?_;have:=Mh j (zs:=zs) (A:=ps++[q]) bz λa X=>G a X j;rwa [I] at this
def Ta.need (Z:Ta os Y lv ps qs)(P:S_ Y){x:Χ}(S:x∈Y)(H:∀o∈os,∀j,(o.getD j 0).natAbs<=2^b)(M:Prm x.2)(j:Nat):(x.2.getD j 0).natAbs<=(Y.length+1)*((2*(Y.length+1)*2^b)^Y.length*2^b):=by
 let R:∀a∈ps,∀j,(a.getD j 0).natAbs<=2^b:=λa U=>H a (Z.po a U)
 let E:(Y.filter λy=>decide (y.1≠x.1)).length<Y.length:=by
  let G:(Y.filter λy=>decide (y.1≠x.1)).length<=Y.length:=vV ..
  rcases Nat.lt_or_eq_of_le G with h|h
  ·show h
  ·have:=List.length_filter_eq_length_iff.mp h x S
   simp at this
 let(zs,J,nz,bz,N):=Vc (n:=Y.length) (A:=2^b) (eqs:=(Y.filter λy=>decide (y.1≠x.1)).map λy=>ps.map λa=>a.getD y.1 0) (by rwa [Wp]) (Ur) λy X=>by
  let(z,D,rfl):=GV.mp X;rw [<-Z.lp];show zaT R
 rw [Wp] at bz
 let Q:∀y∈Y,y.1≠x.1->m7 zs ps y.1=0:=λy X T=>by
  rw [<-BL];show N _ (GV.mpr (y,V0.mpr #[X,by simpa using T],O))
 let I:d5 (Y.map (·.2)) λj=>((m7 zs ps j:Int):Rat):=(pe zs ps).trans Z.s2
 let(a,U):=P.one I S λy X T=>by
  rw [Q y X T];rfl
 let c:a≠0:=λz=>by
  subst z;let(y,X,L):=nz;show L (Z.ind zs (by rw [J,Z.lp]) (λj=>?_) y X)
  let h:((m7 zs ps j:Int):Rat)=((0:Int):Rat):=by
   rw [U j];change 0*col x.2 j=0;grind
  show GZ.mp h
 let le:=Vd M c (v:=λj=>m7 zs ps j) U j;show GX le ?_;have:=Mh j (zs:=zs) (A:=ps) bz λa U=>R a U j;rw [Z.lp] at this;show GX this (Qq cr (Qq ?_ (DX _)));show GX (ah_ (RE _ (show 2*Y.length<=2*(Y.length+1) by omega)) _) ?_;show Qt (Nat.mul_pos cr (anq _)) cr
def ada (U:s+1<=1024):(s+1)*((2*(s+1)*2^b)^s*2^b)<=2^((s+1)*(b+11)):=by
 let X:2*(s+1)*2^b<=2^(b+11):=by
  have:2*(s+1)<=2^11:=by
   change 2*(s+1)<=2048;omega
  rw [Uv,ZL (2^b)];show RE _ this
 let Y:(2*(s+1)*2^b)^s<=2^((b+11)*s):=by
  rw [Nat.pow_mul];show ah_ X s
 let Z:s+1<=2^11:=by
  change s+1<=2048;omega
 let e:(s+1)*(b+11)=11+((b+11)*s+b):=by
  rw [UP,KR,ZL s];omega
 rw [e,Uv,Uv];show Qq Z (RE _ Y)
def Ox (k:xY line BJ new c)(X:d5 B (col line))(Y:d5 B (col BJ)):d5 B (col new):=by
 let(s,t,u,Z,S,e):=k.ib;let T:=c7 Z;show((X.mul ((t:Rat) / s)).add (Y.mul (-(u:Rat) / s))).congr λj=>?_;let U:((s*new.getD j 0:Int):Rat)=((t*line.getD j 0-u*BJ.getD j 0:Int):Rat):=by rw [e j]
 rw [Vg,anr,Vg,Vg] at U;unfold col;grind
def Oy (k:xY line BJ new c)(X:d5 B (col new))(Y:d5 B (col BJ)):d5 B (col line):=by
 let(s,t,u,S,Z,e):=k.ib;let T:=c7 Z;show((X.mul ((s:Rat) / t)).add (Y.mul ((u:Rat) / t))).congr λj=>?_;let U:((s*new.getD j 0:Int):Rat)=((t*line.getD j 0-u*BJ.getD j 0:Int):Rat):=by rw [e j]
 rw [Vg,anr,Vg,Vg] at U;unfold col;grind
def Ta.step {S N :ν}{Q Mi ps qs:ζ}{X:ο}{j c:Nat}(Z:Ta os S Q ps qs)(P:S_ S)(ej:Q[j]?=some X)(hz:∀x∈S,X.getD x.1 0=0)(hc:X.getD c 0≠0)
  (lL:Mi.length=(Q.eraseIdx j).length) (ML:∀(i:Nat)(x:ο),(Q.eraseIdx j)[i]?=some x->∃y,Mi[i]?=some y/\xY x X y c) (lN:N.length=S.length) (MN:∀(i:Nat)(x:ο),(S.map (·.2))[i]?=some x->∃y,(N.map (·.2))[i]?=some y/\xY x X y c):∃C D,Ta os (N ++[(c,X)]) Mi C D:=by
 let hj:j<Q.length:=(be.mp ej).1;obtain ⟨q,eq⟩:∃q,qs[j]?=some q:=#[_,gE (by rwa [Z.lq])];let(H,t2):=Z.s3 j X q ej eq;let B:X∈(N ++[(c,X)]).map (·.2):=by simp
 let R:∀x∈S.map (·.2),d5 ((N ++[(c,X)]).map (·.2)) (col x):=λx m=>by
  let(i,E):=LP m;let(y,ey,k):=MN i x E;show Oy k (d5.mem ?_) (d5.mem B);rw [QC];show V7 _ (IH ey)
 let g:∀y∈N.map (·.2),∃x∈S.map (·.2),xY x X y c:=λy u=>by
  let(i,E):=LP u;let hi:=(be.mp E).1;rw [Wp] at hi;obtain ⟨x,U⟩:∃x,(S.map (·.2))[i]?=some x:=#[_,gE (by rw [Wp];omega)];let(y',Xj,k):=MN i x U;erw [E] at Xj;show(x,IH U,k)
 let up:∀{f:Nat->Rat},d5 ps f->d5 (ps++[q]) f:=λh=>h.mono λa Y=>V7 _ Y;show(ps++[q],qs.eraseIdx j,λp L=>?_,λp L=>Z.qo p (Om L),by simp [Z.lp,lN],?_,λx m=>?_,λp L=>?_,λi l' q' e1 J=>?_,λzs A w a Y=>?_)
 ·rcases MU.mp L with z|z
  ·show Z.po p z
  ·rw [MJ.mp z]
   show Z.qo q (IH eq)
 ·rw [lL,HW,HW,Z.lq]
 ·rcases MU.mp m with z|z
  ·let(y,u,k):=g x.2 (GV.mpr (x,z,O))
   let(x0,o,rfl):=GV.mp u;show Ox k (up (Z.s1 x0 o)) H
  ·rw [MJ.mp z]
   show H
 ·rcases MU.mp L with z|z
  ·show(Z.s2 p z).trans R
  ·rw [MJ.mp z]
   show t2.trans λa Y=>?_
   rcases MU.mp Y with h|h
   ·show R a h
   ·rw [MJ.mp h]
    show d5.mem B
 ·let hi:=(be.mp e1).1
  obtain ⟨x,U⟩:∃x,(Q.eraseIdx j)[i]?=some x:=#[_,gE cr];let(y',Xj,k):=ML i x U;erw [e1] at Xj
  obtain ⟨G,f1,f2⟩:∃G,Q[G]?=some x/\qs[G]?=some q':=by
   rw [O_] at U J;by_cases h:i<j
   ·rw [jY h] at U J
    show(_,U,J)
   ·rw [iO h] at U J
    show(_,U,J)
  let(u1,u2):=Z.s3 G x q' f1 f2;constructor
  ·show Ox k (u1.mono λa Y=>?_) (H.mono λa Y=>V7 _ Y)
   rcases MU.mp Y with h|h
   ·show V7 _ (V7 _ h)
   ·show V2 _ h
  ·show u2.trans λa Y=>?_
   rcases MU.mp Y with h|h
   ·show(R a h).mono λb hb=>V7 _ hb
   ·rw [MJ.mp h]
    show Oy k (d5.mem fN) (d5.mem (V7 _ B))
 ·obtain ⟨T,z,rfl⟩:∃T z,zs=T ++[z]:=by
   rcases amC zs with h|⟨T,z,h⟩
   ·rw [h] at A
    simp at A
   ·show(T,z,by rw [h,amD])
  let M:T.length=ps.length:=by simpa using A
  let sp:∀j,m7 T ps j+z*q.getD j 0=0:=λj=>by
   rw [<-wc j z q M];show w j
  let I:z=0:=by
   apply Qi;intro I
   let hq:d5 ps (col q):=((pe T ps).mul (-1 / (z:Rat))).congr λj=>by
    let s':((m7 T ps j+z*q.getD j 0:Int):Rat)=((0:Int):Rat):=by rw [sp j]
    rw [anp,Vg] at s';let zr:(z:Rat)≠0:=c7 I;unfold col;grind
   let hl:d5 ps (col X):=H.trans λa Y=>by
    rcases MU.mp Y with h|h
    ·show d5.mem h
    ·rw [MJ.mp h]
     show hq
   show hc (P.cols (hl.trans Z.s2) hz c)
  rcases MU.mp Y with h|h
  ·show Z.ind T M (λj=>by have:=sp j;rw [I] at this;simpa using this) a h
  ·rw [MJ.mp h]
   show I
end Ty
namespace Ty
open PySem PySem.Spec PyProof.Rows L2
section
variable {prog:LS}{w:World}{A:Mf}{E:δ}{s:G_}
def aaE (d:AZ)(Z:(d==U')=false):
  MeetsIn prog w (Builtin.«dict.values» #[[.ref d],[]]) (λ_ R s=>s.TypeIs (.ref d) "dict"/\
   R (.ok (.ret (.ref s.heap.objs.size))) {s with heap:=s.heap.push {cls:=.type "dict_values",data:=.fields (List.toArray [.ref d])}}):=
 .of_wp λA R s ⟨Y,h⟩=>by
  show IC ?_;unfold Builtin.Dict.noArgs;show IC (wpAny_notOrdered_dict Y ?_);change DA _ _ (pure d) _ _ s;show LN ?_;change DA _ _ (Builtin.Dict.showsAll d >>=_) _ _ s;unfold Builtin.Dict.showsAll;rw [iO (by rw [Z];show P7)];show IC (LN ?_);show IC (wpAny_newObj_type (LN (_,O,h)))
end
inductive Tc {Y Z:Type}(p:Y->Z->Prop):Prop where
 | mk (U:Y)(X:Z)(h:p U X):Tc p
inductive Zz {X Y Z:Type}(p:X->Y->Z->Prop):Prop where
 | mk (S:X)(T:Y)(U:Z)(h:p S T U):Zz p
inductive Td {U X Y Z:Type}(p:U->X->Y->Z->Prop):Prop where
 | mk (Q:U)(R:X)(S:Y)(T:Z)(h:p Q R S T):Td p
inductive Ex5 {T U X Y Z:Type}(p:T->U->X->Y->Z->Prop):Prop where
 | mk (N:T)(P:U)(Q:X)(R:Y)(S:Z)(h:p N P Q R S):Ex5 p
inductive Ex6 {S T U X Y Z:Type}(p:S->T->U->X->Y->Z->Prop):Prop where
 | mk (L:S)(M:T)(N:U)(P:X)(Q:Y)(R:Z)(h:p L M N P Q R):Ex6 p
inductive Ex9 {P Q R S T U X Y Z:Type}(p:P->Q->R->S->T->U->X->Y->Z->Prop):Prop where
 | mk (D:P)(E:Q)(G:R)(H:S)(I:T)(J:U)(L:X)(M:Y)(N:Z)(h:p D E G H I J L M N):Ex9 p
section
variable {P:LS}{w:World}{K:Frag}{mg:ι}{gN:Heap}{CX:oI}{N ps:τ}{k:Nat}{sp:Sp}{st:Stmt}
def Def.oo (D:Def K mg x st ps)(S:aw N ps (ae st))
  (T:∀{f:AZ} {Y:Value} {A:Mf} {U:List Env} {s:G_} {vs:γ} {Q:VK} {E:XK} (H:Hp),cp k (A.deeper (Qv x (ae st) s.heap.objs.size f Y))->sp vs H Q E->
   ∃t,qv (nN CX P w K mg gN N x (ae st) f Y A U s H E).ve (ao st) t/\t {nx:=λ_ R=>Q .cK R,rt:=Q} (start N vs) H) (Z:∀vs H Q E,sp vs H Q E->vs.length=ps.length:=by intro vs H Q E h;cases h;subst_vars;rfl):Fn P w K mg gN CX (k+1) x ps sp:=D.ok S Z λ_ _ _ _ _ H _ _ _ X h=>T H X h
def Def.op (D:Def K mg x st ps)(S:aw N ps (ae st))
  (U:∀(f:AZ)(Y:Value)(A:Mf)(X:List Env)(s:G_)(H:Hp)(vs:γ)(Q:VK)(E:XK),cp k (A.deeper (Qv x (ae st) s.heap.objs.size f Y))->sp vs H Q E->
   ∃t,qv (nN CX P w K mg gN N x (ae st) f Y A X s H E).ve (ao st) t/\t {nx:=λ_ T=>Q .cK T,rt:=Q} (start N vs) H) (Z:∀vs H Q E,sp vs H Q E->vs.length=ps.length:=by intro vs H Q E h;cases h;subst_vars;rfl):Fn P w K mg gN CX (k+1) x ps sp:=D.ok S Z U
def i5 (F:nO K name qual st f fd)(S:aw N ps (ae st))
  (T:∀{Y:Value} {A:Mf} {U:List Env} {s:G_} {vs:γ} {Q:VK} {E:XK} (H:Hp),cp k (A.deeper (Qv qual (ae st) s.heap.objs.size f Y))->sp vs H Q E->
   ∃t,qv (qC P w K mg gN N qual (ae st) f Y A U s H E).ve (ao st) t/\t {nx:=λ_ R=>Q .cK R,rt:=Q} (start N vs) H) (Z:∀vs H Q E,sp vs H Q E->vs.length=ps.length:=by intro vs H Q E h;cases h;subst_vars;rfl):cO P w K mg gN (aU P w) (k+1) f fd ps sp:=afx F S Z λ_ _ _ _ H _ _ _ X h=>T H X h
def Vf (P:LS)(w:World){X:Cx}:Passes (aU P w) X.ve E0:=tI aU.BB
end
section
variable {X:Cx}{i:Nat}{x y:Str}{a b c d e e1 e2 e3 e4 e5 elt target iter:Expr}{es ifs:Α}{te ta tb t1 t2 t3 t4 t5:TE}{wi:TI}{g:TG}{tt:TT}{pos pos' py yi p:Pos}{scope:Scope}{tn fr:τ}{kI:Ψ}
def aC (i:Nat)(R:X.N.Nodup)(S:PE X e te)(U:X.N[i]?=some x:=by rfl)(Z:Loc X.env.scope x:=by first|show .inl rfl|show .inr rfl)(Y:Vw e (some (.Name x pos')) pos.line X.env=pure false:=by rfl)(T:X.fn x=true\/X.env.scope.names.lookup x=some .local:=by first|show .inl rfl|show .inr rfl|assumption):
  PS X (.Assign [.Name x pos'] e pos) (LJ te (dZ i)):=acg R U Z S Y T
def cB (i:Nat)(T:X.N.Nodup)(Y:X.N[i]?=some x:=by rfl)(Z:Loc X.env.scope x:=by first|show .inl rfl|show .inr rfl)(U:X.fn x=true\/X.env.scope.names.lookup x=some .local:=by first|show .inl rfl|show .inr rfl|assumption):PG X (.Name x pos) (dZ i):=du T Y Z U
def bC (Y:IxR X r)(T:PE X a ta)(U:PE X b tb)(Z:akp b:=by show λ_ _=>O):PE X (.Subscript a b pos) (tOp r ta tb):=UA Y T U Z
def bU (Z:mZ X (Qo op) r)(T:PE X a ta)(U:PE X b tb)(Y:oq op b=false:=by show j5 _):PT X (.Compare a [op] [b] pos) (aa' (tOp r ta tb)):=vg Z T U Y
def aR (Y:PE X e1 t1)(Z:isStar e1=false:=by rfl):PA X [e1] (tG t1 iN):=Lz Y gC Z
def aJ (T:PE X e1 t1)(U:PE X e2 t2)(Y:isStar e1=false:=by rfl)(Z:isStar e2=false:=by rfl):PA X [e1,e2] (tG t1 (tG t2 iN)):=Lz T (aR U Z) Y
def b8 (R:PE X e1 t1)(S:PE X e2 t2)(T:PE X e3 t3)(U:isStar e1=false:=by rfl)(Y:isStar e2=false:=by rfl)(Z:isStar e3=false:=by rfl):PA X [e1,e2,e3] (tG t1 (tG t2 (tG t3 iN))):=Lz R (aJ S T Y Z) U
def Oz (P:qk scope X.env=pure (bJ X.env fr):=by show O)(Q:∀y∈scope.names,y.2≠.cell:=by decide+kernel)(R:scope.kind=.function:=by show O)(S:∀y∈scope.names,y.2=.local->scope.names.lookup y.1=some .local:=by decide+kernel)(T:∀y∈scope.names,y.2=.free->y.1∈fr:=by decide+kernel)(U:kI.map (λi=>X.N[i]?)=fr.map some:=by show O)
  (Y:jD X.env fr:=by repeat (first|show trivial|show#[by first|show Qk rfl|show α8 rfl,?_])) (Z:jD (compEnvC scope [] 0 X.env) fr:=by repeat (first|show trivial|show#[by first|show Qk rfl|show α8 rfl,?_])):BD X scope fr kI:=(P,Q,R,S,T,U,Y,Z)
def we (T:PI X target iter wi)(S:∀C s H Z,PG (vm X (tn++fr) scope (bJ X.env fr) C s H Z) target g)(Y:∀C s H Z,PF (vm X (tn++fr) scope (bJ X.env fr) C s H Z) ifs tt)(R:∀{C s H Z},PE (vm X (tn++fr) scope (bJ X.env fr) C s H Z) elt te)
  (Q:X.calm=true:=by rfl) (B:BD X scope fr kI:=by show Oz) (U:∀x,σ5 iter X.env x=pure x:=by intro _;rfl):PE X (.ListComp elt [(target,iter,ifs,0)] scope pos) (tK tn.length kI wi g tt te):=agb Q B T S Y (λ_ _ _ _=>R) U
def agV (T:(tn++fr).Nodup)(S:(tn++fr)[0]?=some y)(Y:∀C s H Z,Loc (vm X (tn++fr) scope (bJ X.env fr) C s H Z).env.scope y)(U:∀C s H Z,(vm X (tn++fr) scope (bJ X.env fr) C s H Z).fn y=true\/(vm X (tn++fr) scope (bJ X.env fr) C s H Z).env.scope.names.lookup y=some .local):∀C s H Z,PG (vm X (tn++fr) scope (bJ X.env fr) C s H Z) (.Name y py) (dZ 0):=λC s H Z=>du T S (Y C s H Z) (U C s H Z)
def iw (S:PI X (.Name y py) iter wi)(R:∀{C s H Z},PE (vm X (tn++fr) scope (bJ X.env fr) C s H Z) elt te)
  (Q:X.calm=true:=by rfl) (B:BD X scope fr kI:=by show Oz) (U:∀x,σ5 iter X.env x=pure x:=by intro _;rfl) (P:(tn++fr).Nodup:=by decide+kernel) (N:(tn++fr)[0]?=some y:=by rfl) (Y:∀C s H Z,Loc (vm X (tn++fr) scope (bJ X.env fr) C s H Z).env.scope y:=by show λ_ _ _ _=>.inl rfl) (T:∀C s H Z,(vm X (tn++fr) scope (bJ X.env fr) C s H Z).fn y=true\/(vm X (tn++fr) scope (bJ X.env fr) C s H Z).env.scope.names.lookup y=some .local:=by intro _ _ _ _;first|show .inl rfl|show .inr rfl):PE X (.ListComp elt [(.Name y py,iter,[],0)] scope pos) (tK tn.length kI wi (dZ 0) oX te):=agb Q B S (agV P N Y T) (λ_ _ _ _=>j7) (λ_ _ _ _=>R) U
def Mj (J:X.N.Nodup)(R:PI X target iter wi)(Q:∀C s H Z,PG (vm X (tn++fr) scope (bJ X.env fr) C s H Z) target g)(T:∀C s H Z,PF (vm X (tn++fr) scope (bJ X.env fr) C s H Z) ifs tt)(M:∀{C s H Z},PE (vm X (tn++fr) scope (bJ X.env fr) C s H Z) elt te)
  (Y:X.N[i]?=some x:=by rfl) (U:Loc X.env.scope x:=by first|show .inl rfl|show .inr rfl) (L:X.calm=true:=by rfl) (B:BD X scope fr kI:=by show Oz) (I:Vw (.ListComp elt [(target,iter,ifs,0)] scope pos) (some (.Name x py)) yi.line X.env=pure true:=by rfl)
  (S:∀x,σ5 iter X.env x=pure x:=by intro _;rfl) (P:X.fn x=true\/X.env.scope.names.lookup x=some .local:=by first|show .inl rfl|show .inr rfl|assumption):
  PS X (.Assign [.Name x py] (.ListComp elt [(target,iter,ifs,0)] scope pos) yi) (LJ (tK tn.length kI wi g tt te) (dZ i)):=ag_ J Y U L B R Q T (λ_ _ _ _=>M) I S P
def wg (I:X.N.Nodup)(P:PI X (.Name y yp) iter wi)(L:∀{C s H Z},PE (vm X (tn++fr) scope (bJ X.env fr) C s H Z) elt te)
  (U:X.N[i]?=some x:=by rfl) (S:Loc X.env.scope x:=by first|show .inl rfl|show .inr rfl) (J:X.calm=true:=by rfl) (B:BD X scope fr kI:=by show Oz) (E:Vw (.ListComp elt [(.Name y yp,iter,[],0)] scope pos) (some (.Name x py)) yi.line X.env=pure true:=by rfl)
  (R:∀x,σ5 iter X.env x=pure x:=by intro _;rfl) (M:X.fn x=true\/X.env.scope.names.lookup x=some .local:=by first|show .inl rfl|show .inr rfl|assumption) (T:(tn++fr).Nodup:=by decide+kernel) (G:(tn++fr)[0]?=some y:=by rfl) (Y:∀C s H Z,Loc (vm X (tn++fr) scope (bJ X.env fr) C s H Z).env.scope y:=by show λ_ _ _ _=>.inl rfl) (Q:∀C s H Z,(vm X (tn++fr) scope (bJ X.env fr) C s H Z).fn y=true\/(vm X (tn++fr) scope (bJ X.env fr) C s H Z).env.scope.names.lookup y=some .local:=by intro _ _ _ _;first|show .inl rfl|show .inr rfl):
  PS X (.Assign [.Name x py] (.ListComp elt [(.Name y yp,iter,[],0)] scope pos) yi) (LJ (tK tn.length kI wi (dZ 0) oX te) (dZ i)):=ag_ I U S J B P (agV T G Y Q) (λ_ _ _ _=>j7) (λ_ _ _ _=>L) E R M
def aK {E:XK}(F:Fn X.prog X.w X.K X.mg X.gN (aU P w) k x ps sp)(U:cp l X.A)(Q:PA X (e::es) t)(T:k<=l:=by decide)(Y:Passes (aU P w) X E:=by show tI aU.BB)(S:Gl X x:=by rfl)(N:(x==("__debug__":Str))=false:=by decide)
  (R:JF (e::es) X.env=(false,II e X.env)::JF es X.env:=by rfl) (Z:(QG pos (JF es X.env)).any (·.1)=false:=by rfl):PE X (.Call (.Name x p) (e::es) [] pos) (N2 sp [] E t):=tJ F (U.mono T) Y Q S N R Z
def tS {E:XK}(F:Fn X.prog X.w X.K X.mg X.gN (aU P w) k x ps sp)(U:cp l X.A)(Q:PA X (e::es) t)(T:k<=l:=by decide)(Y:Passes (aU P w) X E:=by show abi aU.BB rfl)(S:Gl X x:=by rfl)(N:(x==("__debug__":Str))=false:=by decide)
  (R:JF (e::es) X.env=(false,II e X.env)::JF es X.env:=by rfl) (Z:(QG pos (JF es X.env)).any (·.1)=false:=by rfl):PE X (.Call (.Name x p) (e::es) [] pos) (N2 sp [] E t):=tJ F (U.mono T) Y Q S N R Z
end
def BMain (mg:ι)(h:Heap):Prop:=∃Y Z,mg "__builtins__"=some (.ref Y)/\Y≠ZT/\h.get? Y=some Z/\Z.cls=.type "module"/\Z.dict=some ZT/\Z.data=.plain
def restOf (h:Heap)(L:AZ):List (AZ×Obj):=(LK h.objs.size).filterMap λa=>if a=L then none else (h.get? a).map λo=>(a,o)
def og (e:h.get? b=some o)(n:b≠L):(b,o)∈restOf h L:=uu.mpr (b,QF.mpr (JN e),by rw [iO n,e];rfl)
def BN:Heap:={objs:= #[]}
def wj (b:AZ):BN.get? b=none:=by
 cases h:BN.get? b with
 | none=>rfl
 | some o=>show DB (JN h) (Qn _)
def aa5 :News BN L h (restOf h L):=λp Z=>by
 let(a,_,e):=uu.mp Z;by_cases z:a=L
 ·rw [jY z] at e
  cases e
 ·rw [iO z] at e
  let(o,Y,rfl):=MK.mp e;show(Y,z,wj _)
def aiy {m:ι}(Z:h.Ns L m):Fr BN L h m:=(Z,(λb o e=>by erw [wj] at e),P1 _)
def JH (q:Str)(c:AZ):HO:=.ext λh=>h.CodeRec (.ref c) q
def ae5 (x:h.CodeRec (.ref c) q):dF P w H h c (JH q c):=by
 let(Y,o,Z,t,e,g,r):=id x;cases e;show(x,#[o,g],λU X k s=>?_);let(Y,o,Z,t,e,g,r):=k;cases e;show(_,o,Z,t,O,s o g,r)
def JI (H:Hp)(P:AZ)(Z:Pos)(q:Str):Prop:=H P=some (.lj #[])\/∃c,H P=some (.lj (List.toArray [PZ Z.line,PZ Z.col,.ref c]))/\H c=some (JH q c)
section
variable {X:Cx}
def Inv.agX {Y:L2.St}(I:Inv X AO Y H s):s.heap.Ns LO X.mg:=I.mod.glob.keeps I.bk
def adm {Y:L2.St}{Q:δ}{E:δ}
  (I:Inv X AO Y H s) (aoV:defaultsOf params X.env=([],[])) (x:qk scope X.env=pure vO) (OB:X.env.code=.ref cA) (hC:ot X.K cA P=true) (hB:BMain X.mg X.gN) (U:JI H P pos (X.env.qual++ "<lambda>"))
  (h:∀(f c:AZ)(pm J:Value)(H':Hp)(C:G_),Inv X AO Y H' C ->(∀b o,b≠P->H b=some o->H' b=some o)->(∀b,H b=none->s.heap.objs.size<=b\/H' b=none)->JI H' P pos (X.env.qual++ "<lambda>")->
   (∀b o,b≠P->s.heap.get? b=some o->C.heap.get? b=some o)->C.heap.get? f=some (yf "<lambda>" (X.env.qual++ "<lambda>") params body scope vO pm c J)->H' f=none->C.heap.CodeRec (.ref c) (X.env.qual++ "<lambda>")->Q (.ref f) C):
  DA (DW X.prog X.w) X.A (II (.Lambda params body scope pos) X.env) Q E s:=by
 let q:PySem.W.CodeHd s.heap cA P:=PySem.W.codeHd_of_K I.yb hC;let(bm,ob,b1,b2,b3,b4,b5,b6):=hB;let G:=I.bk _ _ b3;let i:=Inv.agX I
 let gd:∀{b:AZ} {m:ι} {S:Ν},s.heap.Ns b m->s.heap.get? b≠some (ZV S):=λ{b m S} ⟨o,es,ep,e,d,_⟩ z=>by
  erw [e] at z;cases d
 let n1:bm≠LO:=λz=>by
  let(o,es,ep,e,d,_):=i;erw [z,e] at G;erw [d] at b6
 let T:∀S:Array Value,s.heap.get? P=some (ZV S)->s.heap.BuiltinsAt X.mg P:=λS M=>by
  let n2:bm≠P:=λz=>by
   erw [z,M] at G;cases b4
  show(bm,ob,b1,b2,n1,n2,G,b4,b5,b6)
 let p:∀S,H P=some (.lj S)->s.heap.get? P=some (ZV S):=λS e=>I.cg P _ e;show PySem.W.kla_eval aoV ?_
 rcases U with U|⟨c,U,hc⟩
 ·let M:=p _ U
  show PySem.W.kla_makeFunction (mg:=X.mg) x I.ok.glob i OB q M (by trivial) rfl (λz=>gd (z▸i) M) (T _ M) λZ J L a hx N mY g htb=>?_;have j :L.get? P=some (ZV (List.toArray [PZ pos.line,PZ pos.col,.ref Z])):=by simpa using htb
  let B:∀b,H b=none->b≠P:=λb n z=>by erw [z,U] at n
  let lP:P<s.heap.objs.size:=JN M;let cP:Z≠P:=ZM (P_ lP N);let Hc:H Z=none:=I.cg.fresh N;let sz:s.heap.objs.size<=L.objs.size:=GX N (Qr mY);let R:∀b o,b≠P->s.heap.get? b=some o->(L.push (yf "<lambda>" (X.env.qual++ "<lambda>") params body scope vO ((X.mg "__name__").getD .none) Z J)).get? b=some o:=λb o n e=>LM _ (hx b o n e)
  let D:∀b o,b≠P->H b=some o->upd (upd H P (.lj (List.toArray [PZ pos.line,PZ pos.col,.ref Z]))) Z (JH (X.env.qual++ "<lambda>") Z) b=some o:=λb o n e=>by
   rw [ag (λz=>by erw [z,Hc] at e),ag n];show e
  let st:∀{b u},b≠P->dF X.prog X.w H s.heap b u->dF X.prog X.w (upd (upd H P (.lj (List.toArray [PZ pos.line,PZ pos.col,.ref Z]))) Z (JH (X.env.qual++ "<lambda>") Z)) (L.push (yf "<lambda>" (X.env.qual++ "<lambda>") params body scope vO ((X.mg "__name__").getD .none) Z J)) b u:=λ{b u} nb k=>k.vC (λd v hd e=>R d v (λz=>by
    rcases hd with y|y
    ·show nb (y▸z)
    ·erw [z,U] at y) e) (λd e=>D d _ (λz=>by erw [z,U] at e) e) λd xs e=>D d _ (λz=>by erw [z,U] at e) e
  let I2:Inv X AO Y (upd (upd H P (.lj (List.toArray [PZ pos.line,PZ pos.col,.ref Z]))) Z (JH (X.env.qual++ "<lambda>") Z)) {s with heap:=L.push (yf "<lambda>" (X.env.qual++ "<lambda>") params body scope vO ((X.mg "__name__").getD .none) Z J),gens:=s.gens,drawn:=s.drawn,toks:=a}:=by
   show I.step (ch:=[]) (λ_ z=>nomatch z) (λb o _ _ _ e n=>R b o (B b n) e) (λb o _ _ _ e n=>#[o.slots,R b o (B b n) e]) (λb o _ e n=>?_) (λb o _ e=>?_) (λb xs e=>D b _ (λz=>by erw [z,U] at e) e) (λb o u e=>D b _ (λz=>by erw [z,U] at e) e) (λb S e=>?_) (λm hm=>?_) (λb u e=>?_) I.bare
   ·rw [ag (λz=>by rw [z] at e;show DB (JN e) (Nat.not_lt.mpr N)),ag (B b n)]
    show n
   ·by_cases z:b=P
    ·rw [z]
     show#[_,LM _ j]
    ·show#[o,R b o z e]
   ·by_cases z:b=P
    ·subst z
     erw [U] at e;show#[(List.toArray [PZ pos.line,PZ pos.col,.ref Z]),by rw [ag (IL cP),af];rfl]
    ·show#[#[],by rw [D b _ z e];simp]
   ·let(o,es,ep,e,r):=hm
    show(o,es,ep,R _ _ (B _ I.free) e,r)
   ·by_cases z:b=Z
    ·subst z
     erw [af] at e;show ae5 (g.push _)
    ·rw [ag z] at e
     by_cases y:b=P
     ·subst y
      erw [af] at e;show(show _=_ from LM _ j)
     ·rw [ag y] at e
      show st y (I.cg b u e)
  show h L.objs.size Z _ J _ _ I2 D (λb n=>?_) (.inr (Z,by rw [ag (IL cP),af],af)) R (QL _ rfl) ?_ (g.push _)
  ·by_cases z:b=Z
   ·show .inl (by rwa [z])
   ·show .inr (by rwa [ag z,ag (B b n)])
  ·rw [ag (ZM mY),ag (ZM (P_ lP sz))]
   show I.cg.fresh sz
 ·let M:=p _ U
  let g:s.heap.CodeRec (.ref c) (X.env.qual++ "<lambda>"):=(I.cg c _ hc).1;show PySem.W.kla_makeFunctionHit (mg:=X.mg) (cv:=.ref c) x I.ok.glob i OB q M (by trivial) (by simp [codeAmong,PZ]) (T _ M) λJ L a hk hsz=>?_;let R:∀b o,s.heap.get? b=some o->(L.push {cls:=.type "function",data:=.func (PySem.W.kla_fn "<lambda>" (X.env.qual++ "<lambda>") params body scope vO ((X.mg "__name__").getD .none) (.ref c) J)}).get? b=some o:=λb o e=>LM _ (hk b o e);show h L.objs.size c _ J H _ (I.kept (t':=a) R) (λb o _ e=>e) (λb n=>.inr n) (.inr (c,U,hc)) (λb o _ e=>R b o e) (QL _ rfl) (I.cg.fresh hsz) (g.keeps R)
end
abbrev zR (Z:Pos):Arguments:={posonlyargs:=[],args:=[{arg:="place",annotation:=none,pos:=Z}],vararg:=none,kwonlyargs:=[],kw_defaults:=[],kwarg:=none,defaults:=[]}
abbrev ph:Scope:={kind:=.function,names:=[(Ql "place",.local),(Ql "self",.free)],isGenerator:=false,isCoroutine:=false,more:=[]}
abbrev aiE (fld:Str)(U X Y Z:Pos):Expr:=.Subscript (.Attribute (.Name "self" U) fld X) (.Name "place" Y) Z
section
variable {prog:LS}{w:World}{A:Mf}{s:G_}{K:Frag}{f c cs a dx C ac:AZ}{q fld:Str}{ap p1 p2 p3 p4:Pos}{pm Te:Value}{mA:ι}{items:ρ}{i k:Nat}{tv t:Tok}{key:Int}
def ahc {h h':Heap}{m:ι}(x:h.Ns b m)(k:∀o,h.get? b=some o->h'.get? b=some o):h'.Ns b m:=by
 let(o,Z,Y,e,r):=x;show(o,Z,Y,k _ e,r)
def ad_ (G:s.heap.get? f=some (yf "<lambda>" q (zR ap) (aiE fld p1 p2 p3 p4) ph [(Ql "self",cs)] pm c Te))(BO:s.heap.CodeRec (.ref c) q)(p:A.depth<ZE)(R:s.heap.NoLimit)
  (Y:s.heap.IsCell cs (some (.ref a))) (g:K.In s.heap) (Z:AQ s.heap a dx C mA) (N:y_ K C) (J:e_ K C fld) (E:mA fld=some (.ref ac)) (D:s.heap.IsList ac items.toArray) (hz:items.length<=HZ) (P:items[i]?=some (.int key t)):
  DA (DW prog w) A (call (.ref f) [.int (i:Int) tv]) (λr L=>∃h' M,L={s with heap:=h',toks:=M}/\r=.int key t/\∀b o,s.heap.get? b=some o->h'.get? b=some o) (λ_ _=>False) s:=by
 show wpAny_call (PySem.W.kla_callFunE p G rfl rfl rfl rfl BO ?_);show LN ?_
 show wpAny_newFunctionEnv (binds:=[(Ql "place",.int (i:Int) tv)]) (show ∀x∈ph.names,x.2≠.cell by decide) (λx H=>by
  rw [MJ.mp H]
  rfl) (λU m T=>?_) rfl
 let X:∀b o,s.heap.get? b=some o->U.get? b=some o:=λb o e=>T.extBut b o (P6 (JN e)) (LM _ e);show#[R.fresh _ T,PySem.W.kla_codeExpr ?_];have S :U.IsCell cs (some (.ref a)):=let ⟨o,e,d⟩:=Y;(o,X _ _ e,d);let Q:K.In U:=λb o e=>X _ _ (g b o e);let j:AQ U a dx C mA:=(X _ _ Z.obj,(let ⟨o,z,y,e,r⟩:=Z.ns;(o,z,y,X _ _ e,r)),Z.ne);have u :U.IsList ac items.toArray:=D.at λo e=>X _ _ e;show Subscript_ ?_;show akO (by rfl) ?_;show wpAny_Name (wpAny_loadName_free rfl rfl rfl S ?_) eY;show get_map Q j (N.get fld) N.hd J E (by rfl) ?_;show wpAny_Name (wpAny_loadName_local rfl rfl m rfl ?_) eY;let B:i<items.length:=(be.mp P).1;let I:=qZ;show item_listR (x:=.int key t) u cr cr (by rw [amW];simpa using P) ?_ (by with_unfolding_all rfl);show(_,_,O,O,X)
end
def adg {h:Heap}{m Z:ι}(x:h.Ns b m)(y:h.Ns b Z):m=Z:=by
 let(o,R,Q,e,d,r):=x;let(S,X,P,U,T,Y):=y;erw [e] at U;erw [d] at T;funext z;let a:=r.2;let b:=Y.2
 first
 | show(a z).symm.trans (b z)
 | show(a.2 z).symm.trans (b.2 z)
def abX (h:env.cells.lookup (Ql "self")=some c):qk ph env=pure [(Ql "self",c)]:=by
 unfold qk;simp [cellOf,h]
def intOf:Value->Int
 | .int c _=>c
 | _=>0
section
variable {X:Cx}
def Vk (K:Frag)(P:AZ)(si:Nat)(fld:Str)(L:Pos)(Z:Str)(Y:L2.St)(Q:VK)(x:V)(U:Hp):Prop:=∃(l a C H I:AZ)(T:Ψ)(M:ο)(J:List (Str×V))(xs:γ),
 x=.ref l/\bh K U l (T.map λ(c:Nat)=>V.int (c:Int))/\T.length<64/\Y[si]?=some (some (.ref a))/\U a=some (.ins C H J)/\y_ K C/\e_ K C fld/\J.lookup fld=some (.ref I)/\bh K U I xs/\M.length=T.length/\
 (∀(i c:Nat)(k:Int),T[i]?=some c->M[i]?=some k->xs[c]?=some (.int k))/\JI U P L (Z++ "<lambda>")/\
 ∀(N:AZ)(R:ε)(S:Hp),(∀b o,b≠P->U b=some o->S b=some o)->JI S P L (Z++ "<lambda>")->U N=none->R.Perm (M.zip (T.map λ(c:Nat)=>(c:Int)))->R.Pairwise (λp q=>p.1<=q.1)->S N=some (.lst (R.map λp=>V.int p.2))->Q (.ref N) S
def adh (K:Frag)(P:AZ)(si:Nat)(fld:Str)(T:Pos)(Z:Str)(U:TE):TE:=λY H Q=>U Y H (Vk K P si fld T Z Y Q)
def zax {si:Nat}{fld:Str}{p g kp lp ap p1 p2 p3 p4:Pos}(hg:Gl X "sorted")(hm:X.mg "sorted"=none)(he:PE X e te)(hN:X.N[si]?=some "self")(hk:X.env.kindOf "self"=some .cell)(hv:Vis X.env.scope "self")(OB:X.env.code=.ref cA)(hC:ot X.K cA P=true)(hB:BMain X.mg X.gN)(Vj:X.A.in1.in1.depth<ZE)
  (hs:JF [e] X.env=[(false,II e X.env)]:=by rfl) (hbk:∀x:Sem Value,QG g [(false,x)]=[(false,x)]:=by intro _;rfl):
  PE X (.Call (.Name "sorted" p) [e] [(some "key",.Lambda (zR ap) (aiE fld p1 p2 p3 p4) ph lp,kp)] g) (adh X.K P si fld lp X.env.qual te):=by
 intro AO s Y H Q I h;show Zf (gZ I hg hm acY ?_);show callWith_kw ?_ (by rw [hs];show hbk _) (by rw [hs,hbk];rfl) rfl rfl;show cJ (akN he gC (by rw [hs];rfl) g AO s Y H (λvs H1=>match vs with|[x]=>Vk X.K P si fld lp X.env.qual Y Q x H1|_=>False) I h) λus s1 ⟨vs,H1,I1,r1,q1⟩=>?_;cases r1 with
 | nil=>show q1.elim
 | cons rx rr=>
  cases rr with
  | cons _ _=>show q1.elim
  | nil=>
  let(l,a,C,dx,ac,j,ks,fs,xs,rfl,hl,h64,ag2,ha,cl,na,hf,hac,hlen,LL,hT,q):=q1;cases rx;let(m,hn,aoW):=I1.loc;let(u,ru,lk):=aoW si _ _ hN ag2 hv;cases ru
  obtain ⟨cc,LG,hcell⟩:∃c,X.env.cells.lookup (Ql "self")=some c/\s1.heap.IsCell c (some (.ref a)):=by
   rcases lk with ⟨k1,_⟩|⟨_,z⟩
   ·rw [hk] at k1
    cases k1
   ·show z
  show kws_cons (adm (P:=P) (cA:=cA) I1 rfl (abX LG) OB hC hB hT λf c pm Te H2 L U kH fH hT2 kk hfo hf2 BO=>?_);show kws_nil ?_;change DA _ _ (call (.builtin "sorted") [.ref l] [(Ql "key",.ref f)]) _ _ L
  let nL:∀{b:AZ} {u:HO},H2 b=some u->b≠X.env.locals:=λ{b u} e z=>by
   erw [z,U.free] at e
  let nP:∀{b:AZ} {u:HO},H1 b=some u->(∀J,u≠.lj J)->b≠P:=λ{b u} e n z=>by
   rw [z] at e
   rcases hT with y|⟨c',y,_⟩<;>(erw [y] at e;show n _ rfl)
  let hlP:∀{b:AZ} {ys:γ},bh X.K H1 b ys->bh X.K H2 b ys:=λ{b ys} y=>by
   rcases y with (y|⟨o,y⟩)|y
   ·show .inl (.inl (kH _ _ (nP y λ_ z=>nomatch z) y))
   ·show .inl (.inr #[o,kH _ _ (nP y λ_ z=>nomatch z) y])
   ·show .inr y
  let ha2:=kH _ _ (nP ha λ_ z=>nomatch z) ha;let(BC,rv,pl,hz):=U.list (hlP hl);let(gw,rv2,pl2,hz2):=U.list (hlP hac);let lv:=rv.length;rw [Wp] at lv;let lv2:=rv2.length;let(mA,Z,rO,_):=vh U.cg ha2
  let hmA:mA fld=some (.ref ac):=by
   let(u,hu,ru):=j3.some_of (v:=.ref ac) (o:=mA fld) (by rw [<-hf];show rO fld);cases ru;show hu
  let(m2,S4,_):=U.loc
  let tP:∃J,s1.heap.get? P=some (ZV J):=by
   rcases hT with y|⟨c',y,_⟩
   ·show#[_,I1.cg P _ y]
   ·show#[_,I1.cg P _ y]
  let adj:L.heap.IsCell cc (some (.ref a)):=by
   let(o,e,d):=hcell;show(o,kk _ _ (λz=>?_) e,d);let(J,S):=tP;erw [z,S] at e;cases d
  let cL:cc≠X.env.locals:=U.cne _ _ LG
  let bL:∀{b:AZ} {o:Obj},X.gN.get? b=some o->b≠X.env.locals:=λ{b o} e z=>by
   let G:=(U.ok.bs b o e).1;have:=JN G;have:=U.ok.above;rw [z] at*;show DB (P_ ‹_› ‹_›) (Qh _)
  let fL:f≠X.env.locals:=λz=>by
   let(o,es,ep,e,d,_):=S4;erw [<-z,hfo] at e;cases d
  let crL:c≠X.env.locals:=λz=>by
   let(o,es,ep,e,d,_):=S4;let(c',o',ix,t',G,S,e3,_):=BO;cases G;erw [z,e] at S;erw [d] at e3
  let stL:cStatics≠X.env.locals:=by
   let(mc,(o,es,ep,e,_),_):=U.mod.nolimit;show bL e
  show ksk_sorted (b:=false) (kz:=ks) (f:=.ref f) (aiy S4) (aa5 (h:=L.heap)) pl.isList cr cr (ksk_s1 _ _) (λx=>ksk_l1 _ _) (λx=>ksk_t1 _ _) (λi v k ei ek h tk own F N=>?_) λD h' tk T c0 F' N' lt ko=>?_
  ·let get:∀{b:AZ} {o:Obj},L.heap.get? b=some o->b≠X.env.locals->h.get? b=some o:=λ{b o} e n=>(N _ (V7 _ (og e n))).1
   let hi:i<BC.length:=(be.mp ei).1;obtain ⟨R,ec⟩:∃R,j[i]?=some R:=#[_,gE cr];let(v',Xk,M):=rv.get (show(j.map λ(c:Nat)=>V.int (c:Int))[i]?=some (.int (R:Int)) by rw [ir,ec];rfl);erw [ei] at Xk;let(tv,rfl):=M;let(w2,ew2,rw2):=rv2.get (LL i R k ec ek);let(t2,rfl):=rw2;let aL:=nL ha2
   let dL:dx≠X.env.locals:=λz=>by
    have:=(U.cg a _ ha2).1;erw [z,U.free] at this
   let aoY:h.IsList ac gw.toArray:=pl2.isList.at λo e=>get e (λz=>by
    let(o',es,ep,e',d,_):=S4;let(o2,S,_,n2,d2):=pl2.isList;erw [z,e'] at S;rw [d] at d2
    cases d2)
   show cJ (E:=λ_ _=>False) (ad_ (s:={L with heap:=h,toks:=tk}) (K:=X.K) (mA:=mA) (get hfo fL) (by
    let(c',o',ix,t',G,S,e3):=BO;cases G
    show(_,o',ix,t',O,get S crL,e3)) Vj (by
    let(mc,n1,n2):=U.nolimit
    show(mc,ahc n1 λo e=>get e stL,n2)) (by
    let(o,e,d):=adj
    show(o,get e cL,d)) (λb o e=>get (U.yb b o e) (bL (U.mod.kin b o e))) (get Z.obj aL,(let ⟨o,es,ep,e,r⟩:=Z.ns;(o,es,ep,get e dL,r)),Z.ne) cl na hmA aoY cr ew2) λr s' ⟨h2,tk2,G,S,k2⟩=>?_
   subst G S;show(h2,tk2,t2,O,O,aiy (ahc F.ns λo e=>k2 _ _ e),λp hp=>#[k2 _ _ (N p hp).1,(N p hp).2])
  ·let get:∀{b:AZ} {o:Obj},L.heap.get? b=some o->b≠X.env.locals->h'.get? b=some o:=λ{b o} e n=>(N' _ (.tail _ (og e n))).1
   let(gD,DL,_):=N' _ (.head _)
   let nD:∀{b:AZ} {o:Obj},L.heap.get? b=some o->b≠D:=λ{b o} e z=>by
    by_cases y:b=X.env.locals
    ·show DL (z▸y)
    ·show DB (lt _ (og e y)) (by rw [z];show Qh _)
   let HD:H2 D=none:=by
    cases y:H2 D with
    | none=>rfl
    | some u=>
     let(o,e):=obj_some (U.cg D _ y);show DB rfl (nD e)
   let B:∀b o,H2 b=some o->upd H2 D (.lst (T.toList.map λu=>V.int (intOf u))) b=some o:=λb o e=>by
    rw [ag (λz=>by erw [z,HD] at e)];show e
   let(J,pp,po,pw):=ko
   let isI:∀u∈BC,∃t,u=.int (intOf u) t:=λu hu=>by
    let(i,ei):=LP hu;let hi:i<BC.length:=(be.mp ei).1;obtain ⟨R,ec⟩:∃R,j[i]?=some R:=#[_,gE cr];let(v',Xk,M):=rv.get (show(j.map λ(c:Nat)=>V.int (c:Int))[i]?=some (.int (R:Int)) by rw [ir,ec];rfl);erw [ei] at Xk;let(tv,rfl):=M;show#[tv,O]
   let aoZ:BC.map intOf=j.map λ(c:Nat)=>(c:Int):=by
    show U3 λi=>?_;rw [ir,ir];by_cases hi:i<BC.length
    ·obtain ⟨R,ec⟩:∃R,j[i]?=some R:=#[_,gE cr]
     let(v',Xk,M):=rv.get (show(j.map λ(c:Nat)=>V.int (c:Int))[i]?=some (.int (R:Int)) by rw [ir,ec];rfl);let(tv,rfl):=M;rw [Xk,ec];rfl
    ·rw [JM cr,JM cr]
     rfl
   let pm2:(J.map λp=>(p.1,intOf p.2)).Perm (ks.zip (j.map λ(c:Nat)=>(c:Int))):=by
    have:=pp.map (λp:Int×Value=>(p.1,intOf p.2));rw [<-aoZ,List.zip_map_right];show this
   let ao0:∀p∈J,p.2∈BC:=λp hp=>(OF (pp.mem_iff.mp hp)).2
   let ao1:T.toList.map (λu=>V.int (intOf u))=(J.map λp=>(p.1,intOf p.2)).map λp=>V.int p.2:=by
    rw [po,P2,P2];rfl
   let rvO:Vals (T.toList.map λu=>V.int (intOf u)) T.toList:=fm fN λi x u G S=>by
    erw [ir,S] at G;let hu:u∈T.toList:=IH S;rw [po] at hu;let(p,hp,rfl):=GV.mp hu;let(t,e):=isI _ (ao0 p hp);show#[t,e]
   let lo:T.toList.length<64:=by
    let h1:=pp.length_eq;rw [po,Wp,h1,ano];omega
   let I3:Inv X AO Y (upd H2 D (.lst (T.toList.map λu=>V.int (intOf u)))) {L with heap:=h',gens:=L.gens,drawn:=L.drawn,toks:=tk}:=by
    show U.step (ch:=[]) (λ_ z=>nomatch z) (λb o n _ _ e _=>get e n) (λb o n _ _ e _=>#[o.slots,get e n]) (λb o _ e n=>by rwa [ag (nD e)]) (λb o _ e=>?_) (λb xs e=>B b _ e) (λb o u e=>B b _ e) (λb J e=>#[#[],by rw [B b _ e];simp]) (λm' Zp =>by rw [adg Zp S4];show F'.ns) (λb u e=>?_) U.bare
    ·by_cases z:b=X.env.locals
     ·let(o',_,_,e',_):=F'.ns
      show#[o',by rwa [z]]
     ·show#[o,get e z]
    ·by_cases z:b=D
     ·subst z
      erw [af] at e;show(by rw [Wp];show GX (Qr lo) eY,T.toList,c0,rvO,by simpa [seqObj] using gD)
     ·rw [ag z] at e
      show(U.cg b u e).vC (λd v hd y=>get y (λx=>?_)) (λd y=>B d _ y) λd xs y=>B d _ y
      rcases hd with w|w
      ·show nL e (w▸x)
      ·rw [x,U.free] at w
       cases w
   show(.ref D,_,I3,O,q D (J.map λp=>(p.1,intOf p.2)) _ (λb o n e=>B b _ (kH b o n e)) ?_ ?_ pm2 ?_ (by rw [af,ao1]))
   ·rcases hT2 with y|⟨c',y,z⟩
    ·show .inl (B _ _ y)
    ·show .inr (c',B _ _ y,B _ _ z)
   ·cases y:H1 D with
    | none=>rfl
    | some u=>
     let(o,e):=obj_some (I1.cg D _ y);by_cases z:D=P
     ·rcases hT2 with x|⟨c',x,_⟩<;>(erw [z,x] at HD)
     ·show DB rfl (nD (kk _ _ z e))
   ·rw [ajd]
    show pw.imp λh=>by simpa using h
end
def acn {K:Frag}{mg mb:ι}{vs:ρ}{G:ο}
  (KX:K.In kJ.heap) (OC:kJ.heap.Ns LO mg) (Z:kJ.heap.Ns ZT mb) (hbb:∀x:Str,x≠ "__name__"->mb x=Qx x) (ade:kJ.heap.NoLimit) (M:kJ.heap.NoSeer) (hbm:BMain mg kJ.heap) (hg:kJ.gens= #[])
  (B:kJ.heap.get? T=some (ZV #[])) (oO:PySem.W.CodeHd kJ.heap cA T) (hKT:K.lookup T=none)
  (C:kJ.heap.get? a=some {cls:=.type "list",data:=.seq vs.toArray}) (hi:IntsAre vs G) (hl:G.length<=HZ) (hr:cp k callerA)
  (F:∀i:Heap,K.In i->i.Ns LO mg->BMain mg i->cO P w K mg i CX k fa fd [x] sp) (ag4:∀(s:G_)(u:Value),BindsTo s fd #[[u],[]] [(x,u)])
  (zp:∀H:Hp,H T=some (.lj #[])->bh K H a (G.map V.int)->sp [.ref a] H (λv _=>v=.bl true) λ_ _ _=>False)
  (hCX:∀H e X,CX [] H kJ (λ_ _ _=>False) e X ->False):
  T8 (DW P w) callerA (.call (.ref fa) #[[.ref a],[]]) (λr X=>r=.ok (.ret (.bool true))/\OldK kJ.heap X.heap/\X.os=kJ.os/\Va X.gens) kJ:=by
 let rv:=L2.zA hi;let ao3:=hi.length
 let aT:a≠T:=λz=>by
  erw [z,B] at C
 let core:∀H:Hp,H T=some (.lj #[])->(∀b,b≠T->H b=none\/∃o xs,H b=some (.iL o (.lst xs)))->bh K H a (G.map V.int)->mW P w H kJ.heap->(∀b,H b≠none->b=a\/b=T)->(H a≠none->K.lookup a=none)->
   T8 (DW P w) callerA (.call (.ref fa) #[[.ref a],[]]) (λr X=>r=.ok (.ret (.bool true))/\OldK kJ.heap X.heap/\X.os=kJ.os/\Va X.gens) kJ:=by
  intro H HT hO hS cg hA hK;let BP:∀{b:AZ} {o:Obj},kJ.heap.get? b=some o->H b=none->(ya kJ.heap H).get? b=some o:=λe n=>aj6 e n
  let E:∀{b:AZ} {o:Obj},kJ.heap.get? b=some o->(∀xs n,o.data≠.seq xs n)->(∀ps,o.data≠.fields ps)->H b=none:=λ{b o} e d1 d2=>by
   cases q:H b with
   | none=>rfl
   | some u=>
    rcases hA b (by rw [q];simp) with e'|e'
    ·subst e'
     erw [C] at e;show DB rfl (d1 _ _)
    ·subst e'
     erw [B] at e;show DB rfl (d2 _)
  let Y:∀{b:AZ} {m:ι},kJ.heap.Ns b m->(ya kJ.heap H).Ns b m:=λ{b m} ⟨o,es,ep,e,d,r⟩=>(o,es,ep,BP e (E e (λ_ _ z=>by erw [d] at z) (λ_ z=>by erw [d] at z)),d,r)
  let A:K.In (ya kJ.heap H):=λb o e=>BP (KX b o e) (by
   cases q:H b with
   | none=>rfl
   | some u=>
    rcases hA b (by rw [q];simp) with e'|e'
    ·subst e'
     rw [hK (by rw [q];simp)] at e;cases e
    ·subst e'
     rw [hKT] at e
     cases e)
  let y:BMain mg (ya kJ.heap H):=by
   let(bm,I,b1,b2,f,b4,b5,g):=hbm;show(bm,I,b1,b2,BP f (E f (λ_ _ z=>by erw [g] at z) (λ_ z=>by erw [g] at z)),b4,b5,g)
  let hM:Mod K mg (ya kJ.heap H):=(A,Y OC,(mb,Y Z,hbb),let ⟨R,N,Q⟩:=ade;(R,Y N,Q),
   (let ⟨R,N,Q⟩:=M.statics;(R,Y N,Q),let ⟨R,N,Q⟩:=M.mods;(R,Y N,Q),let ⟨R,N,Q⟩:=M.imp;(R,Y N,Q),
    (by
     let(bm,I,b1,b2,f,b4,b5,g):=y
     show(mg,bm,I,Y OC,b1,f,b4,b5))))
  let e0:LQ P w K mg (ya kJ.heap H) callerA [] kJ H:=(O,hM,λb o e=>ae' e,O8 (acr _ _),trivial,λb Z=>DB (show b∈([]:List AZ) from Z) fN,cg,.of_eq hg);show codeAny_mono ((F _ A (Y OC) y).run callerA [] kJ H #[[.ref a],[]] [.ref a] [.ref a] _ _ hr e0 (ag4 kJ (.ref a)) (.cons rfl .nil) (zp H HT hS)) λr X h=>?_;cases r with
  | error e=>show(hCX H e X h).elim
  | ok fl=>
   cases fl with
   | next=>show False.elim h
   | brk=>show False.elim h
   | cont=>show False.elim h
   | ret u=>
    let(v,H',os,p,c,j,r',q):=h;let q':v=.bl true:=q;subst q';obtain rfl:u=Value.bool true:=r'
    let D:∀b o,kJ.heap.get? b=some o->b≠T->X.heap.get? b=some o:=λb o e nT=>by
     cases q:H b with
     | none=>show c.keep b o e q (by intro z;show DB (show b∈([]:List AZ) from z) fN) fN
     | some u=>
      rcases hO b nT with z|⟨I,xs,z⟩
      ·erw [q] at z
      ·let z2:=c.x6 b I _ z
       let(e1,_):=cg b _ z;let(e2,_):=j b _ z2;erw [e] at e1;show e2
    let(S,eT):=c.x9 T #[] HT;let gT:X.heap.get? T=some {cls:=.none,data:=.fields (#[]++S)}:=j T _ eT;show(O,#[λb o e=>?_,λb o e=>?_],os,p)
    ·by_cases z:b=T
     ·subst z
      erw [B] at e;show .inr (.inl ((oO.tab B).isCodeTable,O, #[],S,O,gT))
     ·show .inl (D b o e z)
    ·by_cases z:b=T
     ·subst z
      show#[_,gT]
     ·show#[o,D b o e z]
 let J:∀(H:Hp),dF P w H kJ.heap T (.lj #[]):=λH=>B;cases hk:K.lookup a with
 | some o=>
  let e:=KX a o hk;erw [C] at e;show core (λb=>if b=T then some (.lj #[]) else none) (jY rfl) (λb n=>.inl (iO n)) (.inr (_,vs.toArray,_,hk,O,O,O,by rwa [QE,ao3],by simpa using rv)) (λb u z=>?_) (λb z=>?_) λz=>DB (iO aT) z
  ·by_cases Z:b=T
   ·let U:=(jY Z).symm.trans z
    cases U;subst Z;show J _
   ·let U:=(iO Z).symm.trans z
    cases U
  ·by_cases Z:b=T
   ·show .inr Z
   ·show DB (iO Z) z
 | none=>
  show core (λb=>if b=T then some (.lj #[]) else if b=a then some (.iL {cls:=.type "list",data:=.seq vs.toArray} (.lst (G.map V.int))) else none) (jY rfl) (λb n=>?_) (.inl (.inr #[{cls:=.type "list",data:=.seq vs.toArray},(iO aT).trans (jY rfl)])) (λb u z=>?_) (λb z=>?_) λ_=>hk
  ·by_cases Z:b=a
   ·show .inr (_,_,(iO n).trans (jY Z))
   ·show .inl ((iO n).trans (iO Z))
  ·by_cases Z:b=T
   ·let U:=(jY Z).symm.trans z
    cases U;subst Z;show J _
   ·by_cases L:b=a
    ·let U:=((iO Z).trans (jY L)).symm.trans z
     cases U;subst L;show(C,by rwa [Wp],vs,_,rv,C)
    ·let U:=((iO Z).trans (iO L)).symm.trans z
     cases U
  ·by_cases Z:b=T
   ·show .inr Z
   ·by_cases L:b=a
    ·show .inl L
    ·show DB ((iO Z).trans (iO L)) z
def Ml (K:Frag)(T:AZ):Sp:=λY H Q _=>∃(a:AZ)(Z:ο),Y=[.ref a]/\bh K H a (Z.map V.int)/\Z.length<=63/\(∀i∈Z,Builtin.Int.intBits i<=1048576)/\H T=some (.lj #[])/\∀X,Q (.bl true) X
def ag6 {l:PySem.W.OpenLaw}{Y:τ}{XP:(Str->Option Value)->Heap->Prop}{K:Params->Frag}{CX:World->oI}
  (B:l.most=some 63) (R:d.params.defaults=[]) (z:importsNone q=true) (C:cp k callerA)
  (m:∀(w:World)(h:Heap),YP w h->(K w.params).In h/\h.get? T=some (ZV #[])) (A:∀w,IG (CX w))
  (F:∀(w:World)(mg:ι)(U:AZ)(h:Heap),(K w.params).In h->h.Ns LO mg->mg d.name=some (.ref U)->
   ∃(cA:AZ)(M:FuncData),ot (K w.params) cA T=true/\(K w.params).lookup T=none/\(∀(s:G_)(u:Value),BindsTo s M #[[u],[]] [(x,u)])/\
    ∀gN:Heap,(K w.params).In gN->gN.Ns LO mg->BMain mg gN->cO l.prog w (K w.params) mg gN (CX w) k U M [x] (Ml (K w.params) T)):
  PySem.W.WalkO q Y XP YP l.row.toRowW d [] (λf vs=>PySem.call f vs):=by
 show TyAtt.IF B R λw nI D mg mb U o pm cd doc a vs E G σ ho hd oO S L X Z p y=>?_;let(J,j):=m w _ σ;let(cA,M,hC,P,Q,c):=F w mg U _ J G.T.g S;show acn J G.T.g G.T.b G.T.builtins G.T.nolimit (G.T.seer z) G.T.bmain y j (PySem.W.codeHd_of_K J hC) P L X (GX Z eY) C c Q (λH N i=>(a,E,O,i,Z,p,N,λ_=>O)) λH e I=>A w [] H D e I
end Ty
namespace Px
open Ty (sumTo sumTo_add sumTo_mul sumTo_zero)
theorem dz:∀(m:Nat)(f g:Nat->Rat),(∀j,j<m->f j=g j)->sumTo m f=sumTo m g
 | 0,_,_,_=>rfl
 | m+1,f,g,h=>by
  simp only [Ty.sumTo];rw [h 0 cr,dz m (λi=>f (i+1)) (λi=>g (i+1)) (λj Z=>h (j+1) cr)]
def sumZ (m:Nat)(f:Nat->Rat)(h:∀j,j<m->f j=0):sumTo m f=0:=by
 rw [dz m f (λ_=>0) h];show sumTo_zero m _ λ_=>O
theorem Mm:∀(m:Nat)(f:Nat->Rat)(a:Nat),a<m->sumTo m f=f a+sumTo m (λj=>if j=a then 0 else f j)
 | 0,_,_,h=>DB h (Qn _)
 | m+1,f,0,_=>by
  change f 0+sumTo m (λi=>f (i+1))=f 0+((if 0=0 then 0 else f 0)+sumTo m (λi=>if i+1=0 then 0 else f (i+1)));rw [jY rfl,dz m (λi=>if i+1=0 then 0 else f (i+1)) (λi=>f (i+1)) (λj _=>iO cr)];grind
 | m+1,f,a+1,h=>by
  change f 0+sumTo m (λi=>f (i+1))=f (a+1)+((if 0=a+1 then 0 else f 0)+sumTo m (λi=>if i+1=a+1 then 0 else f (i+1)))
  rw [iO cr,Mm m (λi=>f (i+1)) a cr,dz m (λi=>if i+1=a+1 then 0 else f (i+1)) (λi=>if i=a then 0 else f (i+1)) (λj _=>by
   by_cases z:j=a
   ·rw [jY z,jY cr]
   ·rw [iO z,iO cr])]
  grind
def wm (m:Nat)(f:Nat->Rat)(a:Nat)(h:a<m)(z:∀j,j<m->j≠a->f j=0):sumTo m f=f a:=by
 rw [Mm m f a h,sumZ m _ (λj Z=>by
  by_cases y:j=a
  ·rw [jY y]
  ·rw [iO y];show z j Z y)]
 grind
theorem adl:∀(m n:Nat)(F:Nat->Nat->Rat),sumTo m (λi=>sumTo n (λj=>F i j))=sumTo n (λj=>sumTo m (λi=>F i j))
 | 0,n,F=>by
  simp only [Ty.sumTo];show(sumTo_zero n _ λ_=>O).symm
 | m+1,n,F=>by
  simp only [Ty.sumTo];rw [adl m n (λi j=>F (i+1) j),<-sumTo_add]
theorem ag7:∀(m:Nat)(f:Nat->Rat),(∀j,j<m->0<=f j)->0<=sumTo m f
 | 0,_,_=>by simp [Ty.sumTo]
 | m+1,f,h=>by
  simp only [Ty.sumTo];let a:=h 0 cr;let b:=ag7 m (λi=>f (i+1)) (λj Z=>h (j+1) cr);grind
def ag8 (m:Nat)(f:Nat->Rat):sumTo m (λj=> -(f j))= -(sumTo m f):=by
 have:=sumTo_mul (-1) m f;rw [dz m (λj=> -(f j)) (λj=>(-1)*f j) (λj _=>by grind),this];grind
def ajX (m:Nat)(f:Nat->Rat)(h:0<sumTo m f):∃j,j<m/\0<f j:=by
 apply Qi;intro z
 have:0<=sumTo m (λj=> -(f j)):=ag7 m _ λj Z=>by
  have:¬ 0<f j:=λy=>z (j,Z,y);grind
 rw [ag8] at this;grind
def skip (j k:Nat):Nat:=if k<j then k else k+1
def sgn (j:Nat):Rat:=if j % 2=0 then 1 else -1
def zap (j:Nat):sgn (j+1)= -(sgn j):=by
 unfold sgn;by_cases h:j % 2=0
 ·rw [jY h,iO cr]
 ·rw [iO h,jY cr]
  grind
def det:Nat->(Nat->Nat->Rat)->Rat
 | 0,_=>1
 | n+1,M=>sumTo (n+1) (λj=>sgn j*M j 0*det n (λk i=>M (skip j k) (i+1)))
def put (M:Nat->Nat->Rat)(c:Nat)(v:Nat->Rat):Nat->Nat->Rat:=λk i=>if k=c then v i else M k i
theorem de:∀(n:Nat)(M Z:Nat->Nat->Rat),(∀k i,k<n->i<n->M k i=Z k i)->det n M=det n Z
 | 0,_,_,_=>rfl
 | n+1,M,Z,h=>by
  unfold det;show dz _ _ _ λj Y=>?_;rw [h j 0 Y cr,de n (λk i=>M (skip j k) (i+1)) (λk i=>Z (skip j k) (i+1)) (λk i X U=>h _ _ (by unfold skip;split<;>omega) cr)]
def back (j c:Nat):Nat:=if c<j then c else c-1
def zX (h:c≠j):skip j (back j c)=c:=by
 unfold skip back;split<;>(try split)<;>omega
def ahM (h:c≠j):skip j k=c ↔ k=back j c:=by
 unfold skip back;split<;>(try split)<;>omega
def aj7 (j k:Nat):skip j k≠j:=by
 unfold skip;split<;>omega
theorem mG:∀(n:Nat)(M:Nat->Nat->Rat)(c:Nat)(u v:Nat->Rat)(t:Rat),c<n->det n (put M c (λi=>u i+t*v i))=det n (put M c u)+t*det n (put M c v)
 | 0,_,_,_,_,_,h=>DB h (Qn _)
 | n+1,M,c,u,v,t,h=>by
  unfold det;rw [<-sumTo_mul,<-sumTo_add];show dz _ _ _ λj X=>?_;by_cases z:j=c
  ·subst z
   let e:∀w:Nat->Rat,det n (λk i=>put M j w (skip j k) (i+1))=det n (λk i=>M (skip j k) (i+1)):=λw=>de n _ _ λk i _ _=>by
    unfold put;rw [iO (aj7 j k)]
   rw [e,e,e];unfold put;rw [jY rfl,jY rfl,jY rfl];grind
  ·let Y:c≠j:=IL z
   let e:∀w:Nat->Rat,det n (λk i=>put M c w (skip j k) (i+1))=det n (put (λk i=>M (skip j k) (i+1)) (back j c) (λi=>w (i+1))):=λw=>de n _ _ λk i _ _=>by
    unfold put;by_cases y:skip j k=c
    ·rw [jY y,jY ((ahM Y).mp y)]
    ·rw [iO y,iO (λx=>y ((ahM Y).mpr x))]
   let Z:∀w:Nat->Rat,put M c w j 0=M j 0:=λw=>iO z;rw [e,e,e,Z,Z,Z,mG n (λk i=>M (skip j k) (i+1)) (back j c) (λi=>u (i+1)) (λi=>v (i+1)) t (by unfold back;split<;>omega)];grind
theorem BQ:∀(n:Nat)(M:Nat->Nat->Rat)(c:Nat),c+1<n->(∀i,M c i=M (c+1) i)->det n M=0
 | 0,_,_,h,_=>DB h (Qn _)
 | n+1,M,c,h,e=>by
  unfold det;rw [Mm (n+1) _ c cr,Mm (n+1) _ (c+1) cr,sumZ (n+1) _ (λj Z=>?_)]
  ·rw [iO cr,zap,<-e 0]
   have:det n (λk i=>M (skip (c+1) k) (i+1))=det n (λk i=>M (skip c k) (i+1)):=de n _ _ λk i _ _=>by
    unfold skip;by_cases z:k=c
    ·subst z
     rw [jY cr,iO cr,e]
    ·by_cases y:k<c
     ·rw [jY cr,jY y]
     ·rw [iO cr,iO y]
   rw [this];grind
  ·by_cases y:j=c+1
   ·rw [jY y]
   ·rw [iO y]
    by_cases z:j=c
    ·rw [jY z]
    ·rw [iO z]
     have:det n (λk i=>M (skip j k) (i+1))=0:=by
      show BQ n _ (back j c) (by unfold back;split<;>omega) λi=>?_;rw [zX (λx=>z x.symm),show back j c+1=back j (c+1) by unfold back;split<;>split<;>omega,zX (λx=>y x.symm)];show e _
     rw [this];grind
def wo (M:Nat->Nat->Rat)(c:Nat):put M c (M c)=M:=by
 funext k i;unfold put;by_cases z:k=c
 ·rw [jY z,z]
 ·rw [iO z]
def jQ (M:Nat->Nat->Rat)(u v:Nat->Rat)(h:c≠d):put (put M c u) d v=put (put M d v) c u:=by
 funext k i;unfold put;by_cases z:k=d
 ·rw [jY z,iO (λy=>h (y.symm.trans z)),jY z]
 ·rw [iO z]
  by_cases y:k=c
  ·rw [jY y,jY y]
  ·rw [iO y,iO y,iO z]
def zag (n:Nat)(M:Nat->Nat->Rat)(c:Nat)(h:c+1<n)(u v:Nat->Rat):det n (put (put M c u) (c+1) v)= -(det n (put (put M c v) (c+1) u)):=by
 let Z:c≠c+1:=cr
 let z:∀w:Nat->Rat,det n (put (put M c w) (c+1) w)=0:=λw=>BQ n _ c h λi=>by
  unfold put;rw [iO Z,jY rfl,jY rfl]
 let a:=z (λi=>u i+1*v i);rw [mG n (put M c (λi=>u i+1*v i)) (c+1) u v 1 h,jQ M _ u Z,jQ M _ v Z,mG n (put M (c+1) u) c u v 1 cr,mG n (put M (c+1) v) c u v 1 cr] at a;let b:=z u;let d:=z v;rw [jQ M u u Z] at b;rw [jQ M v v Z] at d;rw [jQ M u v Z,jQ M v u Z];grind
theorem wu:∀(g n:Nat)(M:Nat->Nat->Rat)(c:Nat),c+g+1<n->(∀i,M c i=M (c+g+1) i)->det n M=0
 | 0,n,M,c,h,e=>BQ n M c h e
 | g+1,n,M,c,h,e=>by
  let Z:=zag n M (c+g+1) cr (M (c+g+1)) (M (c+g+1+1));rw [wo,wo] at Z;rw [Z,wu g n _ c cr (λi=>?_)]
  ·grind
  ·unfold put
   rw [iO cr,iO cr,iO cr,jY rfl];show e i
def agf (n:Nat)(M:Nat->Nat->Rat)(c d:Nat)(X:c<n)(Y:d<n)(Z:c≠d)(e:∀i,M c i=M d i):det n M=0:=by
 rcases amT Z with z|z
 ·show wu (d-c-1) n M c cr (λi=>by rw [e i,show c+(d-c-1)+1=d by omega])
 ·show wu (c-d-1) n M d cr (λi=>by rw [<-e i,show d+(c-d-1)+1=c by omega])
def ahL (n:Nat)(M:Nat->Nat->Rat)(c:Nat)(Y:c<n)(V:Nat->Nat->Rat)(Z:Nat->Rat):∀m,det n (put M c (λi=>sumTo m (λs=>Z s*V s i)))=sumTo m (λs=>Z s*det n (put M c (V s))):=by
 let zero:det n (put M c (λ_=>0))=0:=by
  have:=mG n M c (λ_=>0) (λ_=>0) 1 Y;let e:(λi:Nat=>(0:Rat)+1*(λ_:Nat=>(0:Rat)) i)=λ_=>0:=by funext i;grind
  rw [e] at this;grind
 intro m
 induction m generalizing V Z with
 | zero=>
  simp only [Ty.sumTo];show zero
 | succ m X=>
  simp only [Ty.sumTo]
  let e:(λi=>Z 0*V 0 i+sumTo m (λs=>Z (s+1)*V (s+1) i))=λi=>(λi=>sumTo m (λs=>Z (s+1)*V (s+1) i)) i+Z 0*V 0 i:=by
   funext i;grind
  rw [e,mG n M c _ _ _ Y,X (λs=>V (s+1)) (λs=>Z (s+1))];grind
def Mn (n:Nat)(M:Nat->Nat->Rat)(c:Nat)(Y:c<n)(v:Nat->Rat)(Z:Nat->Rat)(h:∀i,i<n->v i=sumTo n (λs=>Z s*M s i)):det n (put M c v)=Z c*det n M:=by
 rw [de n (put M c v) (put M c (λi=>sumTo n (λs=>Z s*M s i))) (λk i _ T=>by
  unfold put;by_cases z:k=c
  ·rw [jY z,jY z,h i T]
  ·rw [iO z,iO z]),ahL n M c Y M Z n,wm n _ c Y (λs U X=>?_),wo]
 rw [agf n (put M c (M s)) c s Y U (IL X) (λi=>by
  unfold put
  rw [jY rfl,iO X])]
 grind
theorem ahH:∀(n:Nat)(M:Nat->Nat->Int),∃z:Int,det n (λk i=>(M k i:Rat))=(z:Rat)
 | 0,_=>#[1,by simp [det]]
 | n+1,M=>by
  let Z:∀(m:Nat)(f:Nat->Rat),(∀j,j<m->∃z:Int,f j=(z:Rat))->∃z:Int,sumTo m f=(z:Rat):=by
   intro m
   induction m with
   | zero=>show λf _=>#[0,by simp [Ty.sumTo]]
   | succ m Y=>
    intro f h;let(a,R):=h 0 cr;let(b,S):=Y (λi=>f (i+1)) (λj X=>h (j+1) cr);show#[a+b,by simp only [Ty.sumTo];rw [R,S];push_cast;rfl]
  unfold det;show Z _ _ λj X=>?_;let(z,U):=ahH n (λk i=>M (skip j k) (i+1))
  let T:sgn j=((if j % 2=0 then 1 else -1:Int):Rat):=by
   unfold sgn;split<;>simp
  show#[(if j % 2=0 then 1 else -1)*M j 0*z,by rw [U,T];push_cast;rfl]
def fact:Nat->Nat
 | 0=>1
 | n+1=>(n+1)*fact n
theorem rG (X:Nat):∀(n:Nat)(M:Nat->Nat->Rat),(∀k i,k<n->i<n->M k i<=(X:Rat)/\ -(X:Rat)<=M k i)->det n M<=((fact n*X^n:Nat):Rat)/\ -((fact n*X^n:Nat):Rat)<=det n M
 | 0,_,_=>by simp [det,fact];decide
 | n+1,M,h=>by
  let Z:∀(m:Nat)(f:Nat->Rat)(B:Rat),(∀j,j<m->f j<=B/\ -B<=f j)->sumTo m f<=(m:Rat)*B/\ -((m:Rat)*B)<=sumTo m f:=by
   intro m
   induction m with
   | zero=>intro f B _;simp [Ty.sumTo]
   | succ m R=>
    intro f B h;let a:=h 0 cr;let b:=R (λi=>f (i+1)) B (λj U=>h (j+1) cr);simp only [Ty.sumTo];push_cast;grind
  let Y:∀(x y B C:Rat),x<=B-> -B<=x->y<=C-> -C<=y->0<=B->0<=C->x*y<=B*C/\ -(B*C)<=x*y:=by
   intro x y B C w z A D E G;let J:0<=(B-x)*(C+y):=RM (by grind) (by grind);let L:0<=(B+x)*(C-y):=RM (by grind) (by grind);let N:0<=(B-x)*(C-y):=RM (by grind) (by grind);let P:0<=(B+x)*(C+y):=RM (by grind) (by grind);constructor<;>grind
  let Q:=Z (n+1) (λj=>sgn j*M j 0*det n (λk i=>M (skip j k) (i+1))) ((X:Rat)*((fact n*X^n:Nat):Rat)) (λj U=>by
   let d:=rG X n (λk i=>M (skip j k) (i+1)) (λk i I H=>h _ _ (by unfold skip;split<;>omega) cr);let m:=h j 0 U cr;let T:(0:Rat)<=(X:Rat):=by exact_mod_cast P1 X
   let S:(0:Rat)<=((fact n*X^n:Nat):Rat):=by exact_mod_cast P1 _
   let e:=Y _ _ _ _ m.1 m.2 d.1 d.2 T S;unfold sgn
   split<;>constructor<;>grind)
  unfold det
  let e:((n+1:Nat):Rat)*((X:Rat)*((fact n*X^n:Nat):Rat))=((fact (n+1)*X^(n+1):Nat):Rat):=by
   have:fact (n+1)*X^(n+1)=(n+1)*(X*(fact n*X^n)):=by
    rw [show fact (n+1)=(n+1)*fact n from rfl,Ve];simp only [O6,ZL,Nat.mul_left_comm]
   rw [this];push_cast;rfl
  rwa [e] at Q
def left (n:Nat)(M:Nat->Nat->Rat)(h:det n M≠0):∃R:Nat->Nat->Rat,∀(v Z:Nat->Rat),(∀i,i<n->v i=sumTo n (λs=>Z s*M s i))->∀s,s<n->sumTo n (λi=>R s i*v i)=Z s:=by
 show#[λs i=>(det n M)⁻¹*det n (put M s (λk=>if k=i then 1 else 0)),λv Z U s Y=>?_];let Q:=Mn n M s Y v Z U
 let S:det n (put M s v)=sumTo n (λi=>v i*det n (put M s (λk=>if k=i then 1 else 0))):=by
  rw [<-ahL n M s Y (λi k=>if k=i then 1 else 0) v n];show de n _ _ λk i _ T=>?_;unfold put;by_cases z:k=s
  ·rw [jY z,jY z]
   change v i=sumTo n (λs=>v s*(if i=s then 1 else 0))
   rw [wm n _ i T (λj _ X=>by
    change v j*(if i=j then 1 else 0)=0;rw [iO (IL X)]
    grind)]
   rw [jY rfl];grind
  ·rw [iO z,iO z]
 rw [dz n (λi=>(det n M)⁻¹*det n (put M s (λk=>if k=i then 1 else 0))*v i) (λi=>(det n M)⁻¹*(v i*det n (put M s (λk=>if k=i then 1 else 0)))) (λj _=>by grind),sumTo_mul,<-S,Q];have:=V3 _ h;grind
structure Tb where
 L:Nat->Nat->Int
 d:Int
 ac:Nat->Nat
 dn:Nat->Nat
def bE (c:Nat)(A:Nat->Nat->Int)(t i:Nat):Int:=if t<c then A i t else if i+c=t then 1 else 0
def vec (c:Nat)(A:Nat->Nat->Int)(T:Tb)(j i:Nat):Int:=if j<c then bE c A (T.ac j) i else A i c
def jL (c:Nat)(A:Nat->Nat->Int)(T:Tb):Nat->Nat->Rat:=λs i=>(bE c A (T.dn s) i:Rat)
structure Good (r c:Nat)(A:Nat->Nat->Int)(T:Tb):Prop where
 pos:0<T.d
 dt:det (r+1) (jL c A T)=(T.d:Rat)
 rel:∀j,j<=c->∀i,i<r+1->(T.d:Rat)*(vec c A T j i:Rat)=sumTo (r+1) (λs=>(T.L s j:Rat)*jL c A T s i)
 Xl:∀s,s<r->0<=T.L s c
 last:T.dn r=c+r
 Vo:∀s,s<r->T.dn s<c+r
 ym:∀j,j<c->T.ac j<c+r
 dnI:∀s s',s<r+1->s'<r+1->T.dn s=T.dn s' ->s=s'
 acI:∀j j',j<c->j'<c->T.ac j=T.ac j' ->j=j'
 JJ:∀j s,j<c->s<r+1->T.ac j≠T.dn s
 cov:∀t,t<c+r->(∃j,j<c/\T.ac j=t)\/(∃s,s<r/\T.dn s=t)
def wz {d:Int}(h:0<d):(0:Rat)<(d:Rat):=by exact_mod_cast h
def Good.dR (G:Good r c A T):(0:Rat)<(T.d:Rat):=wz G.pos
def Good.adn (G:Good r c A T)(Z:j<=c)(Y:i<r+1):(vec c A T j i:Rat)=sumTo (r+1) (λs=>((T.d:Rat)⁻¹*(T.L s j:Rat))*jL c A T s i):=by
 let h:=G.rel j Z i Y;rw [dz (r+1) (λs=>((T.d:Rat)⁻¹*(T.L s j:Rat))*jL c A T s i) (λs=>(T.d:Rat)⁻¹*((T.L s j:Rat)*jL c A T s i)) (λ_ _=>by grind),sumTo_mul,<-h];have:=V3 _ (show(T.d:Rat)≠0 by have:=G.dR;grind);grind
def Good.cof (G:Good r c A T)(Y:j<=c)(Z:s<r+1):det (r+1) (put (jL c A T) s (λi=>(vec c A T j i:Rat)))=(T.L s j:Rat):=by
 rw [Mn (r+1) (jL c A T) s Z _ (λs=>(T.d:Rat)⁻¹*(T.L s j:Rat)) (λi X=>G.adn Y X),G.dt];have:=V3 _ (show(T.d:Rat)≠0 by have:=G.dR;grind);grind
def wB {r X:Nat}(U:1<=X)(Y:∀i j,i<r+1->j<=c-> -(X:Int)<=A i j/\A i j<=(X:Int))(t:Nat)(Z:i<r+1): -(X:Int)<=bE c A t i/\bE c A t i<=(X:Int):=by
 unfold bE;split
 ·show Y i t Z cr
 ·split<;>omega
def ado {X:Nat}(h: -(X:Int)<=z/\z<=(X:Int)):(z:Rat)<=(X:Rat)/\ -(X:Rat)<=(z:Rat):=by
 constructor
 ·exact_mod_cast h.2
 ·have:((-(X:Int):Int):Rat)<=(z:Rat):=by exact_mod_cast h.1
  let e:((-(X:Int):Int):Rat)= -(X:Rat):=by push_cast;rfl
  rwa [e] at this
def ag' {z:Int}(h:(z:Rat)<=((X:Nat):Rat)/\ -((X:Nat):Rat)<=(z:Rat)):z.natAbs<=X:=by
 let a:z<=(X:Int):=by exact_mod_cast h.1
 let b: -(X:Int)<=z:=by
  let e:((-(X:Int):Int):Rat)= -(X:Rat):=by push_cast;rfl
  have:=h.2;rw [<-e] at this
  exact_mod_cast this
 omega
def Good.bound (G:Good r c A T){X:Nat}(U:1<=X)(Y:∀i j,i<r+1->j<=c-> -(X:Int)<=A i j/\A i j<=(X:Int)):T.d.natAbs<=fact (r+1)*X^(r+1)/\∀s j,s<r+1->j<=c->(T.L s j).natAbs<=fact (r+1)*X^(r+1):=by
 constructor
 ·have:=rG X (r+1) (jL c A T) (λk i _ Z=>ado (wB U Y _ Z))
  rw [G.dt] at this;show ag' this
 ·intro s j S R
  have:=rG X (r+1) (put (jL c A T) s (λi=>(vec c A T j i:Rat))) (λk i _ Z=>by
   unfold put;by_cases z:k=s
   ·rw [jY z]
    show ado ?_;unfold vec;split
    ·show wB U Y _ Z
    ·show Y i c Z (DX _)
   ·rw [iO z]
    show ado (wB U Y _ Z))
  rw [G.cof R S] at this;show ag' this
def oK (T:Tb)(a k:Nat):Tb where
 L:=λs j=>if s=a then (if j=k then T.d else T.L a j) else if j=k then -(T.L s k) else (T.L a k*T.L s j-T.L s k*T.L a j).fdiv T.d
 d:=T.L a k
 ac:=λj=>if j=k then T.dn a else T.ac j
 dn:=λs=>if s=a then T.ac k else T.dn s
def BR (c:Nat)(A:Nat->Nat->Int)(T:Tb)(a k:Nat):jL c A (oK T a k)=put (jL c A T) a (λi=>(bE c A (T.ac k) i:Rat)):=by
 funext s i;change ((bE c A (if s=a then T.ac k else T.dn s) i:Int):Rat)=if s=a then (bE c A (T.ac k) i:Rat) else (bE c A (T.dn s) i:Rat)
 by_cases z:s=a
 ·rw [jY z,jY z]
 ·rw [iO z,iO z]
section
variable {r c:Nat}{A:Nat->Nat->Int}{T:Tb}{a k:Nat}
def Good.dtP (G:Good r c A T)(Y:a<r)(Z:k<c):det (r+1) (jL c A (oK T a k))=(T.L a k:Rat):=by
 let h:=G.cof (s:=a) (Qr Z) cr;rw [BR,<-h];show de _ _ _ λs i _ _=>?_;unfold put vec;simp only [jY Z]
def Good.aha (G:Good r c A T)(J:a<r)(Z:k<c)(R:j<=c)(Y:i<r+1):(T.L a k:Rat)*(vec c A T j i:Rat)=sumTo (r+1) (λs=>(if s=a then (T.L a j:Rat) else (T.d:Rat)⁻¹*((T.L a k:Rat)*(T.L s j:Rat)-(T.L s k:Rat)*(T.L a j:Rat)))*jL c A (oK T a k) s i):=by
 let Q:=G.rel j R i Y;let X:=G.rel k (Qr Z) i Y;rw [Mm (r+1) _ a cr] at Q X ⊢;let e:vec c A T k i=bE c A (T.ac k) i:=jY Z;rw [e] at X;rw [jY rfl,BR];let P:put (jL c A T) a (λi=>(bE c A (T.ac k) i:Rat)) a i=(bE c A (T.ac k) i:Rat):=jY rfl
 rw [P,dz (r+1) (λs=>if s=a then 0 else (if s=a then (T.L a j:Rat) else (T.d:Rat)⁻¹*((T.L a k:Rat)*(T.L s j:Rat)-(T.L s k:Rat)*(T.L a j:Rat)))*put (jL c A T) a (λi=>(bE c A (T.ac k) i:Rat)) s i)
  (λs=>((T.d:Rat)⁻¹*(T.L a k:Rat))*(if s=a then 0 else (T.L s j:Rat)*jL c A T s i)+(-((T.d:Rat)⁻¹*(T.L a j:Rat)))*(if s=a then 0 else (T.L s k:Rat)*jL c A T s i)) (λs _=>by
   by_cases z:s=a
   ·rw [jY z,jY z,jY z]
    grind
   ·rw [iO z,iO z,iO z,iO z,show put (jL c A T) a (λi=>(bE c A (T.ac k) i:Rat)) s i=jL c A T s i from iO z]
    grind),sumTo_add,sumTo_mul,sumTo_mul]
 let v:=V3 _ (show(T.d:Rat)≠0 by have:=G.dR;grind);generalize sumTo (r+1) (λs=>if s=a then 0 else (T.L s j:Rat)*jL c A T s i)=M at*;generalize sumTo (r+1) (λs=>if s=a then 0 else (T.L s k:Rat)*jL c A T s i)=N at*;let S:M=(T.d:Rat)*(vec c A T j i:Rat)-(T.L a j:Rat)*jL c A T a i:=by grind
 let U:N=(T.d:Rat)*(bE c A (T.ac k) i:Rat)-(T.L a k:Rat)*jL c A T a i:=by grind
 rw [S,U];generalize (T.d:Rat)=d at*;generalize d⁻¹=e at*;generalize (vec c A T j i:Rat)=x at*;generalize (bE c A (T.ac k) i:Rat)=y at*;generalize jL c A T a i=b at*;generalize (T.L a j:Rat)=l at*;generalize (T.L a k:Rat)=p at*;have:l*y+(e*p*(d*x-l*b)+ -(e*l)*(d*y-p*b))=(e*d)*(p*x)+(1-e*d)*(l*y):=by grind
 rw [this,v];grind
def Good.show(G:Good r c A T)(X:a<r)(Y:k<c)(S:0<T.L a k)(R:j<=c)(U:s<r+1)(Z:s≠a):T.d*((T.L a k*T.L s j-T.L s k*T.L a j).fdiv T.d)=T.L a k*T.L s j-T.L s k*T.L a j:=by
 let I:(0:Rat)<(T.L a k:Rat):=wz S;let pv:=V3 _ (show(T.L a k:Rat)≠0 by grind);let J:=V3 _ (show(T.d:Rat)≠0 by have:=G.dR;grind)
 let h:=Mn (r+1) (jL c A (oK T a k)) s U (λi=>(vec c A T j i:Rat)) (λs=>(T.L a k:Rat)⁻¹*(if s=a then (T.L a j:Rat) else (T.d:Rat)⁻¹*((T.L a k:Rat)*(T.L s j:Rat)-(T.L s k:Rat)*(T.L a j:Rat)))) (λi Q=>by
  let h:=G.aha X Y R Q;rw [dz (r+1) _ (λs=>(T.L a k:Rat)⁻¹*((if s=a then (T.L a j:Rat) else (T.d:Rat)⁻¹*((T.L a k:Rat)*(T.L s j:Rat)-(T.L s k:Rat)*(T.L a j:Rat)))*jL c A (oK T a k) s i)) (λs _=>by grind),sumTo_mul,<-h]
  grind)
 rw [G.dtP X Y,iO Z] at h;let(z,M):=ahH (r+1) (λq i=>if q=s then vec c A T j i else bE c A ((oK T a k).dn q) i)
 let e:det (r+1) (put (jL c A (oK T a k)) s (λi=>(vec c A T j i:Rat)))=(z:Rat):=by
  rw [<-M];show de _ _ _ λq i _ _=>?_;unfold put;by_cases y:q=s
  ·rw [jY y,jY y]
  ·rw [iO y,iO y]
   rfl
 rw [e] at h
 let N:(T.d:Rat)*(z:Rat)=(T.L a k:Rat)*(T.L s j:Rat)-(T.L s k:Rat)*(T.L a j:Rat):=by
  rw [h];generalize (T.L a k:Rat)*(T.L s j:Rat)-(T.L s k:Rat)*(T.L a j:Rat)=w at*;generalize (T.L a k:Rat)=p at*;generalize (T.d:Rat)=d at*;have:d*(p⁻¹*(d⁻¹*w)*p)=(p⁻¹*p)*((d⁻¹*d)*w):=by grind
  rw [this,pv,J];grind
 let P:T.d*z=T.L a k*T.L s j-T.L s k*T.L a j:=by exact_mod_cast N
 rw [<-P,Int.mul_fdiv_cancel_left _ (show T.d≠0 by have:=G.pos;omega)]
def Vp (j:Nat)(h:j≠k):(oK T a k).L a j=T.L a j:=by
 change (if a=a then (if j=k then T.d else T.L a j) else _)=_;rw [jY rfl,iO h]
def adp:(oK T a k).L a k=T.d:=by
 change (if a=a then (if k=k then T.d else T.L a k) else _)=_;rw [jY rfl,jY rfl]
def ahb (h:s≠a):(oK T a k).L s k= -(T.L s k):=by
 change (if s=a then _ else if k=k then -(T.L s k) else _)=_;rw [iO h,jY rfl]
def OI (h:s≠a)(Z:j≠k):(oK T a k).L s j=(T.L a k*T.L s j-T.L s k*T.L a j).fdiv T.d:=by
 change (if s=a then _ else if j=k then -(T.L s k) else _)=_;rw [iO h,iO Z]
theorem Good.oK (G:Good r c A T)(R:a<r)(S:k<c)(J:0<T.L a k)(C:∀s,s<r->0<T.L s k->T.L a c*T.L s k<=T.L s c*T.L a k):Good r c A (oK T a k):=by
 let x:∀s,s<r->s≠a->0<=(Px.oK T a k).L s c:=λs Y N=>by
  let e:=G.show R S J (j:=c) (DX _) (s:=s) cr N;rw [OI N cr];generalize (T.L a k*T.L s c-T.L s k*T.L a c).fdiv T.d=z at e ⊢
  let B:0<=T.L a k*T.L s c-T.L s k*T.L a c:=by
   by_cases y:0<T.L s k
   ·have:=C s Y y
    rw [UL (T.L a k),UL (T.L s k)];omega
   ·let o:=rT (ZF J) (G.Xl s Y)
    let M:0<= -(T.L s k)*T.L a c:=rT cr (G.Xl a R);rw [anh] at M;omega
  rw [<-e] at B;let p:=G.pos;apply Qi;intro n;have:T.d*z<0:=agT p cr;omega
 show(J,G.dtP R S,λj U i I=>?_,λs Y=>?_,?_,λs Y=>?_,λj U=>?_,λs Q Y E e=>?_,λj P U H e=>?_,λj s U Y e=>?_,λt D=>?_)
 ·by_cases z:j=k
  ·subst z
   let M:=G.rel j U i I;rw [Mm (r+1) _ a cr] at M ⊢;rw [show vec c A T j i=bE c A (T.ac j) i from jY S] at M
   rw [adp,BR,show put (jL c A T) a (λi=>(bE c A (T.ac j) i:Rat)) a i=(bE c A (T.ac j) i:Rat) from jY rfl,show vec c A (Px.oK T a j) j i=bE c A (T.dn a) i by
    change (if j<c then bE c A (if j=j then T.dn a else T.ac j) i else A i c)=_
    rw [jY S,jY rfl]]
   rw [dz (r+1) (λs=>if s=a then 0 else ((Px.oK T a j).L s j:Rat)*put (jL c A T) a (λi=>(bE c A (T.ac j) i:Rat)) s i) (λs=>(-1)*(if s=a then 0 else (T.L s j:Rat)*jL c A T s i)) (λs _=>by
    by_cases y:s=a
    ·rw [jY y,jY y]
     grind
    ·rw [iO y,iO y,ahb y,show put (jL c A T) a (λi=>(bE c A (T.ac j) i:Rat)) s i=jL c A T s i from iO y]
     push_cast
     grind),sumTo_mul]
   let e:(jL c A T a i)=(bE c A (T.dn a) i:Rat):=rfl;rw [e] at M;change ((T.L a j:Int):Rat)*_=_;grind
  ·let h:=G.aha R S U I
   let ev:vec c A (Px.oK T a k) j i=vec c A T j i:=by
    change (if j<c then bE c A (if j=k then T.dn a else T.ac j) i else A i c)=(if j<c then bE c A (T.ac j) i else A i c);rw [iO z]
   rw [ev];change ((T.L a k:Int):Rat)*_=_;rw [h];show dz _ _ _ λs Y=>?_;by_cases y:s=a
   ·subst y
    rw [jY rfl,Vp j z]
   ·rw [iO y,OI y z]
    let e:=G.show R S J U Y y;generalize (T.L a k*T.L s j-T.L s k*T.L a j).fdiv T.d=w at e ⊢;let u:(T.d:Rat)*(w:Rat)=(T.L a k:Rat)*(T.L s j:Rat)-(T.L s k:Rat)*(T.L a j:Rat):=by exact_mod_cast e
    rw [<-u];let q:=V3 _ (show(T.d:Rat)≠0 by have:=G.dR;grind);rw [<-amO,q];grind
 ·by_cases z:s=a
  ·subst z
   rw [Vp c cr];show G.Xl s Y
  ·show x s Y z
 ·change (if r=a then T.ac k else T.dn r)=c+r
  rw [iO cr];show G.last
 ·change (if s=a then T.ac k else T.dn s)<c+r
  split
  ·show G.ym k S
  ·show G.Vo s Y
 ·change (if j=k then T.dn a else T.ac j)<c+r
  split
  ·show G.Vo a R
  ·show G.ym j U
 ·let Z:(if s=a then T.ac k else T.dn s)=(if Q=a then T.ac k else T.dn Q):=e
  by_cases z:s=a<;>by_cases X:Q=a
  ·rw [z,X]
  ·rw [jY z,iO X] at Z
   show DB Z (G.JJ k Q S E)
  ·rw [iO z,jY X] at Z
   show DB Z.symm (G.JJ k s S Y)
  ·rw [iO z,iO X] at Z
   show G.dnI s Q Y E Z
 ·let Z:(if j=k then T.dn a else T.ac j)=(if P=k then T.dn a else T.ac P):=e
  by_cases z:j=k<;>by_cases X:P=k
  ·rw [z,X]
  ·rw [jY z,iO X] at Z
   show DB Z.symm (G.JJ P a H cr)
  ·rw [iO z,jY X] at Z
   show DB Z (G.JJ j a U cr)
  ·rw [iO z,iO X] at Z
   show G.acI j P U H Z
 ·let Z:(if j=k then T.dn a else T.ac j)=(if s=a then T.ac k else T.dn s):=e
  by_cases z:j=k<;>by_cases X:s=a
  ·rw [jY z,jY X] at Z
   show G.JJ k a S cr Z.symm
  ·rw [jY z,iO X] at Z
   show X (G.dnI a s cr Y Z).symm
  ·rw [iO z,jY X] at Z
   show z (G.acI j k U S Z)
  ·rw [iO z,iO X] at Z
   show G.JJ j s U Y Z
 ·rcases G.cov t D with ⟨j,U,e⟩|⟨s,Y,e⟩
  ·by_cases z:j=k
   ·show .inr (a,R,?_)
    change (if a=a then T.ac k else T.dn a)=t;rwa [jY rfl,<-z]
   ·show .inl (j,U,?_)
    change (if j=k then T.dn a else T.ac j)=t;rwa [iO z]
  ·by_cases z:s=a
   ·show .inl (k,S,?_)
    change (if k=k then T.dn a else T.ac k)=t;rwa [jY rfl,<-z]
   ·show .inr (s,Y,?_)
    change (if s=a then T.ac k else T.dn s)=t;rwa [iO z]
end
theorem Vq:∀n,det n (λk i=>if i=k then 1 else 0)=1
 | 0=>rfl
 | n+1=>by
  unfold det
  rw [wm (n+1) _ 0 cr (λj _ Z=>by
   change sgn j*(if 0=j then (1:Rat) else 0)*_=0;rw [iO (IL Z)]
   grind)]
  rw [de n _ (λk i=>if i=k then 1 else 0) (λk i _ _=>by
   change (if i+1=skip 0 k then (1:Rat) else 0)=_;have:skip 0 k=k+1:=by unfold skip;rw [iO cr]
   rw [this];by_cases z:i=k
   ·rw [jY z,jY cr]
   ·rw [iO z,iO cr]),Vq n]
  simp [sgn]
def tb0 (c:Nat)(A:Nat->Nat->Int):Tb:=(A,1,λj=>j,λs=>c+s)
def gc (c:Nat)(A:Nat->Nat->Int)(s i:Nat):bE c A (c+s) i=if i=s then 1 else 0:=by
 unfold bE;rw [iO cr];by_cases z:i=s
 ·rw [jY z,jY cr]
 ·rw [iO z,iO cr]
def good0 (h:∀s,s<r->0<=A s c):Good r c A (tb0 c A):=by
 let Z:∀s i,jL c A (tb0 c A) s i=if i=s then 1 else 0:=λs i=>by
  change ((bE c A (c+s) i:Int):Rat)=_;rw [gc];split<;>simp
 show(Int.zero_lt_one,?_,λj Y i S=>?_,h,O,λs T=>?_,λj Y=>?_,λs X _ _ e=>?_,λj R _ _ e=>e,λj s Y T e=>?_,λt Q=>?_)
 ·rw [de (r+1) _ (λk i=>if i=k then 1 else 0) (λk i _ _=>Z k i),Vq]
  rfl
 ·rw [wm (r+1) _ i S (λs _ U=>by
   rw [Z,iO (IL U)]
   grind),Z,jY rfl]
  have:vec c A (tb0 c A) j i=A i j:=by
   change (if j<c then bE c A j i else A i c)=_;by_cases z:j<c
   ·rw [jY z]
    unfold bE;rw [jY z]
   ·rw [iO z,show j=c by omega]
  rw [this];change ((1:Int):Rat)*(A i j:Rat)=(A i j:Rat)*1;grind
 ·change c+s<c+r
  omega
 ·change j<c+r
  omega
 ·have:c+s=c+X:=e
  omega
 ·have:j=c+s:=e
  omega
 ·by_cases z:t<c
  ·show .inl (t,z,O)
  ·show .inr (t-c,cr,(by change c+(t-c)=t;omega))
section
variable {r c:Nat}{A:Nat->Nat->Int}{T T':Tb}{a k:Nat}
def Good.JK (G:Good r c A T):∃π:Nat->Rat,π r=1/\(∀s,s<r->sumTo (r+1) (λi=>π i*(bE c A (T.dn s) i:Rat))=0)/\(∀j,j<=c->sumTo (r+1) (λi=>π i*(vec c A T j i:Rat))=(T.d:Rat)⁻¹*(T.L r j:Rat))/\(∀i,i<r->sumTo (r+1) (λq=>π q*(bE c A (c+i) q:Rat))=π i):=by
 let(R,Q):=left (r+1) (jL c A T) (by rw [G.dt];have:=G.dR;grind)
 let Z:∀s,s<r+1->∀q,q<r+1->sumTo (r+1) (λi=>R q i*jL c A T s i)=if q=s then 1 else 0:=λs S q P=>Q (jL c A T s) (λq=>if q=s then 1 else 0) (λi _=>by
  rw [wm (r+1) _ s S (λj _ U=>by rw [iO U];grind),jY rfl]
  grind) q P
 let Y:∀i,i<r+1->sumTo (r+1) (λq=>R r q*(bE c A (c+i) q:Rat))=R r i:=λi X=>by
  rw [wm (r+1) _ i X (λj _ U=>by
   rw [gc,iO U]
   simp),gc,jY rfl]
  simp
 show(R r,?_,λs S=>?_,λj N=>?_,λi X=>Y i cr)
 ·let h:=Z r cr r cr
  rw [jY rfl] at h;rw [<-h,<-Y r cr];show dz _ _ _ λq _=>?_;change _=R r q*((bE c A (T.dn r) q:Int):Rat);rw [G.last]
 ·let h:=Z s cr r cr
  rwa [iO cr] at h
 ·show Q (λi=>(vec c A T j i:Rat)) (λs=>(T.d:Rat)⁻¹*(T.L s j:Rat)) (λi X=>G.adn N X) r cr
def OJ (r c:Nat)(T T':Tb)(a k:Nat):Prop:=a<r/\k<c/\T.L r k<0/\0<T.L a k/\(∀s,s<r->0<T.L s k->T.L a c*T.L s k<T.L s c*T.L a k\/(T.L a c*T.L s k=T.L s c*T.L a k/\T.dn a<=T.dn s))/\(T.L a c=0->∀j,j<c->T.L r j<0->T.ac k<=T.ac j)/\T'=oK T a k
def OJ.good (S:OJ r c T T' a k)(G:Good r c A T):Good r c A T':=by
 let(R,U,_,Y,X,_,rfl):=S
 show G.oK R U Y λs Z h=>by
  rcases X s Z h with x|x
  ·show ZF x
  ·show am4 x.1
def wr (c r:Nat)(T:Tb):Rat:=(T.d:Rat)⁻¹*(T.L r c:Rat)
def OJ.worth (S:OJ r c T T' a k)(G:Good r c A T):wr c r T<=wr c r T'/\(T.L a c≠0->wr c r T<wr c r T'):=by
 let(P,J,u,Q,q,_,rfl):=S;let e:=G.show P J Q (j:=c) (DX _) (s:=r) cr cr;let B:(oK T a k).L r c=(T.L a k*T.L r c-T.L r k*T.L a c).fdiv T.d:=OI cr cr;let D:(oK T a k).d=T.L a k:=rfl;rw [<-B] at e;unfold wr;rw [D];let f:=G.Xl a P;generalize (oK T a k).L r c=x at*;let y:=G.dR;let N:=wz Q;let z:=V3 _ (show(T.d:Rat)≠0 by grind);let pv:=V3 _ (show(T.L a k:Rat)≠0 by grind);let w:0<(T.d:Rat)⁻¹:=Zj.mpr y;let M:0<(T.L a k:Rat)⁻¹:=Zj.mpr N
 let C:(T.d:Rat)*(x:Rat)=(T.L a k:Rat)*(T.L r c:Rat)+((-(T.L r k)*T.L a c:Int):Rat):=by
  have:T.d*x=T.L a k*T.L r c+ -(T.L r k)*T.L a c:=by rw [e,anh];omega
  exact_mod_cast this
 let X:(T.L a k:Rat)⁻¹*(x:Rat)=(T.d:Rat)⁻¹*(T.L r c:Rat)+(T.L a k:Rat)⁻¹*(T.d:Rat)⁻¹*((-(T.L r k)*T.L a c:Int):Rat):=by
  generalize ((-(T.L r k)*T.L a c:Int):Rat)=g at*;generalize (T.d:Rat)=d at*;generalize (T.L a k:Rat)=p at*;generalize d⁻¹=Y at*;generalize p⁻¹=Z at*
  have:Z*(x:Rat)=(Z*Y)*(d*(x:Rat)):=by
   have:(Z*Y)*(d*(x:Rat))=Z*((Y*d)*(x:Rat)):=by grind
   rw [this,z];grind
  rw [this,C];have:Z*Y*(p*(T.L r c:Rat)+g)=(Z*p)*(Y*(T.L r c:Rat))+Z*Y*g:=by grind
  rw [this,pv];grind
 let E:0<= -(T.L r k)*T.L a c:=rT cr f;let I:(0:Rat)<=((-(T.L r k)*T.L a c:Int):Rat):=by exact_mod_cast E
 let R:0<(T.L a k:Rat)⁻¹*(T.d:Rat)⁻¹:=Zi M w;rw [X];constructor
 ·have:=RM (Qm R) I
  grind
 ·intro nz
  let H:0 < -(T.L r k)*T.L a c:=RL cr cr;let U:(0:Rat)<((-(T.L r k)*T.L a c:Int):Rat):=by exact_mod_cast H
  have:=Zi R U;grind
def Good.adq (G:Good r c A T)(X:Good r c A T')(h:∀s,s<r+1->T.dn s=T'.dn s):T.d=T'.d/\∀s,s<r+1->T.L s c=T'.L s c:=by
 let Y:∀s i,s<r+1->jL c A T s i=jL c A T' s i:=λs i Z=>by
  unfold jL;rw [h s Z]
 constructor
 ·let e:(T.d:Rat)=(T'.d:Rat):=by
   rw [<-G.dt,<-X.dt];show de _ _ _ λs i Z _=>Y s i Z
  exact_mod_cast e
 ·intro s Z
  let e:(T.L s c:Rat)=(T'.L s c:Rat):=by
   rw [<-G.cof (DX c) Z,<-X.cof (DX c) Z];show de _ _ _ λq i U _=>?_;unfold put vec;simp only [iO (Qh c),Y q i U]
  exact_mod_cast e
end
theorem mH (P:Nat->Prop):∀(n i:Nat),¬ P i->P (i+n)->∃x,i<=x/\x<i+n/\¬ P x/\P (x+1)
 | 0,_,h,h'=>DB h' h
 | n+1,i,h,h'=>by
  by_cases z:P (i+n)
  ·let(x,a,b,d):=mH P n i h z
   show(x,a,cr,d)
  ·show(i+n,cr,cr,z,h')
def turn (P:Nat->Prop)(e:P u ↔ P v)(U:u<=i/\i<=v)(X:u<=j/\j<=v)(Y:P i)(Z:¬ P j):∃x,u<=x/\x<v/\¬ P x/\P (x+1):=by
 by_cases z:j<=i
 ·let(x,a,b,d):=mH P (i-j) j Z (by rwa [show j+(i-j)=i by omega])
  show(x,cr,cr,d)
 ·by_cases y:P u
  ·let(x,a,b,d):=mH P (v-j) j Z (by rw [show j+(v-j)=v by omega];show e.mp y)
   show(x,cr,cr,d)
  ·let(x,a,b,d):=mH P (i-u) u y (by rwa [show u+(i-u)=i by omega])
   show(x,cr,cr,d)
theorem zaP (P:Nat->Prop):∀(B:Nat),(∀t,P t->t<B)->(∃t,P t)->∃q,P q/\∀t,P t->t<=q
 | 0,h,⟨t,Z⟩=>DB (h t Z) (Qn _)
 | B+1,h,⟨t,Z⟩=>by
  by_cases z:P B
  ·show(B,z,λt Z=>Nat.le_of_lt_succ (h t Z))
  ·show zaP P B (λt Z=>by
    have:=h t Z;have:t≠B:=λe=>z (e▸Z)
    omega) #[t,Z]
def Bs (r:Nat)(T:Tb)(t:Nat):Prop:=∃s,s<r+1/\T.dn s=t
def Zr (r c:Nat)(T:Tb)(t:Nat):Prop:=∀s,s<r+1->T.dn s=t->T.L s c=0
section
variable {r c:Nat}{A:Nat->Nat->Int}{T T':Tb}{a k t:Nat}
def OJ.Vr (S:OJ r c T T' a k)(n:¬ Bs r T t)(b:Bs r T' t):T.ac k=t:=by
 let(Q,R,_,X,U,_,rfl):=S;let(s,Y,e):=b;let Z:(if s=a then T.ac k else T.dn s)=t:=e;by_cases z:s=a
 ·rw [jY z] at Z
  show Z
 ·rw [iO z] at Z
  show DB (s,Y,Z) n
def OJ.ads (S:OJ r c T T' a k)(b:Bs r T t)(n:¬ Bs r T' t):T.dn a=t:=by
 let(R,U,_,Y,X,_,rfl):=S;let(s,Z,e):=b;by_cases z:s=a
 ·rw [<-z]
  show e
 ·show DB (s,Z,(show(if s=a then T.ac k else T.dn s)=t by rwa [iO z])) n
def OJ.zero (S:OJ r c T T' a k)(G:Good r c A T)(Y:T.L a c=0)(z:Zr r c T t):Zr r c T' t:=by
 let(Q,R,_,U,N,_,rfl):=S;intro s Z e;let X:(if s=a then T.ac k else T.dn s)=t:=e;by_cases y:s=a
 ·rw [y,Vp c cr]
  show Y
 ·rw [iO y] at X
  let P:=G.show Q R U (j:=c) (DX _) Z y;rw [OI y cr];rw [Y,z s Z X] at P ⊢;simp
def aeF {f:Nat->Tb}(H:u<v)(U:∀i,u<=i->i<=v->Good r c A (f i))(M:∀i,u<=i->i<v->∃a k,OJ r c (f i) (f (i+1)) a k)(C:∀s,s<r+1->(f u).dn s=(f v).dn s):False:=by
 let Gu:=U u (DX _) cr;let Gv:=U v cr (DX _);let sc:=Gu.adq Gv C
 let mono:∀n i,u<=i->i+n<=v->wr c r (f i)<=wr c r (f (i+n)):=by
  intro n
  induction n with
  | zero=>show λi _ _=>Uu
  | succ n ih=>
   intro i X E;let(a,k,S):=M (i+n) cr cr;show Rat.le_trans (ih i X cr) (S.worth (U _ cr cr)).1
 let g:wr c r (f u)=wr c r (f v):=by
  unfold wr;rw [sc.1,sc.2 r cr]
 let R:∀i a k,u<=i->i<v->OJ r c (f i) (f (i+1)) a k->(f i).L a c=0:=by
  intro i a k X E S;apply Qi;intro nz;let w:=(S.worth (U i X cr)).2 nz;let m1:=mono (i-u) u (DX _) cr;let m2:=mono (v-(i+1)) (i+1) cr cr;rw [show u+(i-u)=i by omega] at m1;rw [show i+1+(v-(i+1))=v by omega,<-g] at m2;grind
 let zf:∀t n i,u<=i->i+n<=v->Zr r c (f i) t->Zr r c (f (i+n)) t:=by
  intro t n
  induction n with
  | zero=>show λi _ _ z=>z
  | succ n ih=>
   intro i X E z;let(a,k,S):=M (i+n) cr cr;show S.zero (U _ cr cr) (R _ _ _ cr cr S) (ih i X cr z)
 let za:∀t i j,u<=i->i<=v->u<=j->j<=v->Zr r c (f i) t->Zr r c (f j) t:=by
  intro t i j X E h3 h4 z;let zv:=zf t (v-i) i X cr z;rw [show i+(v-i)=v by omega] at zv
  let zu:Zr r c (f u) t:=λs Z e=>by
   rw [sc.2 s Z];show zv s Z (by rwa [<-C s Z])
  have:=zf t (j-u) u (DX _) cr zu;rwa [show u+(j-u)=j by omega] at this
 let D:∀t,Bs r (f u) t ↔ Bs r (f v) t:=λt=>#[λ⟨s,Z,e⟩=>(s,Z,by rwa [<-C s Z]),λ⟨s,Z,e⟩=>(s,Z,by rwa [C s Z])]
 let(q,(x,P,m,x3,x4),qm):=zaP (λt=>∃x,u<=x/\x<v/\¬ Bs r (f x) t/\Bs r (f (x+1)) t) (c+r) (λt ⟨x,X,E,h3,h4⟩=>by
  let(a,k,S):=M x X E;rw [<-S.Vr h3 h4]
  show(U x X cr).ym k S.2.1) (by
  let(a,k,S):=M u (DX _) H;show((f u).ac k,u,DX _,H,λ⟨s,Z,e⟩=>Gu.JJ k s S.2.1 Z e.symm,a,by have:=S.1;omega,?_);rw [S.2.2.2.2.2.2];change (if a=a then (f u).ac k else _)=_
  rw [jY rfl])
 let(y,Q,o,p,y4):=turn (λi=>¬ Bs r (f i) q) (by rw [D q]) (i:=x) (j:=x+1) #[P,cr] #[cr,m] x3 (λh=>h x4);let p:Bs r (f y) q:=Qi λh=>p h;let(a',N,S'):=M x P m;let(a,k,S):=M y Q o;have ZG :=S'.Vr x3 x4;let eq:=S.ads p y4;let B:=U x P cr;let G:=U y Q cr;let d':=R x a' N P m S';let d0:=R y a k Q o S;let(π,π1,π2,π3,_):=B.JK;let di:0<((f x).d:Rat)⁻¹:=Zj.mpr B.dR;let(sa',sk',sn',sp',sm',sb',_):=S';let ent:(f y).ac k=(f y).ac k:=rfl;let eBs:¬ Bs r (f y) ((f y).ac k):=λ⟨s,Z,e⟩=>G.JJ k s S.2.1 Z e.symm
 have ao7 :Bs r (f (y+1)) ((f y).ac k):=(a,by have:=S.1;omega,by
  rw [S.2.2.2.2.2.2];change (if a=a then (f y).ac k else _)=_
  rw [jY rfl])
 let(sa,sk,sn,sp,sm,sb,_):=S
 let rq:sumTo (r+1) (λi=>π i*(bE c A q i:Rat))<0:=by
  let h:=π3 N cr
  rw [dz (r+1) _ (λi=>π i*(bE c A q i:Rat)) (λi _=>by
   rw [show vec c A (f x) N i=bE c A ((f x).ac N) i from jY sk',ZG])] at h
  rw [h];have:((f x).L r N:Rat)<0:=by exact_mod_cast sn'
  have:=Zi di (show 0 < -((f x).L r N:Rat) by grind);grind
 let rt:∀t,t<q->t<c+r->0<=sumTo (r+1) (λi=>π i*(bE c A t i:Rat)):=by
  intro t tq tl
  rcases B.cov t tl with ⟨j,hj,e⟩|⟨s,Z,e⟩
  ·let h:=π3 j cr
   rw [dz (r+1) _ (λi=>π i*(bE c A t i:Rat)) (λi _=>by
    rw [show vec c A (f x) j i=bE c A ((f x).ac j) i from jY hj,e])] at h
   rw [h]
   have:0<=(f x).L r j:=by
    apply Qi;intro n;have:=sb' d' j hj cr;omega
   have:(0:Rat)<=((f x).L r j:Rat):=by exact_mod_cast this
   show RM (Qm di) this
  ·let h:=π2 s Z
   rw [e] at h;rw [h];show Uu
 let rb:∀t,t<c+r->Bs r (f x) t->sumTo (r+1) (λi=>π i*(bE c A t i:Rat))=0:=by
  intro t tl ⟨s,Z,e⟩
  have:s≠r:=λz=>by
   rw [z,B.last] at e;omega
  let h:=π2 s cr;rwa [e] at h
 let rl:sumTo (r+1) (λi=>π i*(bE c A ((f y).dn r) i:Rat))=1:=by
  rw [G.last,wm (r+1) _ r cr (λj _ nj=>by
   rw [gc,iO nj]
   simp),gc,jY rfl,π1]
  simp
 let I:((f y).d:Rat)*sumTo (r+1) (λi=>π i*(bE c A ((f y).ac k) i:Rat))=sumTo (r+1) (λs=>((f y).L s k:Rat)*sumTo (r+1) (λi=>π i*(bE c A ((f y).dn s) i:Rat))):=by
  rw [<-sumTo_mul,dz (r+1) _ (λi=>sumTo (r+1) (λs=>((f y).L s k:Rat)*(π i*(bE c A ((f y).dn s) i:Rat)))) (λi hi=>?_),adl]
  ·show dz _ _ _ λs _=>?_
   rw [sumTo_mul]
  ·let h:=G.rel k cr i hi
   rw [show vec c A (f y) k i=bE c A ((f y).ac k) i from jY sk] at h
   rw [dz (r+1) (λs=>((f y).L s k:Rat)*(π i*(bE c A ((f y).dn s) i:Rat))) (λs=>π i*(((f y).L s k:Rat)*jL c A (f y) s i)) (λs _=>by
    change _=π i*(((f y).L s k:Rat)*((bE c A ((f y).dn s) i:Int):Rat))
    grind),sumTo_mul,<-h]
   grind
 rw [Mm (r+1) (λs=>((f y).L s k:Rat)*sumTo (r+1) (λi=>π i*(bE c A ((f y).dn s) i:Rat))) r cr,rl] at I;let eF:∃w,u<=w/\w<v/\¬ Bs r (f w) ((f y).ac k)/\Bs r (f (w+1)) ((f y).ac k):=(y,Q,o,eBs,ao7);let eLe:=qm _ eF;let eNe:(f y).ac k≠q:=λz=>G.JJ k a sk cr (z.trans eq.symm);let re:=rt ((f y).ac k) cr (G.ym k sk);let nR:((f y).L r k:Rat)<0:=by exact_mod_cast sn
 let ps:0<sumTo (r+1) (λj=>if j=r then 0 else ((f y).L j k:Rat)*sumTo (r+1) (λi=>π i*(bE c A ((f y).dn j) i:Rat))):=by
  have:=RM (Qm G.dR) re;grind
 let(s,Z,Y):=ajX _ _ ps
 let sr:s≠r:=λz=>by
  rw [jY z] at Y;grind
 rw [iO sr] at Y;let J:=G.Vo s cr
 let nb:¬ Bs r (f x) ((f y).dn s):=λb=>by
  rw [rb _ J b] at Y;grind
 let sF:=turn (λi=>Bs r (f i) ((f y).dn s)) (D _) (i:=y) (j:=x) #[Q,cr] #[P,cr] (s,Z,O) nb;let sLe:=qm _ sF;by_cases z:(f y).dn s=q
 ·have:s=a:=G.dnI s a Z cr (z.trans eq.symm)
  rw [z] at Y;rw [this] at Y;let pR:(0:Rat)<((f y).L a k:Rat):=wz sp;have:=Zi pR (show 0 < -(sumTo (r+1) (λi=>π i*(bE c A q i:Rat))) by grind);grind
 ·let rs:=rt ((f y).dn s) cr J
  let lp:0<(f y).L s k:=by
   apply Qi;intro n;have:((f y).L s k:Rat)<=0:=by exact_mod_cast (show(f y).L s k<=0 by omega)
   have:=RM (show 0<= -((f y).L s k:Rat) by grind) rs;grind
  let z0:=za ((f y).dn s) x y P cr Q cr (λs' Ly e=>DB (s',Ly,e) nb) s Z rfl
  rcases sm s cr lp with h|h
  ·rw [d0,z0] at h
   simp at h
  ·have:=h.2
   omega
end
theorem Vs:∀(B:Nat)(f:Nat->Nat),(∀i,i<=B->f i<B)->∃i j,i<j/\j<=B/\f i=f j
 | 0,f,h=>DB (h 0 (DX _)) (Qn _)
 | B+1,f,h=>by
  by_cases z:∃i,i<=B/\f i=f (B+1)
  ·let(i,Y,e):=z
   show(i,B+1,cr,DX _,e)
  ·let n:∀i,i<=B->f i≠f (B+1):=λi Y e=>z (i,Y,e)
   let(i,j,T,S,e):=Vs B (λi=>if f i=B then f (B+1) else f i) (λi Y=>by
    let a:=h i cr;let b:=h (B+1) (DX _);let m:=n i Y;change (if f i=B then f (B+1) else f i)<B
    split<;>omega)
   show(i,j,T,cr,?_);let Z:(if f i=B then f (B+1) else f i)=(if f j=B then f (B+1) else f j):=e;let U:=n i cr;let X:=n j cr;by_cases a:f i=B<;>by_cases b:f j=B
   ·omega
   ·rw [jY a,iO b] at Z
    show DB Z.symm X
   ·rw [iO a,jY b] at Z
    show DB Z U
   ·rw [iO a,iO b] at Z
    show Z
def enc (B:Nat):Nat->(Nat->Nat)->Nat
 | 0,_=>0
 | n+1,g=>g n+B*enc B n g
theorem Vt (B:Nat):∀(n:Nat)(g:Nat->Nat),(∀i,i<n->g i<B)->enc B n g<B^n
 | 0,_,_=>by simp [enc]
 | n+1,g,h=>by
  let a:=Vt B n g (λi Z=>h i cr);let b:=h n cr;have:B*(enc B n g+1)<=B*B^n:=amK _ a;change g n+B*enc B n g<B^(n+1);rw [Ve,ZL (B^n)];rw [ani] at this;omega
theorem ahD (B:Nat):∀(n:Nat)(g g':Nat->Nat),(∀i,i<n->g i<B)->(∀i,i<n->g' i<B)->enc B n g=enc B n g' ->∀i,i<n->g i=g' i
 | 0,_,_,_,_,_,i,h=>DB h (Qn _)
 | n+1,g,g',h,h',e,i,Y=>by
  let Z:g n+B*enc B n g=g' n+B*enc B n g':=e;let a:=h n cr;let b:=h' n cr
  let m:g n=g' n:=by
   have:=ox (· % B) Z;simp only [Nat.add_mul_mod_self_left] at this;rwa [ane a,ane b] at this
  let X:enc B n g=enc B n g':=by
   rw [m] at Z;show aiT cr (Nat.add_left_cancel Z)
  by_cases z:i=n
  ·rw [z]
   show m
  ·show ahD B n g g' (λi Y=>h i cr) (λi Y=>h' i cr) X i cr
def Step (r c:Nat)(T Z:Tb):Prop:=∃a k,OJ r c T Z a k
def zY (r c:Nat):Nat->Tb->Prop
 | 0,T=>∀Z,¬ Step r c T Z
 | m+1,T=>∀Z,Step r c T Z ->zY r c m Z
theorem zZ :∀(m:Nat)(T:Tb),¬ zY r c m T->∃f:Nat->Tb,f 0=T/\∀i,i<=m->Step r c (f i) (f (i+1))
 | 0,T,h=>by
  let(Z,h'):=Oj.mp h;let h':=Classical.not_not.mp h'
  show(λi=>if i=0 then T else Z,O,λi Y=>by
   have:i=0:=cr
   subst this
   show h')
 | m+1,T,h=>by
  let(Z,h'):=Oj.mp h;let(R,U):=OL.mp h';let(f,S,X):=zZ m Z U;show(λi=>match i with|0=>T|i+1=>f i,O,λi Y=>?_);cases i with
  | zero=>
   change Step r c T (f 0);rwa [S]
  | succ i=>show X i cr
def halts (G:Good r c A T):zY r c ((c+r+1)^(r+1)) T:=by
 apply Qi;intro n;let(f,P,X):=zZ _ T n
 let Y:∀i,i<=(c+r+1)^(r+1)->Good r c A (f i):=by
  intro i
  induction i with
  | zero=>show λ_=>by rwa [P]
  | succ i U=>
   intro h;let(a,k,S):=X i cr;show S.good (U cr)
 let lt:∀i,i<=(c+r+1)^(r+1)->∀s,s<r+1->(f i).dn s<c+r+1:=λi Z s N=>by
  by_cases z:s=r
  ·rw [z,(Y i Z).last]
   omega
  ·have:=(Y i Z).Vo s cr
   omega
 let(u,v,Q,R,e):=Vs _ (λi=>enc (c+r+1) (r+1) (f i).dn) (λi Z=>Vt _ _ _ (lt i Z));show aeF Q (λi a b=>Y i cr) (λi a b=>X i cr) (ahD _ _ _ _ (lt u cr) (lt v R) e)
theorem mI:∀(m n:Nat)(f:Nat->Rat),sumTo (m+n) f=sumTo m f+sumTo n (λi=>f (m+i))
 | 0,n,f=>by
  rw [am5,dz n (λi=>f (0+i)) f (λi _=>by rw [am5])];change _=0+_;grind
 | m+1,n,f=>by
  rw [show m+1+n=(m+n)+1 by omega];change f 0+sumTo (m+n) (λi=>f (i+1))=f 0+sumTo m (λi=>f (i+1))+_;rw [mI m n (λi=>f (i+1)),dz n (λi=>f (m+1+i)) (λi=>f (m+i+1)) (λi _=>by rw [show m+1+i=m+i+1 by omega])];grind
def zaY (m:Nat)(f:Nat->Rat):sumTo (m+1) f=sumTo m f+f m:=by
 rw [mI m 1 f];change _+(f (m+0)+0)=_;rw [Nat.add_zero];grind
def ahC (m e:Nat)(w:Rat)(F:Nat->Rat)(h:e<m):sumTo m (λt=>(if e=t then w else 0)*F t)=w*F e:=by
 rw [wm m _ e h (λj _ Z=>by rw [iO (IL Z)];grind),jY rfl]
def wC (m n:Nat)(e:Nat->Nat)(w:Nat->Rat)(F:Nat->Rat)(h:∀s,s<n->e s<m):sumTo m (λt=>sumTo n (λs=>if e s=t then w s else 0)*F t)=sumTo n (λs=>w s*F (e s)):=by
 rw [dz m _ (λt=>sumTo n (λs=>(if e s=t then w s else 0)*F t)) (λt _=>by
  rw [dz n (λs=>(if e s=t then w s else 0)*F t) (λs=>F t*(if e s=t then w s else 0)) (λ_ _=>by grind),sumTo_mul]
  grind),adl]
 show dz _ _ _ λs Z=>ahC m (e s) (w s) F (h s Z)
def pj (W:Nat->Rat)(X:i<r+1):sumTo (c+(r+1)) (λt=>W t*(bE c A t i:Rat))=sumTo c (λt=>W t*(A i t:Rat))+W (c+i):=by
 rw [mI,dz c _ (λt=>W t*(A i t:Rat)) (λt Y=>by
  unfold bE
  rw [jY Y]),wm (r+1) _ i X (λj _ Z=>by
  rw [gc,iO (IL Z)]
  simp),gc,jY rfl]
 simp
section
variable {r c:Nat}{A:Nat->Nat->Int}{T:Tb}{k:Nat}
def Good.dnl (G:Good r c A T)(Z:s<r+1):T.dn s<c+(r+1):=by
 by_cases z:s=r
 ·rw [z,G.last]
  omega
 ·have:=G.Vo s cr
  omega
def Good.adt (G:Good r c A T):∃W:Nat->Rat,(∀s,s<r+1->W (T.dn s)=(T.d:Rat)⁻¹*(T.L s c:Rat))/\(∀t,(∀s,s<r+1->T.dn s≠t)->W t=0)/\∀i,i<r+1->sumTo c (λt=>W t*(A i t:Rat))+W (c+i)=(A i c:Rat):=by
 show(λt=>sumTo (r+1) (λs=>if T.dn s=t then (T.d:Rat)⁻¹*(T.L s c:Rat) else 0),λs Z=>?_,λt h=>?_,λi Y=>?_)
 ·change sumTo (r+1) _=_
  rw [wm (r+1) _ s Z (λj U X=>iO λe=>X (G.dnI j s U Z e)),jY rfl]
 ·show sumZ _ _ λs Z=>iO (h s Z)
 ·rw [<-pj (A:=A) _ Y,wC _ _ _ _ _ (λs Z=>G.dnl Z)]
  let h:=G.adn (DX c) Y;rw [show vec c A T c i=A i c from iO (Qh c)] at h;rw [h];rfl
def Good.ray (G:Good r c A T)(Y:k<c):∃W:Nat->Rat,W (T.ac k)=(T.d:Rat)/\(∀s,s<r+1->W (T.dn s)= -(T.L s k:Rat))/\(∀t,T.ac k≠t->(∀s,s<r+1->T.dn s≠t)->W t=0)/\∀i,i<r+1->sumTo c (λt=>W t*(A i t:Rat))+W (c+i)=0:=by
 show(λt=>(if T.ac k=t then (T.d:Rat) else 0)+sumTo (r+1) (λs=>if T.dn s=t then -(T.L s k:Rat) else 0),?_,λs Z=>?_,λt h R=>?_,λi X=>?_)
 ·change (if T.ac k=T.ac k then (T.d:Rat) else 0)+sumTo (r+1) _=_
  rw [jY rfl,sumZ _ _ λs Z=>iO λe=>G.JJ k s Y Z e.symm];grind
 ·change (if T.ac k=T.dn s then (T.d:Rat) else 0)+sumTo (r+1) _=_
  rw [iO (G.JJ k s Y Z),wm (r+1) _ s Z (λj S U=>iO λe=>U (G.dnI j s S Z e)),jY rfl];grind
 ·change (if T.ac k=t then (T.d:Rat) else 0)+sumTo (r+1) _=_
  rw [iO h,sumZ _ _ λs Z=>iO (R s Z)];grind
 ·rw [<-pj (A:=A) _ X,dz _ _ (λt=>(if T.ac k=t then (T.d:Rat) else 0)*(bE c A t i:Rat)+sumTo (r+1) (λs=>if T.dn s=t then -(T.L s k:Rat) else 0)*(bE c A t i:Rat)) (λt _=>by grind),sumTo_add,ahC _ _ _ _ (by have:=G.ym k Y;omega),wC _ _ _ _ _ (λs Z=>G.dnl Z)]
  let h:=G.rel k (Qr Y) i X;rw [show vec c A T k i=bE c A (T.ac k) i from jY Y] at h
  rw [h,dz (r+1) (λs=> -(T.L s k:Rat)*(bE c A (T.dn s) i:Rat)) (λs=> -((T.L s k:Rat)*jL c A T s i)) (λs _=>by
   change _= -((T.L s k:Rat)*(bE c A (T.dn s) i:Rat))
   grind),ag8]
  grind
def Good.ao8 (G:Good r c A T):∃π:Nat->Rat,(∀j i,j<c->i<r->T.ac j=c+i->π i=(T.d:Rat)⁻¹*(T.L r j:Rat))/\(∀s i,s<r->i<r->T.dn s=c+i->π i=0)/\(∀j t,j<c->t<c->T.ac j=t->sumTo r (λi=>π i*(A i t:Rat))+(A r t:Rat)=(T.d:Rat)⁻¹*(T.L r j:Rat))/\
  (∀s t,s<r->t<c->T.dn s=t->sumTo r (λi=>π i*(A i t:Rat))+(A r t:Rat)=0)/\sumTo r (λi=>π i*(A i c:Rat))+(A r c:Rat)=(T.d:Rat)⁻¹*(T.L r c:Rat):=by
 let(π,π1,π2,π3,π4):=G.JK
 let lst:∀F:Nat->Int,sumTo (r+1) (λi=>π i*(F i:Rat))=sumTo r (λi=>π i*(F i:Rat))+(F r:Rat):=λF=>by
  rw [zaY,π1];grind
 let col:∀t,t<c->sumTo (r+1) (λi=>π i*(bE c A t i:Rat))=sumTo r (λi=>π i*(A i t:Rat))+(A r t:Rat):=λt Z=>by
  rw [dz (r+1) _ (λi=>π i*(A i t:Rat)) (λi _=>by
   unfold bE
   rw [jY Z]),lst (λi=>A i t)]
 show(π,λj i X U e=>?_,λs i Y U e=>?_,λj t X Z e=>?_,λs t Y Z e=>?_,?_)
 ·rw [<- π4 i U, <- π3 j cr]
  show dz _ _ _ λq _=>?_;rw [show vec c A T j q=bE c A (T.ac j) q from jY X,e]
 ·rw [<- π4 i U, <- π2 s Y]
  show dz _ _ _ λq _=>?_;rw [e]
 ·rw [<-col t Z, <- π3 j cr]
  show dz _ _ _ λq _=>?_;rw [show vec c A T j q=bE c A (T.ac j) q from jY X,e]
 ·rw [<-col t Z, <- π2 s Y]
  show dz _ _ _ λq _=>?_;rw [e]
 ·rw [<-lst (λi=>A i c), <- π3 c (DX _)]
  show dz _ _ _ λq _=>?_;rw [show vec c A T c q=A q c from iO (Qh c)]
end
structure ZH (r c:Nat)(g:Nat->Rat)(a:Nat->Nat->Rat)(l:Nat->Rat)(w:Rat)(x y:Nat->Rat):Prop where
 xp:∀t,t<c->0<=x t
 fit:∀i,i<r->sumTo c (λt=>a i t*x t)<=l i
 wth:sumTo c (λt=>g t*x t)=w
 yp:∀i,i<r->0<=y i
 prc:∀t,t<c->g t<=sumTo r (λi=>y i*a i t)
 wty:sumTo r (λi=>y i*l i)=w
structure ZI (r c:Nat)(g:Nat->Rat)(a:Nat->Nat->Rat)(x:Nat->Rat):Prop where
 xp:∀t,t<c->0<=x t
 fit:∀i,i<r->sumTo c (λt=>a i t*x t)<=0
 wth:sumTo c (λt=>g t*x t)=1
structure Lay (r c:Nat)(A:Nat->Nat->Int)(g:Nat->Rat)(a:Nat->Nat->Rat)(l:Nat->Rat)(b:Nat->Int)(gb:Int):Prop where
 bp:∀i,i<r->0<b i
 gp:0<gb
 row:∀i t,i<r->t<c->(A i t:Rat)=a i t*(b i:Rat)
 lim:∀i,i<r->(A i c:Rat)=l i*(b i:Rat)
 QH:∀t,t<c->(A r t:Rat)= -(g t*(gb:Rat))
 nul:A r c=0
section
variable {r c:Nat}{A:Nat->Nat->Int}{T:Tb}{k:Nat}{g:Nat->Rat}{a:Nat->Nat->Rat}{l:Nat->Rat}{b:Nat->Int}{gb:Int}
def rH {x y z:Rat}(hz:0<z)(h:x*z<=y*z):x<=y:=by
 apply Qi;intro n;have:=Zi (show 0<x-y by grind) hz;grind
def Good.most (G:Good r c A T)(L:Lay r c A g a l b gb)(S:∀j,j<c->0<=T.L r j)
  (D:∀t,t<c->(∀s,s<r->T.dn s=t->x t=(T.L s c:Rat) / (T.d:Rat))/\((∀s,s<r->T.dn s≠t)->x t=0))
  (E:∀i,i<r->(∀j,j<c->T.ac j=c+i->y i=((T.L r j*b i:Int):Rat) / ((T.d*gb:Int):Rat))/\((∀j,j<c->T.ac j≠c+i)->y i=0)) (C:w=(T.L r c:Rat) / ((T.d*gb:Int):Rat)):ZH r c g a l w x y:=by
 let(W,J,q,u):=G.adt;let(π,H,I,p3,p4,m):=G.ao8;let dp:=G.dR;let B:=wz L.gp;let M:0<(T.d:Rat)⁻¹:=Zj.mpr dp;let gi:0<(gb:Rat)⁻¹:=Zj.mpr B;let R:=V3 _ (show(gb:Rat)≠0 by grind)
 let dg:∀z:Int,(z:Rat) / ((T.d*gb:Int):Rat)=(gb:Rat)⁻¹*((T.d:Rat)⁻¹*(z:Rat)):=λz=>by
  have:((T.d*gb:Int):Rat)=(T.d:Rat)*(gb:Rat):=by push_cast;rfl
  rw [this];grind
 let o:∀t,t<c+r->0<=W t:=λt Y=>by
  by_cases z:∃s,s<r+1/\T.dn s=t
  ·let(s,X,e):=z
   have:s≠r:=λy=>by rw [y,G.last] at e;omega
   rw [<-e,J s X];let f:=G.Xl s cr;have:(0:Rat)<=(T.L s c:Rat):=by exact_mod_cast f
   show RM (Qm M) this
  ·rw [q t (λs X e=>z (s,X,e))]
   show Uu
 let P:∀t,t<c->x t=W t:=λt Y=>by
  by_cases z:∃s,s<r/\T.dn s=t
  ·let(s,X,e):=z
   rw [(D t Y).1 s X e,<-e,J s cr];grind
  ·rw [(D t Y).2 (λs X e=>z (s,X,e)),q t (λs X e=>?_)]
   by_cases y:s=r
   ·rw [y,G.last] at e
    omega
   ·show z (s,cr,e)
 let Q:∀i,i<r->y i=(gb:Rat)⁻¹*(π i*(b i:Rat)):=λi Z=>by
  rcases G.cov (c+i) cr with ⟨j,U,e⟩|⟨s,X,e⟩
  ·rw [(E i Z).1 j U e,H j i U Z e,dg]
   push_cast;grind
  ·rw [(E i Z).2 (λj U e'=>G.JJ j s U cr (e'.trans e.symm)),I s i X Z e]
   grind
 have πp:∀i,i<r->0<=π i:=λi Z=>by
  rcases G.cov (c+i) cr with ⟨j,U,e⟩|⟨s,X,e⟩
  ·rw [H j i U Z e]
   have:(0:Rat)<=(T.L r j:Rat):=by exact_mod_cast S j U
   show RM (Qm M) this
  ·rw [I s i X Z e]
   show Uu
 let Wr:W (c+r)=(T.d:Rat)⁻¹*(T.L r c:Rat):=by
  rw [<-G.last];show J r cr
 show(λt Y=>by rw [P t Y];show o t cr,λi Z=>?_,?_,λi Z=>?_,λt Y=>?_,?_)
 ·let h:=u i cr
  let w0:=o (c+i) cr;let bi:=wz (L.bp i Z);show rH bi ?_
  rw [<-L.lim i Z,<-h,dz c (λt=>W t*(A i t:Rat)) (λt=>(b i:Rat)*(a i t*x t)) (λt Y=>by
   rw [L.row i t Z Y,P t Y]
   grind),sumTo_mul]
  grind
 ·let h:=u r cr
  rw [L.nul,Wr,dz c (λt=>W t*(A r t:Rat)) (λt=>(-(gb:Rat))*(g t*x t)) (λt Y=>by
   rw [L.QH t Y,P t Y]
   grind),sumTo_mul] at h
  rw [C,dg]
  let N:(gb:Rat)*sumTo c (λt=>g t*x t)=(T.d:Rat)⁻¹*(T.L r c:Rat):=by
   have:((0:Int):Rat)=0:=rfl;rw [this] at h;grind
  rw [<-N,<-amO,R];grind
 ·rw [Q i Z]
  show RM (Qm gi) (RM (πp i Z) (Qm (wz (L.bp i Z))))
 ·let h:0<=sumTo r (λi=>π i*(A i t:Rat))+(A r t:Rat):=by
   rcases G.cov t cr with ⟨j,U,e⟩|⟨s,X,e⟩
   ·rw [p3 j t U Y e]
    have:(0:Rat)<=(T.L r j:Rat):=by exact_mod_cast S j U
    show RM (Qm M) this
   ·rw [p4 s t X Y e]
    show Uu
  rw [L.QH t Y,dz r (λi=>π i*(A i t:Rat)) (λi=>(gb:Rat)*(y i*a i t)) (λi Z=>by
   rw [L.row i t Z Y,Q i Z];have:(gb:Rat)*((gb:Rat)⁻¹*(π i*(b i:Rat))*a i t)=((gb:Rat)⁻¹*(gb:Rat))*(π i*(b i:Rat)*a i t):=by grind
   rw [this,R]
   grind),sumTo_mul] at h
  show rH B ?_;grind
 ·let h:=m
  rw [L.nul,dz r (λi=>π i*(A i c:Rat)) (λi=>(gb:Rat)*(y i*l i)) (λi Z=>by
   rw [L.lim i Z,Q i Z];have:(gb:Rat)*((gb:Rat)⁻¹*(π i*(b i:Rat))*l i)=((gb:Rat)⁻¹*(gb:Rat))*(π i*(b i:Rat)*l i):=by grind
   rw [this,R]
   grind),sumTo_mul] at h
  rw [C,dg]
  let N:(gb:Rat)*sumTo r (λi=>y i*l i)=(T.d:Rat)⁻¹*(T.L r c:Rat):=by
   have:((0:Int):Rat)=0:=rfl;rw [this] at h;grind
  rw [<-N,<-amO,R];grind
def Good.ZJ (G:Good r c A T)(L:Lay r c A g a l b gb)(C:k<c)(o:T.L r k<0)(free:∀s,s<r->T.L s k<=0)
  (U:∀t,t<c->(T.ac k=t->x t=((T.d*gb:Int):Rat) / ((-(T.L r k):Int):Rat))/\(∀s,s<r->T.dn s=t->x t=((-(T.L s k)*gb:Int):Rat) / ((-(T.L r k):Int):Rat))/\(T.ac k≠t->(∀s,s<r->T.dn s≠t)->x t=0)):ZI r c g a x:=by
 let(W,M,S,N,P):=G.ray C;let w:=G.dR;let B:=wz L.gp;let E:(0:Rat)<((-(T.L r k):Int):Rat):=wz cr;let D:0<((-(T.L r k):Int):Rat)⁻¹:=Zj.mpr E;let p:=V3 _ (show((-(T.L r k):Int):Rat)≠0 by grind)
 let J:∀t,t<c+r->0<=W t:=λt Z=>by
  by_cases z:∃s,s<r+1/\T.dn s=t
  ·let(s,Y,e):=z
   have:s≠r:=λy=>by rw [y,G.last] at e;omega
   rw [<-e,S s Y];let f:=free s cr;have:(T.L s k:Rat)<=0:=by exact_mod_cast f
   grind
  ·by_cases y:T.ac k=t
   ·rw [<-y,M]
    show Qm w
   ·rw [N t y (λs Y e=>z (s,Y,e))]
    show Uu
 let X:∀t,t<c->x t=(((-(T.L r k):Int):Rat)⁻¹*(gb:Rat))*W t:=λt Z=>by
  by_cases y:T.ac k=t
  ·rw [(U t Z).1 y,<-y,M]
   push_cast;grind
  ·by_cases z:∃s,s<r/\T.dn s=t
   ·let(s,Y,e):=z
    rw [(U t Z).2.1 s Y e,<-e,S s cr];push_cast;grind
   ·rw [(U t Z).2.2 y (λs Y e=>z (s,Y,e)),N t y (λs Y e=>?_)]
    ·grind
    ·by_cases I:s=r
     ·rw [I,G.last] at e
      omega
     ·show z (s,cr,e)
 let R:0<((-(T.L r k):Int):Rat)⁻¹*(gb:Rat):=Zi D B
 let q:W (c+r)=((-(T.L r k):Int):Rat):=by
  rw [<-G.last,S r cr];push_cast;rfl
 show(λt Z=>by rw [X t Z];show RM (Qm R) (J t cr),λi Q=>?_,?_)
 ·let h:=P i cr
  let H:=J (c+i) cr;let u:=wz (L.bp i Q)
  let e:sumTo c (λt=>a i t*x t)*(b i:Rat)=(((-(T.L r k):Int):Rat)⁻¹*(gb:Rat))*sumTo c (λt=>W t*(A i t:Rat)):=by
   rw [<-sumTo_mul,Rat.mul_comm,<-sumTo_mul];show dz _ _ _ λt Z=>?_;rw [L.row i t Q Z,X t Z];grind
  show rH u ?_;rw [e];have:sumTo c (λt=>W t*(A i t:Rat))= -(W (c+i)):=by grind
  rw [this];have:=RM (Qm R) H;grind
 ·let h:=P r cr
  rw [q] at h
  let e:sumTo c (λt=>g t*x t)=(-(((-(T.L r k):Int):Rat)⁻¹))*sumTo c (λt=>W t*(A r t:Rat)):=by
   rw [<-sumTo_mul];show dz _ _ _ λt Z=>?_;rw [L.QH t Z,X t Z];grind
  rw [e];have:sumTo c (λt=>W t*(A r t:Rat))= -(((-(T.L r k):Int):Rat)):=by grind
  rw [this];grind
end
end Px
namespace Ty
open PySem PySem.Spec PyProof.Rows L2
def aag {mw:L2.St}(p:Nat->Bool)(P:H1 D=none)(G:n<HZ)
  (N:∀(i:Nat) H (R:Bool->Hp->Prop),i<n->ar H1 H->R (p i) H->tt (some (.int (0+(i:Int)))::mw) H R)
  (M:∀(i:Nat) H (R:VK),i<n->ar H1 H->R (.int (i:Int)) H->te (some (.int (0+(i:Int)))::mw) H R)
  (L:∀H,ar H1 H->H D=some (.lst (((LK n).filter p).map λ(i:Nat)=>V.int (i:Int)))->Q (.ref D) H):
  vP D (dZ 0) tt te (Itr 0 n) (none::mw) H1 Q:=by
 show(λi m Y Z H=>m=n-i/\i<=n/\(∃o,Y=o::mw)/\ar H1 H/\H D=some (.lst Z)/\Z=((LK i).filter p).map λ(i:Nat)=>V.int (i:Int),(n,by simp,P1 _,#[none,O],λb o e=>by rwa [ag (aj e P)],af,O),?_);rintro i m Y Z H ⟨rfl,E,⟨o,rfl⟩,s,T,S⟩;by_cases U:i<n
 ·show .inr #[U,λx C y=>?_]
  let(I,J):=y;subst I J;unfold dZ;show N i _ _ U s ?_
  let X:((LK (i+1)).filter p).map (λ(i:Nat)=>V.int (i:Int))=Z++(if p i=true then [V.int (i:Int)] else []):=by
   rw [ZK,OE,QC,<-S];by_cases z:p i=true
   ·rw [jY z,ahu z]
    rfl
   ·rw [iO z,ahv z]
    rfl
  by_cases z:p i=true
  ·rw [jY z]
   rw [jY z] at X;show M i _ _ U s (T,?_,n-(i+1),cr,O,cr,#[_,O],?_,af,X.symm)
   ·have:Z.length<=i:=by
     rw [S,Wp];show GX (vV _ _) fN
    omega
   ·show λb o e=>by
     rw [ag (aj e P)];show s _ _ e
  ·rw [iO z]
   rw [iO z,amx] at X;show(n-(i+1),cr,O,cr,#[_,O],s,T,X.symm)
 ·let e:i=n:=cr
  subst e;show .inl #[DX _,L H s (by rw [T,S])]
section
variable {X:Cx}
def aci (Q:VK)(vs:γ)(Z:Hp):Prop:=∃(a n:Nat),vs=[.int (a:Int),.int ((a:Int)+n)]/\a<=1000/\n<=1000/\∀l,Z l=none->Q (.ref l) (upd Z l (.lst ((LK n).map λ(i:Nat)=>V.int ((a:Int)+i))))
def afd (Z:TA):TE:=λY H Q=>Z Y H (aci Q)
def ab4 {p S P T:Pos}(hc:X.calm=true)(c:Gl X "list")(f:X.mg "list"=none)(M:Gl X "range")(N:X.mg "range"=none)(ha:PA X [a,b] ta)(g:JF [a,b] X.env=[(false,II a X.env),(false,II b X.env)]:=by rfl)(C:JF [b] X.env=[(false,II b X.env)]:=by rfl)
  (E:JF [.Call (.Name "range" S) [a,b] [] T] X.env=[(false,II (.Call (.Name "range" S) [a,b] [] T) X.env)]:=by rfl):PE X (.Call (.Name "list" p) [.Call (.Name "range" S) [a,b] [] T] [] P) (afd ta):=by
 intro z s Y H Q I h;show Call_ (gZ I c f lJ (VJ ?_ E rfl));rw [E];change DA _ _ (spliced ((false,II (.Call (.Name "range" S) [a,b] [] T) X.env)::[])) _ _ s;show Zg ?_;show Call_ (gZ I M N boot_range (VJ (cJ (ha T z s Y H _ I h) λus Z ⟨vs,H1,A,w,m⟩=>?_) (by rw [g,C]) (by rw [C];rfl)));let(U,n,e,h0,G,q):=m;subst e;cases w with
 | cons r R=>
 cases R with
 | cons u R=>
  cases R;let(t,rfl):=r;let(t',rfl):=u;show call_range_2 (pZ ?_);let B:Inv X z Y H1 {Z with heap:=Z.heap.push {cls:=.type "range",data:=.fields (List.toArray [.int (U:Int) t,.int ((U:Int)+n) t',.int 1 Z.toks])},toks:=Z.toks+1}:=A.kept λb o e=>LM _ e;show call_list_range (n:=n) (A.ok.hd hc) (IsRange.new ..) (small_one cr cr cr cr) (by rw [rangeSize_one];split<;>omega) (GX G eY) λh' y J c' k hS L=>?_;have GJ :=B.cg.fresh (DX (Z.heap.push {cls:=.type "range",data:=.fields (List.toArray [.int (U:Int) t,.int ((U:Int)+n) t',.int 1 Z.toks])}).objs.size)
  let x:Vals ((LK n).map λ(i:Nat)=>V.int ((U:Int)+i)) J.toList:=fm (by have:=L.1;simp;omega) λi a b D e2=>by
   rw [ir] at D;let(j,ej,rfl):=MK.mp D;let(hj,rfl):=be.mp ej;let(t',e4):=L.2 i b (by simpa using e2);rw [amQ];show#[t',by rw [e4];simp]
  let I3:=B.laid (t':=y) (o:=.lst ((LK n).map λ(i:Nat)=>V.int ((U:Int)+i))) k (DX _) (by simp;show GX G eY,J.toList,c',x,by simpa using hS);show(.ref _,_,I3,O,q _ GJ)
end
def afX {K:Frag}{st:Stmt}{I kV U X T:Value}{J R:Ζ}{L:Ι}
  (lk:K.lookup f=some (I,J,.func (fnOf name qual (aq st) (ao st) (ae st) .none kV U X R (.ref cA) T),L)) (G:codeIn K (.ref cA) qual=true) (S:aw N ps (ae st)) (Z:∀vs H Q E,sp vs H Q E->vs.length=ps.length)
  (C:∀(A:Mf)(Y:List Env)(s:G_)(H:Hp)(vs:γ)(Q:VK)(E:XK),cp k (A.deeper (Qv qual (ae st) s.heap.objs.size f (.ref cA)))->sp vs H Q E->
   ∃t,qv (qC P w K mg gN N qual (ae st) f (.ref cA) A Y s H E).ve (ao st) t/\t {nx:=λ_ B=>Q .cK B,rt:=Q} (start N vs) H):cO P w K mg gN (aU P w) (k+1) f (fnOf name qual (aq st) (ao st) (ae st) .none kV U X R (.ref cA) T) ps sp:=
 zo lk G S Z λA Y s H vs Q E D M=>by
  let(t,h,q):=C A Y s H vs Q E D M;show(t,h.ve,q)
def kc {K:Frag}{st:Stmt}(F:nO K name qual st f fd)(S:aw N ps (ae st))(Y:∀vs H Q E,sp vs H Q E->vs.length=ps.length)
  (M:∀(Z:Value)(A:Mf)(X:List Env)(s:G_)(H:Hp)(vs:γ)(Q:VK)(E:XK),cp k (A.deeper (Qv qual (ae st) s.heap.objs.size f Z))->sp vs H Q E->
   ∃t,qv (qC P w K mg gN N qual (ae st) f Z A X s H E).ve (ao st) t/\t {nx:=λ_ J=>Q .cK J,rt:=Q} (start N vs) H):cO P w K mg gN (aU P w) (k+1) f fd ps sp:=by
 let(C,D,kV,L,G,z,Z,B,I,rfl,lk,T):=F.ex
 show zo lk T S Y λA X s H vs Q E R U=>by
  let(t,h,q):=M Z A X s H vs Q E R U;show(t,h.ve,q)
def cp.two (r:cp k A):A.in1.in1.depth<ZE:=by
 have:=r.dp;change A.depth<ZE;omega
section
variable {X:Cx}{e o:Expr}{es:Α}{ta:TE}{t:TA}{f m:Str}{pos apos:Pos}{P:LS}{w:World}{K:Frag}{mg:ι}{gN:Heap}{CX:oI}{k:Nat}{E:XK}
def ahB (h:X.K=K)(Z:PE X e ta)(Y:Wq e f X.env (II e X.env)=II e X.env):PE X (.Attribute e f pos) (afV K ta f):=by subst h;show bx Z Y
def afK {pl:Sem Bool}(I:X.prog=P)(J:X.w=w)(L:X.K=K)(M:X.mg=mg)(N:X.gN=gN)(R:PE X o ta)(S:cp k X.A)(U:Passes CX X E)(Q:PA X (e::es) t)
  (H:JF (e::es) X.env=(false,II e X.env)::JF es X.env:=by rfl) (Y:(QG pos (JF es X.env)).any (·.1)=false:=by rfl)
  (T:II (.Call (.Attribute o m apos) (e::es) [] pos) X.env=(do
   let Z <- II o X.env
   standAt apos.atName
   let (f,first) <- Wf [Z] (getMethod Z m pl)
   callWith pos f first (QG pos (JF (e::es) X.env)) (backToKw pos (ZU [] X.env))):=by rfl):
  PE X (.Call (.Attribute o m apos) (e::es) [] pos) (acK P w K mg gN CX k m E ta t):=by
 subst I J L M N;show d6 R S U Q H Y T
end
def BS {us:γ}(h:us[us.length-1]?=some u):iP us (-1)=some u:=by
 let Z:us.length-1<us.length:=(be.mp h).1
 let e:us=us.take (us.length-1)++[u]:=by
  show U3 λi=>?_;rw [List.getElem?_append,Me];by_cases z:i<us.length-1
  ·rw [jY cr,agW z]
  ·rw [iO cr]
   by_cases y:i=us.length-1
   ·rw [y,h]
    simp [AH (Nat.sub_le _ _)]
   ·rw [JM cr,JM (by simp;omega)]
 rw [e];show aeX _ _
def pC (h:j<n):LR n (j:Int)=some j:=by
 unfold LR;rw [jY cr,jY cr];simp
def ln (n:Nat)(F:Nat->Int):List V:=(LK n).map λj=>V.int (F j)
def cC :(ln n F).length=n:=by simp [ln]
def jF (h:j<n):(ln n F)[j]?=some (.int (F j)):=by
 unfold ln;rw [ir,Vi h];rfl
def kR (h:j<n):iP (ln n F) (j:Int)=some (.int (F j)):=bI (jF h)
def ahd (h:j<n):iP (ln n F) (0+(j:Int))=some (.int (F j)):=by
 rw [Qa];show kR h
def pE :iP (ln (n+1) F) (-1)=some (.int (F n)):=BS (by rw [cC];show jF (Qg n))
def wD {xs:γ}(Y:xs.length=n)(h:∀(i:Nat)(v:V),i<n->xs[i]?=some v->v=.int (F i)):xs=ln n F:=by
 show U3 λi=>?_;by_cases Z:i<n
 ·let e:xs[i]?=some (xs[i]'cr):=gE cr
  rw [e,h i _ Z e,jF Z]
 ·rw [JM cr,JM (by rw [cC];omega)]
def BU (h:j<n):(ln n F).set j (.int v)=ln n (λi=>if i=j then v else F i):=by
 show wD (by simp [cC]) λi u Z e=>?_;rw [Qs,cC] at e;by_cases z:j=i
 ·subst z
  erw [jY rfl,jY h] at e;rw [jY rfl]
 ·rw [iO z,jF Z] at e
  cases e;rw [iO (IL z)]
def lS (h:∀i,i<n->F i=G i):ln n F=ln n G:=wD cC λi v Z e=>by
 erw [jF Z] at e;rw [h i Z]
open Px (Tb)
def QK (H:Hp)(us:γ)(n m:Nat)(L:Nat->Nat->Int):Prop:=us.length=n/\∀s,s<n->∃p,us[s]?=some (.ref p)/\H p=some (.lst (ln m (L s)))
def QK.gO (h:QK H us n m L)(k:∀(b:AZ)(xs:γ),(∃s,s<n/\us[s]?=some (.ref b))->H b=some (.lst xs)->H' b=some (.lst xs)):QK H' us n m L:=#[h.1,λs Z=>by
 let(p,Y,X):=h.2 s Z
 show(p,Y,k p _ (s,Z,Y) X)]
def Vv (Z X Y:AZ)(d:Int):List (Str×V):=[("lines",.ref Z),("bottom",.int d),("across",.ref X),("down",.ref Y)]
def abr :dC "lines" (.ref l) (Vv lL lA lD d)=Vv l lA lD d:=by
 unfold Vv dC;rw [jY rfl]
def aaA :dC "bottom" (.int d') (Vv lL lA lD d)=Vv lL lA lD d':=by
 unfold Vv;simp only [dC];rw [iO eY,jY trivial]
def ae8 :dC "bottom" y [("lines",x)]=([("lines",x),("bottom",y)]:List (Str×V)):=by
 simp only [dC];rw [iO eY]
def ae7 :dC "across" z [("lines",x),("bottom",y)]=([("lines",x),("bottom",y),("across",z)]:List (Str×V)):=by
 simp only [dC];rw [iO eY,iO eY]
def ae3 :dC "down" u [("lines",x),("bottom",y),("across",z)]=([("lines",x),("bottom",y),("across",z),("down",u)]:List (Str×V)):=by
 simp only [dC];rw [iO eY,iO eY,iO eY]
structure iG (H:Hp)(C a dx lL lA lD:AZ)(us:γ)(r c:Nat)(T:Tb):Prop where
 obj:H a=some (.ins C dx (Vv lL lA lD T.d))
 ib:H lL=some (.lst us)
 row:QK H us (r+1) (c+1) T.L
 oM:H lA=some (.lst (ln c λj=>(T.ac j:Int)))
 uk:H lD=some (.lst (ln r λs=>(T.dn s:Int)))
 neA:lA≠lD
 nrA:∀s:Nat,us[s]? ≠some (V.ref lA)
 nrD:∀s:Nat,us[s]? ≠some (V.ref lD)
 nlA:lL≠lA
 nlD:lL≠lD
theorem iG.gO (h:iG H C a dx lL lA lD us r c T)(s:∀b o,(∀ps,o≠.lj ps)->H b=some o->H' b=some o):iG H' C a dx lL lA lD us r c T:=
 (s _ _ (λ_ z=>nomatch z) h.obj,s _ _ (λ_ z=>nomatch z) h.ib,h.row.gO λb xs _ e=>s _ _ (λ_ z=>nomatch z) e,s _ _ (λ_ z=>nomatch z) h.oM,s _ _ (λ_ z=>nomatch z) h.uk,h.neA,h.nrA,h.nrD,h.nlA,h.nlD)
def iG.jR (h:iG H C a dx lL lA lD us r c T)(s:ar H H'):iG H' C a dx lL lA lD us r c T:=h.gO λb o _ e=>s b o e
def Xm (r c B:Nat)(T:Tb):Prop:=T.d.natAbs<=2^B/\∀s j,s<r+1->j<c+1->(T.L s j).natAbs<=2^B
def iG.last (h:iG H C a dx lL lA lD us r c T):∃p,iP us (-1)=some (.ref p)/\H p=some (.lst (ln (c+1) (T.L r))):=by
 let(p,Y,Z):=h.row.2 r (Qg r);show(p,BS (by rwa [h.row.1]),Z)
def iG.line (h:iG H C a dx lL lA lD us r c T)(Z:s<r+1):∃p,iP us (s:Int)=some (.ref p)/\H p=some (.lst (ln (c+1) (T.L s))):=by
 let(p,X,Y):=h.row.2 s Z;show(p,bI X,Y)
structure rJ (K:Frag)(C:AZ):Prop where
 cls:y_ K C
 ib:e_ K C "lines"
 bot:e_ K C "bottom"
 oM:e_ K C "across"
 uk:e_ K C "down"
def ZQ (r c:Nat)(T:Tb)(k a:Nat):Prop:=a<r/\0<T.L a k/\∀s,s<r->0<T.L s k->T.L a c*T.L s k<T.L s c*T.L a k\/(T.L a c*T.L s k=T.L s c*T.L a k/\T.dn a<=T.dn s)
section
variable {X:Cx}
inductive JO (Q:VK)(x:V)(Z:Hp):Prop
|mk (d AV:_)(_:x=.ref d)(_:Z d=some (.dK AV))(_:∀l,Z l=none->Q (.ref l) (upd Z l (.lst (AV.map λY=>Y.2))))
def zaZ (Z:TE):TE:=λY H Q=>Z Y H (JO Q)
def aaG {Z S p M:Pos}(hc:X.calm=true)(hg:Gl X "list")(hm:X.mg "list"=none)(ho:PE X e te)(j:Wq e "values" X.env (II e X.env)=II e X.env:=by rfl)(m:(Z.endLine==S.line)=true:=by rfl)
  (B:JF [(.Call (.Attribute e "values" Z) [] [] S:Expr)] X.env=[(false,II (.Call (.Attribute e "values" Z) [] [] S) X.env)]:=by rfl):
  PE X (.Call (.Name "list" p) [.Call (.Attribute e "values" Z) [] [] S] [] M) (zaZ te):=by
 intro u s Y H Q I h;show Call_ (gZ I hg hm boot_list (VJ ?_ B rfl));rw [B];change DA _ _ (spliced ((false,II (.Call (.Attribute e "values" Z) [] [] S) X.env)::[])) _ _ s;show Zg ?_;show wpAny_Call_method0_late j m (cJ (ho u s Y H _ I h) λv U ⟨x,H1,P,r1,q1⟩=>?_);let(d,E,rfl,e,q):=q1;cases r1;let(L,h2,hd):=US P (.inl #[E,.inl e]);let(z,YY,N,T,o,J,ep,Og,hx,kb,hk,hp,hn):=vR P.cg e;let da:U.heap.DictAt (bO X.prog X.w) d N ep:=(o,J,Og,hx,kb,hk,hp,hn);let lv:=T.length;show("dict","dict.values",F.plainAttrs_dict,F.slot_dict_values,F.type_dict_values,L,h2,yu rfl (PySem.evalArgs_none ?_));show yo F.slot_dict_values L F.entry_dict_values (F.args_dict_values_1 _) (aaE d hd) #[L,pZ ?_];let G:(U.heap.push {cls:=.type "dict_values",data:=.fields (List.toArray [.ref d])}).DictAt (bO X.prog X.w) d N ep:=da.at' λo e=>LM _ e;let y:Inv X u Y H1 {U with heap:=U.heap.push {cls:=.type "dict_values",data:=.fields (List.toArray [.ref d])},toks:=U.toks}:=P.kept (t':=U.toks) λb o e=>LM _ e;show PySem.W.kdl_call (s:={U with heap:=U.heap.push {cls:=.type "dict_values",data:=.fields (List.toArray [.ref d])}}) (PySem.W.kdl_values (knd:=bO X.prog X.w) (r:=U.heap.objs.size) (kvs:=N) (ep:=ep)) (P.ok.hd hc) #[(_,QL _ rfl,O,O),G] cr λh' g C c' kk hS D=>?_;have GJ :=y.cg.fresh (DX (U.heap.push {cls:=.type "dict_values",data:=.fields (List.toArray [.ref d])}).objs.size)
 let f:Vals (E.map λR=>R.2) C.toList:=fm (by have:=D.1;simp;omega) λi a b A e2=>by
  rw [ir] at A;let(R,ek,rfl):=MK.mp A;let(q',eq,e3,c):=aQ T ek;let(k,e4):=D.2 i b (by simpa using e2);erw [eq] at e4;show c
 let I3:=y.laid (t':=g) (o:=.lst (E.map λR=>R.2)) kk (DX _) (by rwa [Wp],C.toList,c',f,by simpa using hS);show(.ref _,_,I3,O,q _ GJ)
def BV {Z:Type}(a:Nat)(xs:List Z):List Z:=(LK ((xs.length+1-a) / 2)).filterMap λk=>xs[a+2*k]?
theorem Mp {Z β:Type}(f:Z->Option β):∀(l:List Z),(∀x∈l,∃y,f x=some y)->(l.filterMap f).length=l.length/\∀i:Nat,(l.filterMap f)[i]?=l[i]?.bind f
 | [],_=>#[O,λi=>by simp]
 | x::t,h=>by
  let(y,e):=h x (Mo ..);let(T,U):=Mp f t λz Y=>h z (MV _ Y);rw [List.filterMap_cons_some e];show#[by simp [T],λi=>?_];cases i with
  | zero=>simp [e]
  | succ i=>simp [U i]
def ahA {Z:Type}(a:Nat)(xs:List Z):∀k∈LK ((xs.length+1-a) / 2),∃y,xs[a+2*k]?=some y:=λk Y=>by
 have:=QF.mp Y;show#[_,gE cr]
def fZ (a:Nat)(xs:List Z):(BV a xs).length=(xs.length+1-a) / 2:=by
 unfold BV;rw [(Mp _ _ (ahA a xs)).1,Zq]
def mJ (a:Nat)(xs:List Z)(h:i<(xs.length+1-a) / 2):(BV a xs)[i]?=xs[a+2*i]? :=by
 unfold BV;rw [(Mp _ _ (ahA a xs)).2,Vi h];rfl
def akq {xs:γ}{us:ρ}(a:Nat)(h:Vals xs us):Vals (BV a xs) (BV a us):=by
 let Y:=h.length;show fm (by rw [fZ,fZ,Y]) λi x y Z U=>?_
 let T:i<(xs.length+1-a) / 2:=by
  have:=(be.mp Z).1
  rwa [fZ] at this
 rw [mJ a xs T] at Z;rw [mJ a us (by rwa [<-Y])] at U;let(R,S,r):=aQ h Z;erw [U] at S;show r
theorem lV {Z β:Type}{f g:Z->Option β}:∀{l:List Z},(∀x∈l,f x=g x)->l.filterMap f=l.filterMap g
 | [],_=>rfl
 | x::t,h=>by
  simp only [HV];rw [h x (Mo ..),lV λz hz=>h z (MV _ hz)]
def ahe (items:Ν)(a:Nat):slicePick items (some (a:Int)) none (some 2)=(BV a items.toList).toArray:=by
 unfold slicePick
 let U:WA (some (a:Int)) none (some 2) items.size=(((min a items.size:Nat):Int),((items.size:Int),2)):=by
  unfold WA;dsimp only [Option.getD_some];rw [jY eY,iO cr,jY eY];congr 1;omega
 rw [U];congr 1;unfold sliceRange BV;dsimp only;rw [jY eY,ahN]
 let Y:(if ((min a items.size:Nat):Int)<(items.size:Int) then ((items.size:Int)-((min a items.size:Nat):Int)+2-1) / 2 else 0).toNat=(items.size+1-a) / 2:=by
  split<;>omega
 rw [Y,List.filterMap_map];show lV λk Z=>?_;have:=QF.mp Z;change items[(((min a items.size:Nat):Int)+2*(k:Int)).toNat]?=items.toList[a+2*k]?;rw [show(((min a items.size:Nat):Int)+2*(k:Int)).toNat=a+2*k by omega,Array.getElem?_toList]
def adv (K:Frag)(Q:VK)(x:V)(z:V)(y:V)(Z:Hp):Prop:=∃(a:Nat)(l:AZ)(xs:γ),z=.int (a:Int)/\y=.int 2/\x=.ref l/\bh K Z l xs/\∀p,Z p=none->Q (.ref p) (upd Z p (.lst (BV a xs)))
def adw (K:Frag)(ts:TE)(Y:L2.St)(Q:VK)(x:V)(z:V)(Z:Hp):Prop:=ts Y Z (adv K Q x z)
def adx (K:Frag)(Z ts:TE)(Y:L2.St)(Q:VK)(x:V)(U:Hp):Prop:=Z Y U (adw K ts Y Q x)
def ao9 (K:Frag)(U Z ts:TE):TE:=λY H Q=>U Y H (adx K Z ts Y Q)
def Vx {K:Frag}{e lo st:Expr}(k:X.K=K)(m:PE X e te)(p:PE X lo tl)(u:PE X st ts):PE X (.Subscript e (.Slice (some lo) none (some st) p2) pos) (ao9 K te tl ts):=by
 subst k;intro U s Y H Q I h;show Subscript_ (cJ (m U s Y H _ I h) λv N ⟨x,H1,g,J,D⟩=>?_);show wpAny_Slice ?_;rw [evalPart_some];show cJ (p U N Y H1 _ g D) λvl P ⟨z,c,i,M,E⟩=>?_;rw [evalPart_none];show LN ?_;rw [evalPart_some];show cJ (u U P Y c _ i E) λvk Z ⟨y,f,j,L,G⟩=>?_;let(a,l,xs,rfl,rfl,rfl,B,q):=G;let(t,rfl):=L;let(t',rfl):=M;cases J;let T:Inv X U Y f {Z with heap:=Z.heap.push {cls:=.type "slice",data:=.fields (List.toArray [.int (a:Int) t',.none,.int 2 t])}}:=j.kept (t':=Z.toks) λb C q=>LM _ q;let(BC,r,S,hz):=T.list B;let R:=r.length;change DA (DW X.prog X.w) X.A (subscriptTail e (.Slice (some lo) none (some st) p2) (.ref l) (.ref Z.heap.objs.size)) (EP X U Y Q) X.xe {Z with heap:=Z.heap.push {cls:=.type "slice",data:=.fields (List.toArray [.int (a:Int) t',.none,.int 2 t])}};show tail_any (ops:=[.ref l,.ref Z.heap.objs.size]) S.isList.typeIs slot_list_getitem.lookup ?_ (by with_unfolding_all rfl);show wpAny_getItem_list_slice S.isList (Heap.IsSliceOf.new ..) (.int (a:Int) t') .none (.int 2 t) eY ?_ (by rw [QE]<;>omega);rw [ahe];show(.ref _,_,T.laid (t':=Z.toks) (o:=.lst (BV a xs)) (λb C q=>LM _ q) (DX _) ?_,O,q _ (T.cg.fresh (DX _)));show(by rw [fZ];omega,BV a BC,0,akq a r,QL _ rfl)
end
end Ty
namespace T_k77
open PySem PySem.Spec PyProof.Rows L2 Ty
open Builtin.Int (intBits)
abbrev ad (P:LS)(w:World)(K:Frag)(mg:ι)(gN:Heap):=Fn P w K mg gN (aU P w)
abbrev am (P:LS)(w:World)(K:Frag)(mg:ι)(gN:Heap):=cO P w K mg gN (aU P w)
abbrev bn (P:LS)(w:World)(K:Frag)(mg:ι)(gN:Heap):=bN P w K mg gN (aU P w)
abbrev bv (a:AZ):Option V:=some (.ref a)
theorem sq2 {a b c:TS}{D Y H}(s:let y:=c;let z:=I_ b y;I_ a z D Y H):I_ a (I_ b c) D Y H:=s
theorem sq3 {a b c d:TS}{D Y H}(s:let x:=d;let y:=I_ c x;let z:=I_ b y;I_ a z D Y H):I_ a (I_ b (I_ c d)) D Y H:=s
theorem sq4 {a b c d e:TS}{D Y H}(s:let w:=e;let x:=I_ d w;let y:=I_ c x;let z:=I_ b y;I_ a z D Y H):I_ a (I_ b (I_ c (I_ d e))) D Y H:=s
theorem sq6 {a b c d e f g:TS}{D Y H}(s:let u:=g;let v:=I_ f u;let w:=I_ e v;let x:=I_ d w;let y:=I_ c x;let z:=I_ b y;I_ a z D Y H):I_ a (I_ b (I_ c (I_ d (I_ e (I_ f g))))) D Y H:=s
theorem sq8 {a b c d e f g h i:TS}{D Y H}(s:let r:=i;let t:=I_ h r;let u:=I_ g t;let v:=I_ f u;let w:=I_ e v;let x:=I_ d w;let y:=I_ c x;let z:=I_ b y;I_ a z D Y H):I_ a (I_ b (I_ c (I_ d (I_ e (I_ f (I_ g (I_ h i))))))) D Y H:=s
theorem sq13 {a b c d e f g h i j k l m n:TS}{D Y H}(s:let F:=n;let E:=I_ m F;let C:=I_ l E;let B:=I_ k C;let A:=I_ j B;let r:=I_ i A;let t:=I_ h r;let u:=I_ g t;let v:=I_ f u;let w:=I_ e v;let x:=I_ d w;let y:=I_ c x;let z:=I_ b y;I_ a z D Y H):I_ a (I_ b (I_ c (I_ d (I_ e (I_ f (I_ g (I_ h (I_ i (I_ j (I_ k (I_ l (I_ m n)))))))))))) D Y H:=s
local macro_rules|`(tactic|sleep 2)=>`(tactic|(try dsimp only [qC,nN,Cx.ve,Cx.yd];refine sq2 ?_;intros))|`(tactic|sleep 3)=>`(tactic|(try dsimp only [qC,nN,Cx.ve,Cx.yd];refine sq3 ?_;intros))|`(tactic|sleep 4)=>`(tactic|(try dsimp only [qC,nN,Cx.ve,Cx.yd];refine sq4 ?_;intros))|`(tactic|sleep 6)=>`(tactic|(try dsimp only [qC,nN,Cx.ve,Cx.yd];refine sq6 ?_;intros))|`(tactic|sleep 8)=>`(tactic|(try dsimp only [qC,nN,Cx.ve,Cx.yd];refine sq8 ?_;intros))|`(tactic|sleep 13)=>`(tactic|(try dsimp only [qC,nN,Cx.ve,Cx.yd];refine sq13 ?_;intros))
abbrev ce:=Nat->L2.St->Hp->Prop
def z0L:0<=HZ:=eY
def qB:1<=HZ:=eY
def qt:2<=HZ:=eY
def z3L:3<=HZ:=eY
def z4L:4<=HZ:=eY
def z5L:5<=HZ:=eY
def z6L:6<=HZ:=eY
seal L2.PE L2.PS L2.qv L2.PA
abbrev Qj:List Str:=["_law_one","_law_other"]
abbrev My:List Str:=["one","other"]
abbrev UY:List Str:=["_law_cell","_law_prime","_law_many"]
abbrev M_:List Str:=["self"]
abbrev JA:List Str:=["_law_script","_law_pins","_law_bars_here","_law_bounds_here"]
abbrev yA:List Str:=["_law_found","_law_k","_law_axis","_law_draw"]
abbrev Vn:List Str:=["_law_top","_law_bottom"]
abbrev α7:List Str:=["self","name","one","other"]
abbrev J':List Str:=["_law_pins","_law_bars_here","_law_pulls","_law_pushes"]
abbrev U5:List Str:=["self","pin"]
abbrev UU:List Str:=["top","bottom"]
abbrev α0:List Str:=["_law_script","_law_k"]
abbrev VY:List Str:=["F","one","other"]
abbrev xj:List Str:=["_law_pins","_law_bar","_law_axis"]
abbrev Ut:List Str:=["rows","many"]
abbrev Vm:List Str:=["lines","many"]
abbrev IZ:List Str:=["states","ways","lows_and_highs"]
abbrev UT:List Str:=["numbers"]
abbrev IT:List Str:=["_law_script","_law_bars_here"]
abbrev IS:List Str:=["self","name","x","y","hold"]
abbrev α':List Str:=["F","numbers"]
abbrev zav:List Str:=["table","column","bottom","many","growth","x","at","thing"]
abbrev IQ:List Str:=["_law_pins","_law_bars_here"]
abbrev Vl:List Str:=["_law_cell"]
abbrev w_:List Str:=["_law_cell","_law_k"]
abbrev IP:List Str:=["table","column","bottom"]
abbrev KN:List Str:=["table","wholes","bottom"]
abbrev KJ:List Str:=["_law_script","_law_pins"]
abbrev KI:List Str:=["needed","column","many"]
abbrev KD:List Str:=["gains","rows","limits"]
abbrev KC:List Str:=["_law_cell","_law_kind"]
abbrev JZ:List Str:=["line","lead","column"]
abbrev JY:List Str:=["shares","rows","many"]
abbrev JX:List Str:=["_law_pairs","_law_by"]
abbrev zaI:List Str:=["self","line","lead","column"]
abbrev JW:List Str:=["_law_pair","_law_by"]
abbrev zaK:List Str:=["_law_cell","_law_k","_law_style","_law_at"]
abbrev Zw:List Str:=["_law_script"]
abbrev zaM:List Str:=["self","at","best","column"]
abbrev yD:List Str:=["ones","others"]
abbrev JQ:List Str:=["rows","due","many"]
abbrev JL:List Str:=["F","bounds","load"]
abbrev yB:List Str:=["self","x","y"]
abbrev Zv:List Str:=["F","draws"]
abbrev zaS:List Str:=["one","other","times","self","less"]
abbrev JE:List Str:=["lines","column"]
abbrev Zu:List Str:=["_law_one"]
abbrev zaV:List Str:=["self","at","column"]
abbrev zaW:List Str:=["whole","other","times","less"]
abbrev JD:List Str:=["self","lines"]
abbrev Vu:List Str:=["row"]
abbrev ZR:List Str:=["line"]
abbrev KP:List Str:=["self","bar"]
abbrev KO:List Str:=["F","bounds"]
abbrev za2:List Str:=["share","whole"]
abbrev za3:List Str:=["self","column"]
def sq {N P:τ}{Z:Scope}(a:Z.kind=.function:=by show O)(b:Z.isCoroutine=false:=by show O)(c:Z.isGenerator=false:=by show O)(d:N.Nodup:=by decide+kernel)(e:N.take P.length=P:=by show O)(f:∀x∈P,Z.names.lookup x=some .local\/Z.names.lookup x=some .cell:=by decide+kernel)(g:∀y∈Z.names,y.2≠.free:=by decide+kernel):aw N P Z:=(a,b,c,d,e,f,g)
def pY (P:LS)(w:World){X:Cx}:Passes (aU P w) X.ve E0:=tI aU.BB
def pX {X:Cx}:Passes (aU P w) X.ve E0:=tI aU.BB
def _root_.L2.cp.mo (r:L2.cp k A)(h:j<=k:=by decide):L2.cp j A:=r.mono h
def aH (h:PE X a ta):PE X (.Subscript a (.Constant (.int i) j p1) p2) (tOp (σ8 X.K) ta (tC (.int i))):=UA rg h ah (λ_ _=>O)
def z9 (h:PE X a ta):PE X (.Subscript a (.Constant (.int i) j p1) p2) (tOp (σ7 X.K) ta (tC (.int i))):=UA aE h ah (λ_ _=>O)
def bl1{P:List Value->Prop}(h:∀a:Value,P [a]):∀us:List Value,us.length=1->P us|[_],_=>h _
def blS{P:List Value->Prop}{n:Nat}(h:∀a us,us.length=n->P (a::us)):∀us:List Value,us.length=n+1->P us|a::us,e=>h a us (Nat.succ.inj e)
def bl2{P:List Value->Prop}(h:∀a b:Value,P [a,b]):∀us:List Value,us.length=2->P us:=blS λa=>bl1 (h a)
def bl3{P:List Value->Prop}(h:∀a b c:Value,P [a,b,c]):∀us:List Value,us.length=3->P us:=blS λa=>bl2 (h a)
def bl4{P:List Value->Prop}(h:∀a b c d:Value,P [a,b,c,d]):∀us:List Value,us.length=4->P us:=blS λa=>bl3 (h a)
def bl5{P:List Value->Prop}(h:∀a b c d e:Value,P [a,b,c,d,e]):∀us:List Value,us.length=5->P us:=blS λa=>bl4 (h a)
def bl6{P:List Value->Prop}(h:∀a b c d e f:Value,P [a,b,c,d,e,f]):∀us:List Value,us.length=6->P us:=blS λa=>bl5 (h a)
def bl7{P:List Value->Prop}(h:∀a b c d e f g:Value,P [a,b,c,d,e,f,g]):∀us:List Value,us.length=7->P us:=blS λa=>bl6 (h a)
def _root_.L2.nO.yn {K:Frag}{st:Stmt}(F:L2.nO K x qual st f fd)
 (h:∀(kV Z Y:Value)(T:Ζ)(X U:Value)(us:ρ),us.length=ps.length->bindArgs (fnOf x qual (aq st) (ao st) (ae st) .none kV Z Y T X U) #[us,[]]=pure (ps.zip us):=by intro _ _ _ _ _ _;first|show bl1 λ_=>O|show bl2 λ_ _=>O|show bl3 λ_ _ _=>O|show bl4 λ_ _ _ _=>O|show bl5 λ_ _ _ _ _=>O):Binds K fd ps []:=F.binds h
inductive mq (K:Frag)(x:Str)(st:Stmt):Prop|mk{f:AZ}{S:Value}{T Q:Ζ}{X:Ι}{kV Z U Y R:Value}(a:nsIn K LO x=some (some (.ref f)))(l:K.lookup f=some (S,T,.func (fnOf x x (aq st) (ao st) (ae st) .none kV Z U Q Y R),X))(c:codeIn K Y x=true)(k:keepIn K (.ref f)=true):mq K x st
inductive qz (K:Frag)(C:AZ)(x q:Str)(st:Stmt):Prop|mk{f:AZ}{S:Value}{T Q:Ζ}{X:Ι}{kV Z U Y R:Value}(a:P5 K (.ref C) x=some (some (.ref f)))(i:Zy K (.ref f)=true)(l:K.lookup f=some (S,T,.func (fnOf x q (aq st) (ao st) (ae st) .none kV Z U Q Y R),X))(c:codeIn K Y q=true)(k:keepIn K (.ref f)=true):qz K C x q st
def gQ {K:Frag}{mg:ι}{st:Stmt}(X:K.In h)(G:h.Ns LO mg)(H:mq K x st)
 (b:∀(kV Z Y:Value)(S:Ζ)(U T:Value)(us:ρ),us.length=ps.length->bindArgs (fnOf x x (aq st) (ao st) (ae st) .none kV Z Y S U T) #[us,[]]=pure (ps.zip us):=by intro _ _ _ _ _ _;first|show bl1 λ_=>O|show bl2 λ_ _=>O|show bl3 λ_ _ _=>O|show bl4 λ_ _ _ _=>O|show bl5 λ_ _ _ _ _=>O|show bl6 λ_ _ _ _ _ _=>O|show bl7 λ_ _ _ _ _ _ _=>O):Def K mg x st ps:=have ⟨a,l,c,k⟩:=H;Def.of (cQ l c k) ((cQ l c k).binds b) (mg_of X G a)
def top (i:Nat):Stmt:=PySem.Challenge.pw_trussyard_k77_whole_bounds_and_loads_tim.main.body.getD i (.Pass (0,0,0,0))
abbrev Mq:Stmt:=top 15
abbrev iR:Stmt:=top 16
abbrev JP:Stmt:=top 17
abbrev QM:Stmt:=top 18
abbrev QN:Stmt:=top 21
abbrev Mr:Stmt:=top 22
abbrev QO:Stmt:=top 24
abbrev QP:Stmt:=top 25
abbrev fq:Stmt:=top 26
abbrev QQ:Stmt:=top 27
abbrev QR:Stmt:=top 28
abbrev QS:Stmt:=top 29
abbrev QT:Stmt:=top 30
abbrev QU:Stmt:=top 31
abbrev ft:Stmt:=top 33
abbrev QV:Stmt:=top 34
abbrev df:Stmt:=top 35
abbrev fu:Stmt:=top 36
abbrev QW:Stmt:=top 37
abbrev QX:Stmt:=top 38
abbrev dh:Stmt:=top 39
abbrev QY:Stmt:=top 40
abbrev QZ:Stmt:=top 41
abbrev Q0:Stmt:=top 42
abbrev Q3:Stmt:=top 43
abbrev Q4:Stmt:=top 44
abbrev iS:Stmt:=top 46
abbrev dJ:Stmt:=top 48
abbrev fw:Stmt:=top 49
abbrev cD:Stmt:=top 50
abbrev eI:Stmt:=top 52
abbrev fB:Stmt:=top 53
abbrev fC:Stmt:=top 54
abbrev fD:Stmt:=top 55
abbrev gj:Stmt:=top 56
abbrev eJ:Stmt:=top 57
abbrev Q6:Stmt:=top 67
abbrev Q7:Stmt:=top 68
abbrev Q8:Stmt:=top 69
abbrev Q9:Stmt:=top 70
abbrev Q_:Stmt:=top 71
abbrev Ra:Stmt:=top 72
abbrev Ms:Stmt:=top 73
abbrev Rb:Stmt:=top 74
abbrev Rc:Stmt:=top 75
abbrev dN:Stmt:=top 76
abbrev Rf:Stmt:=top 77
abbrev Rg:Stmt:=top 78
abbrev Rh:Stmt:=top 79
abbrev Ri:Stmt:=top 80
abbrev Rj:Stmt:=top 81
abbrev fE:Stmt:=top 82
abbrev Rk:Stmt:=top 83
abbrev cV:Stmt:=top 84
abbrev dj:Stmt:=top 85
abbrev gk:Stmt:=top 86
abbrev Rl:Stmt:=top 87
abbrev pF:Stmt:=top 88
abbrev fF:Stmt:=inClass (top 47) 0
abbrev bH:Stmt:=inClass (top 47) 1
abbrev dk:Stmt:=inClass (top 47) 2
abbrev dO:Stmt:=inClass (top 47) 3
abbrev cW:Stmt:=inClass (top 47) 4
abbrev cG:Stmt:=inClass (top 47) 5
abbrev fG:Stmt:=inClass (top 47) 6
abbrev dm:Stmt:=inClass (top 47) 7
abbrev Rm:Stmt:=inClass (top 61) 0
abbrev um:Stmt:=inClass (top 61) 1
abbrev Rn:Stmt:=inClass (top 61) 2
abbrev Ro:Stmt:=inClass (top 61) 3
abbrev Rp:Stmt:=inClass (top 61) 4
abbrev Rq:Stmt:=inClass (top 61) 7
abbrev Rr:Stmt:=inClass (top 61) 8
abbrev Rt:Stmt:=inClass (top 61) 9
abbrev Ru:Stmt:=inClass (top 61) 10
abbrev Rv:Stmt:=inClass (top 61) 11
abbrev ZS:Stmt:=inClass (top 63) 0
abbrev Rw:Stmt:=inClass (top 64) 0
abbrev Rx:Stmt:=inClass (top 64) 1
abbrev Ry:Stmt:=inClass (top 65) 0
section
variable {P:LS}{w:World}{K:Frag}{mg:ι}{gN:Heap}{CX:oI}
def Nm (H:Hp)(v:V)(q:Int×Int):Prop:=∃p,v=.ref p/\H p=some (.tup [.int q.1,.int q.2])
def Nm.gO (h:Nm H v q)(s:ar H H'):Nm H' v q:=by
 let(p,e,k):=h;show(p,e,s _ _ k)
structure Okn (k:Nat)(q:Int×Int):Prop where
 pos:0<q.2
 top:intBits q.1<=k
 bot:intBits q.2<=k
def av (h:H p=none)(o:HO):ar H (upd H p o):=λb u q=>by rwa [ag (aj q h)]
def nw (n:H l=none)(e:upd H l o=H'):ar H H'/\H' l=some o:=by subst e;show#[av n o,af]
local macro_rules|`(tactic|intros $l:ident $n:ident $h:ident $s:ident $e:ident)=>`(tactic|(intro $l:ident $n:ident;generalize eX:upd _ $l _=$h;have ⟨$s,$e⟩:=nw $n eX))
def gives (H:Hp)(Q:VK)(q:Int×Int):Prop:=∀(p:AZ)(Z:Hp),ar H Z ->Z p=some (.tup [.int q.1,.int q.2])->Q (.ref p) Z
inductive jS (vs:γ)(H:Hp)(Q:VK)(Z:XK):Prop
|mk (a b:Int)(_:vs=[.int a,.int b])(_:Q (.int (gz a b)) H)
def subQ (x y:Int×Int):Int×Int:=low (x.1*y.2-y.1*x.2) (x.2*y.2)
def akz (Y:Okn k x)(Z:Okn l y):x.2*y.2≠0:=QD (RL Y.pos Z.pos)
def iM {a b:V}:iP [a,b] 0=some a:=rfl
def iK {a b:V}:iP [a,b] 1=some b:=rfl
def Nm.kept (h:Nm H v q)(Z:H D=some (.lst ys))(k:aX D H H'):Nm H' v q:=by
 let(p,e,z):=h;show(p,e,k p _ (λe=>by erw [e,Z] at z) z)
inductive Line (H:Hp)(v:V)(ts:ο)(b:Int):Prop
|mk (p l:_)(_:v=.ref p)(_:H p=some (.tup [.ref l,.int b]))(_:H l=some (.lst (ts.map V.int)))
inductive Ln (H:Hp)(v:V)(l:ο):Prop
|mk (p:_)(_:v=.ref p)(_:H p=some (.lst (l.map V.int)))
def Ln.gO (h:Ln H v l)(s:ar H H'):Ln H' v l:=by
 let(p,e,k):=h;show(p,e,s _ _ k)
def wG (H:Hp)(us:γ)(Z:ζ):Prop:=us.length=Z.length/\∀(i:Nat)(u:V)(l:ο),us[i]?=some u->Z[i]?=some l->Ln H u l
theorem wG.gO (h:wG H us ls)(s:ar H H'):wG H' us ls:=#[h.1,λi u l Y Z=>(h.2 i u l Y Z).gO s]
def tV {l:ο}(h:j<l.length):iP (l.map V.int) (j:Int)=some (.int (l.getD j 0)):=bI (by rw [ir,gE h,JC,gE h];rfl)
def getD_mem {l:ο}(e:l[j]?=some x):l.getD j 0=x:=by rw [JC,e];rfl
def Bd (b:Nat)(l:ο):Prop:=∀j,(l.getD j 0).natAbs<=2^b
def Bd.mem (h:Bd b l)(Z:x∈l):x.natAbs<=2^b:=by
 let(i,Y):=LP Z;rw [<-getD_mem Y];show h i
def Bd.up (h:Bd b l)(Z:b<=c):Bd c l:=λj=>iC (h j) Z
def OO:aw ["one","other","left"] My (ae QM):=sq
def ahf (D:Def K mg "greatest_shared" QM My)(U:mg "abs"=none):Fn P w K mg gN CX 1 "greatest_shared" My jS:=by
 show D.oo OO λH Q h=>?_;let(a,b,rfl,q):=h
 show(_,(aa (oQ M9 (bU vG (pv 1) ah) (aa (aC 2 OO.nd (ay iq (pv 0) (pv 1))) (aa (aC 0 OO.nd (pv 1)) (ak (aC 1 OO.nd (pv 2)))))) (ak (aI (aS aft rfl U abf (aR (pv 0)))))),?_)
 show ag0 (λY X=>Zz λ(x y:Int) (l:ω)=>Y=[some (.int x),some (.int y),l]/\X=H/\Nl x y=Nl a b) (λY _=>match Y with|[_,some (.int y),_]=>y.natAbs|_=>0) (a,b,none,O,O,O) ?_ ?_
 ·rintro Y X ⟨x,y,l,rfl,rfl,g⟩
  show(_,O,O,_,O,?_);show bP (λc=>?_) (λc=>?_)
  ·let Z:y≠0:=by
    intro z;subst z;simp at c
   show(_,O,_,O,_,_,O,O,Z,_,O,_,O,(_,_,_,O,O,by rwa [afp]),zC Z)
  ·let Z:y=0:=by
    have:=VA.mpr c;simp at this;show this
   subst Z;show(_,O,x,O,?_)
   let e:(if x<0 then -x else x)=gz a b:=by
    rw [amU] at g;unfold gz;rw [<-g];split<;>omega
   rwa [e]
 ·rintro Y X M N h ⟨v,R,S,k,T,z⟩
  show(v,R,S,k,T,h _ _ z)
inductive dP (vs:γ)(H:Hp)(Q:VK)(Z:XK):Prop
|mk (t b:Int)(_:vs=[.int t,.int b])(_:b≠0)(_:gives H Q (low t b))
def Vy:aw ["top","bottom","shared"] UU (ae JP):=sq
def ahg (S:P.given.tree=none)(D:Def K mg "lowest_terms" JP UU)(I:ad P w K mg gN 1 "greatest_shared" My jS):ad P w K mg gN 33 "lowest_terms" UU dP:=by
 show D.op Vy λf J A L s H C Q E Z h=>?_;let(t,b,rfl,M,q):=h
 let X:∃U,qv (nN (aU P w) P w K mg gN ["top","bottom","shared"] "lowest_terms" (ae JP) f J A L s H E).ve ((ao JP).drop 2) U/\∀g:Int,g=sg t b->U {nx:=λ_ G=>Q .cK G,rt:=Q} [some (.int t),some (.int b),some (.int g)] H:=by
  show(_,(ak (aI (a_ (aJ (ay (fX S (Ty.cp.py Z eY) rfl rfl rfl rfl rfl) (pv 0) (pv 2)) (ay (fX S (Ty.cp.py Z eY) rfl rfl rfl rfl rfl) (pv 1) (pv 2)))))),?_);rintro g rfl;let c:=vM (t:=t) M;show(_,O,_,O,_,_,O,O,c,_,O,_,O,_,_,O,O,c,qt,λp N=>?_);show q p _ (av N _) af
 let(B,R,T):=X;show(_,(aa (aC 2 Vy.nd (aK I Z (aJ (pv 0) (pv 1)))) (aa (bR (bU kr (pv 1) ah) (ak (aC 2 Vy.nd (gh dG (pv 2)))) bf) R)),_,O,_,O,t,b,O,_,O,_,_,O,O,_,O,?_);show bP (λc=>?_) (λc=>?_)
 ·show(_,O,_,O,T _ ?_)
  let Y:b<0:=Qd c;unfold sg;rw [jY Y]
 ·show T _ ?_
  let Y:¬ b<0:=of_decide_eq_false (VA.mpr c);unfold sg;rw [iO Y]
def pB:List (Int×Int)->Nat
 | []=>1
 | q::t=>q.2.natAbs*pB t
theorem rK:∀(a b:ε),pB (a++b)=pB a*pB b
 | [],b=>by simp [pB]
 | q::t,b=>by
  change q.2.natAbs*pB (t++b)=q.2.natAbs*pB t*pB b;rw [rK t b,O6]
theorem Vz:∀(a:ε),(∀q∈a,0<q.2)->0<pB a
 | [],_=>Nat.one_pos
 | q::t,h=>Nat.mul_pos (by have:=h q (Mo ..);omega) (Vz t λz Z=>h z (MV _ Z))
def akt {qs:ε}(h:∀q∈qs,0<q.2)(i:Nat):pB (qs.take i)<=pB qs:=by
 let e:=rK (qs.take i) (qs.drop i);rw [OX] at e;rw [e];show ID _ (Vz _ λq Z=>h q (Oh Z))
def aki {qs:ε}(e:qs[i]?=some q):pB (qs.take (i+1))=pB (qs.take i)*q.2.natAbs:=by
 rw [OM,e,rK];change _*(q.2.natAbs*1)=_;rw [yx]
theorem wH :∀{qs:ε},(∀q∈qs,q.2.natAbs<=2^B)->pB qs<=2^(B*qs.length)
 | [],_=>by simp [pB]
 | q::t,h=>by
  change q.2.natAbs*pB t<=2^(B*(t.length+1));rw [Nat.mul_succ,Uv,ZL];show Qq (wH λz hz=>h z (MV _ hz)) (h q (Mo ..))
inductive Rz (K:Frag)(vs:γ)(H:Hp)(Q:VK)(Z:XK):Prop
|mk (a:AZ)(qs:ε)(T B S:Nat)(_:vs=[.ref a])(_:ac1 K H a qs)(_:(∀q∈qs,Sm T B q))(_:pB qs<=2^S)(_:T<=29000000)(_:S<=29000000)(_:B<=29000000)(_:qs.length<=1000)(_:∀(p l:AZ)(ts:ο)(b:Int)(H':Hp),ar H H' ->H l=none->H' p=some (.tup [.ref l,.int b])->H' l=some (.lst (ts.map V.int))->0<b->b.natAbs<=2^S->iB ts qs b->(∀t∈ts,t.natAbs<=2^(T+S))->Q (.ref p) H')
def OP:aw ["row","bottom","number"] Vu (ae QX):=sq
def ahi (f:P.given.tree=none)(D:Def K mg "whole_row" QX Vu)(Mt:ad P w K mg gN 1 "greatest_shared" My jS):ad P w K mg gN 33 "whole_row" Vu (Rz K):=by
 show D.oo OP λH hr h=>?_;let(a,Z,T,B,S,rfl,(m,hS,hN),J,hP,hT,hB,hB1,hl,q):=h;let qp:∀q∈Z,0<q.2:=λq hq=>(J q hq).pos
 show(_,(aa (aC 1 OP.nd ah) (aa (bM M9 rfl (bX (pv 0)) (cB 2 OP.nd) (ak (aC 1 OP.nd (ay bY (ay (fX f (Ty.cp.py hr eY) rfl rfl rfl rfl rfl) (pv 1) (aK Mt hr (aJ (pv 1) (aH (pv 2))))) (aH (pv 2)))))) (ak (aI (a_ (aJ (iw (tn:=["number"]) (fr:=["bottom"]) (kI:=[1]) (bX (pv 0)) (ay bY (bC (gH (K:=K) rfl) (pv 0) ah) (ay (fX f (Ty.cp.py hr eY) rfl rfl rfl rfl rfl) (pv 1) (bC (gH (K:=K) rfl) (pv 0) ah)))) (pv 1))))))),?_);sleep 2
 let A:=hN.1
 let E:∀{i:Nat} {u:V},m[i]?=some u->∃q,Z[i]?=some q/\m6 K H u q/\Sm T B q:=λ{i u} e=>by
  let M:i<m.length:=(be.mp e).1;let N:Z[i]?=some (Z[i]'cr):=gE cr;show(_,N,hN.2 i u _ e N,J _ (QJ _))
 show(_,O,a,O,#[_,hS],let I:ce:=λi Y H'=>Tc λ(b:Int) (o:ω)=>Y=[bv a,some (.int b),o]/\H'=H/\0<b/\b.natAbs<=pB (Z.take i)/\∀j,j<i->∀q,Z[j]?=some q->q.2 ∣ b;ef (K:=K) (a:=a) (xs:=m) I (1,none,O,O,eY,DX 1,λj h=>DB h (Qn _)) (λi Y H' _ ⟨b,o,_,e,_⟩=>by rwa [e]) ?_ ?_)
 ·rintro i u Y H' hu ⟨b,o,rfl,rfl,hb,X,L⟩
  let(n,U,(p,rfl,c),Q):=E hu;let M:i<Z.length:=(be.mp U).1;let nb:n.2.natAbs<=2^B:=Q.bot;let(l1,l2,l3,l4):=ae9 hb Q.pos;let gp:=AY (t:=b) (b:=n.2) (by have:=Q.pos;omega);let gl:=af' (t:=b) (b:=n.2) (by have:=Q.pos;omega)
  let sz:(b.fdiv (gz b n.2)*n.2).natAbs<=pB (Z.take (i+1)):=by
   show GX l4 ?_;rw [aki U];show Qq X (DX _)
  have Ly :b.natAbs<=2^S:=GX X (GX (akt qp i) hP);let g1:gz b n.2 ∣ b:=uC ..;show(_,O,_,O,_,O,p,_,_,_,O,O,c,iK,b,n.2,O,_,_,O,O,(by change gz b n.2≠0;omega),_,O,p,_,_,_,O,O,c,iK,_,_,O,O,dE (GX (jN cr g1) Ly) nb cr cr,_,_,O,O,l1,sz,λj hj q' e'=>?_)
  rcases Zs.mp hj with z|z
  ·show Int.dvd_trans (L j z q' e') l2
  ·subst z
   erw [U] at e';show l3
 ·rintro Y H' ⟨b,o,rfl,rfl,hb,X,L⟩
  rw [A] at X L;rw [Zt (DX _)] at X
  replace X:b.natAbs<=2^S:=GX X hP
  show(_,O,a,O,#[_,hS],λD nD=>?_);show eG (mw:=[some (.int b)]) (K:=K) (a:=a) (xs:=m) (λi v _=>∃q,Z[i]?=some q/\v=.int (q.1*b.fdiv q.2)) nD (by rw [A];show L_ hl eY) (λH2 G=>G.seq hS) (λ_ _ _ _ _ _ _ h=>h) ?_ ?_
  ·intro i u H2 R hu G k
   let(n,U,(p,rfl,c),Q):=E hu;let C:=Ty.ar.gx G c;let dv:=L i (be.mp U).1 n U;let g:n.2≠0:=by have:=Q.pos;omega
   show(_,O,p,_,_,_,O,O,C,iM,_,O,_,O,p,_,_,_,O,O,C,iK,_,_,O,O,g,_,_,O,O,dE Q.top (GX (jN g dv) X) cr cr,k _ _ (ar.refl _) (n,U,O))
  ·intro x H2 hy ig G hD
   let ey:x=(Z.map λn=>n.1*b.fdiv n.2).map V.int:=by
    show U3 λi=>?_;by_cases M:i<x.length
    ·let y:x[i]?=some x[i]:=gE M
     let(n,U,ev):=ig i _ y;rw [y,ev,ir,ir,U];rfl
    ·rw [JM cr,JM (by simp;omega)]
   show(_,O,qt,λp np=>?_);let s3:=av np (.tup [.ref D,.int b]);show q p D (Z.map λn=>n.1*b.fdiv n.2) b _ (G.trans s3) nD af (s3 _ _ (by rw [hD,ey])) hb X #[by simp,λi t n y N=>?_] (λt f=>?_)
   ·rw [ir,N] at y
    have LV :n.1*b.fdiv n.2=t:=QI y;rw [<-LV];show zaa (J n (IH N)).pos (L i (be.mp N).1 n N)
   ·let(n,hn,rfl):=GV.mp f
    let(i,M):=LP hn;let g:n.2≠0:=by have:=(J n hn).pos;omega
    show j_ (J n hn).top (GX (jN g (L i (be.mp M).1 n M)) X)
structure Dv (l l':ο):Prop where
 len:l'.length=l.length
 fac:∃g:Int,g≠0/\∀j,g*l'.getD j 0=l.getD j 0
def PrZ (l:ο):Prop:=Prm l\/∀j,l.getD j 0=0
def zaO {l:ο}(h:∀j,d ∣ l.getD j 0){i:Nat}(e:l[i]?=some x):d ∣ x:=by
 rw [<-getD_mem e];show h i
inductive rL (vs:γ)(H:Hp)(Q:VK)(X:XK):Prop
|mk (v:V)(l:ο)(_:vs=[v])(_:Ln H v l)(_:l.length<=1000)(_:∀Z Y H',ar H H' ->Ln H' Z Y ->Dv l Y ->PrZ Y ->(Z=v\/∃p,Z=.ref p/\H p=none)->Q Z H')
def akh (l:ο):Dv l l:=(O,1,eY,λj=>Int.one_mul _)
def OQ:aw ["line","shared","whole"] ZR (ae Q4):=sq
def ahj (ht:P.given.tree=none)(D:Def K mg "divided" Q4 ZR)(Mt:ad P w K mg gN 1 "greatest_shared" My jS):ad P w K mg gN 33 "divided" ZR rL:=by
 show D.op OQ λf cu A gV s H vs Q E hr h=>?_;let(v,l,rfl,(a,rfl,J),hn,q):=h;let gO:PrZ l->Q (.ref a) H:=λpz=>q _ l H (ar.refl H) (a,O,J) (akh l) pz (.inl rfl)
 show(_,(aa (aC 1 OQ.nd ah) (aa (bM M9 rfl (bX (pv 0)) (cB 2 OQ.nd) (aa (aC 1 OQ.nd (aK Mt hr (aJ (pv 2) (pv 1)))) (ak (bR (bU fO (pv 1) ah) (ak (aI (pv 0))) bf)))) (ak (aI (ag3 (bU aa9 (pv 1) ah) (iw (tn:=["whole"]) (fr:=["shared"]) (kI:=[1]) (bX (pv 0)) (ay (fX ht (Ty.cp.py hr eY) rfl rfl rfl rfl rfl) (pv 0) (pv 1))) (pv 0)))))),?_);sleep 2
 show(_,O,a,O,#[_,bh.of J],let I:ce:=λi Y H'=>Tc λ(g:Int) (o:ω)=>Y=[bv a,some (.int g),o]/\H'=H/\0<=g/\(∀j,j<i->∀x,l[j]?=some x->g ∣ x)/\(∀d:Int,(∀j,j<i->∀x,l[j]?=some x->d ∣ x)->d ∣ g)/\(0<i->g≠1);ef (K:=K) (a:=a) (xs:=l.map V.int) I (0,none,O,O,eY,(λj h=>DB h (Qn _)),(λd _=>Int.dvd_zero d),λh=>DB h (Qh _)) (λi Y H' _ ⟨g,o,_,e,_⟩=>by rw [e];show bh.of J) ?_ ?_)
 ·rintro i u Y H' S ⟨g,o,rfl,rfl,g0,M,L,_⟩
  rw [ir] at S;let(x,X,rfl):=MK.mp S;let d1:gz x g ∣ x:=uC ..;let d2:gz x g ∣ g:=uq ..;let p0:0<=gz x g:=Int.natCast_nonneg _;show(_,O,_,O,x,g,O,_,O,O,_,O,?_);show bP (λz=>(_,O,gO (.inl λd b =>?_))) (λz=>?_)
  ·let z':gz x g=1:=by simpa using Qd z
   let p:d ∣ gz x g:=ans (zaO b X) (L d λj _ y U=>zaO b U);rw [z'] at p;have:=OZ.mpr p;simpa using this
  show(_,_,O,O,p0,λj Z y U=>?_,λd h=>?_,λ_ e=>z (by rw [e];rfl))
  ·rcases Zs.mp Z with z|z
   ·show Int.dvd_trans d2 (M j z y U)
   ·subst z
    erw [X] at U;show d1
  ·show ans (h i (Qg _) x X) (L d λj Z y U=>h j (ZN Z) y U)
 ·rintro Y H' ⟨g,o,rfl,rfl,g0,M,L,N⟩
  rw [Wp] at M L N;show(_,O,_,_,O,O,_,O,bP (λc=>?_) (λc=>(_,O,gO (.inr λj=>?_))));rotate_left
  ·let c':¬ (1:Int)<g:=λz=>c (P9 z)
   by_cases Z:j<l.length
   ·let gz:g=0:=by
     have:=N cr;omega
    let T:l[j]?=some l[j]:=gE Z;have:=M j Z _ T;rw [gz] at this;rw [getD_mem T];show Int.zero_dvd.mp this
   ·rw [JC,JM cr]
    rfl
  let g1:(1:Int)<g:=Qd c;let m:g≠0:=cr
  show(_,O,a,O,#[_,bh.of J],λD nD=>?_);show eG (mw:=[some (.int g)]) (K:=K) (a:=a) (xs:=l.map V.int) (λi v _=>∃x,l[i]?=some x/\v=.int (x.fdiv g)) nD (by rw [Wp];show L_ hn eY) (λH2 B=>bh.of (B _ _ J)) (λ_ _ _ _ _ _ _ h=>h) ?_ ?_
  ·intro i u H2 R S B k
   rw [ir] at S;let(x,X,rfl):=MK.mp S;show(_,O,_,O,_,_,O,O,m,k _ _ (ar.refl _) (x,X,O))
  ·intro C H2 hy ig B hD
   rw [Wp] at hy
   let U:C=(l.map λx=>x.fdiv g).map V.int:=by
    show U3 λi=>?_;by_cases hi:i<C.length
    ·let e1:C[i]?=some C[i]:=gE hi
     let(x,X,ev):=ig i _ e1;rw [e1,ev,ir,ir,X];rfl
    ·rw [JM cr,JM (by simp;omega)]
   let G:∀j,g*(l.map λx=>x.fdiv g).getD j 0=l.getD j 0:=λj=>by
    by_cases Z:j<l.length
    ·let T:l[j]?=some l[j]:=gE Z
     rw [getD_mem (l:=l.map λx=>x.fdiv g) (x:=l[j].fdiv g) (by rw [ir,T];rfl),getD_mem T];show(dw m (M j Z _ T)).symm
    ·rw [JC,JC,JM (by simp;omega),JM cr]
     simp
   show q _ (l.map λx=>x.fdiv g) H2 B (D,O,by rw [hD,U]) (by simp,g,m,G) (.inl λd b =>?_) (.inr (D,O,nD))
   let p:d*g ∣ g:=L (d*g) λj Z x X=>by
    rw [<-getD_mem X,<-G j,UL];show Int.mul_dvd_mul_left g (b j)
   let(k,hk):=p
   let h2:g*(d*k)=g*1:=by
    rw [Int.mul_one];rw [<-Wx,UL g d];show hk.symm
   let h3:=Int.eq_of_mul_eq_mul_left m h2;let h4:d ∣ 1:=#[k,h3.symm];simpa using OZ.mpr h4
inductive rM (vs:γ)(H:Hp)(Q:VK)(T:XK):Prop
|mk (u v:V)(l m:ο)(c U X:Nat)(_:vs=[u,v,.int (c:Int)])(_:Ln H u l)(_:Ln H v m)(_:m.length=l.length)(_:c<l.length)(_:l.length<=1000)(_:m.getD c 0≠0)(_:Bd U l)(_:Bd X m)(_:U<=29000000)(_:X<=29000000)(_:∀Y Z H',ar H H' ->Ln H' Y Z ->xY l m Z c->Bd (U+X+1) Z ->(Z=l\/PrZ Z)->(Y=u\/∃p,Y=.ref p/\H p=none)->Q Y H')
def akb (X:a≠0):a=gz a b*a.fdiv (gz a b)/\b=gz a b*b.fdiv (gz a b)/\gz a b≠0/\a.fdiv (gz a b)≠0/\(a.fdiv (gz a b)).natAbs<=a.natAbs/\(b.fdiv (gz a b)).natAbs<=b.natAbs:=by
 let Z:gz a b≠0:=by
  intro z;let S:((Nl a b:Nat):Int)=0:=z;have:Nl a b=0:=cr
  show X (Int.gcd_eq_zero_iff.mp this).1
 let T:gz a b ∣ a:=uC ..;let U:gz a b ∣ b:=uq ..;let Y:=dw Z T;show(Y,dw Z U,Z,λz=>?_,jN Z T,jN Z U);rw [z,Zm] at Y;show X Y
def aj4 {l m:ο}{ys:γ}(S:m.length=l.length)(T:ys.length=l.length)(h:∀(i:Nat)(v:V),ys[i]?=some v->∃x y,l[i]?=some x/\m[i]?=some y/\v=.int (t*x-u*y)):ys=(Qe (λx y=>t*x-u*y) l m).map V.int:=by
 show U3 λi=>?_;by_cases Y:i<ys.length
 ·let Z:ys[i]?=some ys[i]:=gE Y
  let(x,y,U,X,ev):=h i _ Z;rw [Z,ev,ir,YZ,U,X];rfl
 ·rw [JM cr,JM (by simp;omega)]
def ad' {l m:ο}(U:m.length=l.length)(j:Nat):(Qe (λx y=>t*x-u*y) l m).getD j 0=t*l.getD j 0-u*m.getD j 0:=by
 by_cases X:j<l.length
 ·let Y:l[j]?=some l[j]:=gE X
  let Z:m[j]?=some (m[j]'cr):=gE cr;rw [getD_mem Y,getD_mem Z];show getD_mem (by rw [YZ,Y,Z])
 ·rw [JC,JC,JC,JM (by simp;omega),JM cr,JM cr]
  simp
def OR:aw ["line","lead","column","shared","times","less"] JZ (ae Q3):=sq
def ahk (ht:P.given.tree=none)(D:Def K mg "cleared" Q3 JZ)(eC:mg "zip"=none)(Mt:ad P w K mg gN 1 "greatest_shared" My jS)(E:ad P w K mg gN 33 "divided" ZR rL):ad P w K mg gN 34 "cleared" JZ rM:=by
 show D.oo OR λH T h=>?_;let(u,v,l,m,c,b1,b2,rfl,(a,rfl,X),(C,rfl,Z),S,hc,hn,hm,N,A,hb1,S9,q):=h
 show(_,(aa (bR (bU fO (bC aE (pv 0) (pv 2)) ah) (ak (aI (pv 0))) bf) (aa (aC 3 OR.nd (aK Mt T (aJ (bC aE (pv 1) (pv 2)) (bC aE (pv 0) (pv 2))))) (aa (aC 4 OR.nd (ay (fX ht (Ty.cp.py T eY) rfl rfl rfl rfl rfl) (bC aE (pv 1) (pv 2)) (pv 3))) (aa (aC 5 OR.nd (ay (fX ht (Ty.cp.py T eY) rfl rfl rfl rfl rfl) (bC aE (pv 0) (pv 2)) (pv 3))) (ak (aI (aK E T (aR (we (tn:=["whole","other"]) (fr:=["times","less"]) (kI:=[4,5]) (lK rfl eC (aJ (pv 0) (pv 1))) (λ_ _ _ _=>(j9 (K:=K) (n:=2) rfl rfl (a9 (du (i:=0) (show(zaW:List Str).Nodup from by decide+kernel) rfl (Qk rfl)) (a9 (du (i:=1) (show(zaW:List Str).Nodup from by decide+kernel) rfl (Qk rfl)) cM)))) (λ_ _ _ _=>j7) (ay c9 (ay bY (pv 2) (pv 0)) (ay bY (pv 3) (pv 1)))))))))))),?_);sleep 4
 let I:=tV (l:=l) hc;let em:=tV (l:=m) (j:=c) cr;show(_,O,_,O,a,_,_,_,O,O,bh.of X,I,O,_,O,?_);show bP (λz=>?_) (λz=>?_)
 ·let z':l.getD c 0=0:=by simpa using Qd z
  show(_,O,q _ l H (ar.refl H) (a,O,X) (O,z',1,1,0,eY,eY,λj=>cr) (N.up cr) (.inl rfl) (.inl rfl))
 ·let(f1,f2,f3,f4,f5,f6):=akb (a:=m.getD c 0) (b:=l.getD c 0) hm
  show(_,O,_,O,C,_,_,_,O,O,bh.of Z,em,_,O,_,O,a,_,_,_,O,O,bh.of X,I,_,_,O,_,O,_,O,C,_,_,_,O,O,bh.of Z,em,_,O,_,_,O,O,f3,_,O,_,O,a,_,_,_,O,O,bh.of X,I,_,O,_,_,O,O,f3,_,O,_,O,a,C,O,#[_,bh.of X],#[_,bh.of Z],λD1 f=>?_);let st:((m.getD c 0).fdiv (gz (m.getD c 0) (l.getD c 0))).natAbs<=2^b2:=GX f5 (A c);let o:((l.getD c 0).fdiv (gz (m.getD c 0) (l.getD c 0))).natAbs<=2^b1:=GX f6 (N c);show lM (mw:=[some (.int ((m.getD c 0).fdiv (gz (m.getD c 0) (l.getD c 0)))),some (.int ((l.getD c 0).fdiv (gz (m.getD c 0) (l.getD c 0))))]) (K:=K) (xs:=l.map V.int) (ys:=m.map V.int) (λi v _=>∃x y,l[i]?=some x/\m[i]?=some y/\v=.int ((m.getD c 0).fdiv (gz (m.getD c 0) (l.getD c 0))*x-(l.getD c 0).fdiv (gz (m.getD c 0) (l.getD c 0))*y)) f (by rw [Wp];show L_ hn eY) (by simpa using S) (λB Y=>bh.of (Y _ _ X)) (λB Y=>bh.of (Y _ _ Z)) (λ_ _ _ _ _ _ _ h=>h) ?_ ?_
  ·intro i x y B R ex Q Y k
   rw [ir] at ex Q;let(x',U,rfl):=MK.mp ex;let(y',Xj,rfl):=MK.mp Q;show(_,O,_,O,_,_,O,O,dE st (N.mem (IH U)) cr cr,_,O,_,O,_,_,O,O,dE o (A.mem (IH Xj)) cr cr,_,_,O,O,k _ _ (ar.refl _) (x',y',U,Xj,O))
  ·intro ys B hy ig Y hD
   rw [Wp] at hy;let Q:=aj4 S hy ig;show(_,_,O,(D1,O,by rw [hD,Q]),by simp;omega,λv' M H3 s3 L3 dv pz fr=>?_);let(g,J,hg):=dv.fac;let L:∀j,g*M.getD j 0=(m.getD c 0).fdiv (gz (m.getD c 0) (l.getD c 0))*l.getD j 0-(l.getD c 0).fdiv (gz (m.getD c 0) (l.getD c 0))*m.getD j 0:=λj=>by rw [hg j,ad' S]
   show q v' M H3 (Y.trans s3) L3 (by rw [dv.len];simp [S],?_,g,_,_,J,f4,L) (λj=>?_) (.inr pz) ?_
   ·let e:=L c
    let z2:(m.getD c 0).fdiv (gz (m.getD c 0) (l.getD c 0))*l.getD c 0-(l.getD c 0).fdiv (gz (m.getD c 0) (l.getD c 0))*m.getD c 0=0:=by
     generalize gz (m.getD c 0) (l.getD c 0)=G at*;generalize (m.getD c 0).fdiv G=t at*;generalize (l.getD c 0).fdiv G=u at*;rw [f1,f2];grind
    rw [z2] at e
    rcases amB.mp e with y|y
    ·show DB y J
    ·show y
   ·let b:(g*M.getD j 0).natAbs<=2^(b1+b2+1):=by
     rw [L j,Int.sub_eq_add_neg];show acQ (iC (j_ st (N j)) cr) ?_;rw [Uk];show j_ o (A j)
    show GX (fT J) b
   ·rcases fr with z|⟨p,e,n⟩
    ·show .inr (D1,z,f)
    ·show .inr (p,e,Y.free n)
inductive BW (K:Frag)(vs:γ)(H:Hp)(Q:VK)(Y:XK):Prop
|mk (a:AZ)(us:γ)(Z:List (List Int:_))(c:Nat)(_:vs=[.ref a,.int (c:Int)])(_:bh K H a us)(_:wG H us Z)(_:(∀l∈Z,c<l.length))(_:(∀(i:Nat)(l:ο)(H':Hp),ar H H' ->Z[i]?=some l->l.getD c 0≠0->Q (.int (i:Int)) H'))(_:((∀l∈Z,l.getD c 0=0)->∀H',ar H H' ->Q .cK H'))
def wG.at (h:wG H us ls){i:Nat}(e:us[i]?=some u):∃l,ls[i]?=some l/\Ln H u l:=by
 let X:i<us.length:=(be.mp e).1;let Y:=h.1;let Z:ls[i]?=some (ls[i]'cr):=gE cr;show(_,Z,h.2 i u _ e Z)
def wG.at' (h:wG H us ls){i:Nat}{l:ο}(e:ls[i]?=some l):∃u,us[i]?=some u/\Ln H u l:=by
 let X:i<ls.length:=(be.mp e).1;let Y:=h.1;let Z:us[i]?=some (us[i]'cr):=gE cr;show(_,Z,h.2 i _ l Z e)
def VB:aw ["lines","column","at","line"] JE (ae Q0):=sq
def ahm (D:Def K mg "first_not_nought" Q0 JE)(f:mg "enumerate"=none):ad P w K mg gN 1 "first_not_nought" JE (BW K):=by
 show D.oo VB λH hr h=>?_;let(a,E,x,c,rfl,J,L,k,B,C):=h;let lu:=L.1
 show(_,(aa (bM M9 rfl (o9 rfl f (aR (pv 0))) (g6 rfl (a9 (cB 2 VB.nd) (a9 (cB 3 VB.nd) cM))) (ak (bR (bU vG (bC aE (pv 3) (pv 1)) ah) (ak (aI (pv 2))) bf))) (ak (aI gY))),?_)
 show(_,O,a,O,#[_,J],let I:ce:=λi Y X=>∃T U:Option V,Y=[bv a,some (.int (c:Int)),T,U]/\ar H X/\∀j,j<i->∀l,x[j]?=some l->l.getD c 0=0;lQ (K:=K) (a:=a) (xs:=E) I (none,none,O,ar.refl H,λj h=>DB h (Qn _)) (λi Y X _ ⟨T,U,_,Z,_⟩=>Z.seq J) ?_ ?_)
 ·rintro i u Y X p o ⟨T,U,rfl,Z,z⟩ A
  let(l,M,b,rfl,g):=L.at o;let Q:=Z.trans (av A (.tup [.int (i:Int),.ref b]));let N:=k l (IH M);show(p,_,O,bQ.of af,O,_,_,O,_,_,O,O,_,O,_,O,b,_,_,_,O,O,bh.of (Q _ _ g),tV N,O,_,O,?_);show bP (λy=>?_) (λy=>?_)
  ·let R:l.getD c 0≠0:=by simpa using y
   show(_,O,B i l _ Q M R)
  ·let R:l.getD c 0=0:=by simpa using y
   show(_,_,O,Q,λj S q G=>?_)
   rcases Zs.mp S with w|w
   ·show z j w q G
   ·subst w
    erw [M] at G;show R
 ·rintro Y X ⟨T,U,rfl,Z,z⟩
  show C (λl m=>?_) X Z;let(j,S):=LP m;show z j (by have:=(be.mp S).1;omega) l S
structure Red (os:ζ)(L c b:Nat)(nd:ν)(lv:ζ):Prop where
 rN:∀x∈nd,x.2.length=L
 oh:∀l∈lv,l.length=L
 cols:∀x∈nd,x.1<c
 asc:(nd.map (·.1)).Pairwise (· < ·)
 here:∀x∈nd,x.2.getD x.1 0≠0
 off:∀x∈nd,∀y∈nd,x.1≠y.1->x.2.getD y.1 0=0
 low:∀x∈nd,∀j,j<x.1->x.2.getD j 0=0
 zero:∀l∈lv,∀j,j<c->l.getD j 0=0
 JR:∀x∈nd,rB os x.2
 pG:∀l∈lv,rB os l
 sol:∀z,((∀x∈nd,ev x.2 z=0)/\(∀l∈lv,ev l z=0)) ↔ ∀o∈os,ev o z=0
 Tf:∀x∈nd,Bd b x.2
 VC:∀l∈lv,Bd b l
 cnt:nd.length+lv.length=os.length
def Red.start {os:ζ}(Y:∀o∈os,o.length=L)(Z:∀o∈os,Bd b o):Red os L 0 b [] os where
 rN:=by simp
 oh:=Y
 cols:=by simp
 asc:=by simp
 here:=by simp
 off:=by simp
 low:=by simp
 zero:=λ_ _ j h=>DB h (Qn _)
 JR:=by simp
 pG:=λl h=>zaz h
 sol:=λz=>by simp
 Tf:=by simp
 VC:=Z
 cnt:=by simp
def Red.skip {os:ζ}(h:Red os L c b nd Z)(hz:∀l∈Z,l.getD c 0=0):Red os L (c+1) b nd Z where
 rN:=h.rN
 oh:=h.oh
 cols:=λx X=>ZN (h.cols x X)
 asc:=h.asc
 here:=h.here
 off:=h.off
 low:=h.low
 zero:=λl Y j U=>by
  rcases Zs.mp U with z|z
  ·show h.zero l Y j z
  ·subst z
   show hz l Y
 JR:=h.JR
 pG:=h.pG
 sol:=h.sol
 Tf:=h.Tf
 VC:=h.VC
 cnt:=h.cnt
structure Made (os:ζ)(BJ:ο)(c b:Nat)(xs ys:ζ):Prop where
 len:ys.length=xs.length
 to:∀(i:Nat)(x:ο),xs[i]?=some x->∃y,ys[i]?=some y/\xY x BJ y c/\Bd b y
def Made.ex {os:ζ}(h:Made os BJ c b xs ys){y:ο}(Y:y∈ys):∃x∈xs,xY x BJ y c/\Bd b y:=by
 let(i,Z):=LP Y;let S:=h.len;let T:i<ys.length:=(be.mp Z).1;let e:xs[i]?=some (xs[i]'cr):=gE cr;let(U,X,r):=h.to i _ e;erw [Z] at X;show(_,IH e,r)
def Made.all {os:ζ}(h:Made os BJ c b xs ys){x:ο}(Z:x∈xs):∃y∈ys,xY x BJ y c/\Bd b y:=by
 let(i,Y):=LP Z;let(y,e,r):=h.to i x Y;show(y,IH e,r)
def Red.step {os:ζ}{B Mi rest:ζ}{U:ο}(h:Red os L c b Q B)(J:U∈B)(p:∀l∈rest,l∈B)(LU:∀l∈B,l=U\/l∈rest)(hlen:rest.length+1=B.length)
  (hc:U.getD c 0≠0) (E:Made os U c (2*b+1) rest Mi) (m:T.map (·.1)=Q.map (·.1)) (MN:Made os U c (2*b+1) (Q.map (·.2)) (T.map (·.2))):Red os L (c+1) (2*b+1) (T ++[(c,U)]) Mi :=by
 let A:=h.oh U J;let D:=h.zero U J;have ZA :T.length=Q.length:=by simpa using ox Wy m
 let Z:∀N ∈T,∃x∈Q,x.1=N.1/\xY x.2 U N.2 c/\Bd (2*b+1) N.2:=by
  intro N mX;let(i,I):=LP mX;let mY:i<T.length:=(be.mp I).1;let e:Q[i]?=some (Q[i]'cr):=gE cr;let R:(T.map (·.1))[i]?=(Q.map (·.1))[i]? :=by rw [m]
  rw [ir,ir,I,e] at R;let(y,H,r):=MN.to i (Q[i]'cr).2 (by rw [ir,e];rfl);rw [ir,I] at H;simp at R H;subst H;show(_,IH e,R.symm,r)
 let back:∀x∈Q,∃N ∈T,N.1=x.1/\xY x.2 U N.2 c:=by
  intro x Y;let(i,I):=LP Y;let mY:i<Q.length:=(be.mp I).1;let e:T[i]?=some (T[i]'cr):=gE cr;let R:(T.map (·.1))[i]?=(Q.map (·.1))[i]? :=by rw [m]
  rw [ir,ir,I,e] at R;let(y,H,r):=MN.to i x.2 (by rw [ir,I];rfl);rw [ir,e] at H;simp at R H;show(_,IH e,R,by rw [H];show r.1)
 let M:∀x∈T ++[(c,U)],x∈T \/x=(c,U):=λx Y=>by simpa using Y
 show {
  rN:=λx Y=>by
   rcases M x Y with z|z
   ·let(y,X,_,k,_):=Z x z
    rw [k.len];show h.rN y X
   ·subst z
    show A
  oh:=λl S=>by
   let(x,Y,k,_):=E.ex S;rw [k.len];show h.oh x (p x Y)
  cols:=λx Y=>by
   rcases M x Y with z|z
   ·let(y,X,e,_):=Z x z
    rw [<-e];show ZN (h.cols y X)
   ·subst z
    show Qg _
  asc:=by
   rw [QC,m,List.pairwise_append];show(h.asc,by simp,λa ha b' j8 =>?_);let(x,Y,rfl):=GV.mp ha;have:b'=c:=by simpa using j8
   subst this;show h.cols x Y
  here:=λx Y=>by
   rcases M x Y with z|z
   ·let(y,X,e,k,_):=Z x z
    rw [<-e];show k.at (D _ (h.cols y X)) (h.here y X)
   ·subst z
    show hc
  off:=λx Y y X ne=>by
   rcases M x Y with z|z<;>rcases M y X with u|u
   ·let(x0,q,e0,k0,_):=Z x z
    let(o,VD,R,_):=Z y u;rw [<-R];show k0.zero (h.off x0 q o VD (by rwa [e0,R])) (D _ (h.cols o VD))
   ·subst u
    let(x0,q,e0,k0,_):=Z x z;show k0.UZ
   ·subst z
    let(o,VD,R,_):=Z y u;rw [<-R];show D _ (h.cols o VD)
   ·subst z
    subst u;show DB rfl ne
  low:=λx Y j C=>by
   rcases M x Y with z|z
   ·let(y,X,e,k,_):=Z x z
    rw [<-e] at C;show k.zero (h.low y X j C) (D j (O7 C (h.cols y X)))
   ·subst z
    show D j C
  zero:=λl S j C=>by
   let(x,Y,k,_):=E.ex S
   rcases Zs.mp C with z|z
   ·show k.zero (h.zero x (p x Y) j z) (D j z)
   ·subst z
    show k.UZ
  JR:=λx Y=>by
   rcases M x Y with z|z
   ·let(y,X,_,k,_):=Z x z
    show k.comb (h.JR y X) (h.pG U J)
   ·subst z
    show h.pG U J
  pG:=λl S=>by
   let(x,Y,k,_):=E.ex S;show k.comb (h.pG x (p x Y)) (h.pG U J)
  sol:=λz=>by
   rw [<-h.sol z];constructor
   ·rintro ⟨f,g⟩
    let G:ev U z=0:=f (c,U) fN;show#[λx Y=>?_,λl S=>?_]
    ·let(N,mX,_,k):=back x Y
     show(k.ev (by rw [A,h.rN x Y]) G).mp (f N (by simp [mX]))
    ·rcases LU l S with u|u
     ·rw [u]
      show G
     ·let(y,X,k,_):=E.all u
      show(k.ev (by rw [A,h.oh l S]) G).mp (g y X)
   ·rintro ⟨f,g⟩
    let G:=g U J;show#[λx Y=>?_,λl S=>?_]
    ·rcases M x Y with u|u
     ·let(y,X,_,k,_):=Z x u
      show(k.ev (by rw [A,h.rN y X]) G).mpr (f y X)
     ·subst u
      show G
    ·let(x,Y,k,_):=E.ex S
     show(k.ev (by rw [A,h.oh x (p x Y)]) G).mpr (g x (p x Y))
  Tf:=λx Y=>by
   rcases M x Y with z|z
   ·let(y,X,_,_,k):=Z x z
    show k
   ·subst z
    show(h.VC U J).up cr
  VC:=λl S=>by
   let(x,Y,_,k):=E.ex S;show k
  cnt:=by
   let a:=E.len;let b:=h.cnt;rw [JG,ZA];simp
   omega}
def tW (H:Hp)(AV:η)(Y:ν):Prop:=AV.length=Y.length/\∀(i:Nat)(Z:Key×V)(x:Χ),AV[i]?=some Z->Y[i]?=some x->Z.1=.inl (x.1:Int)/\Ln H Z.2 x.2
theorem tW.gO (h:tW H AV nd)(s:ar H H'):tW H' AV nd:=#[h.1,λi Z x X Y=>#[(h.2 i Z x X Y).1,(h.2 i Z x X Y).2.gO s]]
def Ln.put (h:Ln H v l)(e:H d=some (.dK AV)):Ln (upd H d o) v l:=by
 let(p,Z,k):=h;show(p,Z,by rw [ag (λz=>by erw [z,e] at k)];show k)
theorem wG.put (h:wG H us ls)(e:H d=some (.dK AV)):wG (upd H d o) us ls:=#[h.1,λi u l Y Z=>(h.2 i u l Y Z).put e]
theorem tW.put (h:tW H AV nd)(e:H d=some (.dK kv2)):tW (upd H d o) AV nd:=#[h.1,λi Z x X Y=>#[(h.2 i Z x X Y).1,(h.2 i Z x X Y).2.put e]]
def jT (s:ar H H')(n:H d=none):ar H (upd H' d o):=λb Z e=>by
 rw [ag (λz=>by erw [z,n] at e)];show s _ _ e
def tW.at (h:tW H AV nd){i:Nat}{x:Χ}(e:nd[i]?=some x):∃v,AV[i]?=some (.inl (x.1:Int),v)/\Ln H v x.2:=by
 let X:i<nd.length:=(be.mp e).1;let Y:=h.1;let Z:AV[i]?=some (AV[i]'cr):=gE cr;let(a,b):=h.2 i _ x Z e;show((AV[i]'cr).2,by rw [Z,<-a],b)
def tW.keys (h:tW H AV nd):AV.map (·.1)=nd.map (λx=>(U_ (x.1:Int):Key)):=by
 show U3 λi=>?_;let X:=h.1;rw [ir,ir];by_cases Z:i<nd.length
 ·let e:nd[i]?=some nd[i]:=gE Z
  let(v,Y,_):=h.at e;rw [e,Y];rfl
 ·rw [JM cr,JM cr]
  rfl
theorem pH :∀{AV:η} {i:Nat},(AV.map (·.1)).Nodup->AV[i]?=some (k,v)->ff AV k=some v
 | [],_,_,e=>by simp at e
 | p::r,0,_,e=>by
  cases e;show fU (p:=(k,v)) rfl
 | p::r,i+1,n,e=>by
  rw [M3,UG] at n;let Z:r[i]?=some (k,v):=by simpa using e
  let Y:¬ p.1=k:=λz=>n.1 (by rw [z];show GV.mpr ((k,v),IH Z,O));rw [dy Y];show pH n.2 Z
theorem vv :∀{AV:η},k∉AV.map (·.1)->ff AV k=none
 | [],_=>rfl
 | p::r,h=>by
  let h':k≠p.1/\k∉r.map (·.1):=by simpa using h
  rw [dy (λz=>h'.1 z.symm)];show vv h'.2
theorem map_put :∀{AV:η} {i:Nat},(AV.map (·.1)).Nodup->AV[i]?=some (k,v)->AV.map (λZ=>if Z.1=k then (Z.1,v') else Z)=AV.set i (k,v')
 | [],_,_,e=>by simp at e
 | p::r,0,n,e=>by
  rw [M3,UG] at n;cases e
  let U:r.map (λZ=>if Z.1=k then (Z.1,v') else Z)=r:=by
   show(HS (λq T=>?_)).trans (List.map_id r);let Y:¬ q.1=k:=λz=>n.1 (by change k∈_;rw [<-z];show GV.mpr (q,T,O));rw [iO Y];rfl
  rw [M3,U,jY rfl,List.set_cons_zero]
 | p::r,i+1,n,e=>by
  rw [M3,UG] at n;let X:r[i]?=some (k,v):=by simpa using e
  let Y:¬ p.1=k:=λz=>n.1 (by rw [z];show GV.mpr ((k,v),IH X,O));rw [M3,iO Y,map_put n.2 X,List.set_cons_succ]
def zal {AV:η}(n:(AV.map (·.1)).Nodup)(e:AV[i]?=some (k,v)):putK AV k v'=AV.set i (k,v'):=by
 unfold putK;rw [oZ,pH n e];show map_put n e
theorem tW.set (h:tW H AV nd){i c:Nat}(T:Ln H v l):tW H (AV.set i (.inl (c:Int),v)) (nd.set i (c,l)):=by
 let S:=h.1;show#[by simp [S],λj U x Z Y=>?_];rw [Qs] at Z Y;by_cases z:i=j
 ·subst z
  rw [jY rfl] at Z Y;by_cases X:i<AV.length
  ·rw [jY X] at Z
   rw [jY cr] at Y;cases Z;cases Y;show#[O,T]
  ·rw [iO X] at Z
   cases Z
 ·rw [iO z] at Z Y
  show h.2 j U x Z Y
def tW.snoc (h:tW H AV nd){c:Nat}(T:Ln H v l):tW H (AV++[(.inl (c:Int),v)]) (nd++[(c,l)]):=by
 let X:=h.1;show#[by simp [X],λj U x Z Y=>?_];by_cases z:j<AV.length
 ·rw [MF z] at Z
  rw [MF cr] at Y;show h.2 j U x Z Y
 ·rw [Mg cr] at Z Y
  rw [<-X] at Y;by_cases y:j-AV.length=0
  ·rw [y] at Z Y
   cases Z;cases Y;show#[O,T]
  ·rw [JM (by simp;omega)] at Z
   cases Z
theorem keys_nodup:∀{Z:ν},(Z.map (·.1)).Pairwise (· < ·)->(Z.map (λx=>(U_ (x.1:Int):Key))).Nodup
 | [],_=>by simp
 | x::r,h=>by
  rw [M3,amV] at h;rw [M3,UG];show#[λz=>?_,keys_nodup h.2];let(y,Y,e):=GV.mp z;let X:(y.1:Int)=x.1:=Zk e;have:=h.1 y.1 (GV.mpr (y,Y,O));omega
def bb (b k:Nat):Nat:=(k+1)*(b+11)
def BX (b:Nat)(h:k<=m):bb b k<=bb b m:=RE _ cr
def BY (b k:Nat):b<=bb b k:=by
 unfold bb;rw [UP,KR];omega
def Red.oK {os:ζ}(R:Red os L c b nd lv):S_ nd:=(R.asc.imp λh e=>cr,R.here,R.off)
def Pr (os:ζ)(l:ο):Prop:=l∈os\/PrZ l
def Red.small {os:ζ}(R:Red os L c b Y T)(Z:Ta os Y T ps qs)(U:∀o∈os,Bd b0 o)(I:Y.length<=k)(M:k<=1000)(Q:∀x∈Y,Pr os x.2)(N:∀l∈T,Pr os l):Red os L c (bb b0 k) Y T:=by
 let le:∀{n:Nat},n<=(Y.length+1)*((2*(Y.length+1)*2^b0)^Y.length*2^b0)->n<=2^bb b0 k:=λ{n} h=>GX h (GX (ada cr) (Qt eY (RE _ cr)));let z:∀{n:Nat},n=0->n<=2^bb b0 k:=λ{n} h=>by rw [h];show P1 _
 show {R with Tf:=λx X j=>?_,VC:=λl S j=>?_}
 ·rcases Q x X with h|h|h
  ·show GX (U _ h j) (Qt eY (BY _ _))
  ·show le (Z.need R.oK X U h j)
  ·show z (by rw [h j];rfl)
 ·rcases N l S with h|h|h
  ·show GX (U _ h j) (Qt eY (BY _ _))
  ·let(i,J):=LP S
   show le (Z.left R.oK J (λx X=>R.zero l S x.1 (R.cols x X)) U h j)
  ·show z (by rw [h j];rfl)
def kd {i:Nat}(h:i<=xs.length):j6 xs none (some (i:Int))=xs.take i:=by
 unfold j6;rw [HT.vi,HT.HY,AH h];rfl
def iT {i:Nat}(h:i<=xs.length):j6 xs (some (i:Int)) none=xs.drop i:=by
 unfold j6;rw [HT.vi,HT.HY,AH h];show Zt fN
theorem Red.up {os:ζ}(h:Red os L c b nd lv)(Y:b<=b'):Red os L c b' nd lv:={h with Tf:=λx Z=>(h.Tf x Z).up Y,VC:=λx Z=>(h.VC x Z).up Y}
def wG.erase (h:wG H us ls)(j:Nat):wG H (us.eraseIdx j) (ls.eraseIdx j):=by
 let X:=h.1;show#[by rw [HW,HW,X],λi u l Y Z=>?_];rw [O_] at Y Z;by_cases z:i<j
 ·rw [jY z] at Y Z
  show h.2 _ _ _ Y Z
 ·rw [iO z] at Y Z
  show h.2 _ _ _ Y Z
theorem jU {Z β:Type}{P:Nat->Z->β->Prop}:∀(xs:List Z),(∀i x,xs[i]?=some x->∃y,P i x y)->∃ys:List β,ys.length=xs.length/\∀i x y,xs[i]?=some x->ys[i]?=some y->P i x y
 | [],_=>([],O,λi x y e=>by simp at e)
 | x::xs,h=>by
  let(y,S):=h 0 x rfl;let(ys,Q,R):=jU (P:=λi=>P (i+1)) xs (λi x e=>h (i+1) x (by simpa using e));show(y::ys,by simp [Q],λi T U X Y=>?_);cases i with
  | zero=>
   cases X;cases Y;show S
  | succ i=>show R i T U (by simpa using X) (by simpa using Y)
inductive mK (K:Frag)(vs:γ)(H:Hp)(Q:VK)(T:XK):Prop
|mk (a:AZ)(us:γ)(os:List (List Int:_))(L m b:Nat)(_:vs=[.ref a,.int (m:Int)])(_:bh K H a us)(_:wG H us os)(_:(∀o∈os,o.length=L))(_:m<=L)(_:L<=1000)(_:os.length<=1000)(_:(∀o∈os,Bd b o))(_:bb b (min m os.length)<=29000000)(_:∀(p d U:AZ)(AV:η)(X :γ)(Z:ν)(Y:ζ)(H':Hp),ar H H' ->H d=none->H p=none->H' p=some (.tup [.ref d,.ref U])->H' d=some (.dK AV)->bh K H' U X ->tW H' AV Z->wG H' X Y->Red os L m (bb b (min m os.length)) Z Y->Q (.ref p) H')
def tX:aw ["lines","many","needed","left","column","at","lead","place"] Vm (ae QZ):=sq
def aho (D:Def K mg "reduced" QZ Vm)(bB:mg "range"=none)(cH:mg "list"=none)(apb:ad P w K mg gN 1 "first_not_nought" JE (BW K))(ahp:ad P w K mg gN 34 "cleared" JZ rM):ad P w K mg gN 35 "reduced" Vm (mK K):=by
 show D.oo tX λH hr h=>?_;let(a,us,os,L,m,b,rfl,hS,hL,hlen,hm,hL1,ho,hB,hb,q):=h
 show(_,(aa (aC 2 tX.nd fW) (aa (aC 3 tX.nd (pv 0)) (aa (bM M9 rfl (ck rfl bB (aR (pv 1))) (cB 4 tX.nd) (aa (aC 5 tX.nd (aK apb hr (aJ (pv 3) (pv 4)))) (aa (bR (bU qY (pv 5) gY) (ak aay) bf) (aa (aC 6 tX.nd (bC aE (pv 3) (pv 5))) (aa (wg (i:=3) (tn:=ZR) (fr:=["lead","column"]) (kI:=[6,4]) tX.nd (bX (ay hV (cX eO (pv 3) eM (dD (pv 5))) (cX eO (pv 3) (dD (ay b9 (pv 5) ah)) eM))) (tS ahp hr (b8 (pv 0) (pv 1) (pv 2)))) (aa (bM M9 rfl (bX (g_ (nY rfl) rfl cH lJ (aR (pv 2)))) (cB 7 tX.nd) (ak (gI (dI hr) (pv 2) (pv 7) (aK ahp hr (b8 (jk (dI hr) (pv 2) (pv 7) (λ_ _=>O)) (pv 6) (pv 4))) rfl))) (ak (gI (dI hr) (pv 2) (pv 4) (pv 6) rfl)))))))) (ak (aI (a_ (aJ (pv 2) (pv 3)))))))),?_);sleep 3
 show λd f=>?_;let s0:ar H (upd H d (.dK [])):=av f _;show(_,O,_,O,_,O,cr,cr,?_)
 show let I:ce:=λi Y N=>Ex9 λ(A:AZ) (X:γ) (E:η) (T:ν) (U:ζ) (o4 o5 o6 o7:ω)=>Y=[bv a,some (.int (m:Int)),bv d,bv A,o4,o5,o6,o7]/\ar H N/\N d=some (.dK E)/\bh K N A X/\wG N X U/\tW N E T/\T.length<=i/\Red os L i (bb b (min m os.length)) T U/\(∃ps qs,Ta os T U ps qs)/\(∀x∈T,Pr os x.2)/\∀l∈U,Pr os l;cy (lo:=0) (n:=m) I
  (a,us,[],[],os,none,none,none,none,O,s0,af,s0.seq hS,hL.gO s0,#[O,by simp],DX _,(Red.start hlen hB).up (BY _ _),([],os,Ta.start os),fN,λl hl=>.inl hl) ?_ ?_
 ·rintro i Y H1 hi ⟨A,X,E,T,U,o4,o5,o6,o7,rfl,s1,hd,α1,RB,hN,hni,R,⟨ps,qs,Z⟩,pN,pL⟩
  show(_,O,_,O,A,X,U,i,by rw [Qa];rfl,α1,RB,λl hl=>by rw [R.oh l hl];omega,λj S H2 C ej hj=>?_,λhz H2 C=>?_)
  ·let hjl:j<U.length:=(be.mp ej).1
   let hul:=RB.1;let cnt:=R.cnt;let hbk:=hb;let hd2:=C _ _ hd;let hS2:=C.seq α1;let hL2:=RB.gO C;let hN2:=hN.gO C;let(u,eu,hu):=hL2.at' ej;let i6:S∈U:=IH ej;show(_,O,O,_,O,bP (λz=>by simp at z) (λ_=>?_));show(_,O,_,O,A,_,_,_,O,O,hS2,bI eu,_,O,_,O,_,O,A,X,O,hS2,λp1 n1=>?_);let t1:=av n1 (.lst (j6 X none (some (j:Int))));show(_,O,_,O,_,_,O,O,_,O,A,X,O,t1.seq hS2,λp2 n2=>?_);let t2:=av n2 (.lst (j6 X (some ((j:Int)+1)) none))
   let ahq:j6 X none (some (j:Int))++j6 X (some ((j:Int)+1)) none=X.eraseIdx j:=by
    rw [kd cr,show((j:Int)+1)=((j+1:Nat):Int) from by omega,iT cr,List.eraseIdx_eq_take_drop_succ]
   let apc:(j6 X none (some (j:Int))).length+(j6 X (some ((j:Int)+1)) none).length<=HZ:=by
    rw [<-JG,ahq];show GX (GX (ajI ..) (show X.length<=1000 by omega)) eY
   show(p1,p2,_,_,O,O,t2 _ _ af,af,apc,λp3 n3=>?_);let t3:=av n3 (.lst (j6 X none (some (j:Int))++j6 X (some ((j:Int)+1)) none));show(p3,O,#[_,bh.of af],λD nD=>?_);let tt:=(t1.trans t2).trans t3;let hE:=(hL2.gO tt).erase j;let hu3:=hu.gO tt;let er:(X.eraseIdx j).length<=1000:=GX (ajI ..) (show X.length<=1000 by omega);show ka (mw:=[some u,some (.int ((0:Int)+i))]) (K:=K) (a:=p3) (xs:=X.eraseIdx j) (λk v H=>∃x y p,(U.eraseIdx j)[k]?=some x/\v=.ref p/\p≠D/\H p=some (.lst (y.map V.int))/\xY x S y i/\Bd (2*bb b (min m os.length)+1) y/\(y=x\/PrZ y)) nD (L_ er eY) (λH3 s3=>bh.of (s3 _ _ (by rw [af,ahq]))) ?_ ?_ ?_
   ·rintro k v H3 H4 o hD3 ks ⟨x,y,p,G,e2,e3,e4,e5⟩
    show(x,y,p,G,e2,e3,ks _ _ e3 e4,e5)
   ·rintro k x H3 RR ex s3 ⟨ys0,ape⟩ kk
    let(l,el,hl):=hE.at ex;let Qp:l∈U:=Om (IH el);let hll:=R.oh l Qp;let hld:=R.oh S i6;show(_,O,_,O,_,O,x,u,l,S,i,bb b (min m os.length),bb b (min m os.length),by rw [Qa];rfl,hl.gO s3,hu3.gO s3,by rw [hll,hld],cr,cr,hj,R.VC l Qp,R.VC S i6,hbk,hbk,λv' l' H4 s4 L4 cl bd pz fr=>?_);let(p,G,e2):=L4;show kk v' H4 s4 (l,l',p,el,G,?_,e2,cl,by rwa [KQ],pz)
    rcases fr with z|⟨p',z,n⟩
    ·let(α2,z1,z2):=hl
     erw [z1,G] at z;show aj z2 nD
    ·rw [G] at z
     cases z;show λy=>by erw [y,ape] at n
   ·intro o H3 hy ig s3 hD
    let(Mi,ZA,hp):=jU (P:=λk v y=>∃x p,(U.eraseIdx j)[k]?=some x/\v=.ref p/\p≠D/\H3 p=some (.lst (y.map V.int))/\xY x S y i/\Bd (2*bb b (min m os.length)+1) y/\(y=x\/PrZ y)) o (λk v e=>by
     let(x,y,p,r):=ig k v e
     show(y,x,p,r))
    let hLn:wG H3 o Mi :=#[ZA.symm,λk v y G e2=>by
     let(x,p,_,e,_,r,_):=hp k v y G e2
     show(p,e,r)]
    let les:(X.eraseIdx j).length=(U.eraseIdx j).length:=hE.1
    let ML:Made os S i (2*bb b (min m os.length)+1) (U.eraseIdx j) Mi :=#[cr,λk x e=>by
     let hk:k<(U.eraseIdx j).length:=(be.mp e).1;let G:o[k]?=some (o[k]'cr):=gE cr;let e2:Mi[k]?=some (Mi[k]'cr):=gE cr;let(x',p,r1,_,_,_,r2,r3,_):=hp k _ _ G e2;erw [e] at r1
     show(_,e2,r2,r3)]
    let PL:∀l∈Mi,Pr os l:=λl hl=>by
     let(k,g):=LP hl;let hk:k<Mi.length:=(be.mp g).1;let G:o[k]?=some (o[k]'cr):=gE cr;let(x',p,r1,_,_,_,_,_,r4):=hp k _ _ G g
     rcases r4 with z|z
     ·rw [z]
      show pL x' (Om (IH r1))
     ·show .inr z
    let yk:=tt.trans s3;let hd3:=yk _ _ hd2;let hN3:=hN2.gO yk;let hu4:=hu3.gO s3;show(_,O,d,E,O,Rd.of hd3,λl3 n3=>?_);let t4:=av n3 (.lst (E.map λc=>kV c.1));show(l3,O,#[_,bh.of af],?_);let dl:d≠l3:=aj hd3 n3
    show let I:ce:=λt Y N=>Zz λ(o7:ω) (BZ :η) (J :ν)=>Y=[bv a,some (.int (m:Int)),bv d,bv D,some (.int ((0:Int)+i)),some (.int (j:Int)),some u,o7]/\ar H N/\N d=some (.dK BZ)/\N l3=some (.lst (E.map λc=>kV c.1))/\N D=some (.lst o)/\wG N o Mi /\Ln N u S/\tW N BZ J /\J.map (·.1)=T.map (·.1)/\ ∀(k:Nat)(x:Χ),T[k]?=some x->∃y,J[k]?=some (x.1,y)/\(t<=k->y=x.2)/\(k<t->(xY x.2 S y i/\Bd (2*bb b (min m os.length)+1) y)/\(y=x.2\/PrZ y));ef (K:=K) (a:=l3) (xs:=E.map λc=>kV c.1) I
     (_,E,T,O,((s1.trans C).trans yk).trans t4,t4 _ _ hd3,af,t4 _ _ hD,hLn.gO t4,hu4.gO t4,hN3.gO t4,O,λk x e=>(x.2,e,λ_=>O,λz=>DB z (Qn _))) (λt Y N _ h=>by
      let(_,_,_,_,_,_,h,_):=h
      show bh.of h) ?_ ?_
    ·rintro t u7 Y H4 hu7 ⟨o7,BZ,J,rfl,s4,RD,hl4,hD4,hL4,hu5,Xn,Q,M⟩
     rw [ir] at hu7;let(c,GP,rfl):=MK.mp hu7;let htl:t<E.length:=(be.mp GP).1;let hnl:=hN.1;let ex:T[t]?=some (T[t]'cr):=gE cr;obtain ⟨x,B⟩:∃x,T[t]?=some x:=#[_,ex];obtain ⟨kx,hxm⟩:c.1=.inl (x.1:Int)/\x∈T:=#[(hN3.2 t c x GP B).1,IH B];let(y,ey,y1,_):=M t x B;let y2:=y1 (DX _);subst y2;let(v,ev,hv):=Xn.at ey
     let nk:(BZ.map (·.1)).Nodup:=by
      rw [Xn.keys];show keys_nodup (by rw [Q];show R.asc)
     let vat:=pH nk ev;let hxl:=R.rN x hxm;let hld:=R.oh S i6
     let dg:ia H4 d (kV c.1) (some v):=by
      rw [kx,<-vat];show ia.k RD
     show(_,O,_,O,d,v,O,dg,_,O,_,O,v,u,x.2,S,i,bb b (min m os.length),bb b (min m os.length),by rw [Qa];rfl,hv,hu5,by rw [hxl,hld],cr,cr,hj,R.Tf x hxm,R.VC S i6,hbk,hbk,λv' l' H5 s5 L5 cl bd pz fr=>?_);let hd5:=s5 _ _ RD;let l4':=Xn.1;let l5':J.length=T.length:=by simpa using ox Wy Q
     show(_,O,_,O,d,_,O,mS.k hd5 (L_ (show BZ.length<=1000 by omega) eY),?_);rw [kx,zal nk ev];let dn:d≠D:=λz=>by erw [z,hD4] at RD
     show(_,BZ.set t (.inl (x.1:Int),v'),J.set t (x.1,l'),O,jT (s4.trans s5) f,af,by rw [ag (IL dl)];show s5 _ _ hl4,by rw [ag (IL dn)];show s5 _ _ hD4,(hL4.gO s5).put hd5,(hu5.gO s5).put hd5,((Xn.gO s5).set L5).put hd5,?_,λk x' g=>?_)
     ·rw [List.map_set,Q]
      show U3 λk=>?_;rw [Qs];by_cases z:t=k
      ·subst z
       rw [jY rfl,jY (by simp;omega),ir,B];rfl
      ·rw [iO z]
     ·let(y',Xj,a1,a2):=M k x' g
      by_cases z:t=k
      ·subst z
       erw [B] at g;show(l',by rw [Qs,jY rfl,jY cr],λw=>cr,λ_=>#[#[cl,by rwa [KQ]],pz])
      ·show(y',by rwa [Qs,iO z],λw=>a1 cr,λw=>a2 cr)
    ·rintro Y H4 ⟨o7,BZ,J,rfl,s4,RD,hl4,hD4,hL4,hu5,Xn,Q,M⟩
     let l4':=Xn.1;let l5':J.length=T.length:=by simpa using ox Wy Q
     let hnl:=hN.1;rw [Wp] at M
     let MN:Made os S i (2*bb b (min m os.length)+1) (T.map (·.2)) (J.map (·.2)):=#[by simp [l5'],λk x e=>by
      rw [ir] at e;let(x0,e0,rfl):=MK.mp e;let hk:k<T.length:=(be.mp e0).1;let(y,ey,_,a2):=M k x0 e0
      show(y,by rw [ir,ey];rfl,(a2 cr).1)]
     let hno:ff BZ (.inl ((0:Int)+i))=none:=vv (λz=>by
      rw [Xn.keys] at z;let(x',mX,e):=GV.mp z;let G:(x'.1:Int)=0+i:=Zk e;have:x'.1∈T.map (·.1):=by rw [<-Q];show GV.mpr (x',mX,O)
      let(x,B,e2):=GV.mp this;have:=R.cols x B
      omega)
     show(_,O,_,O,_,O,d,_,O,mS.k (k:=.inl ((0:Int)+i)) RD (L_ (show BZ.length<=1000 by omega) eY),?_);rw [fV u hno];let dn:d≠D:=λz=>by erw [z,hD4] at RD
     let apl:∀l∈U.eraseIdx j,l∈U:=λl h=>Om h
     let apm:∀l∈U,l=S\/l∈U.eraseIdx j:=λl h=>by
      let(k,g):=LP h
      rcases Nat.lt_trichotomy k j with z|z|z
      ·show .inr (IH (i:=k) (by rwa [O_,jY z]))
      ·subst z
       erw [ej] at g;show .inl rfl
      ·show .inr (IH (i:=k-1) (by rwa [O_,iO cr,show k-1+1=k by omega]))
     let apn:(U.eraseIdx j).length+1=U.length:=by rw [HW,jY hjl];omega
     let R2:=R.step i6 apl apm apn hj ML Q MN
     let(ps',qs',O2):=Z.step R.oK ej (λx B=>R.zero S i6 x.1 (R.cols x B)) hj ML.len (λk x e=>by
      let(y,ey,k1,_):=ML.to k x e
      show(y,ey,k1)) l5' λk x e=>by
      let(y,ey,k1,_):=MN.to k x e;show(y,ey,k1)
     let PN:∀x∈J ++[(i,S)],Pr os x.2:=λx B=>by
      rcases MU.mp B with z|z
      ·let(k,g):=LP z
       let hk:k<J.length:=(be.mp g).1;obtain ⟨x0,e0⟩:∃x0,T[k]?=some x0:=#[_,gE cr];let(y,ey,_,a2):=M k x0 e0;erw [g] at ey
       rcases (a2 cr).2 with u|u
       ·change Pr os y
        rw [u];show pN x0 (IH e0)
       ·show .inr u
      ·rw [MJ.mp z]
       show pL S i6
     let ahs:=R2.cnt;let R3:=R2.small O2 hB (k:=min m os.length) (by rw [JG] at ahs ⊢;simp at ahs ⊢;omega) cr PN PL;show(D,o,_,J ++[(i,S)],Mi,_,_,_,_,O,jT s4 f,af,bh.of (by rwa [ag (IL dn)]),hL4.put RD,(by rw [Qa];show(Xn.snoc hu5).put RD),by simp;omega,R3,(ps',qs',O2),PN,PL)
  ·show(_,O,O,_,O,bP (λ_=>?_) (λz=>by simp at z))
   show(A,X,E,T,U,_,_,_,_,O,s1.trans C,C _ _ hd,C.seq α1,RB.gO C,hN.gO C,cr,R.skip hz,(ps,qs,Z),pN,pL)
 ·rintro Y H1 ⟨A,X,E,T,U,o4,o5,o6,o7,rfl,s1,hd,α1,RB,hN,hni,R,⟨ps,qs,Z⟩,pN,pL⟩
  show(_,O,_,O,qt,λp np=>?_);let sp:=av np (.tup [.ref d,.ref A]);let cnt:=R.cnt;show q p d A E X T U _ (s1.trans sp) f (s1.free np) af (sp _ _ hd) (sp.seq α1) (hN.gO sp) (RB.gO sp) R
def B_ (Z:b≠0)(X:t.natAbs<=2^T)(Y:b.natAbs<=2^B):Sm T B (low t b):=(mC Z,oU Z,GX (iV Z) X,GX (iW Z) Y)
def pI {l:ο}(h:l.length<=j):l.getD j 0=0:=by
 rw [JC,JM h];rfl
def JT (m t:Nat)(Z:ν)(qs:ε):Prop:=qs.length=m/\(∀i,i<t->∀x,Z[i]?=some x->qs[x.1]?=some (low (x.2.getD m 0) (x.2.getD x.1 0)))/\∀j,j<m->(∀i,i<t->∀x,Z[i]?=some x->x.1≠j)->qs[j]?=some (0,1)
def JT.sm {os:ζ}(R:Red os (m+1) m b nd lv)(F:JT m nd.length nd qs):∀q∈qs,Sm b b q:=by
 intro q T;let(j,X):=LP T;let Y:j<m:=by have:=(be.mp X).1;rw [<-F.1];show this
 by_cases c:∃(i:Nat)(x:Χ),nd[i]?=some x/\x.1=j
 ·let(i,x,e,rfl):=c
  let S:i<nd.length:=(be.mp e).1;let U:=F.2.1 i S x e;erw [X] at U;let Z:=IH e;show B_ (R.here x Z) (R.Tf x Z m) (R.Tf x Z x.1)
 ·let U:=F.2.2 j Y (λi _ x e z=>c (i,x,e,z))
  erw [X] at U;show(eY,eY,P1 _,Ur)
theorem JT.sol {os:ζ}(R:Red os (m+1) m b nd I)(F:JT m nd.length nd qs)(hz:∀l∈I,l.getD m 0=0):∀o∈os,ev o (tO (qs.map vl))=0:=by
 let A:=F.1
 let S:∀j q,qs[j]?=some q->tO (qs.map vl) j=vl q:=λj q e=>by
  let Z:j<qs.length:=(be.mp e).1;unfold tO;rw [jY (by rwa [Wp]),JC,ir,e];rfl
 let M:tO (qs.map vl) m= -1:=by
  unfold tO;rw [iO (by rw [Wp];omega)]
 show(R.sol _).mp #[λx Y=>?_,λl X=>?_]
 ·let(i,e):=LP Y
  let G:i<nd.length:=(be.mp e).1;let k:=R.cols x Y;let N:=R.here x Y;let T:=F.2.1 i G x e;let Q:=S _ _ T;rw [iY N] at Q
  let H:∀j,j≠x.1->j≠m->((x.2.getD j 0:Int):Rat)*tO (qs.map vl) j=0:=by
   intro j J u;by_cases Z:j<m
   ·by_cases c:∃(i:Nat)(x:Χ),nd[i]?=some x/\x.1=j
    ·let(p,y,D,rfl):=c
     rw [R.off x Y y (IH D) (IL J)];simp
    ·let U:=F.2.2 j Z (λi _ x e z=>c (i,x,e,z))
     rw [S _ _ U];unfold vl;simp;grind
   ·rw [pI (by rw [R.rN x Y];omega)]
    simp
  let L:tO (qs.map vl)=λi=>(if i=m then 0 else tO (qs.map vl) i)+(if i=m then -1 else 0):=by
   funext i;by_cases z:i=m
   ·rw [jY z,jY z,z,M]
    grind
   ·rw [iO z,iO z]
    grind
  rw [L,L']
  let B:=nZ x.2 (λi=>if i=m then 0 else tO (qs.map vl) i) x.1 (λj Z=>by
   by_cases z:j=m
   ·simp [z]
   ·rw [iO z]
    show H j Z z)
  let C:=nZ x.2 (λi=>if i=m then (-1:Rat) else 0) m (λj Z=>by rw [iO Z];simp);rw [B,C];rw [iO cr,jY rfl,Q];let E:=c7 N;grind
 ·show vq l _ (λj=>?_)
  have:l.getD j 0=0:=by
   by_cases T:j<m
   ·show R.zero l X j T
   ·by_cases U:j=m
    ·rw [U]
     show hz l X
    ·show pI (by rw [R.oh l X];omega)
  rw [this];simp
def JT.put {os:ζ}{x:Χ}(R:Red os (m+1) m b nd lv)(F:JT m t nd qs)(e:nd[t]?=some x):JT m (t+1) nd (qs.set x.1 (low (x.2.getD m 0) (x.2.getD x.1 0))):=by
 let X:=F.1;let N:=R.cols x (IH e)
 let Q:∀i y,i<t->nd[i]?=some y->y.1≠x.1:=λi y Y Z=>by
  let a:=aiW.mp R.asc i t (by rw [Wp];show(be.mp Z).1) (by rw [Wp];show(be.mp e).1) Y;simp only [anf] at a;let S:=(be.mp Z).2;let T:=(be.mp e).2;rw [S,T] at a;omega
 show(by simp [X],λi Y y Z=>?_,λj U h=>?_)
 ·rcases Zs.mp Y with z|z
  ·rw [Qs,iO (IL (Q i y z Z))]
   show F.2.1 i z y Z
  ·subst z
   erw [e] at Z;rw [Qs,jY rfl,jY cr]
 ·rw [Qs,iO (h t (Qg _) x e)]
  show F.2.2 j U (λi Y y Z=>h i (ZN Y) y Z)
def Mu (h:j<n):LR n (j:Int)=some j:=by
 unfold LR;simp;omega
def bQ.putL (h:bQ K H a xs)(e:H d=some (.lst ys)):bQ K (upd H d o) a xs:=by
 rcases h with (h|⟨Z,h⟩)|h
 ·show .inl (.inl (by rw [ag (λz=>by erw [z,e] at h)];show h))
 ·show .inl (.inr #[Z,by rw [ag (λz=>by erw [z,e] at h)];show h])
 ·show .inr h
inductive oi (K:Frag)(vs:γ)(H:Hp)(Q:VK)(Y:XK):Prop
|mk (a:AZ)(us:γ)(os:List (List Int:_))(m b:Nat)(_:vs=[.ref a,.int (m:Int)])(_:bh K H a us)(_:wG H us os)(_:(∀o∈os,o.length=m+1))(_:m<=900)(_:os.length<=900)(_:(∀o∈os,Bd b o))(_:bb b (min m os.length)<=29000000)(_:(∀(l:ο)(H':Hp),ar H H' ->l.length=m+1->rB os l->(∀j,j<m->l.getD j 0=0)->l.getD m 0≠0->Q .cK H'))(_:(∀(x:AZ)(Z :γ)(qs:ε)(H':Hp),ar H H' ->H x=none->H' x=some (.lst Z)->bT K H' Z qs->qs.length=m->(∀q∈qs,Sm (bb b (min m os.length)) (bb b (min m os.length)) q)->(∀o∈os,ev o (tO (qs.map vl))=0)->Q (.ref x) H'))
def JU:aw ["lines","many","told","x","column","line"] Vm (ae QY):=sq
def aht (hN:∀H:Hp,bQ K H aN [.int 0,.int 1])(kX:mg "NOUGHT"=some (.ref aN))(D:Def K mg "solution_of" QY Vm)(VE:mg "any"=none)(adB:ad P w K mg gN 35 "reduced" Vm (mK K))(kY:ad P w K mg gN 33 "lowest_terms" UU dP):ad P w K mg gN 36 "solution_of" Vm (oi K):=by
 show D.oo JU λH hr h=>?_;let(a,us,os,m,b,rfl,hS,hL,E,hm,ho,hB,hb,q1,q2):=h
 show(_,(aa (aC 2 JU.nd (aK adB hr (aJ (pv 0) (pv 1)))) (aa (bR (vD (aS (adF rfl) rfl VE agD (aR (iw (tn:=ZR) (fr:=["many"]) (kI:=[1]) (bX (aH (pv 2))) (ji vG (bC (oY (K:=K) rfl) (pv 0) (pv 1)) ah (j5 _)))))) (ak (aI gY)) bf) (aa (aC 3 JU.nd (ay rj (bS (aR (gy (v:=.ref aN) rfl kX rfl))) (pv 1))) (aa (bM M9 rfl (vY (aH (pv 2))) (g6 rfl (a9 (cB 4 JU.nd) (a9 (cB 5 JU.nd) cM))) (ak (g9 (aK kY hr (aJ (bC aE (pv 5) (pv 1)) (bC aE (pv 5) (pv 4)))) (g7 (pv 3) (pv 4) set_list)))) (ak (aI (pv 3))))))),?_);sleep 4
 show(_,O,_,O,a,us,os,m+1,m,b,O,hS,hL,E,cr,cr,cr,hB,hb,λp d a' AV jg nd lv H1 s1 nd0 np hp hd α1 g f R=>?_);let lu:=f.1;let cnt:=R.cnt;show(_,O,p,_,_,_,O,O,bQ.of hp,iK,a',O,#[_,α1],λD1 n1=>?_);show eG (mw:=[some (.int (m:Int))]) (K:=K) (a:=a') (xs:=jg) (λk v _=>∃l,lv[k]?=some l/\v=.bl (decide (l.getD m 0≠0))) n1 (L_ (show jg.length<=1000 by omega) eY) (λH2 X=>X.seq α1) (λ_ _ _ _ _ _ _ h=>h) ?_ ?_
 ·intro k x H2 RR ex X kk
  let(l,el,M,rfl,J):=f.at ex;let hll:=R.oh l (IH el);show(_,O,_,O,M,_,_,_,O,O,bh.of (X _ _ J),tV cr,O,kk _ _ (ar.refl _) (l,el,?_));simp
 ·intro ys H2 hy ig X hD
  let ey:ys=(lv.map λl=>decide (l.getD m 0≠0)).map V.bl:=by
   show U3 λi=>?_;by_cases hi:i<ys.length
   ·let Z:ys[i]?=some ys[i]:=gE hi
    let(l,el,e):=ig i _ Z;rw [Z,e,ir,ir,el];rfl
   ·rw [JM cr,JM (by simp;omega)]
  subst ey;show(D1,_,O,bh.of hD,_,O,?_);let pJ:=s1.trans X;show bP (λc=>?_) (λc=>?_)
  ·let(M,J,hb1):=AG.mp c
   let(l,B,rfl):=GV.mp J;let hn:l.getD m 0≠0:=Qd hb1;show q1 l H2 pJ (R.oh l B) (R.pG l B) (R.zero l B) hn
  ·let hz:∀l∈lv,l.getD m 0=0:=λl B=>by
    by_cases z:l.getD m 0=0
    ·show z
    ·show DB (AG.mpr (true,GV.mpr (l,B,P9 z),O)) c
   show#[qB,λp3 n3=>?_];let S:=av n3 (.lst [V.ref aN]);show(_,O,p3,_,_,O,O,af,cr,cr,GX (show 1*(m:Int).toNat<=1000 by omega) eY,λx n4=>?_);let s4:=av n4 (.lst (JB (m:Int).toNat [V.ref aN]).flatten);let s14:=(pJ.trans S).trans s4;let nx:H x=none:=(pJ.trans S).free n4;let er:(JB (m:Int).toNat [V.ref aN]).flatten=JB m (V.ref aN):=by simp
   let hp4:=s4 _ _ (S _ _ (X _ _ hp));let RD:=s4 _ _ (S _ _ (X _ _ hd));let Xn:=((g.gO X).gO S).gO s4;let dx:d≠x:=aj (S _ _ (X _ _ hd)) n4;show(_,O,p,_,_,_,O,O,bQ.of hp4,iM,d,AV,O,RD,λo=>?_)
   show let I:ce:=λt Y L=>Td λ(o4 o5:ω) (T:γ) (Q:ε)=>Y=[bv a,some (.int (m:Int)),bv p,bv x,o4,o5]/\ar H L/\L d=some (.iL o (.dK AV))/\L x=some (.lst T)/\bT K L T Q/\tW L AV nd/\JT m t nd Q;mE (d:=d) (o:=o) (AV:=AV) I
    (none,none,JB m (V.ref aN),JB m (0,1),O,jT s14 nd0,af,by rw [ag (IL dx),af,er],#[by simp,λi u q' Z U=>?_],Xn.put RD,(by simp,λi hi=>DB hi (Qn _),λj hj _=>by rw [Vh,jY hj])) (λt Y L _ h=>by
     let(_,_,_,_,_,_,h,_):=h
     show h) ?_ ?_
   ·rw [Vh] at Z U
    by_cases z:i<m
    ·rw [jY z] at Z U
     cases Z;cases U;show(aN,O,hN _)
    ·rw [iO z] at Z
     cases Z
   ·rintro t k v Y H5 p7 GP ⟨o4,o5,T,Q,rfl,s5,A,N,VF,Mv,F⟩ n7
    let ht:t<AV.length:=(be.mp GP).1;let C:=Mv.1;obtain ⟨c,ec⟩:∃c,nd[t]?=some c:=#[_,gE cr];let(k1,k2):=Mv.2 t _ c GP ec;let k1':k=.inl (c.1:Int):=k1;subst k1';let(M,eb,J):=k2;let eb':v=.ref M:=eb;subst eb';let Xo:=IH ec;let hcl:=R.rN c Xo;let LG:=R.cols c Xo;let s7:=av n7 (.tup [kV (.inl (c.1:Int)),.ref M]);let q:=s7 _ _ J;show(p7,_,O,bQ.of af,O,_,_,O,_,_,O,O,_,O,_,O,M,_,_,_,O,O,bh.of q,tV cr,_,O,_,O,M,_,_,_,O,O,bh.of q,tV cr,_,_,O,R.here c Xo,λp8 H8 s8 e8=>?_);let Mw:=s7.trans s8;let G:=Mw _ _ N;let l2:=VF.1;let xn:∀{b0:AZ} {o0:HO},H b0=some o0->b0≠x:=λe=>aj e nx;let dx8:=Mw _ _ A;show(_,O,_,O,x,T,_,c.1,O,O,G,Mu (by rwa [l2,F.1]),?_);show(_,_,T.set c.1 (.ref p8),Q.set c.1 (low (c.2.getD m 0) (c.2.getD c.1 0)),O,jT (s5.trans Mw) nx,by rwa [ag dx],af,?_,?_,F.put R ec)
    ·let gN:bT K H8 (T.set c.1 (.ref p8)) (Q.set c.1 (low (c.2.getD m 0) (c.2.getD c.1 0))):=(VF.gO Mw).set (p8,O,bQ.of e8)
     show#[gN.1,λi u q' Z U=>?_];let(p9,e9,h9):=gN.2 i u q' Z U;show(p9,e9,bQ.putL h9 G)
    ·let gN:=Mv.gO Mw
     show#[gN.1,λi kv y Z U=>#[(gN.2 i kv y Z U).1,?_]];let(p9,e9,h9):=g.2 i kv y Z U |>.2
     show(p9,e9,?_)
     let px9:p9≠x:=λz=>by
      have:=(S _ _ (X _ _ h9));erw [z,n4] at this
     rw [ag px9];let(VG,OS,h10):=(gN.2 i kv y Z U).2;erw [e9] at OS;show h10
   ·rintro Y H5 ⟨o4,o5,T,Q,rfl,s5,A,N,VF,Mv,F⟩
    let C:=Mv.1;rw [C] at F;show(_,O,q2 x T Q H5 s5 nx N VF F.1 (F.sm R) (F.sol R hz))
def jG (H:Hp)(r:AZ)(Z:ψ)(X:Η):Prop:=H r=some (.lst (Z.map V.ref))/\Z.length=X.length/\∀(i:Nat)(l:AZ)(Y:γ),Z[i]?=some l->X[i]?=some Y->H l=some (.lst Y)
def jG.gO (h:jG H r ls cx)(s:ar H H'):jG H' r ls cx:=(s _ _ h.1,h.2.1,λi l Z X Y=>s _ _ (h.2.2 i l Z X Y))
def Shape (T B m:Nat)(Y:ξ):Prop:=∀Z∈Y,Z.length=m/\∀q∈Z,Sm T B q
def fQ (K:Frag)(H:Hp)(X:Η)(U:ξ):Prop:=X.length=U.length/\∀(i:Nat)(Z:γ)(Y:ε),X[i]?=some Z->U[i]?=some Y->bT K H Z Y
theorem fQ.gO (h:fQ K H cx aZ)(s:ar H H'):fQ K H' cx aZ:=#[h.1,λi Z Y U X=>(h.2 i Z Y U X).gO s]
def VH {Z:Type}{xs:List Z}{x y:Z}(e:(xs++[x])[j]?=some y):(j<xs.length/\xs[j]?=some y)\/(j=xs.length/\x=y):=by
 by_cases c:j<xs.length
 ·rw [MF c] at e
  show .inl #[c,e]
 ·rw [Mg cr] at e
  by_cases z:j-xs.length=0
  ·rw [z] at e
   show .inr #[cr,QI e]
  ·rw [JM (by simp;omega)] at e
   cases e
def jG.snoc (h:jG H r ls cx)(U:r∉ls)(G:H D=some (.lst us))(S:D≠r):jG (upd H r (.lst (ls.map V.ref++[.ref D]))) r (ls++[D]) (cx++[us]):=by
 let(I,Q,R):=h;show(by rw [af,QC];rfl,by simp [Q],λj l X M N=>?_)
 rcases VH M with ⟨J,Z⟩|⟨J,Z⟩<;>rcases VH N with ⟨L,Y⟩|⟨L,Y⟩
 ·let T:l≠r:=λz=>U (by rw [<-z];show IH Z)
  rw [ag T];show R j l X Z Y
 ·omega
 ·omega
 ·subst Z Y
  rwa [ag S]
def jG.row (h:jG H r ls cx){i:Nat}{vs:γ}(e:cx[i]?=some vs):∃l,ls[i]?=some l/\H l=some (.lst vs):=by
 let X:i<cx.length:=(be.mp e).1;let Y:=h.2.1;let Z:ls[i]?=some (ls[i]'cr):=gE cr;show(_,Z,h.2.2 i _ _ Z e)
def kZ (Y:Η)(j:Nat):List V:=Y.map λZ=>Z.getD j .cK
def gW (Z:Η)(m:Nat):List (List V):=(LK m).map λj=>kZ Z j
inductive jV (vs:γ)(H:Hp)(Q:VK)(X:XK):Prop
|mk (r:AZ)(Y:ψ)(Z:List (List V:_))(m:Int)(_:vs=[.ref r,.int m])(_:jG H r Y Z)(_:0<=m)(_:m<=1000)(_:Y.length<=1000)(_:(∀vs∈Z,m<=(vs.length:Int)))(_:∀c cs H',ar H H' ->jG H' c cs (gW Z m.toNat)->Q (.ref c) H')
def VI:aw ["rows","many","columns","column"] Ut (ae QW):=sq
def aby (D:Def K mg "turned" QW Ut)(bB:mg "range"=none):ad P w K mg gN 1 "turned" Ut jV:=by
 show D.op VI λf cu A gV s H S Q E hr h=>?_;let(r,j,Z,m,rfl,M,m0,m1,hn,hv,q):=h
 show(_,(aa (aC 2 VI.nd (bS gC)) (aa (bM M9 rfl (ck rfl bB (aR (pv 1))) (cB 3 VI.nd) (ak (b_ (ku Us σ3 σ2 eE (pv 2) (aR (iw (tn:=Vu) (fr:=["column"]) (kI:=[3]) (bX (pv 0)) (bC (oY (K:=K) rfl) (pv 0) (pv 1)))))))) (ak (aI (pv 2))))),?_)
 let l1:=M.2.1;show#[z0L,λc x=>?_];show(_,O,_,O,cr,cr,?_);show let I:ce:=λi Y L=>Tc λ(o:ω) (T:ψ)=>Y=[bv r,some (.int m),bv c,o]/\ar H L/\jG L c T (gW Z i)/\c∉T;cy (lo:=0) (n:=m.toNat) I (none,[],O,av x _,(af,O,λi l S e=>by simp at e),by simp) ?_ ?_
 ·rintro i Y L hi ⟨o,T,rfl,G,C,U⟩
  let B:=M.gO G;show(_,O,.inl (O,_,bh.of C.1),_,O,r,O,#[_,bh.of B.1],λD p=>?_);show eG (mw:=[some (.int ((0:Int)+i))]) (K:=K) (a:=r) (xs:=j.map V.ref) (λk v _=>∃S,Z[k]?=some S/\v=S.getD i .cK) p (by rw [Wp];show L_ hn eY) (λH2 X=>bh.of (X _ _ B.1)) (λ_ _ _ _ _ _ _ h=>h) ?_ ?_
  ·intro k u H2 R g X kk
   rw [ir] at g;let(l,el,rfl):=MK.mp g;let hk:k<j.length:=(be.mp el).1;let ev:Z[k]?=some (Z[k]'cr):=gE cr;let hl:=B.2.2 k l _ el ev
   have LA :i<(Z[k]'cr).length:=by
    have:=hv _ (IH ev);omega
   let ea:iP (Z[k]'cr) ((0:Int)+(i:Int))=some ((Z[k]'cr).getD i .cK):=by
    rw [Qa];show bI (by rw [gE LA,JC,gE LA];rfl)
   show(_,O,_,O,l,_,_,_,O,O,bh.of (X _ _ hl),ea,kk _ _ (ar.refl _) (_,ev,O))
  ·intro J H2 hy ig X hD
   rw [Wp] at hy
   let ey:J=kZ Z i:=by
    show U3 λk=>?_;unfold kZ;by_cases hk:k<J.length
    ·let e1:J[k]?=some J[k]:=gE hk
     let(S,ev,e2):=ig k _ e1;rw [e1,e2,ir,ev];rfl
    ·rw [JM cr,JM (by simp;omega)]
   subst ey;let lc:T.length=i:=by have:=C.2.1;simpa [gW] using this
   let N:D≠c:=λz=>by erw [z,C.1] at p
   let fc:∀b o,H b=some o->b≠c:=λb o e=>aj e x;show(c,_,_,O,O,X _ _ C.1,by rw [Wp,lc];show L_ (show i<=1000 by omega) eY,?_);show(_,T++[D],O,λb o e=>?_,?_,λz=>?_)
   ·rw [ag (fc b o e)]
    show X _ _ (G _ _ e)
   ·let e:gW Z (i+1)=gW Z i++[kZ Z i]:=by simp [gW,ZK]
    rw [e];show(C.gO X).snoc U hD N
   ·rcases MU.mp z with y|y
    ·show U y
    ·show N (MJ.mp y).symm
 ·rintro Y L ⟨o,T,rfl,G,C,U⟩
  show(_,O,q c T L G C)
def cZ (Y:ξ)(j:Nat):List (Int×Int):=Y.map λZ=>Z.getD j (0,1)
def CA (X:Shape T B m R)(N:j<m):∀q∈cZ R j,Sm T B q:=λq Y=>by
 unfold cZ at Y;let(U,Z,rfl):=GV.mp Y;let(Q,S):=X U Z;rw [JC,gE cr];show S _ (QJ _)
def Bd.of (h:∀t∈l,t.natAbs<=2^b):Bd b l:=λj=>by
 by_cases Z:j<l.length
 ·let e:l[j]?=some l[j]:=gE Z
  rw [getD_mem e];show h _ (QJ Z)
 ·rw [pI cr]
  show P1 _
abbrev Wl:=List Int×Int×AZ×AZ
def WlP (T S:Nat)(qs:ε)(d:Int×Int)(w:Wl):Prop:=iB w.1 (qs++[d]) w.2.1/\0<w.2.1/\w.2.1.natAbs<=2^S/\∀t∈w.1,t.natAbs<=2^(T+S)
def aaR {Z:ζ}(h:∀l∈Z,l.length=n)(U:j<n):kZ (Z.map λl=>l.map V.int) j=(Z.map λl=>l.getD j 0).map V.int:=by
 unfold kZ;rw [P2,P2];show HS λl X=>?_;let Y:=h l X;let e:l[j]?=some (l[j]'cr):=gE cr;change (l.map V.int).getD j .cK=.int (l.getD j 0);rw [getD_mem e,JC,ir,e];rfl
theorem wI (j:Nat):∀{ws:List Wl} {ss ys:ε} {cs:ε},ss.length=ws.length->ys.length=ws.length->cs.length=ws.length->
  (∀(i:Nat)(w:Wl)(s y:Int×Int),ws[i]?=some w->ss[i]?=some s->ys[i]?=some y->vl y=vl s*w.2.1)->(∀(i:Nat)(w:Wl)(c:Int×Int),ws[i]?=some w->cs[i]?=some c->((w.1.getD j 0:Int):Rat)=vl c*w.2.1)->jM ys cs=gJ (ss.map vl) (ws.map (·.1)) j
 | [],[],[],[],_,_,_,_,_=>by simp [jM,gJ]
 | w::ws,s::ss,y::ys,c::cs,Q,R,S,U,X=>by
  let T:=wI j (ws:=ws) (ss:=ss) (ys:=ys) (cs:=cs) (by simpa using Q) (by simpa using R) (by simpa using S) (λi w s y Y Z M=>U (i+1) w s y (by simpa using Y) (by simpa using Z) (by simpa using M)) (λi w c Y Z=>X (i+1) w c (by simpa using Y) (by simpa using Z));let a:=U 0 w s y rfl rfl rfl;let b:=X 0 w c rfl rfl;let N:jM (y::ys) (c::cs)=vl y*vl c+jM ys cs:=by simp [jM]
  simp only [M3,gJ];rw [N,T,a,b];grind
 | [],_::_,_,_,h,_,_,_,_=>by simp at h
 | [],[],_::_,_,_,h,_,_,_=>by simp at h
 | [],[],[],_::_,_,_,h,_,_=>by simp at h
 | _::_,[],_,_,h,_,_,_,_=>by simp at h
 | _::_,_::_,[],_,_,h,_,_,_=>by simp at h
 | _::_,_::_,_::_,[],_,_,h,_,_=>by simp at h
def GQ (m:Nat)(Z:ζ):List (List Int):=(LK m).map (λj=>(Z.map λl=>l.getD j 0)++[0])++[(Z.map λl=>l.getD m 0)++[1]]
def CB {o:ο}(h:o∈GQ m OT):∃k,k<m+1/\o=(OT.map λl=>l.getD k 0)++[if k=m then 1 else 0]/\True:=by
 unfold GQ at h
 rcases MU.mp h with z|z
 ·let(j,Z,rfl):=GV.mp z
  have Y :j<m:=QF.mp Z;show(j,cr,by rw [iO cr],trivial)
 ·show(m,cr,by rw [jY rfl];show MJ.mp z,trivial)
def adD (h:k<m+1):(OT.map λl=>l.getD k 0)++[if k=m then 1 else 0]∈GQ m OT:=by
 unfold GQ;by_cases z:k=m
 ·subst z
  rw [jY rfl];simp
 ·rw [iO z]
  show MU.mpr (.inl (GV.mpr (k,QF.mpr cr,O)))
def aaK {ws:List Wl}(T:∀l∈ws.map (·.1),l.length=m+1)(D:ws.length=n)(G:rB (ws.map (·.1)) l0)(L:∀j,j<m->l0.getD j 0=0)(U:l0.getD m 0≠0)(H:rB (GQ m (ws.map (·.1))) l1)(Q:l1.length=n+1)(M:∀j,j<n->l1.getD j 0=0)(N:∀o∈GQ m (ws.map (·.1)),o.length=n+1):l1.getD n 0=0:=by
 let(Y,R,J):=G;have E :=c7 U;let Z:(Y.map λa=>a*(1 / ((l0.getD m 0:Int):Rat))).length=(ws.map (·.1)).length:=by simp [R]
 let all:∀o∈GQ m (ws.map (·.1)),ev o (tO (Y.map λa=>a*(1 / ((l0.getD m 0:Int):Rat))))=0:=by
  intro o X;let(k,C,rfl,_):=CB X;rw [Ma k _ (ws.map (·.1)) _ Z,vZ,<-J k];by_cases z:k=m
  ·subst z
   rw [jY rfl];let I:((1:Int):Rat)=1:=by simp
   rw [I];grind
  ·rw [iO z,L k cr]
   simp;grind
 let e:=afa (n:=n+1) H cr (λo X=>by rw [N o X];show DX _) all
 rw [nZ l1 _ n (λj B=>by
  by_cases z:j<n
  ·rw [M j z]
   simp
  ·rw [pI cr]
   simp)] at e
 let S:tO (Y.map λa=>a*(1 / ((l0.getD m 0:Int):Rat))) n= -1:=by
  unfold tO;rw [iO (by rw [Z,Wp];omega)]
 rw [S] at e;have:((l1.getD n 0:Int):Rat)=0:=by grind
 exact_mod_cast this
def ab5 {d:Int×Int}(h:iB ts (qs++[d]) b)(Z:j<qs.length):((ts.getD j 0:Int):Rat)=vl (qs.getD j (0,1))*b:=by
 let l:=h.1;rw [JG] at l;simp at l;let Y:ts[j]?=some (ts[j]'cr):=gE cr;let X:qs[j]?=some qs[j]:=gE Z;have:=h.2 j _ _ Y (by rwa [MF Z]);rw [getD_mem Y,JC,X];show this
def zab {d:Int×Int}(h:iB ts (qs++[d]) b)(Y:qs.length=m):((ts.getD m 0:Int):Rat)=vl d*b:=by
 let l:=h.1;rw [JG] at l;simp at l;let Z:ts[m]?=some (ts[m]'cr):=gE cr;have:=h.2 m _ d Z (by rw [Mg cr,Y];simp);rw [getD_mem Z];show this
inductive CC (K:Frag)(vs:γ)(H:Hp)(Q:VK)(R:XK):Prop
|mk (r dl:AZ)(m:Nat)(U:ψ)(X:List (List V:_))(Z:ξ)(Y:γ)(ds:ε)(T B S α:Nat)(_:vs=[.ref r,.ref dl,.int (m:Int)])(_:jG H r U X)(_:fQ K H X Z)(_:H dl=some (.lst Y))(_:bT K H Y ds)(_:ds.length=Z.length)(_:Shape T B m Z)(_:(∀d∈ds,Sm T B d))(_:(∀(i:Nat)(qs:ε)(d:Int×Int),Z[i]?=some qs->ds[i]?=some d->pB (qs++[d])<=2^S))(_:m<=100)(_:Z.length<=100)(_:T<=14000000)(_:S<=14000000)(_:B<=14000000)(_:bb (T+S) (min (m+1) Z.length)<=α)(_:α<=29000000)(_:(∀(p x:AZ)(us:γ)(xs:ε)(H':Hp),ar H H' ->H' p=some (.tup [.str "solved",.ref x])->H' x=some (.lst us)->bT K H' us xs->xs.length=m->(∀q∈xs,Sm α α q)->(∀(i:Nat)(qs:ε)(d:Int×Int),Z[i]?=some qs->ds[i]?=some d->jM qs xs=vl d)->Q (.ref p) H'))(_:(∀(p y:AZ)(us:γ)(ys:ε)(H':Hp),ar H H' ->H' p=some (.tup [.str "paper",.ref y])->H' y=some (.lst us)->bT K H' us ys->ys.length=Z.length->(∀q∈ys,Sm (α+S) α q)->(∀j,j<m->jM ys (cZ Z j)=0)->jM ys ds=1->Q (.ref p) H'))
def wJ:aw ["rows","due","many","wholes","lines","x","columns","papers","shares"] JQ (ae QV):=sq
def ahy (D:Def K mg "solve_rows" QV JQ)(eC:mg "zip"=none)(bq:mg "len"=none)(CD:ad P w K mg gN 33 "whole_row" Vu (Rz K))(ahz:ad P w K mg gN 36 "solution_of" Vm (oi K))(Mz:ad P w K mg gN 1 "turned" Ut jV)(kY:ad P w K mg gN 33 "lowest_terms" UU dP):
  ad P w K mg gN 37 "solve_rows" JQ (CC K):=by
 show D.op wJ λf cu A gV s H vs Q E hr h=>?_;let(r,dl,m,ls,cx,L,dus,ds,T,B,S,α,rfl,M,NN,hdl,ND,hds,sh,sd,hPB,hm,hn,hT,hB,hB1,hZ,hZ1,q1,q2):=h
 show(_,(aa (Mj (i:=3) (tn:=["row","number"]) (fr:=[]) (kI:=[]) wJ.nd (lK rfl eC (aJ (pv 0) (pv 1))) (λ_ _ _ _=>(j9 (K:=K) (n:=2) rfl rfl (a9 (du (i:=0) (show(["row","number"]:List Str).Nodup from by decide+kernel) rfl (Qk rfl)) (a9 (du (i:=1) (show(["row","number"]:List Str).Nodup from by decide+kernel) rfl (Qk rfl)) cM)))) (λ_ _ _ _=>j7) (tS CD hr (aR (ay hV (pv 0) (bS (aR (pv 1))))))) (aa (wg (i:=4) (tn:=["whole"]) (fr:=[]) (kI:=[]) wJ.nd (bX (pv 3)) (bC (gH (K:=K) rfl) (pv 0) ah)) (aa (aC 5 wJ.nd (aK ahz hr (aJ (pv 4) (pv 2)))) (aa (bR (bU akP (pv 5) gY) (ak (aI (a_ (aJ eZ (pv 5))))) bf) (aa (aC 6 wJ.nd (aK Mz hr (aJ (pv 4) (ay b9 (pv 2) ah)))) (aa (aC 7 wJ.nd (ay hV (iw (tn:=["column"]) (fr:=[]) (kI:=[]) (bX (cX eO (pv 6) eM (dD (pv 2)))) (ay hV (pv 0) (bS (aR ah)))) (bS (aR (ay hV (bC aE (pv 6) (pv 2)) (bS (aR ah))))))) (aa (aC 8 wJ.nd (aK ahz hr (aJ (pv 7) (aS aG rfl bq cn (aR (pv 4)))))) (ak (aI (a_ (aJ eZ (we (tn:=za2) (fr:=[]) (kI:=[]) (lK rfl eC (aJ (pv 8) (pv 3))) (λ_ _ _ _=>(j9 (K:=K) (n:=2) rfl rfl (a9 (du (i:=0) (show(za2:List Str).Nodup from by decide+kernel) rfl (Qk rfl)) (a9 (du (i:=1) (show(za2:List Str).Nodup from by decide+kernel) rfl (Qk rfl)) cM)))) (λ_ _ _ _=>j7) (tS kY hr (aJ (ay jn (bC (gH (K:=K) rfl) (pv 0) ah) (bC (gH (K:=K) rfl) (pv 1) ah)) (bC (gH (K:=K) rfl) (pv 0) ah))))))))))))))),?_);sleep 6
 let l1:=M.2.1;let l2:=NN.1;let l3:=ND.1;show(_,O,_,O,r,dl,O,#[_,bh.of M.1],#[_,bh.of hdl],λD1 n1=>?_);show zI (mw:=[]) (K:=K) (xs:=ls.map V.ref) (ys:=dus) (λi v H=>∃w:Wl,v=.ref w.2.2.2/\w.2.2.1≠D1/\H w.2.2.2=some (.tup [.ref w.2.2.1,.int w.2.1])/\H w.2.2.1=some (.lst (w.1.map V.int))/\∀X d,L[i]?=some X->ds[i]?=some d->WlP T S X d w) n1 (by rw [Wp];show L_ (show ls.length<=1000 by omega) eY) (by rw [Wp];omega) (λH2 s2=>bh.of (s2 _ _ M.1)) (λH2 s2=>bh.of (s2 _ _ hdl)) ?_ ?_ ?_
 ·rintro i v H2 H3 ys hD ks ⟨w,Y,Z,C,e4,e5⟩
  show(w,Y,Z,ks _ _ (λz=>by erw [z,hD] at C) C,ks _ _ Z e4,e5)
 ·rintro i x y H2 RR ex ey s2 ⟨ys0,hD0⟩ kk
  rw [ir] at ex;let(l,el,rfl):=MK.mp ex;let hi:i<ls.length:=(be.mp el).1;obtain ⟨X,N⟩:∃X,L[i]?=some X:=#[_,gE cr];obtain ⟨vs,ev⟩:∃vs,cx[i]?=some vs:=#[_,gE cr];let hl:=M.2.2 i l vs el ev;let hq:=NN.2 i vs X ev N;let(d,ed,nd):=ND.at ey;let(lq,sq):=sh X (IH N);let lvs:=hq.1;show(_,O,_,O,qB,λp1 np1=>?_);let t1:=av np1 (.lst [y]);show(l,p1,vs,_,O,O,t1 _ _ (s2 _ _ hl),af,GX (show vs.length+1<=1000 by omega) eY,λp2 np2=>?_);let t2:=av np2 (.lst (vs++[y]));let t12:=t1.trans t2;show(p2,X++[d],T,B,S,O,(_,bh.of af,(bT.snoc ((hq.gO s2).gO t12) ((nd.gO s2).gO t12))),λq' rf =>?_,hPB i X d N ed,cr,cr,cr,by rw [JG,lq];change m+1<=1000;omega,λp3 l3' ts b H3 s3 nl hp3 hl3 hb hbs g hts=>?_)
  ·rcases MU.mp rf with z|z
   ·show sq q' z
   ·rw [MJ.mp z]
    show sd d (IH ed)
  ·show kk _ _ (t12.trans s3) ((ts,(b,(l3',p3))),O,λz=>?_,hp3,hl3,λqs' d' Y Z=>?_)
   ·have:=t12 _ _ hD0
    erw [show l3'=D1 from z,this] at nl
   ·rw [N] at Y
    rw [ed] at Z;cases Y;cases Z;show(g,hb,hbs,hts)
 ·intro zs H2 hz ig s2 α3
  rw [Wp] at hz;let(ws,lw,hw):=jU (P:=λi v (w:Wl)=>v=.ref w.2.2.2/\w.2.2.1≠D1/\H2 w.2.2.2=some (.tup [.ref w.2.2.1,.int w.2.1])/\H2 w.2.2.1=some (.lst (w.1.map V.int))/\∀X d,L[i]?=some X->ds[i]?=some d->WlP T S X d w) zs ig
  let ez:zs=ws.map (λw=>V.ref w.2.2.2):=by
   show U3 λi=>?_;rw [ir];by_cases hi:i<zs.length
   ·let Y:zs[i]?=some zs[i]:=gE hi
    let Z:ws[i]?=some (ws[i]'cr):=gE cr;let h:=(hw i _ _ Y Z).1;rw [Y,Z,h];rfl
   ·rw [JM cr,JM cr]
    rfl
  subst ez;let α4:ws.length=L.length:=cr
  let J:∀(i:Nat)(w:Wl),ws[i]?=some w->H2 w.2.2.2=some (.tup [.ref w.2.2.1,.int w.2.1])/\H2 w.2.2.1=some (.lst (w.1.map V.int))/\∀X d,L[i]?=some X->ds[i]?=some d->WlP T S X d w:=λi w e=>(hw i _ w (by rw [ir,e];rfl) e).2.2
  let wp:∀(i:Nat)(w:Wl),ws[i]?=some w->∃X d,L[i]?=some X/\ds[i]?=some d/\WlP T S X d w:=λi w e=>by
   let hi:i<ws.length:=(be.mp e).1;obtain ⟨X,N⟩:∃X,L[i]?=some X:=#[_,gE cr];obtain ⟨d,ed⟩:∃d,ds[i]?=some d:=#[_,gE cr];show(X,d,N,ed,(J i w e).2.2 X d N ed)
  let RF:∀l∈ws.map (·.1),l.length=m+1:=λl hl=>by
   let(w,VL,rfl):=GV.mp hl;let(i,e):=LP VL;let(X,d,N,_,g,_):=wp i w e;have:=g.1;rwa [JG,(sh X (IH N)).1] at this
  let wbd:∀l∈ws.map (·.1),Bd (T+S) l:=λl hl=>by
   let(w,VL,rfl):=GV.mp hl;let(i,e):=LP VL;let(X,d,N,_,_,_,_,h):=wp i w e;show Bd.of h
  let hlm:(ws.map (·.1)).length=L.length:=by rwa [Wp]
  show(_,O,D1,O,#[_,bh.of α3],λD2 n2=>?_);show eG (mw:=[]) (K:=K) (a:=D1) (xs:=ws.map (λw=>V.ref w.2.2.2)) (λk v _=>∃w,ws[k]?=some w/\v=.ref w.2.2.1) n2 (by rw [Wp];show L_ (show ws.length<=1000 by omega) eY) (λH3 s3=>bh.of (s3 _ _ α3)) (λ_ _ _ _ _ _ _ h=>h) ?_ ?_
  ·intro k x H3 RR ex s3 kk
   rw [ir] at ex;let(w,U,rfl):=MK.mp ex;show(_,O,w.2.2.2,_,_,_,O,O,bQ.of (s3 _ _ (J k w U).1),iM,kk _ _ (ar.refl _) (w,U,O))
  intro ys H3 hy VM s3 hD2
  let ey:ys=(ws.map (λw=>w.2.2.1)).map V.ref:=by
   show U3 λi=>?_;rw [Wp] at hy;by_cases hi:i<ys.length
   ·let Y:ys[i]?=some ys[i]:=gE hi
    let(w,Z,C):=VM i _ Y;rw [Y,C,ir,ir,Z];rfl
   ·rw [JM cr,JM (by simp;omega)]
  subst ey
  let hLl:wG H3 ((ws.map (λw=>w.2.2.1)).map V.ref) (ws.map (·.1)):=#[by simp,λi u l Y Z=>by
   rw [ir,ir] at Y;rw [ir] at Z;cases e:ws[i]? with
   | none=>erw [e] at Z
   | some w=>
    rw [e] at Y Z;cases Y;cases Z
    show(w.2.2.1,O,s3 _ _ (J i w e).2.1)]
  let hMm:jG H3 D2 (ws.map (λw=>w.2.2.1)) ((ws.map (·.1)).map λl=>l.map V.int):=(hD2,by simp,λi l vs Y Z=>by
   rw [ir] at Y;rw [ir,ir] at Z;cases e:ws[i]? with
   | none=>erw [e] at Z
   | some w=>
    rw [e] at Y Z;cases Y;cases Z
    show s3 _ _ (J i w e).2.1)
  let mn:bb (T+S) (min m (ws.map (·.1)).length)<=α:=GX (BX _ (by rw [hlm];omega)) hZ;let s23:=s2.trans s3;show(_,O,_,O,D2,_,ws.map (·.1),m,T+S,O,bh.of hD2,hLl,RF,cr,cr,wbd,GX mn hZ1,λl0 H4 s4 l0l cm l00 l0m=>?_,λx jg xs H4 s4 nx hx nxs lxs sxs sol=>?_)
  ·show(_,O,O,_,O,bP (λz=>by simp at z) (λ_=>?_))
   let M4:=hMm.gO s4;show(_,O,_,O,_,_,O,O,D2,ws.map (λw=>w.2.2.1),_,(m:Int)+1,O,M4,cr,cr,by rw [Wp];omega,λvs hvs=>?_,λc cs H5 s5 M5=>?_)
   ·let(l,hl,rfl):=GV.mp hvs
    rw [Wp,RF l hl];omega
   let lcs:cs.length=m+1:=by
    have:=M5.2.1;unfold gW at this;simp at this;omega
   let col:∀k,k<m+1->∃l,cs[k]?=some l/\H5 l=some (.lst (((ws.map (·.1)).map λl=>l.getD k 0).map V.int)):=λk I=>by
    let e:(gW ((ws.map (·.1)).map λl=>l.map V.int) ((m:Int)+1).toNat)[k]?=some (((ws.map (·.1)).map λl=>l.getD k 0).map V.int):=by
     rw [<-aaR RF I];unfold gW;rw [ir,Vi cr];rfl
    show M5.row e
   show(_,O,_,O,_,O,c,_,O,bh.of M5.1,λp6 n6=>?_);let t6:=av n6 (.lst (j6 (cs.map V.ref) none (some (m:Int))));show(p6,O,#[_,bh.of af],λD6 nD6=>?_);let lcl:((ws.map (·.1)).map λl=>l.getD 0 0).length<=100:=by simp;omega
   show ka (mw:=[]) (K:=K) (a:=p6) (xs:=(cs.map V.ref).take m) (λk v H=>∃p,v=.ref p/\p≠D6/\H p=some (.lst ((List.map (λl:List Int=>l.getD k 0) (ws.map (λw:Wl=>w.1))++[(0:Int)]).map V.int))) nD6 (L_ (show((cs.map V.ref).take m).length<=1000 by simp;omega) eY) (λH7 s7=>bh.of (s7 _ _ (by rw [af,kd (by simp;omega)]))) ?_ ?_ ?_
   ·rintro k v H7 H8 ys hD ks ⟨p,Y,Z,C⟩
    show(p,Y,Z,ks _ _ Z C)
   ·rintro k x H7 RR ex s7 ⟨ys0,VD⟩ kk
    let I:k<m:=by have:=(be.mp ex).1;simp at this;omega
    let(l,el,hl):=col k cr;erw [aiD,jY I,ir,el] at ex;show(_,O,qB,λpz nz=>?_);let tz:=av nz (.lst [.int 0]);show(l,pz,_,_,O,O,tz _ _ (s7 _ _ (t6 _ _ hl)),af,GX (show _<=1000 by simp;omega) eY,λR nn=>?_);let tn:=av nn (.lst (((ws.map (·.1)).map λl=>l.getD k 0).map V.int++[.int 0]));show kk _ _ (tz.trans tn) (R,O,λz=>?_,by rw [af,QC];rfl);have:=tz _ _ VD;erw [z,this] at nn
   intro Xp H7 hy6 ahE s7 hD6;let ly6:Xp.length=m:=by rw [hy6];simp;omega
   let t67:=t6.trans s7;let(lm,elm,apE):=col m cr;show(_,O,_,O,c,_,_,_,O,O,bh.of (t67 _ _ M5.1),bI (by rw [ir,elm];rfl),qB,λpz nz=>?_);let tz:=av nz (.lst [.int 1]);show(lm,pz,_,_,O,O,tz _ _ (t67 _ _ apE),af,GX (show _<=1000 by simp;omega) eY,λR nn=>?_);let tn:=av nn (.lst (((ws.map (·.1)).map λl=>l.getD m 0).map V.int++[.int 1]));show#[qB,λpL nL=>?_];let tL:=av nL (.lst [V.ref R]);let tzL:=(tz.trans tn).trans tL;show(D6,pL,Xp,_,O,O,tzL _ _ hD6,af,GX (show Xp.length+1<=1000 by omega) eY,λpP nP=>?_);let tP:=av nP (.lst (Xp++[V.ref R]));let s7P:=tzL.trans tP;let hpn:=tP _ _ (tL _ _ (af (H:=upd H7 pz (.lst [.int 1])) (a:=R) (o:=.lst (((ws.map (·.1)).map λl=>l.getD m 0).map V.int++[.int 1]))));let eP:upd (upd (upd (upd H7 pz (.lst [.int 1])) R (.lst (((ws.map (·.1)).map λl=>l.getD m 0).map V.int++[.int 1]))) pL (.lst [V.ref R])) pP (.lst (Xp++[V.ref R])) pP=some (.lst (Xp++[V.ref R])):=af
   let apG:∀(k:Nat)(v:V),Xp[k]?=some v->Ln H7 v (((ws.map (·.1)).map λl=>l.getD k 0)++[0]):=λk v e=>by
    let(p,Y,_,C):=ahE k v e;show(p,Y,C)
   let s5P:=t67.trans s7P;generalize upd (upd (upd (upd H7 pz (.lst [.int 1])) R (.lst (((ws.map (·.1)).map λl=>l.getD m 0).map V.int++[.int 1]))) pL (.lst [V.ref R])) pP (.lst (Xp++[V.ref R]))=H9 at*
   let apH:wG H9 (Xp++[V.ref R]) (GQ m (ws.map (·.1))):=by
    show#[by simp [GQ,ly6],λk u l Y Z=>?_];unfold GQ at Z;by_cases I:k<m
    ·rw [MF cr] at Y
     erw [MF (by simpa using I),ir,Vi I] at Z;show(apG k u Y).gO s7P
    ·rw [Mg cr] at Y
     rw [Mg (by simp;omega)] at Z;by_cases hkm:k=m
     ·subst hkm
      rw [show k-Xp.length=0 by omega] at Y;rw [show k-((LK k).map λj=>((ws.map (·.1)).map λl=>l.getD j 0)++[0]).length=0 by simp] at Z;cases Y;cases Z;show(R,O,by rw [hpn,QC];rfl)
     ·rw [JM (by simp;omega)] at Y
      cases Y
   let ppl:∀o∈GQ m (ws.map (·.1)),o.length=L.length+1:=λo ho=>by
    rcases CB ho with ⟨k,I,e⟩
    rw [e.1];simp [α4]
   let ppb:∀o∈GQ m (ws.map (·.1)),Bd (T+S) o:=λo ho=>by
    rcases CB ho with ⟨k,I,e,hc⟩
    rw [e];show Bd.of λt ht=>?_
    rcases MU.mp ht with z|z
    ·let(l,hl,rfl):=GV.mp z
     show wbd l hl k
    ·rw [MJ.mp z]
     show GX ?_ (Ur (n:=T+S));split<;>decide
   let lpp:(GQ m (ws.map (·.1))).length=m+1:=by simp [GQ]
   let mn2:bb (T+S) (min L.length (GQ m (ws.map (·.1))).length)<=α:=GX (BX _ (by rw [lpp];omega)) hZ;let s39:=(s4.trans s5).trans s5P;show(_,O,_,O,D2,_,O,.inl (bh.of (s39 _ _ hD2)),pP,_,GQ m (ws.map (·.1)),L.length,T+S,by simp [α4],bh.of eP,apH,ppl,cr,cr,ppb,GX mn2 hZ1,λl1 Oa yh l1l cm1 l10 l1m=>?_,λx2 uo ss Oa yh nx2 hx2 nss lss sss apK=>?_)
   ·show DB (aaK RF α4 cm l00 l0m cm1 l1l l10 ppl) l1m
   let csm:∀k,k<m+1->gJ (ss.map vl) (ws.map (·.1)) k=if k=m then 1 else 0:=λk I=>by
    let e:=apK _ (adD I);rw [Ma k _ (ws.map (·.1)) (ss.map vl) (by simp [α4,lss])] at e;by_cases z:k=m
    ·rw [jY z] at e ⊢
     let e':((1:Int):Rat)=1:=by simp
     rw [e'] at e;grind
    ·rw [iO z] at e ⊢
     let e':((0:Int):Rat)=0:=by simp
     rw [e'] at e;grind
   let adG:=s39.trans yh;let ahG:=adG _ _ (s3 _ _ α3);let aHY:=nss.1;show(_,O,_,O,x2,D1,O,#[_,bh.of hx2],#[_,bh.of ahG],λD9 n9=>?_);show lM (mw:=[]) (K:=K) (xs:=uo) (ys:=ws.map (λw=>V.ref w.2.2.2)) (λk v H=>∃w q,ws[k]?=some w/\ss[k]?=some q/\Nm H v (low (q.1*w.2.1) q.2)) n9 (L_ (show uo.length<=1000 by omega) eY) (by rw [Wp];omega) (λS5 vn=>bh.of (vn _ _ hx2)) (λS5 vn=>bh.of (vn _ _ ahG)) ?_ ?_ ?_
   ·rintro k v S5 OU ys hD ks ⟨w,q,Y,Z,C⟩
    show(w,q,Y,Z,C.kept hD ks)
   ·intro k x y S5 RR ex ey vn kk
    let(q,ZG,ps,rfl,hps):=nss.at ex;rw [ir] at ey;let(w,U,rfl):=MK.mp ey;let(X,d,G,eds,g,wb,wbs,_):=wp k w U;let sq:=sss q (IH ZG);let hw1:=vn _ _ (adG _ _ (s3 _ _ (J k w U).1));let ahI:=Ty.ar.gx vn hps;show(_,O,ps,_,_,_,O,O,ahI,iM,_,O,w.2.2.2,_,_,_,O,O,bQ.of hw1,iK,_,_,O,O,iF (iC sq.top mn2) wbs cr,_,O,ps,_,_,_,O,O,ahI,iK,_,_,O,by have:=sq.pos;omega,λp8 H8 s8 e8=>kk _ _ s8 (w,q,U,ZG,p8,O,e8))
   intro us9 S5 h9 ahJ vn hD9;show#[qt,λp12 n12=>?_];let pJ:=av n12 (.tup [.str "paper",.ref D9]);let yat:∀(k:Nat)(w:Wl)(q:Int×Int),ws[k]?=some w->ss[k]?=some q->(Qe (λ(w:Wl) (q:Int×Int)=>low (q.1*w.2.1) q.2) ws ss)[k]?=some (low (q.1*w.2.1) q.2):=λk w q Y Z=>by rw [YZ,Y,Z]
   let VN:(Qe (λ(w:Wl) (q:Int×Int)=>low (q.1*w.2.1) q.2) ws ss).length=L.length:=by simp [α4,lss]
   let vly:∀(k:Nat)(w:Wl)(q y:Int×Int),ws[k]?=some w->ss[k]?=some q->(Qe (λ(w:Wl) (q:Int×Int)=>low (q.1*w.2.1) q.2) ws ss)[k]?=some y->vl y=vl q*w.2.1:=λk w q y Y Z C=>by
    erw [yat k w q Y Z] at C;let sq:=sss q (IH Z);rw [iY (by have:=sq.pos;omega)];unfold vl;push_cast;grind
   show q2 p12 D9 us9 (Qe (λ(w:Wl) (q:Int×Int)=>low (q.1*w.2.1) q.2) ws ss) _ (((s23.trans adG).trans vn).trans pJ) af (pJ _ _ hD9) #[by rw [h9,VN];omega,λk u y Y Z=>?_] VN (λy hy=>?_) (λj hj=>?_) ?_
   ·let(w,q,U,ZG,p,e,hp):=ahJ k u Y
    erw [yat k w q U ZG] at Z;show(p,e,bQ.of (pJ _ _ hp))
   ·let(k,I):=LP hy
    let hkl:k<L.length:=by rw [<-VN];show(be.mp I).1
    obtain ⟨w,U⟩:∃w,ws[k]?=some w:=#[_,gE cr];obtain ⟨q,ZG⟩:∃q,ss[k]?=some q:=#[_,gE cr];erw [yat k w q U ZG] at I;let(X,d,G,eds,g,wb,wbs,_):=wp k w U;let sq:=sss q (IH ZG);show B_ (by have:=sq.pos;omega) (j_ (iC sq.top mn2) wbs) (iC sq.bot mn2)
   ·rw [wI j (ws:=ws) (ss:=ss) cr (by rw [VN,α4]) (by simp [cZ,α4]) vly ?_,csm j cr,iO cr]
    intro k w cq U ec;let(X,d,G,eds,g,_):=wp k w U;unfold cZ at ec;erw [ir,G] at ec;show ab5 g (by rwa [(sh X (IH G)).1])
   ·rw [wI m (ws:=ws) (ss:=ss) cr (by rw [VN,α4]) cr vly ?_,csm m cr,jY rfl]
    intro k w cq U ec;let(X,d,G,eds,g,_):=wp k w U;erw [ec] at eds;show zab g (sh X (IH G)).1
  ·show(_,O,O,_,O,bP (λ_=>?_) (λz=>by simp at z))
   show(_,O,qt,λp5 n5=>?_);let s5:=av n5 (.tup [.str "solved",.ref x]);show q1 p5 x jg xs _ ((s23.trans s4).trans s5) af (s5 _ _ hx) (nxs.gO s5) lxs (λq hq=>(sxs q hq).up mn mn) (λi X d N ed=>?_);let hi:i<L.length:=(be.mp N).1;obtain ⟨w,U⟩:∃w,ws[i]?=some w:=#[_,gE cr];let(g,wb,_):=(J i w U).2.2 X d N ed;let e0:=sol w.1 (GV.mpr (w,IH U,O));rw [zaw g (by rw [lxs,(sh X (IH N)).1])] at e0;let wb':=c7 (b:=w.2.1) cr;grind
def i7 (c m t:Nat)(Z:ν)(qs:ε):Prop:=qs.length=m/\qs[c]?=some (1,1)/\(∀i,i<t->∀x,Z[i]?=some x->qs[x.1]?=some (low (-(x.2.getD c 0)) (x.2.getD x.1 0)))/\∀j,j<m->j≠c->(∀i,i<t->∀x,Z[i]?=some x->x.1≠j)->qs[j]?=some (0,1)
def i7.put {os:ζ}{x:Χ}(R:Red os L m b Y lv)(F:i7 c m t Y qs)(N:∀y∈Y,y.1≠c)(e:Y[t]?=some x):i7 c m (t+1) Y (qs.set x.1 (low (-(x.2.getD c 0)) (x.2.getD x.1 0))):=by
 let T:=F.1;let H:=R.cols x (IH e);let U:=N x (IH e)
 let I:∀i y,i<t->Y[i]?=some y->y.1≠x.1:=λi y X Z=>by
  let a:=aiW.mp R.asc i t (by rw [Wp];show(be.mp Z).1) (by rw [Wp];show(be.mp e).1) X;simp only [anf] at a;let J:=(be.mp Z).2;let M:=(be.mp e).2;rw [J,M] at a;omega
 show(by simp [T],by rw [Qs,iO U];show F.2.1,λi X y Z=>?_,λj Q S h=>?_)
 ·rcases Zs.mp X with z|z
  ·rw [Qs,iO (IL (I i y z Z))]
   show F.2.2.1 i z y Z
  ·subst z
   erw [e] at Z;rw [Qs,jY rfl,jY cr]
 ·rw [Qs,iO (h t (Qg _) x e)]
  show F.2.2.2 j Q S (λi X y Z=>h i (ZN X) y Z)
def Ln.ks (h:Ln H v l)(r:Rd H d (.dK AV))(k:aX d H H'):Ln H' v l:=by
 let(p,e,z):=h;show(p,e,k p _ (λy=>?_) z);rw [y] at z
 rcases r with r|⟨o,r⟩<;>(erw [r] at z)
theorem tW.ks (h:tW H AV nd)(r:Rd H d (.dK kv2))(k:aX d H H'):tW H' AV nd:=#[h.1,λi Z x X Y=>#[(h.2 i Z x X Y).1,(h.2 i Z x X Y).2.ks r k]]
def aX.step (k:aX d H H')(s:ar H' H2):aX d H H2:=λb o n e=>s _ _ (k b o n e)
def aX.put (k:aX d H H')(n:H x=none):aX d H (upd H' x o):=λb Z Y e=>by
 rw [ag (λz=>by erw [z,n] at e)];show k b Z Y e
inductive CG (K:Frag)(vs:γ)(H:Hp)(Q:VK)(X:XK):Prop
|mk (d:AZ)(c m L b:Nat)(AV:η)(Z:ν)(os Y:List (List Int:_))(_:vs=[.ref d,.int (c:Int),.int (m:Int)])(_:Rd H d (.dK AV))(_:tW H AV Z)(_:Red os L m b Z Y)(_:m<=L)(_:m<=900)(_:c<m)(_:(∀y∈Z,y.1≠c))(_:∀(x:AZ)(us:γ)(qs:ε)(o:Obj)(H':Hp),aX d H H' ->H' d=some (.iL o (.dK AV))->H x=none->H' x=some (.lst us)->bT K H' us qs->i7 c m Z.length Z qs->Q (.ref x) H')
def iy:aw ["needed","column","many","numbers","place","line"] KI (ae fu):=sq
def akL (hN:∀H:Hp,bQ K H aN [.int 0,.int 1])(kX:mg "NOUGHT"=some (.ref aN))(hO:∀H:Hp,bQ K H aO [.int 1,.int 1])(RG:mg "ONE"=some (.ref aO))(D:Def K mg "spare_list" fu KI)(kY:ad P w K mg gN 33 "lowest_terms" UU dP):ad P w K mg gN 34 "spare_list" KI (CG K):=by
 show D.oo iy λH hr h=>?_;let(d,c,m,L,b,AV,nd,os,lv,rfl,rd,p,R,hmL,hm,hc,hnc,q):=h
 show(_,(aa (aC 3 iy.nd (ay rj (bS (aR (gy (v:=.ref aN) rfl kX rfl))) (pv 2))) (aa (g9 (gy (v:=.ref aO) rfl RG rfl) (g7 (pv 3) (pv 1) set_list)) (aa (bM M9 rfl (ab3 (pv 0)) (g6 rfl (a9 (cB 4 iy.nd) (a9 (cB 5 iy.nd) cM))) (ak (g9 (aK kY hr (aJ (gh dG (bC aE (pv 5) (pv 1))) (bC aE (pv 5) (pv 4)))) (g7 (pv 3) (pv 4) set_list)))) (ak (aI (pv 3)))))),?_);sleep 3
 show#[qB,λE n3=>?_];let s3:=av n3 (.lst [V.ref aN]);show(_,O,E,_,_,O,O,af,cr,cr,GX (show 1*(m:Int).toNat<=1000 by omega) eY,λx n4=>?_);let er:(JB (m:Int).toNat [V.ref aN]).flatten=JB m (V.ref aN):=by simp
 rw [er];let s4:=av n4 (.lst (JB m (V.ref aN)));let J:H x=none:=s3.free n4
 let xd:d≠x:=by
  rcases rd with r|⟨o,r⟩
  ·show aj r J
  ·show aj r J
 show(_,O,_,O,x,_,_,c,O,O,af,by rw [YU];show Mu hc,?_);let f:ar H (upd (upd (upd H E (.lst [V.ref aN])) x (.lst (JB m (V.ref aN)))) x (.lst ((JB m (V.ref aN)).set c (V.ref aO)))):=jT (s3.trans s4) J
 let Xq:Rd (upd (upd (upd H E (.lst [V.ref aN])) x (.lst (JB m (V.ref aN)))) x (.lst ((JB m (V.ref aN)).set c (V.ref aO)))) d (.dK AV):=by
  rcases rd with r|⟨o,r⟩
  ·show .inl (f _ _ r)
  ·show .inr #[o,f _ _ r]
 let x5:upd (upd (upd H E (.lst [V.ref aN])) x (.lst (JB m (V.ref aN)))) x (.lst ((JB m (V.ref aN)).set c (V.ref aO))) x=some (.lst ((JB m (V.ref aN)).set c (V.ref aO))):=af;generalize upd (upd (upd H E (.lst [V.ref aN])) x (.lst (JB m (V.ref aN)))) x (.lst ((JB m (V.ref aN)).set c (V.ref aO)))=H5 at*;let Mv:=p.gO f;show(_,O,d,AV,O,Xq,λo=>?_);let k5:aX d H (upd H5 d (.iL o (.dK AV))):=λb o' n e=>by rw [ag n];show f _ _ e
 let k55:aX d H5 (upd H5 d (.iL o (.dK AV))):=λb o' n e=>by rwa [ag n]
 show let I:ce:=λt Y G=>Td λ(o4 o5:ω) (S:γ) (Q:ε)=>Y=[bv d,some (.int (c:Int)),some (.int (m:Int)),bv x,o4,o5]/\aX d H G/\G d=some (.iL o (.dK AV))/\G x=some (.lst S)/\bT K G S Q/\tW G AV nd/\i7 c m t nd Q;mE (d:=d) (o:=o) (AV:=AV) I
  (none,none,(JB m (V.ref aN)).set c (V.ref aO),(JB m (0,1)).set c (1,1),O,k5,af,by rwa [ag (IL xd)],bT.set #[by simp,λi u q' X T=>?_] (aO,O,hO _),Mv.ks Xq k55,(by simp,by rw [Qs,jY rfl,jY (by simpa using hc)],λi hi=>DB hi (Qn _),λj hj jc _=>by rw [Qs,iO (IL jc),Vh,jY hj])) (λt Y G _ h=>by
   let(_,_,_,_,_,_,h,_):=h
   show h) ?_ ?_
 ·rw [Vh] at X T
  by_cases z:i<m
  ·rw [jY z] at X T
   cases X;cases T;show(aN,O,hN _)
  ·rw [iO z] at X
   cases X
 ·rintro t k v Y H6 p7 GP ⟨o4,o5,S,Q,rfl,k6,RH,M,U,Z,F⟩ n7
  let ht:t<AV.length:=(be.mp GP).1;let B:=Z.1;obtain ⟨y,ey⟩:∃y,nd[t]?=some y:=#[_,gE cr];let(k1,k2):=Z.2 t _ y GP ey;let k1':k=.inl (y.1:Int):=k1;subst k1';let(b',eb,j8):=k2;let eb':v=.ref b':=eb;subst eb';let N:=IH ey;let hyl:=R.rN y N;let hyc:=R.cols y N;let s7:=av n7 (.tup [kV (.inl (y.1:Int)),.ref b']);let A:=s7 _ _ j8;show(p7,_,O,bQ.of af,O,_,_,O,_,_,O,O,_,O,_,O,b',_,_,_,O,O,bh.of A,tV cr,_,O,_,O,_,O,b',_,_,_,O,O,bh.of A,tV cr,_,_,O,R.here y N,λp8 H8 s8 e8=>?_);let g:=s7.trans s8;let C:=g _ _ M;let l2:=U.1;let dx8:=g _ _ RH;show(_,O,_,O,x,S,_,y.1,O,O,C,Mu (by rwa [l2,F.1]),?_);show(_,_,S.set y.1 (.ref p8),Q.set y.1 (low (-(y.2.getD c 0)) (y.2.getD y.1 0)),O,aX.put (aX.step k6 g) J,by rwa [ag xd],af,?_,?_,F.put R hnc ey)
  ·let gN:bT K H8 (S.set y.1 (.ref p8)) (Q.set y.1 (low (-(y.2.getD c 0)) (y.2.getD y.1 0))):=(U.gO g).set (p8,O,bQ.of e8)
   show#[gN.1,λi u q' X T=>?_];let(p9,a,h9):=gN.2 i u q' X T;show(p9,a,bQ.putL h9 C)
  ·let gN:=Z.gO g
   show#[gN.1,λi kv y' X T=>#[(gN.2 i kv y' X T).1,?_]];let(p9,a,h9):=(p.2 i kv y' X T).2;show(p9,a,?_);rw [ag (λz=>by erw [z,J] at h9)];let(VG,OS,h10):=(gN.2 i kv y' X T).2;erw [a] at OS;show h10
 ·rintro Y H6 ⟨o4,o5,S,Q,rfl,k6,RH,M,U,Z,F⟩
  let B:=Z.1;rw [B] at F;show(_,O,q x S Q o H6 k6 RH J M U F)
def bQ.ks (h:bQ K H a xs)(r:Rd H d (.dK AV))(k:aX d H H'):bQ K H' a xs:=by
 let Z:∀{u:HO},H a=some u->(∀o,u≠.iL o (.dK AV))->u≠.dK AV->a≠d:=λ{u} e X Y z=>by
  rw [z] at e
  rcases r with r|⟨o,r⟩
  ·rw [r] at e
   cases e;show Y rfl
  ·rw [r] at e
   cases e;show X o rfl
 rcases h with (h|⟨o,h⟩)|h
 ·show .inl (.inl (k _ _ (Z h (λo z=>nomatch z) (λz=>nomatch z)) h))
 ·show .inl (.inr #[o,k _ _ (Z h (λo z=>by cases z) (λz=>nomatch z)) h])
 ·show .inr h
theorem bT.ks (h:bT K H us qs)(r:Rd H d (.dK AV))(k:aX d H H'):bT K H' us qs:=#[h.1,λi u q Y Z=>by
 let(p,e,z):=h.2 i u q Y Z
 show(p,e,bQ.ks z r k)]
def Xr (K:Frag)(H:Hp)(AV:η)(ss:χ):Prop:=AV.length=ss.length/\∀(i:Nat)(Z:Key×V)(x:Nat×List (Int×Int)),AV[i]?=some Z->ss[i]?=some x->Z.1=.inl (x.1:Int)/\∃p Y,Z.2=.ref p/\H p=some (.lst Y)/\bT K H Y x.2
theorem Xr.ks (h:Xr K H AV ss)(r:Rd H d (.dK kv2))(k:aX d H H'):Xr K H' AV ss:=#[h.1,λi Y x U X=>by
 let(a,p,Z,b,c,T):=h.2 i Y x U X;show(a,p,Z,b,k _ _ (λz=>?_) c,bT.ks T r k);rw [z] at c
 rcases r with r|⟨o,r⟩<;>(erw [r] at c)]
def Xr.snoc (h:Xr K H AV ss){c:Nat}(T:H p=some (.lst us))(S:bT K H us qs):Xr K H (AV++[(.inl (c:Int),.ref p)]) (ss++[(c,qs)]):=by
 let X:=h.1;show#[by simp [X],λj U x Z Y=>?_];by_cases z:j<AV.length
 ·rw [MF z] at Z
  rw [MF cr] at Y;show h.2 j U x Z Y
 ·rw [Mg cr] at Z Y
  rw [<-X] at Y;by_cases y:j-AV.length=0
  ·rw [y] at Z Y
   cases Z;cases Y;show(O,p,us,O,T,S)
  ·rw [JM (by simp;omega)] at Z
   cases Z
def Xr.keys (h:Xr K H AV ss):AV.map (·.1)=ss.map (λx=>(U_ (x.1:Int):Key)):=by
 show U3 λi=>?_;let X:=h.1;rw [ir,ir];by_cases Y:i<ss.length
 ·let e:ss[i]?=some ss[i]:=gE Y
  let Z:AV[i]?=some (AV[i]'cr):=gE cr;rw [e,Z];simp only [amz];rw [(h.2 i _ _ Z e).1]
 ·rw [JM cr,JM cr]
  rfl
def WlQ (T S:Nat)(qs:ε)(w:Wl):Prop:=iB w.1 qs w.2.1/\0<w.2.1/\w.2.1.natAbs<=2^S/\∀t∈w.1,t.natAbs<=2^(T+S)
def VO (T B m:Nat)(Y:ξ)(os:ζ):Prop:=os.length=Y.length/\∀(i:Nat)(o:ο)(Z:ε),os[i]?=some o->Y[i]?=some Z->∃b:Int,0<b/\iB o Z b
def free (Z:ν)(j:Nat):Bool:=Z.all λy=>decide (y.1≠j)
def iH :free Y j=true ↔ ∀y∈Y,y.1≠j:=by
 unfold free;rw [anc];show#[λh y Z=>Qd (h y Z),λh y Z=>P9 (h y Z)]
inductive wK (K:Frag)(vs:γ)(H:Hp)(Q:VK)(M:XK):Prop
|mk (r:AZ)(m:Nat)(N:ψ)(U:List (List V:_))(Z:ξ)(T B S α:Nat)(_:vs=[.ref r,.int (m:Int)])(_:jG H r N U)(_:fQ K H U Z)(_:Shape T B m Z)(_:(∀qs∈Z,pB qs<=2^S))(_:m<=100)(_:Z.length<=100)(_:T<=14000000)(_:S<=14000000)(_:B<=14000000)(_:bb (T+S) (min m Z.length)<=α)(_:α<=29000000)(_:∀(X:AZ)(AV:η)(ss:χ)(os R:ζ)(Y:ν)(H':Hp),ar H H' ->H X=none->H' X=some (.dK AV)->Xr K H' AV ss->VO T B m Z os->Red os m m α Y R->ss.map (·.1)=(LK m).filter (free Y)->(∀x∈ss,i7 x.1 m Y.length Y x.2)->Q (.ref X) H')
def fJ:aw ["rows","many","needed","spare","column"] Ut (ae df):=sq
def akD (D:Def K mg "spare_columns" df Ut)(bB:mg "range"=none)(CD:ad P w K mg gN 33 "whole_row" Vu (Rz K))(adB:ad P w K mg gN 35 "reduced" Vm (mK K))(CH:ad P w K mg gN 34 "spare_list" KI (CG K)):ad P w K mg gN 36 "spare_columns" Ut (wK K):=by
 show D.op fJ λf cu A gV s H vs Q E hr h=>?_;let(r,m,ls,cx,aZ,T,B,S,α,rfl,M,NN,sh,hPB,hm,hn,hT,hB,hB1,hZ,hZ1,q):=h
 show(_,(aa (aC 2 fJ.nd (aH (aK adB hr (aJ (iw (tn:=Vu) (fr:=[]) (kI:=[]) (bX (pv 0)) (bC (gH (K:=K) rfl) (tS CD hr (aR (pv 0))) ah)) (pv 1))))) (aa (aC 3 fJ.nd fW) (aa (bM M9 rfl (ck rfl bB (aR (pv 1))) (cB 4 fJ.nd) (ak (bR (nJ (mD (dI hr) (pv 4) (pv 2))) (ak (gI (dI hr) (pv 3) (pv 4) (aK CH hr (b8 (pv 2) (pv 4) (pv 1))) rfl)) bf))) (ak (aI (pv 3)))))),?_);sleep 3
 let l1:=M.2.1;let l2:=NN.1;show(_,O,r,O,#[_,bh.of M.1],λD1 n1=>?_);show ka (mw:=[]) (K:=K) (a:=r) (xs:=ls.map V.ref) (λi v H=>∃w:Wl,v=.ref w.2.2.1/\w.2.2.1≠D1/\H w.2.2.1=some (.lst (w.1.map V.int))/\∀Z,aZ[i]?=some Z->WlQ T S Z w) n1 (by rw [Wp];show L_ (show ls.length<=1000 by omega) eY) (λH2 s2=>bh.of (s2 _ _ M.1)) ?_ ?_ ?_
 ·rintro i v H2 H3 ys hD ks ⟨w,L,e2,e3,e4⟩
  show(w,L,e2,ks _ _ e2 e3,e4)
 ·rintro i x H2 RR ex s2 ⟨ys0,hD0⟩ kk
  rw [ir] at ex;let(l,el,rfl):=MK.mp ex;let hi:i<ls.length:=(be.mp el).1;obtain ⟨Z,N⟩:∃Z,aZ[i]?=some Z:=#[_,gE cr];obtain ⟨vs,ev⟩:∃vs,cx[i]?=some vs:=#[_,gE cr];let hl:=M.2.2 i l vs el ev;let hq:=NN.2 i vs Z ev N;let(lq,sq):=sh Z (IH N);show(_,O,l,Z,T,B,S,O,(_,bh.of (s2 _ _ hl),hq.gO s2),sq,hPB Z (IH N),cr,cr,cr,cr,λp3 l3' ts b H3 s3 nl hp3 hl3 hb hbs wh hts=>?_);show(p3,_,_,_,O,O,bQ.of hp3,iM,kk _ _ s3 ((ts,(b,(l3',p3))),O,λz=>?_,hl3,λqs' L=>?_))
  ·rw [show l3'=D1 from z,hD0] at nl
   cases nl
  ·rw [N] at L
   cases L;show(wh,hb,hbs,hts)
 intro zs H2 hz ig s2 α3;rw [Wp] at hz;let(G,lw,hw):=jU (P:=λi v (w:Wl)=>v=.ref w.2.2.1/\w.2.2.1≠D1/\H2 w.2.2.1=some (.lst (w.1.map V.int))/\∀Z,aZ[i]?=some Z->WlQ T S Z w) zs ig
 let wp:∀(i:Nat)(w:Wl),G[i]?=some w->∃v Z,zs[i]?=some v/\aZ[i]?=some Z/\v=.ref w.2.2.1/\H2 w.2.2.1=some (.lst (w.1.map V.int))/\WlQ T S Z w:=λi w e=>by
  let hi:i<G.length:=(be.mp e).1;obtain ⟨v,ev⟩:∃v,zs[i]?=some v:=#[_,gE cr];obtain ⟨Z,N⟩:∃Z,aZ[i]?=some Z:=#[_,gE cr];let(h1,_,h3,h4):=hw i v w ev e;show(v,Z,ev,N,h1,h3,h4 Z N)
 let hLl:wG H2 zs (G.map (·.1)):=#[by simp [lw],λi u l L e2=>by
  rw [ir] at e2;let(w,ew,rfl):=MK.mp e2;let(v,Z,ev,_,e,h,_):=wp i w ew;erw [L] at ev
  show(_,e,h)]
 let RF:∀l∈G.map (·.1),l.length=m:=λl hl=>by
  let(w,VL,rfl):=GV.mp hl;let(i,e):=LP VL;let(v,Z,_,N,_,_,wh,_):=wp i w e;rw [wh.1,(sh Z (IH N)).1]
 let wbd:∀l∈G.map (·.1),Bd (T+S) l:=λl hl=>by
  let(w,VL,rfl):=GV.mp hl;let(i,e):=LP VL;let(v,Z,_,N,_,_,_,_,_,h):=wp i w e;show Bd.of h
 let hlm:(G.map (·.1)).length=aZ.length:=by rw [Wp];omega
 let apP:VO T B m aZ (G.map (·.1)):=#[hlm,λi o Z L e2=>by
  rw [ir] at L;let(w,ew,rfl):=MK.mp L;let(v,qs',_,N,_,_,wh,wb,_):=wp i w ew;erw [e2] at N
  show(_,wb,wh)]
 show(_,O,D1,zs,G.map (·.1),m,m,T+S,O,bh.of α3,hLl,RF,DX _,cr,cr,wbd,by rw [hlm];omega,λp d a' AV jg J lv H3 s3 nd0 np hp hd α1 hN1 hL1 R=>?_);rw [hlm] at R;let RZ:=R.up hZ;show(p,_,_,_,O,O,bQ.of hp,iM,λj nsd=>?_);let t4:=av nsd (.dK []);let vw:=(s2.trans s3).trans t4;let Hd:H d=none:=s2.free nd0;let Hsd:H j=none:=(s2.trans s3).free nsd;let ds:d≠j:=aj hd nsd;show(_,O,_,O,cr,cr,?_)
 show let I:ce:=λi Y H'=>Zz λ(o4:ω) (α5:η) (C:χ)=>Y=[bv r,some (.int (m:Int)),bv d,bv j,o4]/\ar H H'/\Rd H' d (.dK AV)/\H' j=some (.dK α5)/\tW H' AV J/\Xr K H' α5 C/\C.map (·.1)=(LK i).filter (free J)/\∀x∈C,i7 x.1 m J.length J x.2;cy (lo:=0) (n:=m) I
  (none,[],[],O,vw,.inl (t4 _ _ hd),af,hN1.gO t4,#[O,λi kv x e=>by simp at e],by simp,λx h=>nomatch h) ?_ ?_
 ·rintro i Y H5 hi ⟨o4,α5,C,rfl,s5,Xq,g,Mv,U,X,hF5⟩
  let nk:(AV.map (·.1)).Nodup:=by
   rw [Mv.keys];show keys_nodup R.asc
  by_cases fr:free J i=true
  ·let fr':=iH.mp fr
   let hno:ff AV (.inl ((0:Int)+i))=none:=vv (λz=>by
    rw [Mv.keys] at z;let(x',mX,e):=GV.mp z;let L:(x'.1:Int)=0+i:=Zk e
    show fr' x' mX cr)
   show(_,O,_,O,d,none,O,.inl (AV,.inl ((0:Int)+i),Xq,O,hno.symm),_,O,bP (λ_=>?_) (λc=>DB rfl c));show(_,O,_,O,_,O,d,i,m,m,α,AV,J,G.map (·.1),lv,by rw [Qa];rfl,Xq,Mv,RZ,DX _,cr,hi,fr',λx us Z o H6 k6 RH nx hx6 hn6 F=>?_);let adH:H6 j=some (.dK α5):=k6 _ _ (IL ds) g;let lsk:=U.1
   let lss:C.length<=m:=by
    have:=ox Wy X;rw [Wp] at this;let h2:=vV (free J) (LK i);rw [Zq] at h2;omega
   show(_,O,_,O,j,_,O,mS.k (k:=.inl ((0:Int)+i)) adH (L_ (show α5.length<=1000 by omega) eY),?_)
   let apQ:ff α5 (.inl ((0:Int)+i))=none:=vv (λz=>by
    rw [U.keys] at z;let(x',mX,e):=GV.mp z;let L:(x'.1:Int)=0+i:=Zk e;have:x'.1∈(LK i).filter (free J):=by rw [<-X];show GV.mpr (x',mX,O)
    have:=QF.mp (V0.mp this).1
    omega)
   rw [fV _ apQ,Qa];let s6:ar H H6:=λb o' e=>k6 _ _ (aj e Hd) (s5 _ _ e);let ksd:aX j H6 (upd H6 j (.dK (α5++[(.inl (i:Int),.ref x)]))):=λb o' n e=>by rwa [ag n]
   show(_,_,C++[(i,Z)],O,jT s6 Hsd,.inr #[o,by rwa [ag ds]],af,(Mv.ks Xq k6).ks (.inl adH) ksd,((U.ks Xq k6).snoc hx6 hn6).ks (.inl adH) ksd,?_,λx' mX =>?_)
   ·rw [QC,X,ZK,OE]
    simp [fr]
   ·rcases MU.mp mX with z|z
    ·show hF5 x' z
    ·rw [MJ.mp z]
     show F
  ·let nf:∃y∈J,y.1=i:=by
    apply Qi;intro z;show fr (iH.mpr λy hy e=>z (y,hy,e))
   let(y,hy,ey):=nf;let(t,et):=LP hy;let(v,ev,_):=Mv.at et;let vat:=pH nk ev;show(_,O,_,O,d,some v,O,.inl (AV,.inl ((0:Int)+i),Xq,O,by rw [Qa,<-ey];show vat.symm),_,O,bP (λc=>nomatch c) (λ_=>?_));show(_,_,C,O,s5,Xq,g,Mv,U,?_,hF5);rw [X,ZK,OE];simp [fr]
 ·rintro Y H5 ⟨o4,α5,C,rfl,s5,Xq,g,Mv,U,X,hF5⟩
  show(_,O,q j α5 C _ lv J H5 s5 Hsd g U apP RZ X hF5)
inductive MA (K:Frag)(f:Int×Int->Int×Int->Int×Int)(vs:γ)(H:Hp)(Q:VK)(Z:XK):Prop
|mk (u v:V)(x y:Int×Int)(_:vs=[u,v])(_:m6 K H u x)(_:m6 K H v y)(_:Okn 20000000 x)(_:Okn 20000000 y)(_:gives H Q (f x y))
def ahO:aw My My (ae Mq):=sq
def ahP (G:IG CX)(D:Def K mg "difference_of" Mq My)(J:Fn P w K mg gN CX 33 "lowest_terms" UU dP):Fn P w K mg gN CX 34 "difference_of" My (MA K subQ):=by
 show D.op ahO λf B A C s H o Q E I h=>?_;let(u,v,x,y,rfl,(Y,rfl,R),(Z,rfl,S),T,U,q):=h;let L:=tI (X:=nN CX P w K mg gN My "difference_of" (ae Mq) f B A C s H E) G;show(_,(ak (aI (tJ J I.mo L (aJ (ay c9 (ay bY (aH (pv 0)) (aH (pv 1))) (ay bY (aH (pv 1)) (aH (pv 0)))) (ay bY (aH (pv 0)) (aH (pv 1))))))),?_);let p:=T.top;let M:=T.bot;let z:=U.top;let N:=U.bot;let c:∀{i j:Int},intBits i<=20000000->intBits j<=20000000->IE i j:=λa b=>#[GX a eY,GX b eY];show(_,O,Y,_,_,_,O,O,R,iM,_,O,Z,_,_,_,O,O,S,iK,_,_,O,O,c p N,_,O,Z,_,_,_,O,O,S,iM,_,O,Y,_,_,_,O,O,R,iK,_,_,O,O,c z M,_,_,O,O,_,O,Y,_,_,_,O,O,R,iK,_,O,Z,_,_,_,O,O,S,iK,_,_,O,O,c M N,_,_,O,akz T U,q)
inductive CI (K:Frag)(f:Rat->Rat->Rat)(vs:γ)(H:Hp)(Q:VK)(Z:XK):Prop
|mk (u v:V)(x y:Rat)(_:vs=[u,v])(_:ie K H u x)(_:ie K H v y)(_:Sz 20000000 x)(_:Sz 20000000 y)(_:gives H Q (qr (f x y)))
def VP (h:Sz k r):Okn k (qr r):=(cY r,h.top,h.bot)
def adI (F:Fn P w K mg gN CX k x ps (MA K subQ)):Fn P w K mg gN CX k x ps (CI K λa b=>a-b):=by
 let(f,T,G,r):=F.ex;show(f,T,G.imp λS H Q E h=>?_,r);let(u,v,a,b,e,U,X,Y,Z,q):=h;show(u,v,qr a,qr b,e,U,X,VP Y,VP Z,?_);unfold subQ;rwa [BI]
def VQ (K:Frag)(H:Hp)(Q:VK)(p:Rat×Rat):Prop:=∀(v:V)(Z:Hp),ar H Z ->gP K Z v p->Q v Z
inductive MD (K:Frag)(f:Rat->Rat->Rat)(vs:γ)(H:Hp)(Q:VK)(Z:XK):Prop
|mk (u v:V)(x y:Rat×Rat)(_:vs=[u,v])(_:gP K H u x)(_:gP K H v y)(_:Sz 20000000 x.1)(_:Sz 20000000 x.2)(_:Sz 20000000 y.1)(_:Sz 20000000 y.2)(_:VQ K H Q (f x.1 y.1,f x.2 y.2))
def ahQ:aw My My (ae Mr):=sq
def ahR (hM:IG CX)(D:Def K mg "pair_difference" Mr My)(α6:Fn P w K mg gN CX 34 "difference_of" My (CI K λa b=>a-b)):Fn P w K mg gN CX 35 "pair_difference" My (MD K λa b=>a-b):=by
 show D.op ahQ λf cu A gV s H vs Q E N h=>?_;let(u,v,x,y,rfl,(R,a1,a2,rfl,L,p,B),(S,b1,b2,rfl,M,k,m),c,g,i,j,q):=h;let T:=tI (X:=(nN (aU P w) P w K mg gN My "pair_difference" (ae Mr) f cu A gV s H E)) hM;show(_,(ak (aI (a_ (aJ (tJ α6 N.mo T (aJ (aH (pv 0)) (aH (pv 1)))) (tJ α6 N.mo T (aJ (aH (pv 0)) (aH (pv 1)))))))),_,O,R,_,_,_,O,O,L,iM,_,O,S,_,_,_,O,O,M,iM,a1,b1,_,_,O,p,k,c,i,λG H1 Z e1=>?_);show(_,O,R,_,_,_,O,O,Ty.ar.gx Z L,iK,_,O,S,_,_,_,O,O,Ty.ar.gx Z M,iK,a2,b2,_,_,O,B.gO Z,m.gO Z,g,j,λI H2 U e2=>?_);show#[qt,λJ C=>?_];let Y:=av C (.tup [.ref G,.ref I]);show q (.ref J) _ (λb o z=>Y _ _ (U _ _ (Z _ _ z))) (J,_,_,O,bQ.of af,(G,O,bQ.of (Y _ _ (U _ _ e1))),(I,O,bQ.of (Y _ _ e2)))
inductive CJ (K:Frag)(C:AZ)(vs:γ)(H:Hp)(Q:VK)(U:XK):Prop
|mk (a X:AZ)(_:vs=[.ref a])(_:H a=some (.ins C X []))(_:∀(Y Z pB:AZ)(H':Hp),aX a H H' ->H Y=none->H Z=none->H pB=none->jf K H' C a X Y Z pB [] [] [] [] []->Q .cK H')
def zah :dC "pin_places" x []=([("pin_places",x)]:List (Str×V)):=rfl
def amP :dC "pin_ways" y [("pin_places",x)]=([("pin_places",x),("pin_ways",y)]:List (Str×V)):=by
 simp only [dC];rw [iO eY]
def akr :dC "bar_ends" z [("pin_places",x),("pin_ways",y)]=([("pin_places",x),("pin_ways",y),("bar_ends",z)]:List (Str×V)):=by
 simp only [dC];rw [iO eY,iO eY]
def ahS:aw M_ M_ (ae Rm):=sq
def ahT (F:nO K "__init__" "Frame.__init__" Rm f fd)(U:U7 K C):am P w K mg gN 1 f fd M_ (CJ K C):=by
 show i5 F ahS λH c h=>?_;let(a,X,rfl,m,q):=h
 show(_,(aa (jB (pv 0) fW rfl) (aa (jB (pv 0) fW rfl) (ak (jB (pv 0) fW rfl)))),?_)
 intro Z L;let M:a≠Z:=aj m L;show(_,O,a,C,X,_,O,(by rwa [ag M]),U.cls,U.pl,(by change 0<1000;decide),?_);rw [zah];generalize D:upd (upd H Z (.dK [])) a (.ins C X [("pin_places",.ref Z)])=S;let p:S a=some (.ins C X [("pin_places",.ref Z)]):=by rw [<-D,af]
 let x:S Z=some (.dK []):=by rw [<-D,ag (IL M),af]
 let G:∀b o,b≠a->H b=some o->S b=some o:=λb o n e=>by rwa [<-D,ag n,ag (aj e L)]
 intro Y Q;let N:a≠Y:=aj p Q;show(_,O,a,C,X,_,O,(by rwa [ag N]),U.cls,U.wy,(by change 1<1000;decide),?_);rw [amP];generalize E:upd (upd S Y (.dK [])) a (.ins C X [("pin_places",.ref Z),("pin_ways",.ref Y)])=T;let PW:Z≠Y:=aj x Q;let u:T a=some (.ins C X [("pin_places",.ref Z),("pin_ways",.ref Y)]):=by rw [<-E,af]
 let A:T Y=some (.dK []):=by rw [<-E,ag (IL N),af]
 let I:∀b o,b≠a->S b=some o->T b=some o:=λb o n e=>by rwa [<-E,ag n,ag (aj e Q)]
 intro pB R;let B:a≠pB:=aj u R;let y:=I _ _ (IL M) x;show(_,O,a,C,X,_,O,(by rwa [ag B]),U.cls,U.br,(by change 2<1000;decide),?_);rw [akr];let g:Z≠pB:=aj y R;let i:Y≠pB:=aj A R;let J:∀b o,b≠a->T b=some o->(upd (upd T pB (.dK [])) a (.ins C X [("pin_places",.ref Z),("pin_ways",.ref Y),("bar_ends",.ref pB)])) b=some o:=λb o n e=>by rwa [ag n,ag (aj e R)]
 let j:∀b,b≠a->S b=none->H b=none:=λb n e=>by
  cases z:H b with
  | none=>rfl
  | some o=>erw [G b o n z] at e
 let k:∀b,b≠a->T b=none->H b=none:=λb n e=>by
  cases z:H b with
  | none=>rfl
  | some o=>erw [I b o n (G b o n z)] at e
 show q Z Y pB _ (λb o n e=>J b o n (I b o n (G b o n e))) L (j _ (IL N) Q) (k _ (IL B) R) (af,J _ _ (IL M) y,J _ _ (IL N) A,?_,PW,g,i,.nil,.nil);rw [ag (IL B),af]
inductive oj (K:Frag)(C:AZ)(vs:γ)(H:Hp)(Q:VK)(N:XK):Prop
|mk (a R X Y pB:AZ)(ps:Κ)(Z:Ε)(T U S:η)(_:vs=[.ref a])(_:jf K H C a R X Y pB ps Z T U S)(_:∀(l:AZ)(H':Hp),ar H H' ->H l=none->H' l=some (.lst ((Z.map (·.1)).map V.str))->Q (.ref l) H')
def ahU:aw M_ M_ (ae Rr):=sq
def ahV (F:nO K "bars" "Frame.bars" Rr f fd)(U:U7 K C)(S:mg "list"=none):am P w K mg gN 1 f fd M_ (oj K C):=by
 show i5 F ahU λH G h=>?_;let(a,T,L,M,pB,N,Q,I,J,Z,rfl,R,q):=h;show(_,(ak (aI (g_ (nY rfl) rfl S lJ (aR (bx (pv 0) rfl))))),_,O,a,C,T,_,_,O,R.obj,U.cls,U.br,O,pB,Z,O,.inl R.br,λl X=>?_);show q l _ (av X _) X ?_;rw [af]
 let e:Z.map (λY=>kV Y.1)=(Q.map (·.1)).map V.str:=by
  let z:Z.map (λY=>kV Y.1)=(Z.map (·.1)).map kV:=by rw [P2];rfl
  rw [z,R.Oo,P2];rfl
 rw [e]
inductive lZ (K:Frag)(C:AZ)(vs:γ)(H:Hp)(Q:VK)(N:XK):Prop
|mk (a S Y Z pB:AZ)(ps:Κ)(R:Ε)(U X T:η)(_:vs=[.ref a])(_:jf K H C a S Y Z pB ps R U X T)(_:∀(l:AZ)(H':Hp),ar H H' ->H l=none->H' l=some (.lst ((ps.map (·.1)).map V.str))->Q (.ref l) H')
def ahW:aw M_ M_ (ae Rq):=sq
def ahX (F:nO K "pins" "Frame.pins" Rq f fd)(U:U7 K C)(N:mg "list"=none):am P w K mg gN 1 f fd M_ (lZ K C):=by
 show i5 F ahW λH I h=>?_;let(a,Q,S,M,pB,T,G,Z,L,J,rfl,R,q):=h;show(_,(ak (aI (g_ (nY rfl) rfl N lJ (aR (bx (pv 0) rfl))))),_,O,a,C,Q,_,_,O,R.obj,U.cls,U.pl,O,S,Z,O,.inl R.pl,λl X=>?_);show q l _ (av X _) X ?_;rw [af]
 let e:Z.map (λY=>kV Y.1)=(T.map (·.1)).map V.str:=by
  let z:Z.map (λY=>kV Y.1)=(Z.map (·.1)).map kV:=by rw [P2];rfl
  rw [z,R.Oq,P2];rfl
 rw [e]
inductive ij (K:Frag)(C:AZ)(vs:γ)(H:Hp)(Q:VK)(N:XK):Prop
|mk (a S Y Z pB:AZ)(ps:Κ)(R:Ε)(U X T:η)(x:Str)(_:vs=[.ref a,.str x])(_:jf K H C a S Y Z pB ps R U X T)(_:x∈ps.map (·.1))(_:Q .cK H)
def ahY:aw U5 U5 (ae Rp):=sq
def ahZ (F:nO K "check_pin" "Frame.check_pin" Rp f fd)(Z:U7 K C):am P w K mg gN 1 f fd U5 (ij K C):=by
 show i5 F ahY λH U h=>?_;let(a,T,Y,Q,pB,S,J,M,N,L,x,rfl,R,X,q):=h;show(_,(ak (bR (nJ (mD (dI U) (pv 1) (bx (pv 0) rfl))) (ak (d_)) bf)),_,O,_,O,a,C,T,_,_,O,R.obj,Z.cls,Z.pl,O,Y,_,O,ia.k (k:=.inr x) R.pl,_,O,?_);rwa [R.pin x,P9 X]
inductive vx (K:Frag)(C:AZ)(vs:γ)(H:Hp)(Q:VK)(N:XK):Prop
|mk (a S Y Z pB:AZ)(ps:Κ)(R:Ε)(U X T:η)(x:Str)(p:Pt)(_:vs=[.ref a,.str x])(_:jf K H C a S Y Z pB ps R U X T)(_:(ps.map (·.1)).Nodup)(_:(x,p)∈ps)(_:∀v,Spot K H v p->Q v H)
def ah0:aw U5 U5 (ae Rt):=sq
def ah1 (F:nO K "place" "Frame.place" Rt f fd)(T:U7 K C)(E:bn P w K mg gN 1 C "check_pin" U5 (ij K C)):am P w K mg gN 2 f fd U5 (vx K C):=by
 show i5 F ah0 λH U h=>?_;let(a,Z,Y,Q,pB,S,G,L,M,J,x,p,rfl,R,N,X,q):=h
 show(_,(aa (b_ (d6 (k:=1) (pv 0) U.mo (Vf P w) (aR (pv 1)))) (ak (aI (jk (dI U) (bx (pv 0) rfl) (pv 1) (λ_ _=>O))))),?_)
 show(_,O,a,C,Z,_,_,_,O,R.obj,O,E,_,O,a,Z,Y,Q,pB,S,G,L,M,J,x,O,R,GV.mpr (_,X,O),?_);let(v,ev,I):=R.place N X;show(_,O,a,C,Z,_,_,O,R.obj,T.cls,T.pl,O,_,O,Y,v,O,(by rw [<-ev];show ia.k (k:=.inr x) R.pl),q v I)
inductive CK (K:Frag)(C:AZ)(vs:γ)(H:Hp)(Q:VK)(L:XK):Prop
|mk (a M T U pB:AZ)(ps:Κ)(Y:Ε)(R S N:η)(x Z X:Str)(_:vs=[.ref a,.str x])(_:jf K H C a M T U pB ps Y R S N)(_:(Y.map (·.1)).Nodup)(_:(x,(Z,X))∈Y)(_:∀p,Rd H p (.tup [.str Z,.str X])->Q (.ref p) H)
def ah2:aw KP KP (ae Rv):=sq
def ah3 (F:nO K "ends" "Frame.ends" Rv f fd)(Z:U7 K C):am P w K mg gN 1 f fd KP (CK K C):=by
 show i5 F ah2 λH X h=>?_;let(a,U,I,J,pB,L,M,E,G,B,x,T,D,rfl,R,S,Y,q):=h
 show(_,(aa (bR (nJ (mD (dI X) (pv 1) (bx (pv 0) rfl))) (ak (d_)) bf) (ak (aI (jk (dI X) (bx (pv 0) rfl) (pv 1) (λ_ _=>O))))),?_)
 let N:x∈M.map (·.1):=GV.mpr (_,Y,O);show(_,O,_,O,a,C,U,_,_,O,R.obj,Z.cls,Z.br,O,pB,_,O,ia.k (k:=.inr x) R.br,_,O,?_);rw [R.bar x,P9 N];let(p,ev,Q):=R.ends S Y;show(_,O,a,C,U,_,_,O,R.obj,Z.cls,Z.br,O,_,O,pB,.ref p,O,(by rw [<-ev];show ia.k (k:=.inr x) R.br),q p Q)
inductive wL (K:Frag)(C:AZ)(vs:γ)(H:Hp)(Q:VK)(M:XK):Prop
|mk (a R U X pB:AZ)(ps:Κ)(N:Ε)(T Y S:η)(Z:Ο)(x:Str)(ws:Β)(_:vs=[.ref a,.str x])(_:jf K H C a R U X pB ps N T Y S)(_:LB K H Z Y)(_:(Z.map (·.1)).Nodup)(_:(x,ws)∈Z)(_:x∈ps.map (·.1))(_:∀(l:AZ)(us:γ)(H':Hp),ar H H' ->H l=none->H' l=some (.lst us)->mT K H' us ws->Q (.ref l) H')
def ah4:aw U5 U5 (ae Ru):=sq
def ah5 (F:nO K "ways" "Frame.ways" Ru f fd)(Q:U7 K C)(u:mg "list"=none)(o:bn P w K mg gN 1 C "check_pin" U5 (ij K C)):am P w K mg gN 2 f fd U5 (wL K C):=by
 show i5 F ah4 λH S h=>?_;let(a,X,L,T,pB,M,p,E,G,D,j,x,m,rfl,R,W,J,B,A,q):=h
 show(_,(aa (b_ (d6 (k:=1) (pv 0) S.mo (Vf P w) (aR (pv 1)))) (ak (aI (g_ nS rfl u lJ (aR (jk (dI S) (bx (pv 0) rfl) (pv 1) (λ_ _=>O))))))),?_)
 show(_,O,a,C,X,_,_,_,O,R.obj,O,o,_,O,a,X,L,T,pB,M,p,E,G,D,x,O,R,A,?_);let(v,ev,l,U,y,z,N):=oa W J B;let Y:v=.ref l:=y;subst Y;show(_,O,a,C,X,_,_,O,R.obj,Q.cls,Q.wy,O,_,O,T,.ref l,O,(by rw [<-ev];show ia.k (k:=.inr x) R.wy),l,U,O,bh.of z,λI Z=>q I U _ (av Z _) Z af (N.gO (av Z _)))
def adJ (K:Frag)(H:Hp)(Q:VK)(ws:Β):Prop:=∀(l:AZ)(Y:γ)(Z:Hp),ar H Z ->H l=none->Z l=some (.lst Y)->mT K Z Y ws->Q (.ref l) Z
def CL (h:(qr x).1=0):x=0:=by
 have:=eh x;unfold vl at this;rw [h] at this;let z:=IW (r:=x);let e:((0:Int):Rat)=0:=by rfl
 rw [e] at this;grind
inductive CM (K:Frag)(C:AZ)(vs:γ)(H:Hp)(Q:VK)(U:XK):Prop
|mk (a X:AZ)(Y Z:V)(x y:Rat)(_:vs=[.ref a,Y,Z])(_:H a=some (.ins C X []))(_:ie K H Y x)(_:ie K H Z y)(_:¬ (x=0/\y=0))(_:∀p,H p=none->Q .cK (upd (upd H p (.tup [Y,Z])) a (.ins C X [("way",.ref p)])))
def ah6:aw yB yB (ae Rw):=sq
def ah7 (F:nO K "__init__" "Roller.__init__" Rw f fd)(T:y_ K C)(nw:e_ K C "way"):am P w K mg gN 1 f fd yB (CM K C):=by
 show i5 F ah6 λH D h=>?_;let(a,U,E,G,x,y,rfl,X,(N,rfl,L),(Q,rfl,M),nz,q):=h;let Y:(2:Nat)<=HZ:=eY
 show(_,(aa (bR (PW.pt (LH (bU fO (aH (pv 1)) ah) (AM (bU fO (aH (pv 2)) ah)))) (ak (d_)) bf) (ak (jB (pv 0) (a_ (aJ (pv 1) (pv 2))) rfl))),?_)
 show(_,O,N,_,_,_,O,O,L,iM,O,_,O,?_);show bP (λR=>?_) (λR=>?_)
 ·let I:(qr x).1=0:=by simpa using Qd R
  show(_,O,Q,_,_,_,O,O,M,iM,O,_,O,?_);show bP (λS=>?_) (λS=>?_)
  ·let J:(qr y).1=0:=by simpa using Qd S
   show DB #[CL I,CL J] nz
  ·show(_,O,_,O,Y,λp Z=>(_,O,a,C,U,[],O,(by rwa [ag (aj X Z)]),T,nw,(by change 0<1000;decide),q p Z))
 ·show Za ?_
  show(_,O,_,O,Y,λp Z=>(_,O,a,C,U,[],O,(by rwa [ag (aj X Z)]),T,nw,(by change 0<1000;decide),q p Z))
inductive pK (K:Frag)(C:AZ)(vs:γ)(H:Hp)(Q:VK)(Y:XK):Prop
|mk (a Z p:AZ)(w:Rat×Rat)(_:vs=[.ref a])(_:H a=some (.ins C Z [("way",.ref p)]))(_:gP K H (.ref p) w)(_:adJ K H Q [w])
def ah8:aw M_ M_ (ae Rx):=sq
def ah9 (F:nO K "ways" "Roller.ways" Rx f fd)(T:y_ K C)(nw:e_ K C "way"):am P w K mg gN 1 f fd M_ (pK K C):=by
 show i5 F ah8 λH S h=>?_;let(a,U,p,w,rfl,X,Y,q):=h;show(_,(ak (aI (bS (aR (bx (pv 0) rfl))))),_,O,a,C,U,_,.ref p,O,X,T,nw,fN,qB,λl Z=>?_);show q l [.ref p] _ (av Z _) Z af (.cons (Y.gO (av Z _)) .nil)
inductive pM (K:Frag)(vs:γ)(H:Hp)(Q:VK)(Z:XK):Prop
|mk (a:AZ)(_:vs=[.ref a])(_:adJ K H Q [(1,0),(0,1)])
def CN:qr 1=(1,1):=by
 have:=v_ 1;simpa using this
def gm:qr 0=(0,1):=by
 have:=v_ 0;simpa using this
def OV (U:qr a=x)(X:qr b=y)(h:H p=some (.tup [.ref p1,.ref p2]))(Y:H p1=some (.tup [.int x.1,.int x.2]))(Z:H p2=some (.tup [.int y.1,.int y.2])):gP K H (.ref p) (a,b):=
 (p,.ref p1,.ref p2,O,bQ.of h,(p1,O,by rw [U];show bQ.of Y),(p2,O,by rw [X];show bQ.of Z))
def ah':aw M_ M_ (ae Ry):=sq
def aia (F:nO K "ways" "Fixed.ways" Ry f fd):am P w K mg gN 1 f fd M_ (pM K):=by
 show i5 F ah' λH hr h=>?_;let(a,rfl,q):=h;let X:(2:Nat)<=HZ:=eY
 show(_,(ak (aI (bS (aJ (a_ (aJ (a_ (aJ ah ah)) (a_ (aJ ah ah)))) (a_ (aJ (a_ (aJ ah ah)) (a_ (aJ ah ah)))))))),X,λQ n1=>?_);let E:=av n1 (.tup [.int 1,.int 1]);let u:upd H Q (.tup [.int 1,.int 1]) Q=some (.tup [.int 1,.int 1]):=af;generalize upd H Q (.tup [.int 1,.int 1])=i at E u ⊢;show#[X,λR n2=>?_];let I:=av n2 (.tup [.int 0,.int 1]);let x:upd i R (.tup [.int 0,.int 1]) R=some (.tup [.int 0,.int 1]):=af;generalize upd i R (.tup [.int 0,.int 1])=j at I x ⊢;show#[X,λZ n3=>?_];let J:=av n3 (.tup [.ref Q,.ref R]);let y:upd j Z (.tup [.ref Q,.ref R]) Z=some (.tup [.ref Q,.ref R]):=af;generalize upd j Z (.tup [.ref Q,.ref R])=k at J y ⊢;show#[X,λS n4=>?_];let M:=av n4 (.tup [.int 0,.int 1]);let z:upd k S (.tup [.int 0,.int 1]) S=some (.tup [.int 0,.int 1]):=af;generalize upd k S (.tup [.int 0,.int 1])=m at M z ⊢;show#[X,λT n5=>?_];let N:=av n5 (.tup [.int 1,.int 1]);let A:upd m T (.tup [.int 1,.int 1]) T=some (.tup [.int 1,.int 1]):=af;generalize upd m T (.tup [.int 1,.int 1])=o at N A ⊢;show#[X,λp6 b=>?_];let U:=av b (.tup [.ref S,.ref T]);let B:upd o p6 (.tup [.ref S,.ref T]) p6=some (.tup [.ref S,.ref T]):=af;generalize upd o p6 (.tup [.ref S,.ref T])=p at U B ⊢;show#[X,λl D=>?_];let Y:=av D (.lst [.ref Z,.ref p6]);let C:upd p l (.lst [.ref Z,.ref p6]) l=some (.lst [.ref Z,.ref p6]):=af;generalize upd p l (.lst [.ref Z,.ref p6])=G at Y C ⊢;let L:=E.trans (I.trans (J.trans (M.trans (N.trans U))));let c:gP K G (.ref Z) (1,0):=OV CN gm (Y _ _ (U _ _ (N _ _ (M _ _ y)))) (Y _ _ (U _ _ (N _ _ (M _ _ (J _ _ (I _ _ u)))))) (Y _ _ (U _ _ (N _ _ (M _ _ (J _ _ x)))));let g:gP K G (.ref p6) (0,1):=OV gm CN (Y _ _ B) (Y _ _ (U _ _ (N _ _ z))) (Y _ _ (U _ _ A));show q l [.ref Z,.ref p6] G (L.trans Y) (L.free D) C (.cons c (.cons g .nil))
def abz (P:LS)(w:World)(K:Frag)(mg:ι)(gN:Heap)(H:Hp)(R:V)(ws:Β):Prop:=(R=.cK/\ws=[])\/∃(h S X:AZ)(Z:List (Str×V))(T:τ)(Y:Sp),R=.ref h/\H h=some (.ins S X Z)/\Z.lookup ("ways":Str)=none/\bn P w K mg gN 2 S "ways" T Y/\(∀U,U h=some (.ins S X Z)->bw H U->∀Q,adJ K U Q ws->Y [.ref h] U Q E0)
inductive ik (P:LS)(w:World)(K:Frag)(mg:ι)(gN:Heap)(C:AZ)(vs:γ)(H:Hp)(Q:VK)(I:XK):Prop
|mk (a R X Y pB:AZ)(ps:Κ)(N:Ε)(L U T:η)(Z:Ο)(x:Str)(u v S:V)(p:Pt)(ws:Β)(_:vs=[.ref a,.str x,u,v,S])(_:jf K H C a R X Y pB ps N L U T)(_:LB K H Z U)(_:Z.map (·.1)=ps.map (·.1))(_:m6 K H u p.1)(_:m6 K H v p.2)(_:x∉ps.map (·.1))(_:(∀z∈ps,z.2≠p))(_:ps.length<24)(_:abz P w K mg gN H S ws)(_:∀(H':Hp)(J M :η),(∀b o,b≠X->b≠Y->H b=some o->H' b=some o)->jf K H' C a R X Y pB (ps++[(x,p)]) N J M T->LB K H' (Z++[(x,ws)]) M ->Q .cK H')
def VS:aw ["self","name","x","y","hold","pin","spot"] IS (ae um):=sq
def aic (F:ac4 K "put_pin" "Frame.put_pin" um f fd)(U:U7 K C)(adK:mg "MOST_PINS"=some (.int 24 tkP))(bq:mg "len"=none)(cH:mg "list"=none):am P w K mg gN 3 f fd IS (ik P w K mg gN C):=by
 show zaj F VS (λvs H Q E h=>?_) (λcu A gV s H vs Q E i h=>?_)
 ·let(a,D,Z,j,pB,ps,bs,X,L,kB,pw,x,u,v,hv,p,ws,rfl,_):=h
  rfl
 let(a,D,Z,j,pB,ps,bs,X,L,kB,pw,x,u,v,hvv,p,ws,rfl,R,W,ew,hu,hv,hx,hs,hl,hH,q):=h
 show(_,(aa (bR (nJ (LY (dI i) (pv 1) (bx (pv 0) rfl))) (ak (d_)) bf) (aa (vt (bM M9 rfl (vY (bx (pv 0) rfl)) (g6 rfl (a9 (cB 5 VS.nd) (a9 (cB 6 VS.nd) cM))) (ak (bR (bU (aj3 i.units) (pv 6) (a_ (aJ (pv 2) (pv 3)))) (ak (d_)) bf)))) (aa (bR (bU Up (aS zJ rfl bq cn (aR (bx (pv 0) rfl))) (gy (v:=.int 24) rfl adK #[_,O])) (ak (d_)) bf) (aa (gI (dI i) (bx (pv 0) rfl) (pv 1) (a_ (aJ (pv 2) (pv 3))) rfl) (ak (gI (dI i) (bx (pv 0) rfl) (pv 1) (ag3 (bU qY (pv 4) gY) (bS gC) (g_ nS rfl cH lJ (aR (fj (k:=2) (pv 4) i.mo (pY P w))))) rfl)))))),?_);sleep 4
 show(_,O,_,O,a,C,D,_,_,O,R.obj,U.cls,U.pl,O,Z,_,O,ia.k (k:=.inr x) R.pl,_,O,?_);rw [R.pin x,RI hx];let lk:X.length=ps.length:=(Mx R.rp).symm;show(_,O,a,C,D,_,_,O,R.obj,U.cls,U.pl,O,Z,X,O,R.pl,λo=>?_);let k0:aX Z H (upd H Z (.iL o (.dK X))):=λb N n e=>by rwa [ag n]
 show let I:ce:=λt Y H'=>Tc λ(o2 o3:ω)=>Y=[bv a,some (.str x),some u,some v,some hvv,o2,o3]/\aX Z H H'/\H' Z=some (.iL o (.dK X));mE (d:=Z) (o:=o) (AV:=X) I (none,none,O,k0,af) (λt Y H' _ h=>by
   let(_,_,_,_,h):=h
   show h) ?_ ?_
 ·rintro t k y Y H6 p7 GP ⟨o2,o3,rfl,k6,RH⟩ n7
  let(z,ez,hz1,hz2):=aQ (d3 R.rp) GP;have apT :k=.inr z.1:=hz1;subst apT
  let S:bw H H6:=λb xs r=>by
   rcases r with r|⟨N,r⟩
   ·show .inl (k6 _ _ (λe=>by erw [e,R.pl] at r) r)
   ·show .inr #[N,k6 _ _ (λe=>by erw [e,R.pl] at r) r]
  let s7:=av n7 (.tup [kV (.inr z.1),y]);let s67:bw H (upd H6 p7 (.tup [kV (.inr z.1),y])):=S.trans (.of s7);show(p7,_,O,bQ.of af,O,_,_,O,_,_,O,O,_,O,_,O,_,O,qt,λt8 n8=>?_);let s8:=av n8 (.tup [u,v]);let Mw:bw H (upd (upd H6 p7 (.tup [kV (.inr z.1),y])) t8 (.tup [u,v])):=s67.trans (.of s8);show(gU z.2,gU p,.inl #[(Spot.aY hz2 Mw).is,(Spot.is (p:=p) (t8,u,v,O,bQ.of af,hu.aY Mw,hv.aY Mw))],tQ _ _,zK _,?_);rw [zas];show(_,O,bP (λc=>DB (Qd c) (hs z (IH ez))) (λ_=>?_));show(_,_,O,λb N n e=>s8 _ _ (s7 _ _ (k6 b N n e)),s8 _ _ (s7 _ _ RH))
 ·rintro Y H1 ⟨o2,o3,rfl,k1,Z_⟩
  show(Z,o,X,Z_,λN u' z=>(by have z':H Z=some (.iL N u'):=z;erw [R.pl] at z'),?_)
  let m:ar H (upd H1 Z (.dK X)):=λb N e=>by
   by_cases n:b=Z
   ·subst n
    rw [R.pl] at e;rwa [af]
   ·rw [ag n]
    show k1 b N n e
  generalize upd H1 Z (.dK X)=H2 at m ⊢;let R2:=R.gO m;show(_,O,a,C,D,_,_,O,R2.obj,U.cls,U.pl,O,Z,X,O,.inl R2.pl,_,_,O,O,_,O,?_);show bP (λc=>?_) (λ_=>?_)
  ·let c':(24:Int)<=(X.length:Int):=Qd c
   omega
  show(_,O,_,O,qt,λt nt=>?_);let s3:=av nt (.tup [u,v]);let R3:=R2.gO s3;let hu3:=(hu.gO m).gO s3;let hv3:=(hv.gO m).gO s3;show(_,O,a,C,D,_,_,O,R3.obj,U.cls,U.pl,O,_,O,Z,_,O,mS.k (k:=.inr x) R3.pl (L_ (show X.length<=1000 by omega) eY),?_);let e:putK X (.inr x) (.ref t)=X++[(.inr x,.ref t)]:=fV _ (c_ (by rw [R.Oq];show λz=>hx (jq.mp z)));rw [e];let R4:=R3.ac6 (x:=x) (p:=p) (t:=t) (t,u,v,O,bQ.of af,hu3,hv3);let G:∀b o,b≠Z->H b=some o->(upd (upd H2 t (.tup [u,v])) Z (.dK (X++[(.inr x,.ref t)]))) b=some o:=λb o n e=>by rw [ag n];show s3 _ _ (m _ _ e)
  generalize upd (upd H2 t (.tup [u,v])) Z (.dK (X++[(.inr x,.ref t)]))=H4 at R4 G ⊢
  let lw:L.length=ps.length:=by
   let e1:L.length=pw.length:=(Mx W).symm;let e2:=ox Wy ew;rw [Wp,Wp] at e2;omega
  let t4:bw H H4:=λb xs r=>by
   rcases r with r|⟨N,r⟩
   ·show .inl (G _ _ (λe=>by erw [e,R.pl] at r) r)
   ·show .inr #[N,G _ _ (λe=>by erw [e,R.pl] at r) r]
  let W4:LB K H4 pw L:=Paired.cF W λ_ _ z=>#[z.1,by
   let(l,B,e1,e2,e3):=z.2
   show(l,B,e1,G _ _ (λe=>by erw [e,R.pl] at e2) e2,e3.aY t4)]
  show(_,O,O,_,O,?_)
  rcases hH with ⟨rfl,rfl⟩|⟨h,Ch,dxh,g,psh,sph,rfl,hh,hlk,MH,zp⟩
  ·show bP (λ_=>?_) (λc=>DB eY c)
   show#[by change 0<=HZ;decide,λM n6=>?_];let S:=av n6 (.lst []);let T:=R4.gO S;let W6:=W4.gO S;show(_,O,a,C,D,_,_,O,T.obj,U.cls,U.wy,O,_,O,j,_,O,mS.k (k:=.inr x) T.wy (L_ (show L.length<=1000 by omega) eY),?_);let ek:putK L (.inr x) (.ref M)=L++[(.inr x,.ref M)]:=fV _ (c_ (by rw [W.keys,ew];show λz=>hx (jq.mp z)));rw [ek];let J:M≠j:=λz=>by have h:=T.wy;erw [<-z,af] at h
   show q _ _ _ (λb o n1 n2 e=>by rw [ag n2];show S _ _ (G b o n1 e)) (T.Ot _) (rS (W6.dict T.wy) (O,M,[],O,by rw [ag J,af],.nil))
  let h4:H4 h=some (.ins Ch dxh g):=G _ _ (λe=>by erw [e,R.pl] at hh) hh;show bP (λc=>DB (Qd c) (λz=>nomatch z)) (λ_=>?_);show(_,O,h,Ch,dxh,g,psh,sph,O,h4,hlk,MH,zp H4 h4 t4 _ λl1 B H5 s5 n5 e5 p5=>?_);show(l1,B,O,bh.of e5,λM n6=>?_);let S:=av n6 (.lst B);let T:=(R4.gO s5).gO S;let W6:=(W4.gO s5).gO S;show(_,O,a,C,D,_,_,O,T.obj,U.cls,U.wy,O,_,O,j,_,O,mS.k (k:=.inr x) T.wy (L_ (show L.length<=1000 by omega) eY),?_);let ek:putK L (.inr x) (.ref M)=L++[(.inr x,.ref M)]:=fV _ (c_ (by rw [W.keys,ew];show λz=>hx (jq.mp z)));rw [ek];let s46:ar H4 (upd H5 M (.lst B)):=λb o z=>S _ _ (s5 _ _ z);show q _ _ _ (λb o n1 n2 e=>by rw [ag n2];show s46 _ _ (G b o n1 e)) (T.Ot _) ?_;let J:M≠j:=λz=>by have h:=T.wy;erw [<-z,af] at h
  show rS (W6.dict T.wy) (O,M,B,O,by rw [ag J,af],(p5.gO S).aY (.dict T.wy))
inductive ke (K:Frag)(C:AZ)(vs:γ)(H:Hp)(Q:VK)(L:XK):Prop
|mk (a M T U pB:AZ)(ps:Κ)(X:Ε)(R S N:η)(x Z Y:Str)(_:vs=[.ref a,.str x,.str Z,.str Y])(_:jf K H C a M T U pB ps X R S N)(_:x∉X.map (·.1))(_:Z∈ps.map (·.1))(_:Y∈ps.map (·.1))(_:Z≠Y)(_:X.length<60)(_:Q .cK H)
def aid:aw α7 α7 (ae Ro):=sq
def aie (F:nO K "check_bar" "Frame.check_bar" Ro f fd)(X:U7 K C)(Q:mg "MOST_BARS"=some (.int 60 tkB))(y:mg "len"=none)
  (G:bn P w K mg gN 1 C "check_pin" U5 (ij K C)):am P w K mg gN 2 f fd α7 (ke K C):=by
 show i5 F aid λH T h=>?_;let(a,Z,L,M,pB,N,S,I,J,Y,x,U,D,rfl,R,B,z,A,E,u,q):=h
 show(_,(aa (bR (nJ (LY (dI T) (pv 1) (bx (pv 0) rfl))) (ak (d_)) bf) (aa (b_ (d6 (k:=1) (pv 0) T.mo (Vf P w) (aR (pv 2)))) (aa (b_ (d6 (k:=1) (pv 0) T.mo (Vf P w) (aR (pv 3)))) (aa (bR (bU fO (pv 2) (pv 3)) (ak (d_)) bf) (ak (bR (bU Up (aS zJ rfl y cn (aR (bx (pv 0) rfl))) (gy (v:=.int 60) rfl Q #[_,O])) (ak (d_)) bf)))))),?_)
 show(_,O,_,O,a,C,Z,_,_,O,R.obj,X.cls,X.br,O,pB,_,O,ia.k (k:=.inr x) R.br,_,O,?_);rw [R.bar x,RI B];show(_,O,a,C,Z,_,_,_,O,R.obj,O,G,_,O,a,Z,L,M,pB,N,S,I,J,Y,U,O,R,z,_,O,a,C,Z,_,_,_,O,R.obj,O,G,_,O,a,Z,L,M,pB,N,S,I,J,Y,D,O,R,A,_,O,_,O,O,_,O,bP (λc=>DB (by simpa [AW] using c) E) (λ_=>?_));let lk:Y.length=S.length:=(Mx R.rb).symm;show(_,O,a,C,Z,_,_,O,R.obj,X.cls,X.br,O,pB,Y,O,.inl R.br,_,_,O,O,_,O,bP (λc=>?_) (λ_=>q));let p:(60:Int)<=(Y.length:Int):=Qd c;omega
inductive pO (K:Frag)(C:AZ)(vs:γ)(H:Hp)(Q:VK)(J:XK):Prop
|mk (a M S T pB:AZ)(ps:Κ)(X:Ε)(N R L:η)(x Z Y:Str)(_:vs=[.ref a,.str x,.str Z,.str Y])(_:jf K H C a M S T pB ps X N R L)(_:x∉X.map (·.1))(_:Z∈ps.map (·.1))(_:Y∈ps.map (·.1))(_:Z≠Y)(_:X.length<60)(_:∀(H':Hp)(U:η),aX pB H H' ->jf K H' C a M S T pB ps (X++[(x,(Z,Y))]) N R U ->Q .cK H')
def aif:aw α7 α7 (ae Rn):=sq
def aih (F:nO K "put_bar" "Frame.put_bar" Rn f fd)(B:U7 K C)
  (i:bn P w K mg gN 2 C "check_bar" α7 (ke K C)):am P w K mg gN 3 f fd α7 (pO K C):=by
 show afx F aif (λy H Q E h=>?_) (λc A g s H y Q E D h=>?_)
 ·let(a,X,L,M,pB,N,T,I,J,Y,x,Z,U,rfl,_):=h
  rfl
 let(a,X,L,M,pB,N,T,I,J,Y,x,Z,U,rfl,R,G,j,m,u,p,q):=h
 show(_,(aa (b_ (d6 (k:=2) (pv 0) D.mo (pY P w) (b8 (pv 1) (pv 2) (pv 3)))) (ak (gI (dI D) (bx (pv 0) rfl) (pv 1) (a_ (aJ (pv 2) (pv 3))) rfl))),?_)
 show(_,O,a,C,X,_,_,_,O,R.obj,O,i,_,O,_,O,_,O,a,X,L,M,pB,N,T,I,J,Y,x,Z,U,O,R,G,j,m,u,p,_,O,_,O,qt,λt nt=>?_);let s:=av nt (.tup [.str Z,.str U]);let S:=R.gO s;let lk:Y.length=T.length:=(Mx R.rb).symm;show(_,O,a,C,X,_,_,O,S.obj,B.cls,B.br,O,_,O,pB,_,O,mS.k (k:=.inr x) S.br (L_ (show Y.length<=1000 by omega) eY),?_);let e:putK Y (.inr x) (.ref t)=Y++[(.inr x,.ref t)]:=fV _ (c_ (by rw [R.Oo];show λz=>G (jq.mp z)));rw [e];show q _ _ (λb o n z=>?_) (S.ac5 (.inl af));rw [ag n];show s _ _ z
def CO (p q:ba):Rat×Rat:=(q.sp.1-p.sp.1,q.sp.2-p.sp.2)
inductive VT (K:Frag)(C:AZ)(vs:γ)(H:Hp)(Q:VK)(Z:XK):Prop
|mk (a:AZ)(AO:υ)(AP:Δ)(p q:ba)(_:vs=[.ref a,.str p.nm,.str q.nm])(_:zO K H C a AO AP)(_:jr AO AP)(_:p∈AO)(_:q∈AO)(_:VQ K H Q (CO p q))
def abA {AO:υ}(h:(AO.map (·.nm)).Nodup):((AO.map λp=>(p.nm,IY p.sp)).map (·.1)).Nodup:=by
 rwa [P2]
def abB {AO:υ}(h:(AO.map (·.nm)).Nodup):((AO.map λp=>(p.nm,p.ws)).map (·.1)).Nodup:=by
 rwa [P2]
def aii {AP:Δ}(h:(AP.map (·.nm)).Nodup):((AP.map λb=>(b.nm,(b.one.nm,b.kG.nm))).map (·.1)).Nodup:=by
 rwa [P2]
def aij:aw VY VY (ae QN):=sq
def aik (D:Def K mg "arm_between" QN VY)(G:bn P w K mg gN 2 C "place" U5 (vx K C))(X:ad P w K mg gN 35 "pair_difference" My (MD K λa b=>a-b)):ad P w K mg gN 36 "arm_between" VY (VT K C):=by
 show D.oo aij λH Y h=>?_;let(a,x,y,p,q,rfl,R,g,I,J,k):=h;let(Z,Q,S,pB,M,N,L,R,W):=R.ex;show(_,(ak (aI (aK X Y (aJ (d6 (k:=2) (pv 0) Y.mo (Vf P w) (aR (pv 2))) (d6 (k:=2) (pv 0) Y.mo (Vf P w) (aR (pv 1))))))),_,O,a,C,Z,_,_,_,O,R.obj,O,G,_,O,a,Z,Q,S,pB,_,_,M,N,L,q.nm,IY q.sp,O,R,abA g.np,GV.mpr (q,J,O),λB z=>?_);show(_,O,a,C,Z,_,_,_,O,R.obj,O,G,_,O,a,Z,Q,S,pB,_,_,M,N,L,p.nm,IY p.sp,O,R,abA g.np,GV.mpr (p,I,O),λE A=>?_);let T:=g.sz q J;let U:=g.sz p I;show(B,E,q.sp,p.sp,O,z,A,T.1.up eY,T.2.1.up eY,U.1.up eY,U.2.1.up eY,k)
def mv (M:ς)(x:Str):Rat×Rat:=(M x).getD (0,0)
def fS (F:ς)(AO:υ):List (Int×Int):=AO.flatMap λp=>[qr (mv F p.nm).1,qr (mv F p.nm).2]
theorem i8 (F:ς):∀AO:List ba,(fS F AO).length=2*AO.length
 | []=>rfl
 | p::ps=>by
  have:=i8 F ps;unfold fS at this ⊢;rw [U2,JG,this];simp;omega
def aaU (F:ς)(ps:υ)(p:ba):fS F (ps++[p])=fS F ps++[qr (mv F p.nm).1,qr (mv F p.nm).2]:=by
 unfold fS;rw [ZP];simp
def yr (x:Str)(w:Rat×Rat):Str->Option (Rat×Rat):=λy=>if y=x then some w else none
def l_ (b:cf):Str->Option (Rat×Rat):=λy=>if y=b.one.nm then some (CO b.one b.kG) else if y=b.kG.nm then some (CO b.kG b.one) else none
def rQ (AO:υ)(p:ba):List (List (Int×Int)):=p.ws.map λw=>fS (yr p.nm w) AO
def dQ (AO:υ)(AP:Δ):List (List (Int×Int)):=(AO.flatMap λp=>rQ AO p)++AP.map λb=>fS (l_ b) AO
structure ma (K:Frag)(H:Hp)(r:AZ)(ls:ψ)(cx:Η)(aZ:ξ):Prop where
 vy:jG H r ls cx
 num:fQ K H cx aZ
 nr:r∉ls
theorem ma.gO (h:ma K H r ls cx aZ)(s:ar H H'):ma K H' r ls cx aZ:=(h.vy.gO s,h.num.gO s,h.nr)
def aa3 (h:fQ K H cx aZ)(n:bT K H us qs):fQ K H (cx++[us]) (aZ++[qs]):=by
 show#[by simp [h.1],λi u X Z Y=>?_];let l:=h.1;by_cases c:i<cx.length
 ·rw [MF c] at Z
  rw [MF cr] at Y;show h.2 i u X Z Y
 ·rw [Mg cr] at Z Y
  by_cases z:i-cx.length=0
  ·rw [z] at Z
   rw [show i-aZ.length=0 by omega] at Y;cases Z;cases Y;show n
  ·rw [JM (by simp;omega)] at Z
   cases Z
def zau {H:Hp}{Y:ψ}{T:Η}(S:Y.length=T.length)(h:∀(i:Nat)(l:AZ)(vs:γ),Y[i]?=some l->T[i]?=some vs->H l=some (.lst vs))(e:H l=some (.lst us)):
  ∀(i:Nat)(U:AZ)(vs:γ),(Y++[l])[i]?=some U ->(T++[us])[i]?=some vs->H U=some (.lst vs):=λi U vs Z X=>by
 by_cases c:i<Y.length
 ·rw [MF c] at Z
  rw [MF cr] at X;show h i U vs Z X
 ·rw [Mg cr] at Z X
  by_cases z:i-Y.length=0
  ·rw [z] at Z
   rw [show i-T.length=0 by omega] at X;cases Z;cases X;show e
  ·rw [JM (by simp;omega)] at Z
   cases Z
def ma.push (h:ma K H r ls cx aZ)(e:H l=some (.lst us))(T:l≠r)(n:bT K H us qs):
  ma K (upd H r (.lst (ls.map V.ref++[.ref l]))) r (ls++[l]) (cx++[us]) (aZ++[qs]):=by
 let st:bw H (upd H r (.lst (ls.map V.ref++[.ref l]))):=.list h.vy.1
 let S:∀(i:Nat)(Y:AZ)(Z:γ),ls[i]?=some Y ->cx[i]?=some Z->(upd H r (.lst (ls.map V.ref++[.ref l]))) Y=some (.lst Z):=λi Y Z X U=>by
  rw [ag (λz:Y=r=>h.nr (by rw [<-z];show IH X))];show h.vy.2.2 i Y Z X U
 show((by rw [af,QC];rfl,by simp [h.vy.2.1],zau h.vy.2.1 S (by rwa [ag T])),?_,?_)
 ·show aa3 #[h.num.1,λi Z qs X U=>(h.num.2 i Z qs X U).aY st] (n.aY st)
 ·intro z
  rcases MU.mp z with z|z
  ·show h.nr z
  ·show T (MJ.mp z).symm
inductive jW (K:Frag)(C:AZ)(vs:γ)(H:Hp)(Q:VK)(Z:XK):Prop
|mk (a d:AZ)(AO:υ)(AP:Δ)(AV:η)(F:ς)(_:vs=[.ref a,.ref d])(_:zO K H C a AO AP)(_:AO.length<=100)(_:H d=some (.dK AV))(_:PtD K H AV F)(_:∀(l:AZ)(us:γ)(H':Hp),ar H H' ->H l=none->H' l=some (.lst us)->bT K H' us (fS F AO)->Q (.ref l) H')
def kg (AO:υ):((AO.map λp=>(p.nm,IY p.sp)).map (·.1))=AO.map (·.nm):=by rw [P2];rfl
def VU:aw ["F","draws","row","pin"] Zv (ae QO):=sq
def ail (hM:∀H:Hp,gP K H (.ref aM) (0,0))(E:mg "NO_MOVE"=some (.ref aM))(D:Def K mg "pair_row" QO Zv)(MP:bn P w K mg gN 1 C "pins" M_ (lZ K C)):ad P w K mg gN 2 "pair_row" Zv (jW K C):=by
 show D.oo VU λH g h=>?_;let(a,d,M,AP,AV,F,rfl,R,S,hd,hP,q):=h
 show(_,(aa (aC 2 VU.nd (bS gC)) (aa (bM M9 rfl (bX (fj (k:=1) (pv 0) g.mo (Vf P w))) (cB 3 VU.nd) (ak (b_ (ku Us PySem.F.slot_list_extend PySem.F.type_list_extend akw (pv 2) (aR (zak (dI g) (pv 1) (pv 3) (gy (v:=.ref aM) rfl E rfl) (O,O,O,O))))))) (ak (aI (pv 2))))),?_)
 show#[z0L,?_];intros l m H1 y el;let R1:=R.gO y;let(dx,pP,pW,pB,kP,kW,kB,F1,W1):=R1.ex;show(_,O,a,C,dx,_,_,_,O,F1.obj,O,MP,a,dx,pP,pW,pB,_,_,kP,kW,kB,O,F1,λS H2 A OW B=>?_);rw [kg] at B;let Tg:=y.trans A;let Xs:S≠l:=λz=>by erw [z,el] at OW
 show(S,O,#[_,bh.of B],let I:ce:=λi Y N=>Tc λ(G:ω) (Z:γ)=>Y=[bv a,bv d,bv l,G]/\ar H N/\N S=some (.lst ((M.map (·.nm)).map V.str))/\N l=some (.lst Z)/\bT K N Z (fS F (M.take i));ef (K:=K) (a:=S) (xs:=(M.map (·.nm)).map V.str) I (none,[],O,Tg,B,A _ _ el,#[O,λi u q e=>by simp at e]) (λi Y N _ h=>by
   let(_,_,_,_,h,_):=h
   show bh.of h) ?_ ?_)
 ·rintro i z Y X hi ⟨G,Z,rfl,U,j,Q,T⟩
  rw [ir,ir] at hi;let(x,hx,rfl):=MK.mp hi;let(p,f,rfl):=MK.mp hx;let il:i<M.length:=(be.mp f).1;let d4:=U _ _ hd;let g1:gP K X ((ff AV (.inr p.nm)).getD (.ref aM)) (mv F p.nm):=(hP.gO U).aoP (hM X);let(b,J,L,eb,hb,h1,h2):=g1
  let lu:Z.length<=200:=by
   have:=T.1;rw [i8,Me] at this;omega
  show(_,O,.inl (O,_,bh.of Q),_,O,d,O,.inl #[_,.inl d4],_,O,_,ia.k (k:=.inr p.nm) d4,l,b,Z,[J,L],O,by rw [eb],Q,hb,by simp;omega,?_);let st:bw X (upd X l (.lst (Z++[J,L]))):=.list Q;show(_,Z++[J,L],O,λc o z=>?_,?_,af,?_)
  ·rw [ag (aj z m)]
   show U _ _ z
  ·rw [ag Xs]
   show j
  ·rw [take_snoc f,aaU]
   let a1:=bT.snoc (K:=K) (T.aY st) (ie.aY h1 st);let a2:=bT.snoc (K:=K) a1 (ie.aY h2 st);simpa using a2
 ·rintro Y X ⟨G,Z,rfl,U,j,Q,T⟩
  rw [Wp,Wp,Uz] at T;show(_,O,q l Z X U m Q T)
inductive rR (K:Frag)(C:AZ)(vs:γ)(H:Hp)(Q:VK)(Y:XK):Prop
|mk (a d:AZ)(AO:υ)(AP:Δ)(AV:η)(F:ς)(_:vs=[.ref a,.ref d])(_:zO K H C a AO AP)(_:AO.length<=100)(_:H d=some (.dK AV))(_:PtD K H AV F)(_:(∀Z∈AV,∃x∈AO.map (·.nm),Z.1=.inr x))(_:∀(l:AZ)(us:γ)(H':Hp),ar H H' ->H l=none->H' l=some (.lst us)->bT K H' us (fS F AO)->Q (.ref l) H')
def VW:aw ["F","load","pins","pin"] ["F","load"] (ae QP):=sq
def aim (D:Def K mg "load_row" QP ["F","load"])(MP:bn P w K mg gN 1 C "pins" M_ (lZ K C))(VX:ad P w K mg gN 2 "pair_row" Zv (jW K C)):ad P w K mg gN 3 "load_row" ["F","load"] (rR K C):=by
 show D.oo VW λH M h=>?_;let(a,d,A,AP,AV,F,rfl,R,lp,X,hP,hk,q):=h
 show(_,(aa (aC 2 VW.nd (fj (k:=1) (pv 0) M.mo (Vf P w))) (aa (vt (bM M9 rfl (agA (pv 1)) (cB 3 VW.nd) (ak (bR (vg oR (pv 3) (pv 2) rfl) (ak (d_)) bf)))) (ak (aI (aK VX M (aJ (pv 0) (pv 1))))))),?_)
 let(J,g,i,pB,kP,kW,kB,B,W1):=R.ex;show(_,O,a,C,J,_,_,_,O,B.obj,O,MP,a,J,g,i,pB,_,_,kP,kW,kB,O,B,λl S Q nl L=>?_);rw [kg] at L;let G:=Q _ _ X;show(_,O,d,AV,O,G,λo=>?_);let ld:l≠d:=λz=>by erw [z,G] at L
 show let I:ce:=λt Y E=>∃(U:ω),Y=[bv a,bv d,bv l,U]/\E=upd S d (.iL o (.dK AV));zat (d:=d) (o:=o) (AV:=AV) I (none,O,O) (λt Y E _ h=>by
   let(_,_,rfl):=h
   show af) ?_ ?_
 ·rintro t k y Y H6 GP ⟨U,rfl,rfl⟩
  let(x,hx,ex):=hk _ (IH GP);let T:k=.inr x:=ex;subst T;show(_,O,_,O,l,_,O,.inl (bh.of (by rwa [ag ld])),O,zM _,_,O,bP (λc=>?_) (λ_=>(_,O,O)));let c':(!inV (.str x) ((A.map (·.nm)).map V.str))=true:=c;erw [v9,P9 hx] at c'
 ·rintro Y H6 ⟨U,rfl,rfl⟩
  show(d,o,AV,af,λN m z=>(by have u:H d=some (.iL N m):=z;erw [X] at u),?_)
  let Z:ar H (upd (upd S d (.iL o (.dK AV))) d (.dK AV)):=λb N e=>by
   by_cases n:b=d
   ·subst n
    rw [X] at e;rwa [af]
   ·rw [ag n,ag n]
    show Q _ _ e
  generalize upd (upd S d (.iL o (.dK AV))) d (.dK AV)=H2 at Z ⊢;show(_,O,_,O,a,d,A,AP,AV,F,O,R.gO Z,lp,Z _ _ X,hP.gO Z,λl' p H3 j n3 e3 f=>?_);show q l' p H3 (Z.trans j) (Z.free n3) e3 f
inductive wM (K:Frag)(C:AZ)(vs:γ)(H:Hp)(Q:VK)(Z:XK):Prop
|mk (a:AZ)(AO:υ)(AP:Δ)(b:cf)(_:vs=[.ref a,.str b.one.nm,.str b.kG.nm])(_:zO K H C a AO AP)(_:jr AO AP)(_:b.one∈AO)(_:b.kG∈AO)(_:b.one.nm≠b.kG.nm)(_:∀(l:AZ)(us:γ)(H':Hp),ar H H' ->H l=none->H' l=some (.lst us)->bT K H' us (fS (l_ b) AO)->Q (.ref l) H')
def adO (k:Key)(v:V):d7 [] [(k,v)]=[(k,v)]:=rfl
def adP (v u:V)(h:k≠j):d7 [] [(k,v),(j,u)]=[(k,v),(j,u)]:=by
 change putK [(k,v)] j u=_;rw [fV]
 ·rfl
 ·rw [dy h]
  rfl
def ain:aw VY VY (ae QQ):=sq
def aio (D:Def K mg "bar_row" QQ VY)(U:ad P w K mg gN 36 "arm_between" VY (VT K C))(VX:ad P w K mg gN 2 "pair_row" Zv (jW K C)):ad P w K mg gN 37 "bar_row" VY (wM K C):=by
 show D.oo ain λH L h=>?_;let(a,G,I,b,rfl,R,g,A,B,i,q):=h;show(_,(ak (aI (aK VX L (aJ (pv 0) (agM (vT (pv 1) (aK U L (b8 (pv 0) (pv 1) (pv 2))) (vT (pv 2) (aK U L (b8 (pv 0) (pv 2) (pv 1))) agU)) rfl rfl (ang _ _) eY))))),_,O,λd E=>?_);let Q:=av E (.dK []);let p:(upd H d (.dK [])) d=some (.dK []):=af;generalize upd H d (.dK [])=H1 at Q p ⊢;show(_,O,_,O,_,O,_,O,a,G,I,b.one,b.kG,O,R.gO Q,g,A,B,λY H2 M h2=>?_);show(_,O,_,O,_,O,_,O,a,G,I,b.kG,b.one,O,(R.gO Q).gO M,g,B,A,λZ T N h3=>?_);let u:=N _ _ (M _ _ p);show(u,[(.inr b.one.nm,Y),(.inr b.kG.nm,Z)],O,(by change 2<=15;decide),?_);rw [adP _ _ (λz=>i (Wz z))];let st:bw T (upd T d (.dK [(.inr b.one.nm,Y),(.inr b.kG.nm,Z)])):=.dict u;let y:(upd T d (.dK [(.inr b.one.nm,Y),(.inr b.kG.nm,Z)])) d=some (.dK [(.inr b.one.nm,Y),(.inr b.kG.nm,Z)]):=af
 let S:ar H (upd T d (.dK [(.inr b.one.nm,Y),(.inr b.kG.nm,Z)])):=λc o z=>by
  rw [ag (aj z E)];show N _ _ (M _ _ (Q _ _ z))
 generalize upd T d (.dK [(.inr b.one.nm,Y),(.inr b.kG.nm,Z)])=H4 at st y S ⊢;show(a,d,G,I,_,l_ b,O,R.gO S,GX g.lp eY,y,λx=>?_,λl m H5 k f e5 j=>q l m H5 (S.trans k) (S.free f) e5 j);by_cases X:x=b.one.nm
 ·subst X
  show .inr (Y,CO b.one b.kG,fU rfl,by unfold l_;rw [jY rfl],(h2.gO N).aY st)
 ·by_cases J:x=b.kG.nm
  ·subst J
   show .inr (Z,CO b.kG b.one,by rw [dy (λz=>X (Wz z).symm),fU rfl],by unfold l_;rw [iO X,jY rfl],h3.aY st)
  ·show .inl #[by rw [dy (λz=>X (Wz z).symm),dy (λz=>J (Wz z).symm)];rfl,by unfold l_;rw [iO X,iO J]]
inductive om (K:Frag)(C:AZ)(vs:γ)(H:Hp)(Q:VK)(X:XK):Prop
|mk (a:AZ)(AO:υ)(AP:Δ)(_:vs=[.ref a])(_:zO K H C a AO AP)(_:jr AO AP)(_:∀(r:AZ)(Z:ψ)(Y:Η)(H':Hp),ar H H' ->H r=none->ma K H' r Z Y (dQ AO AP)->Q (.ref r) H')
def agw (AP:Δ):((AP.map λb=>(b.nm,(b.one.nm,b.kG.nm))).map (·.1))=AP.map (·.nm):=by rw [P2];rfl
def pQ (AO:υ)(h:∀p∈AO,p.ws.length<=2):(AO.flatMap λp=>p.ws).length<=2*AO.length:=by
 induction AO with
 | nil=>simp
 | cons p X Z=>
  let T:=h p Mo;let U:=Z λq Y=>h q (MV _ Y);rw [U2,JG,Qz];omega
def wN (all AO:υ):(AO.flatMap λp=>rQ all p).length=(AO.flatMap λp=>p.ws).length:=by
 induction AO with
 | nil=>rfl
 | cons p Y Z=>
  rw [U2,U2,JG,JG,Z];unfold rQ;rw [Wp]
def mL (AO:υ)(AP:Δ):(dQ AO AP).length=(AO.flatMap λp=>p.ws).length+AP.length:=by
 unfold dQ;rw [JG,wN,Wp]
def AB:aw ["F","rows","pin","way","bar","two"] ["F"] (ae QR):=sq
def aiq (D:Def K mg "draw_rows" QR ["F"])(MP:bn P w K mg gN 1 C "pins" M_ (lZ K C))(MW:bn P w K mg gN 2 C "ways" U5 (wL K C))(MB:bn P w K mg gN 1 C "bars" M_ (oj K C))(ME:bn P w K mg gN 1 C "ends" KP (CK K C))
  (VX:ad P w K mg gN 2 "pair_row" Zv (jW K C)) (apX:ad P w K mg gN 37 "bar_row" VY (wM K C)):ad P w K mg gN 38 "draw_rows" ["F"] (om K C):=by
 show D.op AB λf cu A gV s H vs Q E hr h=>?_;let(a,X,AP,rfl,R,g,q):=h
 show(_,(aa (aC 1 AB.nd (bS gC)) (aa (bM M9 rfl (bX (fj (k:=1) (pv 0) hr.mo (pY P w))) (cB 2 AB.nd) (ak (bM M9 rfl (bX (d6 (k:=2) (pv 0) hr.mo (pY P w) (aR (pv 2)))) (cB 3 AB.nd) (ak (b_ (ku Us σ3 σ2 eE (pv 1) (aR (aK VX hr (aJ (pv 0) (agM (vT (pv 2) (pv 3) agU) rfl rfl (ang _ _) eY)))))))))) (aa (bM M9 rfl (bX (fj (k:=1) (pv 0) hr.mo (pY P w))) (cB 4 AB.nd) (aa (aC 5 AB.nd (d6 (k:=1) (pv 0) hr.mo (pY P w) (aR (pv 4)))) (ak (b_ (ku Us σ3 σ2 eE (pv 1) (aR (aK apX hr (b8 (pv 0) (aH (pv 5)) (aH (pv 5)))))))))) (ak (aI (pv 1)))))),?_);sleep 3
 show#[z0L,?_];intros r nr H1 s1 er;let big:(40:Nat)<=HZ:=eY
 let wl:=pQ X g.lw;let gl:=g.lp;let R0:ma K H1 r [] [] []:=((er,O,λi l vs e=>by simp at e),#[O,λi vs qs e=>by simp at e],by simp);let R1:=R.gO s1;let(M,pP,y,pB,kP,kW,kB,F1,W1):=R1.ex;show(_,O,a,C,M,_,_,_,O,F1.obj,O,MP,a,M,pP,y,pB,_,_,kP,kW,kB,O,F1,λlp H2 s2 OW MI=>?_);rw [kg] at MI;let Tg:=s1.trans s2;let Xs:lp≠r:=λz=>by erw [z,er] at OW
 show(lp,O,#[_,bh.of MI],let I:ce:=λi Y S=>Td λ(o2 G:ω) (Z:ψ) (U:Η)=>Y=[bv a,bv r,o2,G,none,none]/\ar H S/\S lp=some (.lst ((X.map (·.nm)).map V.str))/\ma K S r Z U ((X.take i).flatMap λp=>rQ X p);ef (K:=K) (a:=lp) (xs:=(X.map (·.nm)).map V.str) I (none,none,[],[],O,Tg,MI,R0.gO s2) (λi Y S _ h=>by
   let(_,_,_,_,_,_,h,_):=h
   show bh.of h) ?_ ?_)
 ·rintro i z Y H4 hi ⟨o2,G,Z,U,rfl,s4,l4,RR⟩
  rw [ir,ir] at hi;let(x,hx,rfl):=MK.mp hi;let(p,hp,rfl):=MK.mp hx;let mp:p∈X:=IH hp;let R4:=R.gO s4;let(M,pP,y,pB,kP,kW,kB,F4,W4):=R4.ex;let mpn:p.nm∈(X.map λp=>(p.nm,IY p.sp)).map (·.1):=by rw [kg];show GV.mpr (p,mp,O)
  show(_,O,a,C,M,_,_,_,O,F4.obj,O,MW,_,O,a,M,pP,y,pB,_,_,kP,kW,kB,_,p.nm,p.ws,O,F4,W4,abB g.np,GV.mpr (p,mp,O),mpn,λm us H5 s5 n5 e5 p5=>?_);let lu:us.length=p.ws.length:=Mx p5;let s05:=s4.trans s5;let mr:m≠r:=λz=>by erw [z,RR.vy.1] at n5
  show(m,O,#[_,bh.of e5],let I:ce:=λj Y S=>Zz λ(G:ω) (Z:ψ) (U:Η)=>Y=[bv a,bv r,some (.str p.nm),G,none,none]/\ar H S/\S lp=some (.lst ((X.map (·.nm)).map V.str))/\S m=some (.lst us)/\mT K S us p.ws/\ma K S r Z U (((X.take i).flatMap λp=>rQ X p)++(p.ws.take j).map λw=>fS (yr p.nm w) X);ef (K:=K) (a:=m) (xs:=us) I (G,Z,U,O,s05,s5 _ _ l4,e5,p5,by simpa using RR.gO s5) (λj Y S _ h=>by
    let(_,_,_,_,_,_,h,_):=h
    show bh.of h) ?_ ?_)
  ·rintro j u Y L hu ⟨G,Z,U,rfl,J,l6,e6,p6,T⟩
   let(w,ew,hw):=aQ p6 hu;let jl:=(be.mp hu).1;show(_,O,.inl (O,_,bh.of T.vy.1),_,O,λd nd=>?_);let t1:=av nd (.dK []);let d1:(upd L d (.dK [])) d=some (.dK []):=af;generalize upd L d (.dK [])=H7 at t1 d1 ⊢;show(_,O,_,O,d1,[(.inr p.nm,u)],O,(by change 1<=15;decide),?_);rw [adO];let st:bw H7 (upd H7 d (.dK [(.inr p.nm,u)])):=.dict d1;let d8:(upd H7 d (.dK [(.inr p.nm,u)])) d=some (.dK [(.inr p.nm,u)]):=af
   let t8:ar L (upd H7 d (.dK [(.inr p.nm,u)])):=λc o z=>by
    rw [ag (aj z nd)];show t1 _ _ z
   let hw8:=(hw.gO t1).aY st;generalize upd H7 d (.dK [(.inr p.nm,u)])=H8 at d8 t8 hw8 ⊢;let s8:=J.trans t8;show(a,d,X,AP,_,yr p.nm w,O,R.gO s8,GX g.lp eY,d8,λx=>?_,λl jg H9 t9 n9 e9 nm=>?_)
   ·by_cases c1:x=p.nm
    ·subst c1
     show .inr (u,w,fU rfl,by unfold yr;rw [jY rfl],hw8)
    ·show .inl #[by rw [dy (λz=>c1 (Wz z).symm)];rfl,by unfold yr;rw [iO c1]]
   let B:=t8.trans t9;let N:=T.gO B;let lr:l≠r:=λz=>by erw [z,t8 _ _ T.vy.1] at n9
   let lss:Z.length<=14:=by
    let h1:=T.vy.2.1;let h2:=T.num.1;rw [JG,Wp,Me,wN] at h2
    let h3:((X.take i).flatMap λp=>p.ws).length+p.ws.length<=(X.flatMap λp=>p.ws).length:=by
     let e:X=X.take i++p::X.drop (i+1):=by
      let lt:=(be.mp hp).1;let e2:=(be.mp hp).2;rw [<-e2,ak_,OX]
     let e3:=ox (λl:List ba=>(l.flatMap λp=>p.ws).length) e;simp only [ZP,U2,JG] at e3;omega
    omega
   show(r,_,_,O,O,N.vy.1,(by rw [Wp];omega),?_);let RN:=N.push e9 lr nm;let tr:bw H9 (upd H9 r (.lst (Z.map V.ref++[.ref l]))):=.list N.vy.1;let kk:∀b o,b≠r->L b=some o->(upd H9 r (.lst (Z.map V.ref++[.ref l]))) b=some o:=λb o n e=>by rw [ag n];show B _ _ e
   show(_,Z++[l],U++[jg],O,λb o e=>?_,kk _ _ Xs l6,kk _ _ mr e6,(p6.gO B).aY tr,?_)
   ·show kk _ _ (aj e nr) (J _ _ e)
   ·rw [take_snoc ew,QC,<-ZO]
    show RN
  ·rintro Y L ⟨G,Z,U,rfl,J,l6,e6,p6,T⟩
   show(_,_,Z,U,O,J,l6,?_);rw [lu,Uz] at T;rw [take_snoc hp,ZP];simpa [rQ] using T
 ·rintro Y H4 ⟨o2,G,Z,U,rfl,s4,l4,RR⟩
  rw [Wp,Wp,Uz] at RR;let R4:=R.gO s4;let(M,pP,y,pB,kP,kW,kB,F4,W4):=R4.ex;show(_,O,a,C,M,_,_,_,O,F4.obj,O,MB,a,M,pP,y,pB,_,_,kP,kW,kB,O,F4,λlb H5 s5 nlb Xt=>?_);rw [agw] at Xt;let bne:lb≠r:=λz=>by erw [z,RR.vy.1] at nlb
  show(lb,O,#[_,bh.of Xt],let I:ce:=λi Y S=>Td λ(o4 o5:ω) (Z:ψ) (U:Η)=>Y=[bv a,bv r,o2,G,o4,o5]/\ar H S/\S lb=some (.lst ((AP.map (·.nm)).map V.str))/\ma K S r Z U ((X.flatMap λp=>rQ X p)++(AP.take i).map λb=>fS (l_ b) X);ef (K:=K) (a:=lb) (xs:=(AP.map (·.nm)).map V.str) I (none,none,Z,U,O,s4.trans s5,Xt,by simpa using RR.gO s5) (λi Y S _ h=>by
    let(_,_,_,_,_,_,h,_):=h
    show bh.of h) ?_ ?_)
  ·rintro i z Y L hi ⟨o4,o5,Z,U,rfl,J,l6,T⟩
   rw [ir,ir] at hi;let(x,hx,rfl):=MK.mp hi;let(b,hb,rfl):=MK.mp hx;let mb:b∈AP:=IH hb;let il:=(be.mp hb).1;let R6:=R.gO J;let(M,pP,y,pB,kP,kW,kB,F6,W6):=R6.ex;show(_,O,a,C,M,_,_,_,O,F6.obj,O,ME,_,O,a,M,pP,y,pB,_,_,kP,kW,kB,b.nm,b.one.nm,b.kG.nm,O,F6,aii g.nb,GV.mpr (b,mb,O),λp rd=>?_);let tp:bQ K L p [.str b.one.nm,.str b.kG.nm]:=.inl rd;let(m1,m2,m3):=g.ends b mb;show(_,O,.inl (O,_,bh.of T.vy.1),_,O,_,O,p,_,_,_,O,O,tp,iM,_,O,p,_,_,_,O,O,tp,iK,a,X,AP,b,O,R6,g,m1,m2,m3,λl jg H9 t9 n9 e9 nm=>?_);let N:=T.gO t9;let lr:l≠r:=λz=>by erw [z,T.vy.1] at n9
   let lss:Z.length<=22:=by
    let h1:=T.vy.2.1;let h2:=T.num.1;rw [JG,Wp,Me,wN] at h2;have:=g.lb;omega
   show(r,_,_,O,O,N.vy.1,(by rw [Wp];omega),?_);let RN:=N.push e9 lr nm;let kk:∀c o,c≠r->L c=some o->(upd H9 r (.lst (Z.map V.ref++[.ref l]))) c=some o:=λc o n e=>by rw [ag n];show t9 _ _ e
   show(_,_,Z++[l],U++[jg],O,λc o e=>kk _ _ (aj e nr) (J _ _ e),kk _ _ bne l6,?_);rwa [take_snoc hb,QC,<-ZO]
  ·rintro Y L ⟨o4,o5,Z,U,rfl,J,l6,T⟩
   rw [Wp,Wp,Uz] at T;show(_,O,q r Z U L J nr T)
def zam {i j:Nat}(h:i<=j)(Z:j<=xs.length):j6 xs (some (i:Int)) (some (j:Int))=(xs.drop i).take (j-i):=by
 unfold j6;rw [HT.vi,HT.vi,AH Z,AH (show i<=xs.length by omega)]
def aV (AO:υ):Nat:=(AO.flatMap λp=>p.ws).length
def abq (ps:υ)(p:ba):aV (ps++[p])=aV ps+p.ws.length:=by
 unfold aV;rw [ZP,JG];simp
def abg (h:AO[i]?=some p):aV (AO.take i)+p.ws.length<=aV AO:=by
 let e:AO=AO.take i++p::AO.drop (i+1):=by
  let lt:=(be.mp h).1;let Y:=(be.mp h).2;rw [<-Y,ak_,OX]
 let Z:=ox (λl:List ba=>(l.flatMap λp=>p.ws).length) e;simp only [ZP,U2,JG] at Z;unfold aV;omega
inductive adQ (K:Frag)(C:AZ)(vs:γ)(H:Hp)(Q:VK)(X:XK):Prop
|mk (a Z:AZ)(AO:υ)(AP:Δ)(us:γ)(_:vs=[.ref a,.ref Z])(_:zO K H C a AO AP)(_:jr AO AP)(_:H Z=some (.lst us))(_:aV AO<=us.length)(_:us.length<=100)(_:∀(p dT Y:AZ)(H':Hp),ar H H' ->H' p=some (.tup [.ref dT,.ref Y])->Q (.ref p) H')
def wO:aw ["F","numbers","pushes","at","pin","behind","pulls"] α' (ae QS):=sq
def air (D:Def K mg "pulls_and_pushes" QS α')(bq:mg "len"=none)(MM:mg "dict"=none)(eC:mg "zip"=none)(MP:bn P w K mg gN 1 C "pins" M_ (lZ K C))(MW:bn P w K mg gN 2 C "ways" U5 (wL K C))(MB:bn P w K mg gN 1 C "bars" M_ (oj K C)):
  ad P w K mg gN 3 "pulls_and_pushes" α' (adQ K C):=by
 show D.op wO λf cu A gV s H vs Q E hr h=>?_;let(a,nl,Z,AP,us,rfl,R,g,hn,lu,lu1,q):=h;let wl:aV Z<=2*Z.length:=pQ Z g.lw;let gl:=g.lp;let gb:=g.lb
 show(_,(aa (aC 2 wO.nd fW) (aa (aC 3 wO.nd ah) (aa (bM M9 rfl (bX (fj (k:=1) (pv 0) hr.mo (pY P w))) (cB 4 wO.nd) (aa (aC 5 wO.nd (ay b9 (pv 3) (aS aG rfl bq cn (aR (d6 (k:=2) (pv 0) hr.mo (pY P w) (aR (pv 4))))))) (aa (gI (dI hr) (pv 2) (pv 4) (cX eO (pv 1) (dD (pv 3)) (dD (pv 5))) rfl) (ak (aC 3 wO.nd (pv 5)))))) (aa (aC 6 wO.nd (ajZ rfl rfl MM rfl eC (aJ (fj (k:=1) (pv 0) hr.mo (pY P w)) (cX eO (pv 1) (dD (pv 3)) eM)))) (ak (aI (a_ (aJ (pv 6) (pv 2))))))))),?_);sleep 4
 intro U nU;let s1:=av nU (.dK []);let e1:(upd H U (.dK [])) U=some (.dK []):=af;generalize upd H U (.dK [])=H1 at s1 e1 ⊢;let R1:=R.gO s1;let(X,B,G,pB,u,y,j,F1,W1):=R1.ex;show(_,O,a,C,X,_,_,_,O,F1.obj,O,MP,a,X,B,G,pB,_,_,u,y,j,O,F1,λlp H2 s2 OW MI=>?_);rw [kg] at MI;let Tg:=s1.trans s2;let Xs:lp≠U:=λz=>by erw [z,e1] at OW
 show(lp,O,#[_,bh.of MI],let I:ce:=λi Y H'=>Zz λ(o4 o5:ω) (N:η)=>Y=[bv a,bv nl,bv U,some (.int (aV (Z.take i):Int)),o4,o5,none]/\ar H H'/\H' lp=some (.lst ((Z.map (·.nm)).map V.str))/\H' U=some (.dK N)/\N.length<=i;ef (K:=K) (a:=lp) (xs:=(Z.map (·.nm)).map V.str) I (none,none,[],O,Tg,MI,s2 _ _ e1,DX _) (λi Y H' _ h=>by
   let(_,_,_,_,_,h,_):=h
   show bh.of h) ?_ ?_)
 ·rintro i z Y H4 hi ⟨o4,o5,N,rfl,S,l4,e4,lk⟩
  rw [ir,ir] at hi;let(x,hx,rfl):=MK.mp hi;let(p,hp,rfl):=MK.mp hx;let mp:p∈Z:=IH hp;let il:i<Z.length:=(be.mp hp).1;let R4:=R.gO S;let(X,B,G,pB,u,y,j,c,W4):=R4.ex;let mpn:p.nm∈(Z.map λp=>(p.nm,IY p.sp)).map (·.1):=by rw [kg];show GV.mpr (p,mp,O)
  show(_,O,_,O,a,C,X,_,_,_,O,c.obj,O,MW,_,O,a,X,B,G,pB,_,_,u,y,j,_,p.nm,p.ws,O,c,W4,abB g.np,GV.mpr (p,mp,O),mpn,λm vs H5 M n5 e5 p5=>?_);let lv:vs.length=p.ws.length:=Mx p5;show(m,_,O,.inl (bh.of e5),_,_,O,O,?_);let tk:=take_snoc hp;let wn:aV (Z.take (i+1))=aV (Z.take i)+p.ws.length:=by rw [tk,abq]
  let wt:=abg hp;let eb:(aV (Z.take i):Int)+((vs.length:Nat):Int)=((aV (Z.take (i+1)):Nat):Int):=by rw [wn,lv];omega
  let T:=S.trans M;let VF:=T _ _ hn;dsimp only;rw [eb];show(_,O,_,O,_,O,_,O,_,O,nl,_,O,bh.of VF,?_);rw [zam cr cr];intros m2 n6 H6 L e6;let e46:=L _ _ (M _ _ e4);show(_,O,_,O,U,_,O,mS.k (k:=.inr p.nm) e46 (L_ (show N.length<=1000 by omega) eY),?_);let J:=M.trans L;let lpk:=iD N (.inr p.nm) (.ref m2);show(_,O,_,_,putK N (.inr p.nm) (.ref m2),O,λb o e=>?_,?_,af,cr)
  ·rw [ag (aj e nU)]
   show J _ _ (S _ _ e)
  ·rw [ag Xs]
   show J _ _ l4
 ·rintro Y H4 ⟨o4,o5,N,rfl,S,l4,e4,lk⟩
  let R4:=R.gO S;let(X,B,G,pB,u,y,j,c,W4):=R4.ex;show(_,O,a,C,X,_,_,_,O,c.obj,O,MB,a,X,B,G,pB,_,_,u,y,j,O,c,λlb H5 M nlb Xt=>?_);rw [agw] at Xt;let T:=S.trans M;show(_,O,_,O,_,O,nl,_,O,bh.of (T _ _ hn),?_);let hw:aV Z<=us.length:=cr
  rw [Wp,Wp,Uz,iT hw];intros m2 n6 H6 L e6
  let eks:(AP.map (·.nm)).map V.str=(AP.map λb=>(Qw b.nm:Key)).map kV:=by
   rw [P2,P2];rfl
  rw [eks] at Xt;show(lb,m2,AP.map λb=>(Qw b.nm:Key),us.drop (aV Z),O,L _ _ Xt,e6,by rw [Wp];omega,λdT H7 s7 n7 e7=>?_);show(_,O,_,O,qt,?_);intros pt n8 H8 s8 e8;let s58:=(M.trans L).trans (s7.trans s8);let s08:=S.trans s58;show q pt dT U H8 s08 e8
inductive wQ (K:Frag)(C:AZ)(vs:γ)(H:Hp)(Q:VK)(Y:XK):Prop
|mk (a Z:AZ)(AO:υ)(AP:Δ)(us:γ)(_:vs=[.ref a,.ref Z])(_:zO K H C a AO AP)(_:jr AO AP)(_:H Z=some (.lst us))(_:us.length=2*AO.length)(_:∀(d:AZ)(H':Hp),ar H H' ->Q (.ref d) H')
def OY:aw ["F","numbers","motion","at","pin"] α' (ae QT):=sq
def ait (D:Def K mg "motion_from" QT α')(bV:mg "enumerate"=none)(MP:bn P w K mg gN 1 C "pins" M_ (lZ K C)):
  ad P w K mg gN 2 "motion_from" α' (wQ K C):=by
 show D.oo OY λH hr h=>?_;let(a,B,m,AP,Z,rfl,R,g,hn,lu,q):=h;let gl:=g.lp
 show(_,(aa (aC 2 OY.nd fW) (aa (bM M9 rfl (o9 rfl bV (aR (fj (k:=1) (pv 0) hr.mo (Vf P w)))) (g6 rfl (a9 (cB 3 OY.nd) (a9 (cB 4 OY.nd) cM))) (ak (gI (dI hr) (pv 2) (pv 4) (a_ (aJ (bC aE (pv 1) (ay bY ah (pv 3))) (bC aE (pv 1) (ay b9 (ay bY ah (pv 3)) ah)))) rfl))) (ak (aI (pv 2))))),?_);sleep 2
 intro d nd;let J:=av nd (.dK []);let y:(upd H d (.dK [])) d=some (.dK []):=af;generalize upd H d (.dK [])=H1 at J y ⊢;let R1:=R.gO J;let(dx,pP,pW,pB,kP,kW,kB,F1,W1):=R1.ex;show(_,O,a,C,dx,_,_,_,O,F1.obj,O,MP,a,dx,pP,pW,pB,_,_,kP,kW,kB,O,F1,λQ H2 c OW u=>?_);rw [kg] at u;let Tg:=J.trans c;let Xs:Q≠d:=λz=>by erw [z,y] at OW
 show(Q,O,#[_,bh.of u],let I:ce:=λi Y M=>Zz λ(E G:ω) (X:η)=>Y=[bv a,bv B,bv d,E,G]/\ar H M/\M Q=some (.lst ((m.map (·.nm)).map V.str))/\M d=some (.dK X)/\X.length<=i;lQ (K:=K) (a:=Q) (xs:=(m.map (·.nm)).map V.str) I (none,none,[],O,Tg,u,c _ _ y,DX _) (λi Y M _ h=>by
   let(_,_,_,_,_,h,_):=h
   show bh.of h) ?_ ?_)
 ·rintro i z Y N S hi ⟨E,G,X,rfl,T,l4,e4,lk⟩ n9
  rw [ir,ir] at hi;let(x,hx,rfl):=MK.mp hi;let(p,hp,rfl):=MK.mp hx;let il:i<m.length:=(be.mp hp).1;let U:=av n9 (.tup [.int (i:Int),.str p.nm]);let e9:(upd N S (.tup [.int (i:Int),.str p.nm])) S=some (.tup [.int (i:Int),.str p.nm]):=af;generalize upd N S (.tup [.int (i:Int),.str p.nm])=H5 at U e9 ⊢;show(S,_,O,bQ.of e9,O,_,_,O,_,_,O,O,?_);let L:=T.trans U;let VF:=L _ _ hn;let l1:2*i<Z.length:=cr
  let l2:2*i+1<Z.length:=cr
  let c2:IE 2 (i:Int):=#[by decide+kernel,GX (intBits_le_64 cr cr) eY]
  let a1:iP Z (2*(i:Int))=some Z[2*i]:=by
   have:=bI (xs:=Z) (j:=2*i) (gE l1);rwa [show((2*i:Nat):Int)=2*(i:Int) by omega] at this
  let a2:iP Z (2*(i:Int)+1)=some Z[2*i+1]:=by
   have:=bI (xs:=Z) (j:=2*i+1) (gE l2);rwa [show((2*i+1:Nat):Int)=2*(i:Int)+1 by omega] at this
  show(_,O,_,O,_,_,O,O,c2,B,_,_,_,O,O,bh.of VF,a1,_,O,_,O,_,_,O,O,c2,_,_,O,O,B,_,_,_,O,O,bh.of VF,a2,qt,?_);intros t n6 H6 f e6;let A:=f _ _ (U _ _ e4);show(_,O,_,O,d,_,O,mS.k (k:=.inr p.nm) A (L_ (show X.length<=1000 by omega) eY),?_);let lp9:=iD X (.inr p.nm) (.ref t);let kk:∀b o,b≠d->N b=some o->(upd H6 d (.dK (putK X (.inr p.nm) (.ref t)))) b=some o:=λb o n e=>by rw [ag n];show f _ _ (U _ _ e)
  show(_,_,_,O,λb o e=>kk b o (aj e nd) (T _ _ e),kk _ _ Xs l4,af,cr)
 ·rintro Y N ⟨E,G,X,rfl,T,_⟩
  show(_,O,q d _ T)
inductive md (K:Frag)(C:AZ)(vs:γ)(H:Hp)(Q:VK)(M:XK):Prop
|mk (a N X Y pB d:AZ)(ps:Κ)(Z:Ε)(S T R AV:η)(_:vs=[.ref a,.ref d])(_:jf K H C a N X Y pB ps Z S T R)(_:H d=some (.dK AV))(_:(∀U∈AV,∃x∈Z.map (·.1),U.1=.inr x))(_:Z.length<=60)(_:∀H',ar H H' ->Q .cK H')
def jH:aw ["F","told","bars","bar"] ["F","told"] (ae fq):=sq
def akF (D:Def K mg "check_bars" fq ["F","told"])(MB:bn P w K mg gN 1 C "bars" M_ (oj K C)):ad P w K mg gN 2 "check_bars" ["F","told"] (md K C):=by
 show D.oo jH λH g h=>?_;let(a,N,u,A,pB,d,B,M,m,p,j,AV,rfl,R,U,f,hl,q):=h
 show(_,(aa (aC 2 jH.nd (fj (k:=1) (pv 0) g.mo (Vf P w))) (ak (vt (bM M9 rfl (agA (pv 1)) (cB 3 jH.nd) (ak (bR (vg oR (pv 3) (pv 2) rfl) (ak (d_)) bf)))))),?_)
 show(_,O,a,C,N,_,_,_,O,R.obj,O,MB,a,N,u,A,pB,B,M,m,p,j,O,R,λl S Q nl el=>?_);let L:=Q _ _ U;show(_,O,d,AV,O,L,λo=>?_);let k0:aX d S (upd S d (.iL o (.dK AV))):=λb X n e=>by rwa [ag n]
 let ld:l≠d:=λz=>by erw [z,L] at el
 show let I:ce:=λt Y J=>∃(Z:ω),Y=[bv a,bv d,bv l,Z]/\J=upd S d (.iL o (.dK AV));zat (d:=d) (o:=o) (AV:=AV) I (none,O,O) (λt Y J _ h=>by
   let(_,_,rfl):=h
   show af) ?_ ?_
 ·rintro t k y Y H6 GP ⟨Z,rfl,rfl⟩
  let(x,i,ex):=f _ (IH GP);let T:k=.inr x:=ex;subst T;show(_,O,_,O,l,_,O,.inl (bh.of (by rwa [ag ld])),O,zM _,_,O,bP (λc=>?_) (λ_=>(_,O,O)));let c':(!inV (.str x) ((M.map (·.1)).map V.str))=true:=c;erw [v9,P9 i] at c'
 ·rintro Y H6 ⟨Z,rfl,rfl⟩
  show(d,o,AV,af,λX E z=>(by have G:H d=some (.iL X E):=z;erw [U] at G),q _ λb X e=>?_);by_cases n:b=d
  ·subst n
   rw [U] at e;rwa [af]
  ·rw [ag n,ag n]
   show Q _ _ e
def adR (h:r<=0):(qr r).1<=0:=by
 change r.num<=0;have:=OD (q:= -r);let Y:0<= -r:=by grind
 let Z:=this.mpr Y;rw [Rat.neg_num] at Z;omega
def adS (h:0<=r):0<=(qr r).1:=OD.mpr h
inductive MQ (K:Frag)(vs:γ)(H:Hp)(Q:VK)(Z:XK):Prop
|mk (v:V)(r:Rat×Rat)(_:vs=[v])(_:gP K H v r)(_:r.1<=0)(_:0<=r.2)(_:Q (.bl true) H)
def aj8:aw ["two"] ["two"] (ae fC):=sq
def aiw (D:Def K mg "has_nought" fC ["two"]):ad P w K mg gN 1 "has_nought" ["two"] (MQ K):=by
 show D.op aj8 λf G A I s H N Q E J h=>?_;let(v,r,rfl,(a,L,M,rfl,Z,(R,rfl,T),(S,rfl,U)),X,Y,q):=h;show(_,(ak (aI (afj aa8 aa8 (aH (aH (pv 0))) ah (aH (aH (pv 0)))))),_,O,a,_,_,_,O,O,Z,iM,R,_,_,_,O,O,T,iM,_,_,O,O,_,O,bP (λ_=>?_) (λc=>DB (P9 (adR X)) c));show(_,O,a,_,_,_,O,O,Z,iK,S,_,_,_,O,O,U,iM,_,_,O,O,?_);let e:decide ((0:Int)<=(qr r.2).1)=true:=P9 (adS Y);change Q (.bl (decide ((0:Int)<=(qr r.2).1))) H;rwa [e]
theorem abD :∀{Y:List Z} {X:List β} {a:Z} {b:β},Paired F Y X->F a b->Paired F (Y++[a]) (X++[b])
 | _,_,_,_,.nil,h=>.cons h .nil
 | _,_,_,_,.cons h t,h'=>.cons h (abD t h')
inductive MR (K:Frag)(C:AZ)(vs:γ)(H:Hp)(Q:VK)(Y:XK):Prop
|mk (a d:AZ)(AO:υ)(AP:Δ)(AV:η)(B:Λ)(_:vs=[.ref a,.ref d])(_:zO K H C a AO AP)(_:AP.length<=60)(_:H d=some (.dK AV))(_:(∀Z∈AV,∃x∈AP.map (·.nm),Z.1=.inr x))(_:(∀b∈AP,∃v,ff AV (.inr b.nm)=some v/\gP K H v (B b.nm)/\(B b.nm).1<=0/\0<=(B b.nm).2))(_:∀(l:AZ)(us:γ)(H':Hp),ar H H' ->H l=none->H' l=some (.lst us)->Paired (gP K H') us (AP.map λb=>B b.nm)->Q (.ref l) H')
def jI:aw ["F","bounds","lows_and_highs","bar"] KO (ae fB):=sq
def aib (D:Def K mg "all_bounds" fB KO)(MB:bn P w K mg gN 1 C "bars" M_ (oj K C))(CP:ad P w K mg gN 2 "check_bars" ["F","told"] (md K C))(CQ:ad P w K mg gN 1 "has_nought" ["two"] (MQ K)):
  ad P w K mg gN 3 "all_bounds" KO (MR K C):=by
 show D.oo jI λH Q h=>?_;let(a,d,AO,S,AV,B,rfl,R,lb,hd,ky,tb,q):=h;let M:((S.map λb=>(b.nm,(b.one.nm,b.kG.nm))).map (·.1))=S.map (·.nm):=by rw [P2];rfl
 show(_,(aa (b_ (aK CP Q (aJ (pv 0) (pv 1)))) (aa (aC 2 jI.nd (bS gC)) (aa (bM M9 rfl (bX (fj (k:=1) (pv 0) Q.mo (Vf P w))) (cB 3 jI.nd) (aa (bR (PW.pt (GY (nJ (mD (dI Q) (pv 3) (pv 1))) (AN (T_ (vD (aK CQ Q (aR (jk (dI Q) (pv 1) (pv 3) (λ_ _=>O))))))))) (ak (d_)) bf) (ak (b_ (ku Us σ3 σ2 eE (pv 2) (aR (jk (dI Q) (pv 1) (pv 3) (λ_ _=>O)))))))) (ak (aI (pv 2)))))),?_);sleep 3
 let(x,j,m,pB,kP,f,kB,F0,W0):=R.ex;show(_,O,_,O,a,x,j,m,pB,d,_,_,kP,f,kB,AV,O,F0,hd,(by rwa [M]),by rw [Wp];omega,λH1 p=>#[z0L,?_]);intros T n2 H2 s2 G;let Tg:=p.trans s2;let L:H T=none:=p.free n2;let F2:=F0.gO Tg;show(_,O,a,C,x,_,_,_,O,F2.obj,O,MB,a,x,j,m,pB,_,_,kP,f,kB,O,F2,λl H3 u nl y=>?_);rw [M] at y;let ne:l≠T:=λz=>by erw [z,G] at nl
 show(l,O,#[_,bh.of y],let I:ce:=λi Y X=>Tc λ(A:ω) (Z:γ)=>Y=[bv a,bv d,bv T,A]/\ar H X/\X l=some (.lst ((S.map (·.nm)).map V.str))/\X T=some (.lst Z)/\Paired (gP K X) Z ((S.take i).map λb=>B b.nm);ef (K:=K) (a:=l) (xs:=(S.map (·.nm)).map V.str) I (none,[],O,Tg.trans u,y,u _ _ G,.nil) (λi Y X _ h=>by
   let(_,_,_,_,h,_):=h
   show bh.of h) ?_ ?_)
 ·rintro i z Y E hi ⟨A,Z,rfl,U,g,J,N⟩
  obtain ⟨b,eb,rfl⟩:∃b,S[i]?=some b/\z=.str b.nm:=by
   rw [P2,ir] at hi;let(b,e1,G):=MK.mp hi;show(b,e1,G.symm)
  let(v,ev,hv,v1,v2):=tb b (IH eb)
  let dg:∀X:Hp,ar H X ->ia X d (.str b.nm) (some v):=λX s'=>by
   have:=ia.k (k:=.inr b.nm) (s' _ _ hd);rwa [ev] at this
  let lu:Z.length=(S.take i).length:=by
   have:=Mx N;rwa [Wp] at this
  rw [Me] at lu;show(_,O,_,O,d,_,O,dg _ U,_,O,bP (λc=>nomatch c) (λ_=>?_));show(_,O,_,O,d,_,O,dg _ U,v,B b.nm,O,hv.gO U,v1,v2,_,O,bP (λc=>nomatch c) (λ_=>?_));show(_,O,.inl (O,_,bh.of J),_,O,_,O,d,_,O,dg _ U,T,_,_,O,O,J,L_ (show Z.length<=1000 by omega) eY,?_);let st:bw E (upd E T (.lst (Z++[v]))):=.list J;show(_,Z++[v],O,λc o z=>?_,?_,af,?_)
  ·rw [ag (aj z L)]
   show U _ _ z
  ·rw [ag ne]
   show g
  ·rw [take_snoc eb,QC]
   show abD (Paired.cF N λ_ _ z=>z.aY st) ((hv.gO U).aY st)
 ·rintro Y E ⟨A,Z,rfl,U,g,J,N⟩
  rw [Wp,Wp,Uz] at N;show(_,O,q T Z E U L J N)
theorem ip :∀{us:γ} {zs:List Z},us.length=zs.length->(∀(i:Nat)(u:V),us[i]?=some u->∃z,zs[i]?=some z/\R u z)->Paired R us zs
 | [],[],_,_=>.nil
 | u::us,z::zs,l,h=>by
  let(Y,e,hz):=h 0 u rfl;cases e;show .cons hz (ip (by simpa using l) λi u e=>h (i+1) u (by simpa using e))
inductive pS (K:Frag)(vs:γ)(H:Hp)(Q:VK)(X:XK):Prop
|mk (l:AZ)(us:γ)(rs:Μ)(_:vs=[.ref l])(_:H l=some (.lst us))(_:Paired (ie K H) us rs)(_:us.length<=100)(_:∀(Z:AZ)(Y :γ)(H':Hp),ar H H' ->H' Z=some (.lst Y)->Paired (ie K H') Y (rs.map λr=> -r)->Q (.ref Z) H')
def aiu:aw UT UT (ae QU):=sq
def aiv (D:Def K mg "signs_turned" QU UT):ad P w K mg gN 1 "signs_turned" UT (pS K):=by
 show D.oo aiu λH Y h=>?_;let(l,M,J,rfl,N,S,ln,q):=h;let C:=Mx S;show(_,(ak (aI (iw (tn:=["number"]) (fr:=[]) (kI:=[]) (bX (pv 0)) (a_ (aJ (gh dG (bC (gH (K:=K) rfl) (pv 0) ah)) (bC (gH (K:=K) rfl) (pv 0) ah)))))),_,O,l,O,#[_,bh.of N],λg G=>?_);show eG (mw:=[]) (K:=K) (a:=l) (xs:=M) (λi v j=>∃r,J[i]?=some r/\ie K j v (-r)) G (L_ ln eY) (λX Z=>bh.of (Z _ _ N)) (λi v b c T e B ⟨r,o,x⟩=>(r,o,x.aY (bw.ks e B))) ?_ ?_
 ·intro i u X R z Z k
  let(r,U,Y):=aQ S z;obtain ⟨p,rfl,Q⟩:m6 K X u (qr r):=Y.gO Z;show(_,O,p,_,_,_,O,O,Q,iM,_,O,_,O,p,_,_,_,O,O,Q,iK,qt,?_);intros I f H3 L m;show k _ _ L (r,U,I,O,?_);rw [rD];show bQ.of m
 ·intro T X E A Z y
  show q g T X Z y (ip (by rw [E,C,Wp]) λi v e=>?_);let(r,U,Y):=A i v e;show(-r,by rw [ir,U];rfl,Y)
inductive MT (vs:γ)(H:Hp)(Q:VK)(Z:XK):Prop
|mk (u v:V)(x y:Int×Int)(_:vs=[u,v])(_:Nm H u x)(_:Nm H v y)(_:Okn 20000000 x)(_:Okn 20000000 y)(_:Q (.bl (decide (x.1*y.2<y.1*x.2))) H)
def abu:aw My My (ae iR):=sq
def abl (D:Def K mg "is_less" iR My):Fn P w K mg gN CX 1 "is_less" My MT:=by
 show D.oo abu λH R h=>?_;let(u,v,x,y,rfl,(Y,rfl,S),(Z,rfl,T),U,X,q):=h;show(_,(ak (aI (ji kr (ay bY (aH (pv 0)) (aH (pv 1))) (ay bY (aH (pv 1)) (aH (pv 0))) (j5 _)))),?_);let c:∀{i j:Int},intBits i<=20000000->intBits j<=20000000->IE i j:=λa b=>#[GX a eY,GX b eY];show(_,O,Y,_,_,_,O,O,bQ.of S,iM,_,O,Z,_,_,_,O,O,bQ.of T,iK,_,_,O,O,c U.top X.bot,_,O,Z,_,_,_,O,O,bQ.of T,iM,_,O,Y,_,_,_,O,O,bQ.of S,iK,_,_,O,O,c X.top U.bot,_,_,O,O,q)
inductive mM (C:AZ)(vs:γ)(H:Hp)(Q:VK)(S:XK):Prop
|mk (a U Z X Y:AZ)(us:γ)(r c:Nat)(T:Px.Tb)(_:vs=[.ref a])(_:iG H C a U Z X Y us r c T)(_:c<=900)(_:∀(l:AZ)(H':Hp),ar H H' ->H l=none->H' l=some (.lst (((LK c).filter λj=>decide (T.L r j<0)).map λ(i:Nat)=>V.int (i:Int)))->Q (.ref l) H')
def akC:aw M_ M_ (ae dk):=sq
def agz (F:nO K "growing" "Table.growing" dk f fd)(Z:rJ K C)(g:mg "range"=none)(m:mg "len"=none):am P w K mg gN 1 f fd M_ (mM C):=by
 show kc F akC (λG H Q E h=>?_) (λcu A gV s H G Q E b h=>?_)
 ·let(a,X,J,I,B,N,r,c,T,rfl,_):=h
  rfl
 let(a,X,J,I,B,N,r,c,T,rfl,R,y,q):=h;show(_,(ak (aI (we (tn:=["column"]) (fr:=M_) (kI:=[0]) (ck rfl g (aR (aS aG rfl m cn (aR (bx (pv 0) rfl))))) (λ_ _ _ _=>(du (i:=0) (show(["column","self"]:List Str).Nodup from by decide+kernel) rfl (Qk rfl))) (λ_ _ _ _=>(acE (bU kr (bC (oY (K:=K) rfl) (bC (oY (K:=K) rfl) (ahB (K:=K) rfl (pv 1) rfl) (gh dG ah)) (pv 0)) ah))) (pv 0)))),_,O,a,C,X,_,_,O,R.obj,Z.cls,Z.oM,O,I,_,O,.inl (.inl (.inl R.oM)),?_);rw [cC];show(_,O,cr,cr,λD M=>?_);show aag (mw:=[some (.ref a)]) (n:=c) (λj=>decide (T.L r j<0)) M (L_ y eY) ?_ ?_ ?_
 ·intro i S R2 z Y k
  let U:=R.jR Y;let(p,o,u):=U.last;show(_,O,a,C,X,_,_,O,U.obj,Z.cls,Z.ib,O,_,O,J,N,_,_,O,O,.inl (.inl U.ib),o,_,O,p,_,_,_,O,O,.inl (.inl u),ahd cr,_,_,O,O,_,O,k)
 ·intro i S R2 z Y k
  show(_,O,by rwa [Qa])
 ·intro S Y x
  show q D S Y M x
def Two (H:Hp)(v:V)(a k:Nat):Prop:=∃p,v=.ref p/\H p=some (.tup [.int (a:Int),.int (k:Int)])
inductive pU (C:AZ)(vs:γ)(H:Hp)(Q:VK)(S:XK):Prop
|mk (a U Z X Y:AZ)(us:γ)(r c B:Nat)(T:Px.Tb)(v:V)(x k:Nat)(_:vs=[.ref a,v])(_:iG H C a U Z X Y us r c T)(_:Two H v x k)(_:x<r)(_:k<c)(_:Xm r c B T)(_:B<=4000000)(_:∀(u:V)(H':Hp),ar H H' ->Nm H' u (-(T.L r k)*T.L x c,T.L x k)->Q u H')
def kD:aw ["self","two","line"] ["self","two"] (ae dO):=sq
def afo (F:nO K "growth" "Table.growth" dO f fd)(Z:rJ K C):am P w K mg gN 1 f fd ["self","two"] (pU C):=by
 show kc F kD (λJ H Q E h=>?_) (λcu A gV s H J Q E g h=>?_)
 ·let(a,N,U,z,D,Y,r,c,B,T,v,x,k,rfl,_):=h
  rfl
 let(a,N,U,z,D,Y,r,c,B,T,v,x,k,rfl,R,(X,rfl,S),i,b,M,hB,q):=h
 show(_,(aa (aC 2 kD.nd (bC aE (bx (pv 0) rfl) (aH (pv 1)))) (ak (aI (a_ (aJ (ay bY (gh dG (bC aE (bC aE (bx (pv 0) rfl) (gh dG ah)) (aH (pv 1)))) (bC aE (pv 2) (gh dG ah))) (bC aE (pv 2) (aH (pv 1)))))))),?_)
 let(I,o,u):=R.last;let(α2,y,L):=R.line (s:=x) cr;let b1:=M.2 r k cr cr;let j:=M.2 x c cr cr;show(_,O,a,C,N,_,_,O,R.obj,Z.cls,Z.ib,O,_,O,X,_,_,_,O,O,bQ.of S,iM,U,Y,_,_,O,O,.inl (.inl R.ib),y,_,O,a,C,N,_,_,O,R.obj,Z.cls,Z.ib,O,_,O,U,Y,_,_,O,O,.inl (.inl R.ib),o,_,O,X,_,_,_,O,O,bQ.of S,iK,I,_,_,_,O,O,.inl (.inl u),kR cr,_,O,_,O,_,O,α2,_,_,_,O,O,.inl (.inl L),pE,_,_,O,O,dE (m:=B) (n:=B) (by rwa [Uk]) j cr cr,_,O,_,O,X,_,_,_,O,O,bQ.of S,iK,α2,_,_,_,O,O,.inl (.inl L),kR cr,qt,λp G=>?_);show q _ _ (av G _) (p,O,af)
inductive pV (C:AZ)(vs:γ)(H:Hp)(Q:VK)(S:XK):Prop
|mk (a U Z X Y:AZ)(us:γ)(r c B:Nat)(T:Px.Tb)(x y k:Nat)(_:vs=[.ref a,.int (x:Int),.int (y:Int),.int (k:Int)])(_:iG H C a U Z X Y us r c T)(_:x<r)(_:y<r)(_:k<c)(_:Xm r c B T)(_:B<=4000000)(_:Q (.bl (decide (T.L x c*T.L y k<T.L y c*T.L x k\/(T.L x c*T.L y k=T.L y c*T.L x k/\T.dn x<T.dn y)))) H)
def gf:aw ["self","at","best","column","one","other"] zaM (ae cG):=sq
def aks (F:nO K "is_sooner" "Table.is_sooner" cG f fd)(Z:rJ K C):am P w K mg gN 1 f fd zaM (pV C):=by
 show kc F gf (λi H Q E h=>?_) (λcu A gV s H i Q E hr h=>?_)
 ·let(a,Y,S,g,J,U,r,c,B,T,x,y,k,rfl,_):=h
  rfl
 let(a,Y,S,g,J,U,r,c,B,T,x,y,k,rfl,R,hx,hy,hk,M,hB,q):=h
 show(_,(aa (aC 4 gf.nd (ay bY (bC aE (bC aE (bx (pv 0) rfl) (pv 1)) (gh dG ah)) (bC aE (bC aE (bx (pv 0) rfl) (pv 2)) (pv 3)))) (aa (aC 5 gf.nd (ay bY (bC aE (bC aE (bx (pv 0) rfl) (pv 2)) (gh dG ah)) (bC aE (bC aE (bx (pv 0) rfl) (pv 1)) (pv 3)))) (ak (aI (afG (ji kr (pv 4) (pv 5) (j5 _)) (LI (Ua (ji fO (pv 4) (pv 5) (j5 _)) (LI (ji kr (bC aE (bx (pv 0) rfl) (pv 1)) (bC aE (bx (pv 0) rfl) (pv 2)) (j5 _)))))))))),?_);sleep 2
 let(u,j,m):=R.line (s:=x) cr;let(D,o,p):=R.line (s:=y) cr;let b1:=M.2 x c cr cr;let b2:=M.2 y k cr cr;let b3:=M.2 y c cr cr;let b:=M.2 x k cr cr;show(_,O,a,C,Y,_,_,O,R.obj,Z.cls,Z.ib,O,_,O,S,U,_,_,O,O,.inl (.inl R.ib),j,_,O,u,_,_,_,O,O,.inl (.inl m),pE,_,O,a,C,Y,_,_,O,R.obj,Z.cls,Z.ib,O,_,O,S,U,_,_,O,O,.inl (.inl R.ib),o,_,O,D,_,_,_,O,O,.inl (.inl p),kR cr,_,_,O,O,dE b1 b2 cr cr,_,O,a,C,Y,_,_,O,R.obj,Z.cls,Z.ib,O,_,O,S,U,_,_,O,O,.inl (.inl R.ib),o,_,O,D,_,_,_,O,O,.inl (.inl p),pE,_,O,a,C,Y,_,_,O,R.obj,Z.cls,Z.ib,O,_,O,S,U,_,_,O,O,.inl (.inl R.ib),j,_,O,u,_,_,_,O,O,.inl (.inl m),kR cr,_,_,O,O,dE b3 b cr cr,_,O,_,O,_,_,O,O,?_);show(_,O,bP (λG=>?_) (λG=>?_))
 ·have N :=Qd G
  rwa [P9 (.inl N)] at q
 ·have N :=of_decide_eq_false (VA.mpr G)
  show(_,O,_,O,O,_,O,bP (λI=>?_) (λI=>?_))
  ·let X:T.L x c*T.L y k=T.L y c*T.L x k:=by simpa using I
   show(_,O,a,C,Y,_,_,O,R.obj,Z.cls,Z.uk,O,_,O,J,_,_,_,O,O,.inl (.inl R.uk),kR cr,_,O,a,C,Y,_,_,O,R.obj,Z.cls,Z.uk,O,_,O,J,_,_,_,O,O,.inl (.inl R.uk),kR cr,_,_,O,O,?_);by_cases z:T.dn x<T.dn y
   ·rw [P9 (.inr #[X,z])] at q
    let e:decide ((T.dn x:Int)<(T.dn y:Int))=true:=P9 (by exact_mod_cast z);change Q (.bl (decide ((T.dn x:Int)<(T.dn y:Int)))) H;rwa [e]
   ·rw [RI (λh=>h.elim N λy=>z y.2)] at q
    let e:decide ((T.dn x:Int)<(T.dn y:Int))=false:=RI (λy=>z (by exact_mod_cast y));change Q (.bl (decide ((T.dn x:Int)<(T.dn y:Int)))) H;rwa [e]
  ·let X:¬ T.L x c*T.L y k=T.L y c*T.L x k:=by simpa using I
   rwa [RI (λh=>h.elim N λy=>X y.1)] at q
inductive mN (C:AZ)(vs:γ)(H:Hp)(Q:VK)(S:XK):Prop
|mk (a U Z X Y:AZ)(us:γ)(r c B:Nat)(T:Px.Tb)(k:Nat)(_:vs=[.ref a,.int (k:Int)])(_:iG H C a U Z X Y us r c T)(_:r<=900)(_:k<c)(_:Xm r c B T)(_:B<=4000000)(_:((∀s,s<r->T.L s k<=0)->Q .cK H))(_:∀x,ZQ r c T k x->Q (.int (x:Int)) H)
def MY (c n:Nat)(T:Px.Tb)(k a:Nat):Prop:=a<n/\0<T.L a k/\∀s,s<n->0<T.L s k->T.L a c*T.L s k<T.L s c*T.L a k\/(T.L a c*T.L s k=T.L s c*T.L a k/\T.dn a<=T.dn s)
def ake {S Y T Z U X:Int}(N:0<Y)(Q:0<Z)(R:0<X)(x:S*Z<=T*Y)(y:T*X<=U*Z):S*X<=U*Y/\(S*Z<T*Y\/T*X<U*Z->S*X<U*Y):=by
 let L:Z*(S*X)=S*Z*X:=by rw [<-Wx,UL Z]
 let M:Z*(U*Y)=U*Z*Y:=by rw [<-Wx,UL Z]
 let J:T*Y*X=T*X*Y:=by rw [Wx,UL Y,<-Wx]
 let u:=ahK x (ZF R);let v:=ahK y (ZF N);constructor
 ·show Int.le_of_mul_le_mul_left (a:=Z) ?_ Q
  rw [L,M];omega
 ·intro h
  show Int.lt_of_mul_lt_mul_left (a:=Z) ?_ (ZF Q);rw [L,M]
  rcases h with h|h
  ·have:=ais h R
   omega
  ·have:=ais h N
   omega
def MY.next (h:MY c n T k a)(Y:¬ 0<T.L n k\/¬ (T.L n c*T.L a k<T.L a c*T.L n k\/(T.L n c*T.L a k=T.L a c*T.L n k/\T.dn n<T.dn a))):MY c (n+1) T k a:=by
 show(by have:=h.1;omega,h.2.1,λs U Z=>?_);by_cases z:s=n
 ·subst z
  rcases Y with y|y
  ·show DB Z y
  ·let X:¬ T.L s c*T.L a k<T.L a c*T.L s k:=λw=>y (.inl w)
   by_cases e:T.L s c*T.L a k=T.L a c*T.L s k
   ·show .inr #[e.symm,?_]
    have:¬ T.dn s<T.dn a:=λw=>y (.inr #[e,w]);omega
   ·show .inl cr
 ·show h.2.2 s cr Z
def MY.take (h:MY c n T k a)(R:0<T.L n k)(U:T.L n c*T.L a k<T.L a c*T.L n k\/(T.L n c*T.L a k=T.L a c*T.L n k/\T.dn n<T.dn a)):MY c (n+1) T k n:=by
 show(Qg n,R,λs Q S=>?_);by_cases z:s=n
 ·subst z
  show .inr #[O,DX _]
 ·let q:=h.2.2 s cr S
  let x:T.L n c*T.L a k<=T.L a c*T.L n k:=by
   rcases U with w|w
   ·show ZF w
   ·show am4 w.1
  let y:T.L a c*T.L s k<=T.L s c*T.L a k:=by
   rcases q with w|w
   ·show ZF w
   ·show am4 w.1
  let Y:=ake R h.2.1 S x y;by_cases e:T.L n c*T.L s k=T.L s c*T.L n k
  ·show .inr #[e,?_]
   let X:¬ (T.L n c*T.L a k<T.L a c*T.L n k\/T.L a c*T.L s k<T.L s c*T.L a k):=λw=>by
    have:=Y.2 w;omega
   rcases U with w|w
   ·show DB (.inl w) X
   ·rcases q with Z|Z
    ·show DB (.inr Z) X
    ·omega
  ·have:=Y.1
   show .inl cr
def eQ:aw ["self","column","best","at"] za3 (ae cW):=sq
def akd (F:nO K "line_out" "Table.line_out" cW f fd)(N:rJ K C)(bB:mg "range"=none)(bq:mg "len"=none)(MS:bn P w K mg gN 1 C "is_sooner" zaM (pV C)):am P w K mg gN 2 f fd za3 (mN C):=by
 show kc F eQ (λp H Q E h=>?_) (λcu A gV s H p Q E hr h=>?_)
 ·let(a,U,J,q,G,M,r,c,B,T,k,rfl,_):=h
  rfl
 let(a,U,J,q,G,M,r,c,B,T,k,rfl,R,hr9,hk,m,hB,g,j):=h
 show(_,(aa (aC 2 eQ.nd gY) (aa (bM M9 rfl (ck rfl bB (aR (aS aG rfl bq cn (aR (bx (pv 0) rfl))))) (cB 3 eQ.nd) (ak (bR (PW.pt (LH (bU aa9 (bC aE (bC aE (bx (pv 0) rfl) (pv 3)) (pv 1)) ah) (AM (PW.pt (GY (bU qY (pv 2) gY) (AN (vD (d6 (k:=1) (pv 0) hr.mo (pY P w) (b8 (pv 3) (pv 2) (pv 1)))))))))) (ak (aC 2 eQ.nd (pv 3))) bf))) (ak (aI (pv 2))))),?_);sleep 2
 show(_,O,a,C,U,_,_,O,R.obj,N.cls,N.uk,O,G,_,O,.inl (.inl (.inl R.uk)),?_);rw [cC];show(_,O,cr,cr,let I:ce:=λi Y u=>u=H/\∃(o:ω)(b:V),Y=[bv a,some (.int (k:Int)),some b,o]/\((b=.cK/\∀s,s<i->T.L s k<=0)\/∃x:Nat,b=.int (x:Int)/\MY c i T k x);cy (n:=r) I (O,none,.cK,O,.inl #[O,λs h=>DB h (Qn _)]) ?_ ?_)
 ·rintro i Y u hi ⟨rfl,o,b,rfl,Z⟩
  let(p1,e1,e2):=R.line (s:=i) cr;show(_,O,a,C,U,_,_,O,R.obj,N.cls,N.ib,O,_,O,J,M,_,_,O,O,.inl (.inl R.ib),(by rwa [Qa]),_,O,p1,_,_,_,O,O,.inl (.inl e2),kR cr,_,_,O,O,_,O,bP (λy=>?_) (λy=>?_))
  ·have S :0<T.L i k:=Qd y
   rcases Z with ⟨rfl,Z⟩|⟨x,rfl,Z⟩
   ·show(_,O,O,_,O,bP (λ_=>?_) (λn=>DB fN n))
    show Zc (_,O,O,_,_,O,.inr (i,by simp,Qg i,S,λs hs hp=>?_));by_cases z:s=i
    ·rw [z]
     show .inr #[O,DX _]
    ·have:=Z s cr
     omega
   ·let hxi:=Z.1
    show(_,O,O,_,O,bP (λn=>DB n fN) (λ_=>?_));show(_,O,a,C,U,_,_,_,O,R.obj,O,MS,_,O,_,O,_,O,a,U,J,q,G,M,r,c,B,T,i,x,k,by rw [Qa],R,cr,cr,hk,m,hB,?_);show(_,O,bP (λD=>?_) (λD=>?_))
    ·let X:=Qd D
     show(_,O,O,_,_,O,.inr (i,by simp,Z.take S X))
    ·let X:=of_decide_eq_false (VA.mpr D)
     show(O,_,_,O,.inr (x,O,Z.next (.inr X)))
  ·have S :¬ 0<T.L i k:=of_decide_eq_false (VA.mpr y)
   show Za (O,_,_,O,?_)
   rcases Z with ⟨rfl,Z⟩|⟨x,rfl,Z⟩
   ·show .inl #[O,λs hs=>?_]
    by_cases z:s=i
    ·rw [z]
     omega
    ·show Z s cr
   ·show .inr (x,O,Z.next (.inl S))
 ·rintro Y u ⟨rfl,o,b,rfl,Z⟩
  show(_,O,?_)
  rcases Z with ⟨rfl,Z⟩|⟨x,rfl,Z⟩
  ·show g Z
  ·show j x Z
abbrev ap2:Str:=(Qv "Table.next_swap" (ae bH) 0 0 .none).qual++ "<lambda>"
abbrev ap3:Pos:=(220,49,220,81)
def jh (H:Hp)(Z:AZ):Prop:=JI H Z ap3 ap2
inductive wU (C Z:AZ)(vs:γ)(H:Hp)(Q:VK)(R:XK):Prop
|mk (a S Y U X:AZ)(us:γ)(r c B:Nat)(T:Px.Tb)(_:vs=[.ref a])(_:iG H C a S Y U X us r c T)(_:r<=900)(_:c<64)(_:Xm r c B T)(_:B<=4000000)(_:(∀s,s<r->0<=T.L s c))(_:jh H Z)(_:(∀H',aX Z H H' ->jh H' Z->(∀j,j<c->0<=T.L r j)->Q .cK H'))(_:(∀(p:AZ)(k:Nat)(H':Hp),aX Z H H' ->jh H' Z->H' p=some (.tup [.cK,.int (k:Int)])->k<c->T.L r k<0->(∀s,s<r->T.L s k<=0)->Q (.ref p) H'))(_:(∀(p:AZ)(x k:Nat)(H':Hp),aX Z H H' ->jh H' Z->H' p=some (.tup [.int (x:Int),.int (k:Int)])->k<c->T.L r k<0->ZQ r c T k x->(T.L x c=0->∀j,j<c->T.L r j<0->T.ac k<=T.ac j)->Q (.ref p) H'))
def tY (k:aX D H H1)(s:ar H1 H2):aX D H H2:=λb o n e=>s _ _ (k b o n e)
def jh.gO (h:jh H P0)(s:ar H H'):jh H' P0:=by
 rcases h with h|⟨c,Y,Z⟩
 ·show .inl (s _ _ h)
 ·show .inr (c,s _ _ Y,s _ _ Z)
theorem jh.lj (h:jh H P0):∃ps,H P0=some (.lj ps):=by
 rcases h with h|⟨c,Z,_⟩
 ·show#[_,h]
 ·show#[_,Z]
def CS (h:iG H C a dx lL lA lD us r c T)(t:jh H P0)(s:aX P0 H H'):iG H' C a dx lL lA lD us r c T:=h.gO λb o n e=>s b o (λz=>by
 let(Y,Z):=t.lj;erw [z,Z] at e
 show n _ rfl) e
def ae0 {Z:ε}(h:Z.Pairwise (λp q=>p.1<=q.1))(e:Z[0]?=some m0)(Y:m∈Z):m0.1<=m.1:=by
 cases Z with
 | nil=>cases Y
 | cons x r=>
  cases e
  rcases P4.mp Y with z|z
  ·rw [z]
   show Int.le_refl _
  ·show(amV.mp h).1 m z
def c6:aw ["self","best","column","at"] M_ (ae bH):=sq
def akj {oc kV dc pm ct:Value}{od an:Ζ}{sl:Ι}
  (lk:K.lookup f=some (oc,od,.func (fnOf "next_swap" "Table.next_swap" (aq bH) (ao bH) (ae bH) .none kV dc pm an (.ref cA) ct),sl)) (oO:codeIn K (.ref cA) "Table.next_swap"=true)
  (hC:ot K cA P0=true) (hB:BMain mg gN) (tc:rJ K C) (wV:mg "sorted"=none)
  (MG:bn P w K mg gN 1 C "growing" M_ (mM C)) (MO:bn P w K mg gN 2 C "line_out" za3 (mN C)) (MW:bn P w K mg gN 1 C "growth" ["self","two"] (pU C))
  (RJ:ad P w K mg gN 1 "is_less" My MT):am P w K mg gN 3 f (fnOf "next_swap" "Table.next_swap" (aq bH) (ao bH) (ae bH) .none kV dc pm an (.ref cA) ct) M_ (wU C P0):=by
 show afX lk oO c6 (λvs H Q E h=>?_) (λA gV s H vs Q E hr h=>?_)
 ·let(a,M,lL,lA,lD,us,r,c,B,T,rfl,_):=h
  rfl
 let(a,M,lL,lA,lD,us,r,c,B,T,rfl,R,hr9,hc,sz,hBB,Xl,tb,q0,q1,q2):=h;let px:∀{X:Cx},Passes (aU P w) X.ve E0:=λ{X}=>tI (X:=X) (aU.BB (P:=P) (w:=w))
 show(_,(aa (aC 1 c6.nd gY) (aa (bM M9 rfl (bX (zax (si:=0) rfl wV (fj (k:=1) (pv 0) hr.mo px) rfl rfl (α8 (Qk rfl)) rfl hC hB (Ty.cp.two hr))) (cB 2 c6.nd) (aa (aC 3 c6.nd (d6 (k:=2) (pv 0) hr.mo px (aR (pv 2)))) (aa (bR (bU qY (pv 3) gY) (ak (aI (a_ (aJ gY (pv 2))))) bf) (ak (bR (PW.pt (GY (bU qY (pv 1) gY) (AN (vD (tJ RJ hr.mo px (aJ (d6 (k:=1) (pv 0) hr.mo px (aR (pv 1))) (d6 (k:=1) (pv 0) hr.mo px (aR (a_ (aJ (pv 3) (pv 2))))))))))) (ak (aC 1 c6.nd (a_ (aJ (pv 3) (pv 2))))) bf))))) (ak (aI (pv 1))))),?_);sleep 2
 show(_,O,a,C,M,_,_,_,O,R.obj,O,MG,a,M,lL,lA,lD,us,r,c,T,O,R,cr,λl H1 s1 nl hl=>?_);let R1:=R.jR s1;let ap5:((LK c).filter λj=>decide (T.L r j<0)).length<64:=L_ (vV _ _) (by simpa using hc);let D:∀j,j∈(LK c).filter (λj=>decide (T.L r j<0)) ↔ j<c/\T.L r j<0:=λj=>by simp
 generalize hcs:(LK c).filter (λj=>decide (T.L r j<0))=cs at*;show(l,a,C,M,lA,cs,cs.map (λj=>(T.ac j:Int)),_,_,O,.inl (.inl hl),ap5,O,R1.obj,tc.cls,tc.oM,O,.inl (.inl R1.oM),by simp,λi x k e1 e2=>?_,tb.gO s1,λl' ms H2 k2 tb2 nl' pm pw ZA =>?_)
 ·rw [ir,e1] at e2
  cases e2;show jF ((D x).mp (IH e1)).1
 let g:aX P0 H H2:=λb o n e=>k2 b o n (s1 _ _ e);let R2:=CS R tb g
 let ap6:∀m∈ms,∃j:Nat,j<c/\T.L r j<0/\m=((T.ac j:Int),(j:Int)):=λm hm=>by
  have:=pm.mem_iff.mp hm;rw [anQ] at this;let(j,U,e):=GV.mp this;show(j,((D j).mp U).1,((D j).mp U).2,e.symm)
 let aix:∀j:Nat,j<c->T.L r j<0->((T.ac j:Int),(j:Int))∈ms:=λj h1 h2=>by
  show pm.mem_iff.mpr ?_;rw [anQ];show GV.mpr (j,(D j).mpr #[h1,h2],O)
 let vy:∀(i:Nat)(v:V),(ms.map λp=>V.int p.2)[i]?=some v->∃j:Nat,j<c/\T.L r j<0/\ms[i]?=some ((T.ac j:Int),(j:Int))/\v=.int (j:Int):=λi v e=>by
  rw [ir] at e;let(m,em,rfl):=MK.mp e;let(j,h1,h2,rfl):=ap6 m (IH em);show(j,h1,h2,em,O)
 let okn:∀x k:Nat,x<r->k<c->0<T.L x k->Okn 20000000 (-(T.L r k)*T.L x c,T.L x k):=λx k hx hk hp=>(hp,by
  have:=j_ (a:= -(T.L r k)) (b:=T.L x c) (m:=B) (n:=B) (by rw [Uk];show sz.2 r k cr cr) (sz.2 x c cr cr)
  show iu this cr,iu (sz.2 x k cr cr) cr)
 show(l',O,#[_,.inl (.inl ZA)],let I:ce:=λi Y y=>ar H2 y/\∃(b:V)(o1 o2:ω),Y=[bv a,some b,o1,o2]/\((b=.cK/\i=0)\/∃x k:Nat,Two y b x k/\k<c/\T.L r k<0/\ZQ r c T k x/\(T.L x c=0->ms[0]?=some ((T.ac k:Int),(k:Int))));ef (K:=K) (a:=l') (xs:=ms.map λp=>V.int p.2) I
  (ar.refl _,.cK,none,none,O,.inl #[O,O]) (λi Y y _ ⟨S,_⟩=>S.seq (.inl (.inl ZA))) ?_ ?_)
 ·rintro i u Y y hu ⟨S,b,o1,o2,rfl,hb⟩
  let(j,U,hn,em,rfl):=vy i u hu;let R':=R2.jR S;let ks:aX P0 H y:=tY g S;show(_,O,a,C,M,_,_,_,O,R'.obj,O,MO,_,O,a,M,lL,lA,lD,us,r,c,B,T,j,O,R',hr9,U,sz,hBB,λLU=>?_,λx hx=>?_)
  ·show(_,O,O,_,O,bP (λ_=>?_) (λn=>DB fN n))
   show(_,O,qt,λp np=>?_);let sp:=av np (.tup [.cK,.int (j:Int)]);show q1 p j _ (tY ks sp) (jh.gO (jh.gO tb2 S) sp) af U hn LU
  ·show(_,O,O,_,O,bP (λn=>DB n fN) (λ_=>?_))
   rcases hb with ⟨rfl,rfl⟩|⟨q,k0,⟨p0,rfl,G⟩,N,hn0,Z,hf0⟩
   ·show(_,O,O,_,O,bP (λ_=>?_) (λn=>DB fN n))
    show Zc (_,O,_,O,qt,λp np=>?_);show(S.trans (av np _),_,_,_,O,.inr (x,j,(p,O,af),U,hn,hx,λ_=>em))
   ·show(_,O,O,_,O,bP (λn=>DB n fN) (λ_=>?_))
    show(_,O,a,C,M,_,_,_,O,R'.obj,O,MW,_,O,a,M,lL,lA,lD,us,r,c,B,T,_,q,k0,O,R',(p0,O,G),Z.1,N,sz,hBB,λu1 H3 s3 n1=>?_);let R3:=R'.jR s3;show(_,O,a,C,M,_,_,_,O,R3.obj,O,MW,_,O,_,O,qt,λp4 np4=>?_);let s4:=av np4 (.tup [.int (x:Int),.int (j:Int)]);show(a,M,lL,lA,lD,us,r,c,B,T,_,x,j,O,R3.jR s4,(p4,O,af),hx.1,U,sz,hBB,λu2 H5 s5 n2=>?_);let J:=s4.trans s5;show(u1,u2,_,_,O,n1.gO J,n2,okn q k0 Z.1 N Z.2.1,okn x j hx.1 U hx.2.1,?_);show(_,O,bP (λc1=>?_) (λc1=>?_))
    ·have ur :=Qd c1
     show(_,O,_,O,qt,λp np=>?_);show(S.trans (s3.trans (J.trans (av np _))),_,_,_,O,.inr (x,j,(p,O,af),U,hn,hx,λz=>?_));exfalso;let h1:0<= -(T.L r k0)*T.L q c*T.L x j:=rT (rT cr (Xl q Z.1)) (ZF hx.2.1);simp only [z,Zm,Int.zero_mul] at ur;omega
    ·show(S.trans (s3.trans J),_,_,_,O,.inr (q,k0,(p0,O,J _ _ (s3 _ _ G)),N,hn0,Z,hf0))
 ·rintro Y y ⟨S,b,o1,o2,rfl,hb⟩
  let ks:aX P0 H y:=tY g S;have V1 :=jh.gO tb2 S;show(_,O,?_)
  rcases hb with ⟨rfl,hz⟩|⟨q,k0,⟨p0,rfl,G⟩,N,hn0,Z,hf0⟩
  ·show q0 y ks V1 λj U=>?_
   apply Qi;intro n;have:=aix j U cr;rw [Wp] at hz;erw [IK.mp hz] at this
  ·show q2 p0 q k0 y ks V1 G N hn0 Z λz j U hn=>?_
   have:=ae0 pw (hf0 z) (aix j U hn);simpa using this
def adU (d:Int)(F G:Nat->Int)(k j:Nat):Int:=if j=k then -(F k) else (G k*F j-F k*G j).fdiv d
inductive mO (C:AZ)(vs:γ)(H:Hp)(Q:VK)(S:XK):Prop
|mk (a T Y U X pl Z:AZ)(d:Int)(n k B:Nat)(F G:Nat->Int)(_:vs=[.ref a,.ref pl,.ref Z,.int (k:Int)])(_:H a=some (.ins C T (Vv Y U X d)))(_:H pl=some (.lst (ln n F)))(_:H Z=some (.lst (ln n G)))(_:k<n)(_:n<=900)(_:d≠0)(_:B<=4000000)(_:(∀j,j<n->(F j).natAbs<=2^B))(_:(∀j,j<n->(G j).natAbs<=2^B))(_:∀(l:AZ)(H':Hp),ar H H' ->H l=none->H' l=some (.lst (ln n (adU d F G k)))->Q (.ref l) H')
def fK:aw ["self","line","lead","column","times","less","whole"] zaI (ae dm):=sq
def agm (ht:P.given.tree=none)(F:nO K "swapped" "Table.swapped" dm f fd)(z:rJ K C)(eC:mg "zip"=none):am P w K mg gN 33 f fd zaI (mO C):=by
 show kc F fK (λvs H Q E h=>?_) (λcu A gV s H vs Q E hr h=>?_)
 ·let(a,j,lL,lA,lD,X,U,d,n,k,B,F,G,rfl,_):=h
  rfl
 let(a,j,lL,lA,lD,X,U,d,n,k,B,F,G,rfl,ha,S,L,Y,hn,M,hB,c,g,q):=h
 show(_,(aa (aC 4 fK.nd (bC aE (pv 2) (pv 3))) (aa (aC 5 fK.nd (bC aE (pv 1) (pv 3))) (aa (Mj (i:=6) (tn:=My) (fr:=["times","self","less"]) (kI:=[4,0,5]) fK.nd (lK rfl eC (aJ (pv 1) (pv 2))) (λ_ _ _ _=>(j9 (K:=K) (n:=2) rfl rfl (a9 (du (i:=0) (show(zaS:List Str).Nodup from by decide+kernel) rfl (Qk rfl)) (a9 (du (i:=1) (show(zaS:List Str).Nodup from by decide+kernel) rfl (Qk rfl)) cM)))) (λ_ _ _ _=>j7) (ay (fX ht (Ty.cp.py hr eY) rfl rfl rfl rfl rfl) (ay c9 (ay bY (pv 2) (pv 0)) (ay bY (pv 4) (pv 1))) (ahB (K:=K) rfl (pv 3) rfl))) (aa (g9 (gh dG (pv 5)) (g7 (pv 6) (pv 3) set_list)) (ak (aI (pv 6))))))),?_)
 show(_,O,_,O,U,_,_,_,O,O,.inl (.inl L),kR Y,_,O,_,O,X,_,_,_,O,O,.inl (.inl S),kR Y,_,O,_,O,X,U,O,#[_,.inl (.inl S)],#[_,.inl (.inl L)],λD T=>?_);show lM (K:=K) (a:=X) (b:=U) (xs:=ln n F) (ys:=ln n G) (mw:=[some (.int (G k)),some (.ref a),some (.int (F k))]) (λi v _=>v=.int ((G k*F i-F k*G i).fdiv d)) T (by rw [cC];show L_ hn eY) (by rw [cC,cC]) (λI Z=>.inl (.inl (Z _ _ S))) (λI Z=>.inl (.inl (Z _ _ L))) (λ_ _ _ _ _ _ _ h=>h) ?_ ?_
 ·intro i x y I R J m Z k2
  let N:i<n:=by
   have:=(be.mp J).1
   rwa [cC] at this
  rw [jF N] at J m;cases J;cases m;show(_,O,_,O,_,_,O,O,dE (g k Y) (c i N) cr cr,_,O,_,O,_,_,O,O,dE (c k Y) (g i N) cr cr,_,_,O,O,_,O,a,C,j,_,_,O,Z _ _ ha,z.cls,z.bot,O,_,_,O,O,M,k2 _ _ (ar.refl _) rfl)
 ·intro zs I u ig Z p
  rw [cC] at u;let ez:zs=ln n (λi=>(G k*F i-F k*G i).fdiv d):=wD u λi v _ e=>ig i v e;rw [ez] at p;show(_,O,_,O,_,O,_,O,D,_,_,k,O,O,p,by rw [cC];show pC Y,_,O,?_);show q D _ (λb o e=>?_) T ?_
  ·rw [ag (aj e T)]
   show Z _ _ e
  ·rw [af,BU Y]
   rfl
inductive CT (C:AZ)(vs:γ)(H:Hp)(Q:VK)(R:XK):Prop
|mk (a X U Y Z:AZ)(us:γ)(r c B:Nat)(T:Px.Tb)(x k:Nat)(_:vs=[.ref a,.int (x:Int),.int (k:Int)])(_:iG H C a X U Y Z us r c T)(_:x<r)(_:k<c)(_:r<=800)(_:c<=800)(_:Xm r c B T)(_:B<=4000000)(_:T.d≠0)(_:∀(l:AZ)(S :γ)(H':Hp),(∀b o,b≠a->b≠Y->b≠Z->H b=some o->H' b=some o)->iG H' C a X l Y Z S r c (Px.oK T x k)->Q .cK H')
def iz:aw ["self","at","column","lead","lines","thing"] zaV (ae fG):=sq
def ai2 (F:nO K "swap" "Table.swap" fG f fd)(Y:rJ K C)(cH:mg "list"=none)(MW:bn P w K mg gN 33 C "swapped" zaI (mO C)):am P w K mg gN 34 f fd zaV (CT C):=by
 show kc F iz (λvs H Q E h=>?_) (λcu A gV s H vs Q E hr h=>?_)
 ·let(a,X,lL,J,M,us,r,c,B,T,x,k,rfl,_):=h
  rfl
 let(a,X,lL,J,M,us,r,c,B,T,x,k,rfl,R,hx,hk,hr8,hc8,sz,hB,hd,q):=h
 show(_,(aa (aC 3 iz.nd (bC aE (bx (pv 0) rfl) (pv 1))) (aa (wg (i:=4) (tn:=ZR) (fr:=["self","lead","column"]) (kI:=[0,3,2]) iz.nd (bX (bx (pv 0) rfl)) (afK (P:=P) (w:=w) (K:=K) (mg:=mg) (gN:=gN) (CX:=aU P w) rfl rfl rfl rfl rfl (k:=33) (pv 1) hr.mo (abi (by first|assumption|show aU.BB) rfl) (b8 (pv 0) (pv 2) (pv 3))))
  (aa (g9 (g_ nS rfl cH lJ (aR (pv 3))) (g7 (pv 4) (pv 1) set_list)) (aa (g9 (bx (pv 0) rfl) (g7 (bC aE (pv 4) (pv 1)) (pv 2) set_list)) (aa (jB (pv 0) (pv 4) rfl) (aa (jB (pv 0) (bC aE (pv 3) (pv 2)) rfl) (aa (aC 5 iz.nd (bC aE (bx (pv 0) rfl) (pv 1))) (aa (g9 (bC aE (bx (pv 0) rfl) (pv 2)) (g7 (bx (pv 0) rfl) (pv 1) set_list)) (ak (g9 (pv 5) (g7 (bx (pv 0) rfl) (pv 2) set_list))))))))))),?_);sleep 8
 let(pd,e1,e2):=R.line (s:=x) cr;show(_,O,a,C,X,_,_,O,R.obj,Y.cls,Y.ib,O,_,O,lL,us,_,_,O,O,.inl (.inl R.ib),e1,_,O,a,C,X,_,_,O,R.obj,Y.cls,Y.ib,O,lL,O,#[_,.inl (.inl R.ib)],λD nD=>?_);let ul:=R.row.1;show ka (K:=K) (a:=lL) (xs:=us) (mw:=[some (.ref a),some (.ref pd),some (.int (k:Int))]) (λi v H'=>∃l,v=.ref l/\l≠D/\H l=none/\H' l=some (.lst (ln (c+1) (adU T.d (T.L i) (T.L x) k)))) nD (by rw [ul];show L_ (show r+1<=801 by omega) eY) (λm S=>.inl (.inl (S _ _ R.ib))) (λi v m H3 U hD ks ⟨l,e,G,fl,hl⟩=>(l,e,G,fl,ks _ _ G hl)) ?_ ?_
 ·intro i u m R2 eu S ⟨U,hD⟩ k2
  let hi:i<r+1:=by
   have:=(be.mp eu).1;omega
  let(pi,f1,f2):=R.row.2 i hi;erw [f1] at eu;show(_,O,a,C,X,_,_,_,O,S _ _ R.obj,O,MW,_,O,_,O,_,O,a,X,lL,J,M,pi,pd,T.d,c+1,k,B,T.L i,T.L x,O,S _ _ R.obj,S _ _ f2,S _ _ e2,cr,cr,hd,hB,λj hj=>sz.2 i j hi hj,λj hj=>sz.2 x j cr hj,λl H3 s3 G hl=>?_);show k2 _ _ s3 (l,O,(λz=>by erw [z,hD] at G),S.free G,hl)
 ·intro U m hy ig S hD
  rw [ul] at hy;show(_,O,pd,_,O,.inl (.inl (S _ _ e2)),λZ n2=>?_);let I:Z≠D:=λz=>by erw [z,hD] at n2
  let N:H Z=none:=S.free n2;show(_,O,_,O,D,U,_,x,O,O,(by rwa [ag (IL I)]),by rw [hy];show pC cr,?_);let a2:a≠Z:=aj R.obj N;let aD:a≠D:=aj R.obj nD;show(_,O,a,C,X,_,_,O,(by rw [ag aD,ag a2];show S _ _ R.obj),Y.cls,Y.bot,O,_,O,_,O,D,_,_,(V.ref Z),O,O,.inl (.inl af),bI (by rw [Qs,jY rfl,jY cr]),_,O,Z,_,_,k,O,O,(by rw [ag I,af]),by rw [cC];show pC cr,?_);rw [BU (show k<c+1 by omega)]
  let k5:∀b o,b≠D->b≠Z->m b=some o->(upd (upd (upd m Z (.lst (ln (c+1) (T.L x)))) D (.lst (U.set x (.ref Z)))) Z (.lst (ln (c+1) λj=>if j=k then T.d else T.L x j))) b=some o:=λb o nb1 nb2 e=>by
   rwa [ag nb2,ag nb1,ag nb2]
  let D5:(upd (upd (upd m Z (.lst (ln (c+1) (T.L x)))) D (.lst (U.set x (.ref Z)))) Z (.lst (ln (c+1) λj=>if j=k then T.d else T.L x j))) D=some (.lst (U.set x (.ref Z))):=by
   rw [ag (IL I),af]
  let l5:(upd (upd (upd m Z (.lst (ln (c+1) (T.L x)))) D (.lst (U.set x (.ref Z)))) Z (.lst (ln (c+1) λj=>if j=k then T.d else T.L x j))) Z=some (.lst (ln (c+1) λj=>if j=k then T.d else T.L x j)):=af;generalize upd (upd (upd m Z (.lst (ln (c+1) (T.L x)))) D (.lst (U.set x (.ref Z)))) Z (.lst (ln (c+1) λj=>if j=k then T.d else T.L x j))=H5 at*;let MZ:∀b o,H b=some o->H5 b=some o:=λb o e=>k5 b o (aj e nD) (aj e N) (S _ _ e);let aA:a≠J:=λz=>by have:=R.oM;erw [<-z,R.obj] at this
  let aL:a≠M:=λz=>by have:=R.uk;erw [<-z,R.obj] at this
  let ap:a≠pd:=λz=>by erw [<-z,R.obj] at e2
  let AD:J≠D:=aj R.oM nD;let DD:M≠D:=aj R.uk nD;let A2:J≠Z:=aj R.oM N;let D2:M≠Z:=aj R.uk N;show(_,O,_,O,a,C,X,_,O,MZ _ _ R.obj,Y.cls,Y.ib,(by change 4<1000;decide),?_);rw [abr];show(_,O,_,O,pd,_,_,_,O,O,.inl (.inl (by rw [ag (IL ap)];show MZ _ _ e2)),kR cr,_,O,a,C,X,_,O,af,Y.cls,Y.bot,(by change 4<1000;decide),?_);rw [aaA];generalize e7:upd (upd H5 a (.ins C X (Vv D J M T.d))) a (.ins C X (Vv D J M (T.L x k)))=H7;let o7:H7 a=some (.ins C X (Vv D J M (T.L x k))):=by rw [<-e7,af]
  let g:∀b o,b≠a->H5 b=some o->H7 b=some o:=λb o nb e=>by rwa [<-e7,ag nb,ag nb]
  show(_,O,a,C,X,_,_,O,o7,Y.cls,Y.uk,O,_,O,M,_,_,_,O,O,.inl (.inl (g _ _ (IL aL) (MZ _ _ R.uk))),kR hx,_,O,a,C,X,_,_,O,o7,Y.cls,Y.oM,O,_,O,J,_,_,_,O,O,.inl (.inl (g _ _ (IL aA) (MZ _ _ R.oM))),kR hk,_,O,a,C,X,_,_,O,o7,Y.cls,Y.uk,O,_,O,M,_,_,x,O,O,g _ _ (IL aL) (MZ _ _ R.uk),by rw [cC];show pC hx,?_);rw [BU hx];show(_,O,_,O,a,C,X,_,_,O,(by rwa [ag aL]),Y.cls,Y.oM,O,_,O,J,_,_,k,O,O,(by rw [ag R.neA];show g _ _ (IL aA) (MZ _ _ R.oM)),by rw [cC];show pC hk,?_);rw [BU hk]
  let rp:∀s,s<r+1->∃p,(U.set x (.ref Z))[s]?=some (.ref p)/\H p=none/\p≠D/\H5 p=some (.lst (ln (c+1) ((Px.oK T x k).L s))):=λs hs=>by
   by_cases z:s=x
   ·subst z
    show(Z,by rw [Qs,jY rfl,jY cr],N,I,?_);rw [l5];congr 2;show lS λj _=>?_;change _=(if s=s then (if j=k then T.d else T.L s j) else _);rw [jY rfl]
   ·let e:U[s]?=some (U[s]'cr):=gE cr
    let(l,el,G,fl,hl):=ig s _ e;let ll:l≠Z:=λy=>by erw [y,n2] at hl
    show(l,by rw [Qs,iO (IL z),e,el],fl,G,?_);rw [k5 l _ G ll hl];congr 2;show lS λj _=>?_;change adU T.d (T.L s) (T.L x) k j=(if s=x then _ else if j=k then -(T.L s k) else (T.L x k*T.L s j-T.L s k*T.L x j).fdiv T.d);rw [iO z];rfl
  show q D (U.set x (.ref Z)) _ (λb o n1 n2 n3 e=>by rw [ag n2,ag n3];show g _ _ n1 (MZ _ _ e)) (?_,?_,#[by rwa [HN],λs hs=>?_],?_,?_,R.neA,λs z=>?_,λs z=>?_,IL AD,IL DD)
  ·rw [ag aA,ag aL]
   show o7
  ·rw [ag (IL AD),ag (IL DD)]
   show g _ _ (IL aD) D5
  ·let(p,h1,h2,h3,h4):=rp s hs
   show(p,h1,?_);rw [ag (IL (aj R.oM h2)),ag (IL (aj R.uk h2))];show g _ _ (IL (aj R.obj h2)) h4
  ·rw [af]
   congr 2;show lS λj _=>?_;change (if j=k then (T.dn x:Int) else (T.ac j:Int))=(((if j=k then T.dn x else T.ac j:Nat)):Int);split<;>rfl
  ·rw [ag (IL R.neA),af]
   congr 2;show lS λj _=>?_;change (if j=x then (T.ac k:Int) else (T.dn j:Int))=(((if j=x then T.ac k else T.dn j:Nat)):Int);split<;>rfl
  ·let hs:s<r+1:=by
    have:=(be.mp z).1;rw [HN] at this;omega
   let(p,h1,h2,_):=rp s hs;erw [h1] at z;erw [R.oM] at h2
  ·let hs:s<r+1:=by
    have:=(be.mp z).1;rw [HN] at this;omega
   let(p,h1,h2,_):=rp s hs;erw [h1] at z;erw [R.uk] at h2
inductive CU (C:AZ)(vs:γ)(H:Hp)(Q:VK)(T:XK):Prop
|mk (a U Z:AZ)(us:γ)(r c:Nat)(L:Nat->Nat->Int)(_:vs=[.ref a,.ref Z])(_:H a=some (.ins C U []))(_:H Z=some (.lst us))(_:QK H us (r+1) (c+1) L)(_:r<=800)(_:c<=800)(_:∀(X Y:AZ)(H':Hp),(∀b o,b≠a->H b=some o->H' b=some o)->H X=none->H Y=none->iG H' C a U Z X Y us r c (Px.tb0 c L)->Q .cK H')
def m9:aw ["self","lines","many"] JD (ae fF):=sq
def agy (F:nO K "__init__" "Table.__init__" fF f fd)(S:rJ K C)(bq:mg "len"=none)(cH:mg "list"=none)(bB:mg "range"=none):am P w K mg gN 1 f fd JD (CU C):=by
 show kc F m9 (λvs H Q E h=>?_) (λcu A gV s H vs Q E hr h=>?_)
 ·let(a,Y,Z,k,r,c,L,rfl,_):=h
  rfl
 let(a,Y,Z,k,r,c,L,rfl,ha,I,U,hr8,hc8,q):=h
 show(_,(aa (aC 2 m9.nd (ay c9 (aS aG rfl bq cn (aR (bC aE (pv 1) (gh dG ah)))) ah)) (aa (jB (pv 0) (pv 1) rfl) (aa (jB (pv 0) ah rfl) (aa (jB (pv 0) (acX rfl rfl cH rfl bB (aR (pv 2))) rfl) (ak (jB (pv 0) (ab4 rfl rfl cH rfl bB (aJ (pv 2) (ay c9 (ay b9 (pv 2) (aS aG rfl bq cn (aR (pv 1)))) ah))) rfl)))))),?_);sleep 4
 let(p,e1,e2):=U.2 r (Qg r);have LV :iP k (-1)=some (.ref p):=BS (by rwa [U.1]);show(_,O,_,O,Z,k,_,_,O,O,.inl (.inl I),LV,p,_,O,.inl (.inl (.inl e2)),?_);rw [cC];show(_,_,O,O,?_);dsimp only;rw [show((c+1:Nat):Int)-1=(c:Int) by omega];show(_,O,_,O,a,C,Y,_,O,ha,S.cls,S.ib,(by change 0<1000;decide),_,O,a,C,Y,_,O,af,S.cls,S.bot,(by change 1<1000;decide),?_);rw [show dC "bottom" (.int 1) (dC "lines" (.ref Z) [])=([("lines",.ref Z),("bottom",.int 1)]:List (Str×V)) from ae8];generalize e3:upd (upd H a (.ins C Y (dC "lines" (.ref Z) []))) a (.ins C Y [("lines",.ref Z),("bottom",.int 1)])=H3;let o3:H3 a=some (.ins C Y [("lines",.ref Z),("bottom",.int 1)]):=by rw [<-e3,af]
 let k3:∀b o,b≠a->H b=some o->H3 b=some o:=λb o n e=>by rwa [<-e3,ag n,ag n]
 let f3:∀b,H3 b=none->H b=none:=λb n=>by
  cases z:H b with
  | none=>rfl
  | some o=>
   by_cases y:b=a
   ·rw [y,o3] at n
    cases n
   ·rw [k3 b o y z] at n
    cases n
 show(_,O,c,O,cr,λX g=>(_,O,a,C,Y,_,O,(by rwa [ag (aj o3 g)]),S.cls,S.oM,(by change 2<1000;decide),?_));rw [ae7];let aA:a≠X:=aj o3 g;generalize e4:upd (upd H3 X (.lst ((LK c).map λ(i:Nat)=>V.int (i:Int)))) a (.ins C Y [("lines",.ref Z),("bottom",.int 1),("across",.ref X)])=D;let o4:D a=some (.ins C Y [("lines",.ref Z),("bottom",.int 1),("across",.ref X)]):=by rw [<-e4,af]
 let A4:D X=some (.lst (ln c λi=>(i:Int))):=by rw [<-e4,ag (IL aA),af];rfl
 let x:∀b o,b≠a->H b=some o->D b=some o:=λb o n e=>by rw [<-e4,ag n,ag (aj (k3 b o n e) g)];show k3 b o n e
 let f4:∀b,D b=none->H b=none:=λb n=>by
  cases z:H b with
  | none=>rfl
  | some o=>
   by_cases y:b=a
   ·rw [y,o4] at n
    cases n
   ·rw [x b o y z] at n
    cases n
 let M:Z≠a:=λz=>by erw [z,ha] at I
 show(_,O,_,O,_,O,Z,k,O,.inl (.inl (.inl (x _ _ M I))),_,_,O,O,_,_,O,O,?_);rw [U.1];show(c,r,(show [V.int (c:Int),V.int ((c:Int)+((r+1:Nat):Int)-1)]=[V.int (c:Int),V.int ((c:Int)+r)] by rw [show(c:Int)+((r+1:Nat):Int)-1=(c:Int)+r by omega]),cr,cr,λJ B=>(_,O,a,C,Y,_,O,(by rwa [ag (aj o4 B)]),S.cls,S.uk,(by change 3<1000;decide),?_));rw [ae3];let aD:a≠J:=aj o4 B;let AD:X≠J:=aj A4 B;let N:=f3 X g;let R:=f4 J B
 let T:∀b o,b≠a->D b=some o->(upd (upd D J (.lst ((LK r).map λ(i:Nat)=>V.int ((c:Int)+i)))) a (.ins C Y [("lines",.ref Z),("bottom",.int 1),("across",.ref X),("down",.ref J)])) b=some o:=λb o n e=>by
  rwa [ag n,ag (aj e B)]
 show q X J _ (λb o n e=>T b o n (x b o n e)) N R (af,T _ _ M (x _ _ M I),#[U.1,λs u=>?_],T _ _ (IL aA) A4,?_,AD,λs z=>?_,λs z=>?_,aj I N,aj I R)
 ·let(j,m,G):=U.2 s u
  let pa:j≠a:=λz=>by erw [z,ha] at G
  show(j,m,T _ _ pa (x _ _ pa G))
 ·rw [ag (IL aD),af]
  rfl
 ·let u:s<r+1:=by
   have:=(be.mp z).1;rwa [U.1] at this
  let(j,m,G):=U.2 s u;erw [m] at z;erw [N] at G
 ·let u:s<r+1:=by
   have:=(be.mp z).1;rwa [U.1] at this
  let(j,m,G):=U.2 s u;erw [m] at z;erw [R] at G
structure dS (m:Nat)(S:Φ)(qs:ε):Prop where
 len:qs.length=m
 get:∀t,t<m->qs[t]?=some ((S t).getD (0,1))
def dS.start :dS m (λ_=>none) (JB m ((0:Int),(1:Int))):=#[by simp,λt Z=>by rw [Vh,jY Z];rfl]
def dS.put (h:dS m S qs):dS m (λu=>if u=t then some q else S u) (qs.set t q):=by
 show#[by rw [HN];show h.len,λu Z=>?_];rw [Qs,h.len];by_cases z:t=u
 ·rw [jY z,jY cr,jY z.symm]
  rfl
 ·rw [iO z,iO (IL z)]
  show h.get u Z
def dS.congr (h:dS m S qs)(e:∀t,t<m->S t=S' t):dS m S' qs:=#[h.len,λt Z=>by rw [h.get t Z,e t Z]]
def p_ (X:∀H:Hp,bQ K H aN [.int 0,.int 1])(m:Nat):bT K H (JB m (V.ref aN)) (JB m ((0:Int),(1:Int))):=#[by simp,λi u q Z Y=>by
 rw [Vh] at Z Y;by_cases z:i<m
 ·rw [jY z] at Z Y
  cases Z;cases Y;show(aN,O,X H)
 ·rw [iO z] at Z
  cases Z]
def m6.ks (h:m6 K H v q)(e:H x=some (.lst xs))(k:aX x H H'):m6 K H' v q:=by
 let(p,Y,Z):=h;show(p,Y,?_)
 rcases Z with (Z|⟨o,Z⟩)|Z
 ·show .inl (.inl (k _ _ (λz=>by erw [z,e] at Z) Z))
 ·show .inl (.inr #[o,k _ _ (λz=>by erw [z,e] at Z) Z])
 ·show .inr Z
def vA (h:bT K H us qs)(e:H x=some (.lst xs))(k:aX x H H'):bT K H' us qs:=#[h.1,λi u q Y Z=>m6.ks (h.2 i u q Y Z) e k]
def LD (n:Nat)(e:Nat->Nat)(F:Nat->Int×Int)(t:Nat):Option (Int×Int):=(LK n).foldl (λZ s=>if e s=t then some (F s) else Z) none
def iI :LD (n+1) e F t=if t=e n then some (F n) else LD n e F t:=by
 unfold LD;rw [ZK,am2];change (if e n=t then _ else _)=_;by_cases z:e n=t
 ·rw [jY z,jY z.symm]
 ·rw [iO z,iO (IL z)]
theorem wW :∀{n:Nat},(∀s,s<n->e s≠t)->LD n e F t=none
 | 0,_=>rfl
 | n+1,h=>by
  rw [iI,iO (IL (h n (Qg n)))];show wW λs Z=>h s cr
theorem CV :∀{n:Nat},(∀i j,i<n->j<n->e i=e j->i=j)->s<n->e s=t->LD n e F t=some (F s)
 | 0,_,h,_=>DB h (Qn _)
 | n+1,Y,h,Z=>by
  rw [iI];by_cases z:s=n
  ·rw [jY (by rw [<-z];show Z.symm),z]
  ·rw [iO (λy=>z (Y s n h (Qg n) (Z.trans y)))]
   show CV (λi j U X=>Y i j cr cr) cr Z
inductive rW (K:Frag)(C:AZ)(vs:γ)(H:Hp)(Q:VK)(S:XK):Prop
|mk (a U Z X Y:AZ)(us:γ)(r c:Nat)(T:Px.Tb)(_:vs=[.ref a])(_:iG H C a U Z X Y us r c T)(_:r<=800)(_:c<=800)(_:T.d≠0)(_:∀(x:AZ)(xs:γ)(qs:ε)(H':Hp),ar H H' ->H x=none->H' x=some (.lst xs)->bT K H' xs qs->dS c (LD r T.dn λs=>low (T.L s c) T.d) qs->Q (.ref x) H')
def f7:aw ["table","x","at","thing"] ["table"] (ae dJ):=sq
def afl (hN:∀H:Hp,bQ K H aN [.int 0,.int 1])(kX:mg "NOUGHT"=some (.ref aN))(bq:mg "len"=none)(bV:mg "enumerate"=none)(Z:rJ K C)(D:Def K mg "fitting_list" dJ ["table"])(kY:ad P w K mg gN 33 "lowest_terms" UU dP):ad P w K mg gN 34 "fitting_list" ["table"] (rW K C):=by
 show D.op f7 λf cu A gV s H vs Q E hr h=>?_;let(a,u,lL,lA,lD,us,r,c,T,rfl,R,hr8,hc8,hd,q):=h
 show(_,(aa (aC 1 f7.nd (ay rj (bS (aR (gy (v:=.ref aN) rfl kX rfl))) (aS aG rfl bq cn (aR (bx (pv 0) rfl))))) (aa (bM M9 rfl (o9 rfl bV (aR (bx (pv 0) rfl))) (g6 rfl (a9 (cB 2 f7.nd) (a9 (cB 3 f7.nd) cM))) (ak (bR (bU kr (pv 3) (aS aG rfl bq cn (aR (pv 1)))) (ak (g9 (aK kY hr (aJ (bC aE (bC aE (bx (pv 0) rfl) (pv 2)) (gh dG ah)) (bx (pv 0) rfl))) (g7 (pv 1) (pv 3) set_list))) bf))) (ak (aI (pv 1))))),?_);sleep 2
 show#[qB,λp3 n3=>?_];let G:=av n3 (.lst [V.ref aN]);show(_,O,a,C,u,_,_,O,G _ _ R.obj,Z.cls,Z.oM,O,lA,_,O,.inl (.inl (.inl (G _ _ R.oM))),?_);rw [cC];show(p3,_,_,O,O,af,cr,cr,GX (show 1*(c:Int).toNat<=1000 by omega) eY,λx n4=>?_);let er:(JB (c:Int).toNat [V.ref aN]).flatten=JB c (V.ref aN):=by simp
 rw [er];let s4:=av n4 (.lst (JB c (V.ref aN)));let nx:H x=none:=G.free n4;let vw:=G.trans s4;let R4:=R.jR vw;generalize hH4:upd (upd H p3 (.lst [V.ref aN])) x (.lst (JB c (V.ref aN)))=H4 at*;let x4:H4 x=some (.lst (JB c (V.ref aN))):=by rw [<-hH4,af]
 show(_,O,a,C,u,_,_,O,R4.obj,Z.cls,Z.uk,O,lD,O,#[_,.inl (.inl R4.uk)],let I:ce:=λi Y U=>ar H U/\∃(k m:ω)(xs:γ)(M:ε),Y=[bv a,bv x,k,m]/\U x=some (.lst xs)/\bT K U xs M/\dS c (LD i T.dn λs=>low (T.L s c) T.d) M;lQ (K:=K) (a:=lD) (xs:=ln r λs=>(T.dn s:Int)) I
  (vw,none,none,_,_,O,x4,p_ hN c,dS.start) (λi Y U _ ⟨X,_⟩=>.inl (.inl (X _ _ R.uk))) ?_ ?_)
 ·rintro i v Y U pt hv ⟨X,k,m,xs,M,rfl,g,z,S⟩ j
  let hi:i<r:=by
   have:=(be.mp hv).1
   rwa [cC] at this
  erw [jF hi] at hv;let N:=av j (.tup [.int (i:Int),.int (T.dn i:Int)]);let p:=R.jR (X.trans N);have B :=N _ _ g;have GJ :=z.gO N;let lx:xs.length=c:=z.1.trans S.len;let(p1,e1,e2):=p.line (s:=i) cr;show(pt,_,O,bQ.of af,O,_,_,O,_,_,O,O,_,O,_,O,x,_,O,.inl (.inl (.inl B)),_,_,O,O,_,O,?_);rw [lx];show bP (λc1=>?_) (λc1=>?_)
  ·have ur :T.dn i<c:=by
    have:=Qd c1;omega
   show(_,O,a,C,u,_,_,O,p.obj,Z.cls,Z.ib,O,_,O,lL,us,_,_,O,O,.inl (.inl p.ib),e1,_,O,p1,_,_,_,O,O,.inl (.inl e2),pE,_,O,a,C,u,_,_,O,p.obj,Z.cls,Z.bot,O,_,_,O,hd,λp5 H5 J h5=>?_);show(_,O,_,O,x,xs,_,T.dn i,O,O,J _ _ B,by rw [lx];show pC ur,?_);let ks:aX x H5 (upd H5 x (.lst (xs.set (T.dn i) (.ref p5)))):=aX.upd;show(λb o e=>?_,_,_,_,_,O,af,vA ((GJ.gO J).set (p5,O,bQ.of h5)) (J _ _ B) ks,S.put.congr λt _=>iI.symm);rw [ag (aj e nx)];show J _ _ (N _ _ (X _ _ e))
  ·have ur :¬ T.dn i<c:=λy=>by
    have:=of_decide_eq_false (VA.mpr c1);omega
   show(X.trans N,_,_,_,_,O,B,GJ,S.congr λt ht=>?_);rw [iI,iO cr]
 ·rintro Y U ⟨X,k,m,xs,M,rfl,g,z,S⟩
  rw [cC] at S;show(_,O,q x xs M U X nx g z S)
def eS (i:Nat)(T:Px.Tb)(r k:Nat)(Z:Int)(t:Nat):Option (Int×Int):=(LD i T.dn (λs=>low (-(T.L s k)*Z) (-(T.L r k))) t).or (if t=T.ac k then some (low (T.d*Z) (-(T.L r k))) else none)
def agv :eS (i+1) T r k gb t=if t=T.dn i then some (low (-(T.L i k)*gb) (-(T.L r k))) else eS i T r k gb t:=by
 unfold eS;rw [iI];by_cases z:t=T.dn i
 ·rw [jY z,jY z]
  rfl
 ·rw [iO z,iO z]
inductive rX (K:Frag)(C:AZ)(vs:γ)(H:Hp)(Q:VK)(R:XK):Prop
|mk (a S Y U X:AZ)(us:γ)(r c B k:Nat)(T:Px.Tb)(Z:Int)(_:vs=[.ref a,.int (k:Int),.int Z])(_:iG H C a S Y U X us r c T)(_:r<=800)(_:c<=800)(_:k<c)(_:T.L r k≠0)(_:Xm r c B T)(_:Z.natAbs<=2^B)(_:B<=4000000)(_:∀(x:AZ)(xs:γ)(qs:ε)(H':Hp),ar H H' ->H x=none->H' x=some (.lst xs)->bT K H' xs qs->dS c (eS r T r k Z) qs->Q (.ref x) H')
def dq:aw zav IP (ae cD):=sq
def afe (hN:∀H:Hp,bQ K H aN [.int 0,.int 1])(kX:mg "NOUGHT"=some (.ref aN))(bq:mg "len"=none)(bV:mg "enumerate"=none)(X:rJ K C)(D:Def K mg "endless_list" cD IP)(kY:ad P w K mg gN 33 "lowest_terms" UU dP):ad P w K mg gN 34 "endless_list" IP (rX K C):=by
 show D.op dq λf cu A gV s H vs Q E hr h=>?_;let(a,G,lL,lA,lD,us,r,c,B,k,T,p,rfl,R,hr8,hc8,hk,hnz,sz,bg,hB,q):=h;let hd: -(T.L r k)≠0:=cr
 let(pl,f1,f2):=R.last;let bd:=sz.1
 let loop:∃tt,qv (nN (aU P w) P w K mg gN zav "endless_list" (ae cD) f cu A gV s H E).ve ((ao cD).drop 4) tt/\∀(x:AZ)(U:Hp)(N:γ)(J:ε),H x=none->ar H U->U x=some (.lst N)->bT K U N J->dS c (eS 0 T r k p) J->tt {nx:=λ_ S=>Q .cK S,rt:=Q} [some (.ref a),some (.int (k:Int)),some (.int p),some (.int (c:Int)),some (.int (-(T.L r k))),some (.ref x),none,none] U:=by
  show(_,(aa (bM M9 rfl (o9 rfl bV (aR (bx (pv 0) rfl))) (g6 rfl (a9 (cB 6 dq.nd) (a9 (cB 7 dq.nd) cM))) (ak (bR (bU kr (pv 7) (pv 3)) (ak (g9 (aK kY hr (aJ (ay bY (gh dG (bC aE (bC aE (bx (pv 0) rfl) (pv 6)) (pv 1))) (pv 2)) (pv 4))) (g7 (pv 5) (pv 7) set_list))) bf))) (ak (aI (pv 5)))),?_);try dsimp only [qC,nN,Cx.ve,Cx.yd];intro x U N J nx Z hx5 VF hf5
  show(_,O,a,C,G,_,_,O,Z _ _ R.obj,X.cls,X.uk,O,lD,O,#[_,.inl (.inl (Z _ _ R.uk))],let I:ce:=λi Y S=>ar H S/\∃(o1 o2:ω)(xs:γ)(qs:ε),Y=[bv a,some (.int (k:Int)),some (.int p),some (.int (c:Int)),some (.int (-(T.L r k))),bv x,o1,o2]/\S x=some (.lst xs)/\bT K S xs qs/\dS c (eS i T r k p) qs;lQ (K:=K) (a:=lD) (xs:=ln r λs=>(T.dn s:Int)) I
   (Z,none,none,_,_,O,hx5,VF,hf5) (λi Y S _ ⟨M,_⟩=>.inl (.inl (M _ _ R.uk))) ?_ ?_)
  ·rintro i v Y S pt hv ⟨M,o1,o2,xs,qs,rfl,hx,hn,u⟩ npt
   let hi:i<r:=by
    have:=(be.mp hv).1
    rwa [cC] at this
   erw [jF hi] at hv;let g:=av npt (.tup [.int (i:Int),.int (T.dn i:Int)]);let R':=R.jR (M.trans g);have mX :=g _ _ hx;have GJ :=hn.gO g;let lx:xs.length=c:=hn.1.trans u.len;let(p1,e1,e2):=R'.line (s:=i) cr;show(pt,_,O,bQ.of af,O,_,_,O,_,_,O,O,_,O,_,O,_,_,O,O,_,O,?_);show bP (λz=>?_) (λz=>?_)
   ·have j :T.dn i<c:=by
     have:=Qd z;omega
    show(_,O,a,C,G,_,_,O,R'.obj,X.cls,X.ib,O,_,O,lL,us,_,_,O,O,.inl (.inl R'.ib),e1,_,O,p1,_,_,_,O,O,.inl (.inl e2),kR cr,_,O,_,O,_,_,O,O,dE (m:=B) (n:=B) (by rw [Uk];show sz.2 i k cr cr) bg cr cr,_,O,_,_,O,hd,λp5 U Z h5=>?_);show(_,O,_,O,x,xs,_,T.dn i,O,O,Z _ _ mX,by rw [lx];show pC j,?_);let ks:aX x U (upd U x (.lst (xs.set (T.dn i) (.ref p5)))):=aX.upd;show(λb o e=>?_,_,_,_,_,O,af,vA ((GJ.gO Z).set (p5,O,bQ.of h5)) (Z _ _ mX) ks,u.put.congr λt _=>agv.symm);rw [ag (aj e nx)];show Z _ _ (g _ _ (M _ _ e))
   ·have j :¬ T.dn i<c:=λy=>by
     have:=of_decide_eq_false (VA.mpr z);omega
    show(M.trans g,_,_,_,_,O,mX,GJ,u.congr λt ht=>?_);rw [agv,iO cr]
  ·rintro Y S ⟨M,o1,o2,xs,qs,rfl,hx,hn,u⟩
   rw [cC] at u;show(_,O,q x xs qs S M nx hx hn u)
 let(tt,p2,q2):=loop;show(_,(aa (aC 3 dq.nd (aS aG rfl bq cn (aR (bx (pv 0) rfl)))) (aa (aC 4 dq.nd (gh dG (bC aE (bC aE (bx (pv 0) rfl) (gh dG ah)) (pv 1)))) (aa (aC 5 dq.nd (ay rj (bS (aR (gy (v:=.ref aN) rfl kX rfl))) (pv 3))) (aa (bR (bU kr (bC aE (bx (pv 0) rfl) (pv 1)) (pv 3)) (ak (g9 (aK kY hr (aJ (ay bY (bx (pv 0) rfl) (pv 2)) (pv 4))) (g7 (pv 5) (bC aE (bx (pv 0) rfl) (pv 1)) set_list))) bf) p2)))),_,O,a,C,G,_,_,O,R.obj,X.cls,X.oM,O,lA,_,O,.inl (.inl (.inl R.oM)),?_);rw [cC];show(_,O,a,C,G,_,_,O,R.obj,X.cls,X.ib,O,_,O,lL,us,_,_,O,O,.inl (.inl R.ib),f1,_,O,pl,_,_,_,O,O,.inl (.inl f2),kR cr,_,O,qB,λp3 n3=>?_);let s3:=av n3 (.lst [V.ref aN]);show(_,O,p3,_,_,O,O,af,cr,cr,GX (show 1*(c:Int).toNat<=1000 by omega) eY,λx n4=>?_);let er:(JB (c:Int).toNat [V.ref aN]).flatten=JB c (V.ref aN):=by simp
 rw [er];let s4:=av n4 (.lst (JB c (V.ref aN)));let nx:H x=none:=s3.free n4;let vw:=s3.trans s4;let R4:=R.jR vw;generalize hH4:upd (upd H p3 (.lst [V.ref aN])) x (.lst (JB c (V.ref aN)))=H4 at*;let x4:H4 x=some (.lst (JB c (V.ref aN))):=by rw [<-hH4,af]
 let f0:dS c (λ_=>none) (JB c ((0:Int),(1:Int))):=dS.start;let lx:(JB c (V.ref aN)).length=c:=by simp
 show(_,O,a,C,G,_,_,O,R4.obj,X.cls,X.oM,O,_,O,lA,_,_,_,O,O,.inl (.inl R4.oM),kR hk,_,O,_,_,O,O,_,O,?_);show bP (λz=>?_) (λz=>?_)
 ·have j :T.ac k<c:=by
   have:=Qd z;omega
  show(_,O,a,C,G,_,_,O,R4.obj,X.cls,X.bot,O,_,O,_,_,O,O,dE bd bg cr cr,_,O,_,_,O,hd,λp5 U Z h5=>?_);show(_,O,_,O,a,C,G,_,_,O,Z _ _ R4.obj,X.cls,X.oM,O,_,O,lA,_,_,_,O,O,.inl (.inl (Z _ _ R4.oM)),kR hk,x,_,_,T.ac k,O,O,Z _ _ x4,by rw [lx];show pC j,?_);let ks:aX x U (upd U x (.lst ((JB c (V.ref aN)).set (T.ac k) (.ref p5)))):=aX.upd;show q2 x _ _ _ nx (λb o e=>?_) af (vA (((p_ hN c).gO Z).set (p5,O,bQ.of h5)) (Z _ _ x4) ks) (f0.put.congr λt _=>?_)
  ·rw [ag (aj e nx)]
   show Z _ _ (vw _ _ e)
  ·unfold eS
   rw [show LD 0 T.dn (λs=>low (-(T.L s k)*p) (-(T.L r k))) t=none from rfl];rfl
 ·have j :¬ T.ac k<c:=λy=>by
   have:=of_decide_eq_false (VA.mpr z);omega
  show q2 x _ _ _ nx vw x4 (p_ hN c) (f0.congr λt ht=>?_);unfold eS;rw [show LD 0 T.dn (λs=>low (-(T.L s k)*p) (-(T.L r k))) t=none from rfl,iO cr];rfl
def Whs (H:Hp)(ws:γ)(r:Nat)(b:Nat->Int):Prop:=ws.length=r/\∀i,i<r->∃p l,ws[i]?=some (.ref p)/\H p=some (.tup [.ref l,.int (b i)])
def Whs.gO (h:Whs H ws r b)(s:ar H H'):Whs H' ws r b:=#[h.1,λi Z=>by
 let(p,l,X,Y):=h.2 i Z
 show(p,l,X,s _ _ Y)]
inductive wX (K:Frag)(C:AZ)(vs:γ)(H:Hp)(Q:VK)(N:XK):Prop
|mk (a R X S U Y:AZ)(us ws:γ)(r c B:Nat)(T:Px.Tb)(b:Nat->Int)(Z:Int)(_:vs=[.ref a,.ref Y,.int Z])(_:iG H C a R X S U us r c T)(_:H Y=some (.lst ws))(_:Whs H ws r b)(_:r<=800)(_:c<=800)(_:T.d*Z≠0)(_:(∀j,j<c->T.ac j<c+r))(_:Xm r c B T)(_:Z.natAbs<=2^B)(_:(∀i,i<r->(b i).natAbs<=2^B))(_:B<=4000000)(_:∀(x:AZ)(xs:γ)(qs:ε)(H':Hp),ar H H' ->H x=none->H' x=some (.lst xs)->bT K H' xs qs->dS r (λt=>LD c T.ac (λj=>low (T.L r j*b (T.ac j-c)) (T.d*Z)) (c+t)) qs->Q (.ref x) H')
def eK:aw ["table","wholes","bottom","many","prices","column","thing","times"] KN (ae fw):=sq
def agh (hN:∀H:Hp,bQ K H aN [.int 0,.int 1])(kX:mg "NOUGHT"=some (.ref aN))(bq:mg "len"=none)(bV:mg "enumerate"=none)(X:rJ K C)(D:Def K mg "price_list" fw KN)(kY:ad P w K mg gN 33 "lowest_terms" UU dP):ad P w K mg gN 34 "price_list" KN (wX K C):=by
 show D.op eK λf cu A gV s H vs Q E hr h=>?_;let(a,u,lL,lA,lD,k,us,ws,r,c,B,T,b,gb,rfl,R,hw,hW,hr8,hc8,hd,ym,sz,bg,bb,hB,q):=h
 show(_,(aa (aC 3 eK.nd (aS aG rfl bq cn (aR (bx (pv 0) rfl)))) (aa (aC 4 eK.nd (ay rj (bS (aR (gy (v:=.ref aN) rfl kX rfl))) (aS aG rfl bq cn (aR (pv 1))))) (aa (bM M9 rfl (o9 rfl bV (aR (bx (pv 0) rfl))) (g6 rfl (a9 (cB 5 eK.nd) (a9 (cB 6 eK.nd) cM))) (ak (bR (bU Up (pv 6) (pv 3)) (aa (aC 7 eK.nd (aH (bC aE (pv 1) (ay c9 (pv 6) (pv 3))))) (ak (g9 (aK kY hr (aJ (ay bY (bC aE (bC aE (bx (pv 0) rfl) (gh dG ah)) (pv 5)) (pv 7)) (ay bY (bx (pv 0) rfl) (pv 2)))) (g7 (pv 4) (ay c9 (pv 6) (pv 3)) set_list)))) bf))) (ak (aI (pv 4)))))),?_);sleep 3
 show(_,O,a,C,u,_,_,O,R.obj,X.cls,X.oM,O,lA,_,O,.inl (.inl (.inl R.oM)),?_);rw [cC];show#[qB,λp3 n3=>?_];let m:=av n3 (.lst [V.ref aN]);show(_,O,k,_,O,.inl (.inl (.inl (m _ _ hw))),?_);rw [hW.1];show(p3,_,_,O,O,af,cr,cr,GX (show 1*(r:Int).toNat<=1000 by omega) eY,λx n4=>?_);let er:(JB (r:Int).toNat [V.ref aN]).flatten=JB r (V.ref aN):=by simp
 rw [er];let s4:=av n4 (.lst (JB r (V.ref aN)));let nx:H x=none:=m.free n4;let vw:=m.trans s4;let R4:=R.jR vw;generalize hH4:upd (upd H p3 (.lst [V.ref aN])) x (.lst (JB r (V.ref aN)))=H4 at*;let x4:H4 x=some (.lst (JB r (V.ref aN))):=by rw [<-hH4,af]
 show(_,O,a,C,u,_,_,O,R4.obj,X.cls,X.oM,O,lA,O,#[_,.inl (.inl R4.oM)],let I:ce:=λi Y S=>ar H S/\∃(o1 o2 g:ω)(xs:γ)(M:ε),Y=[bv a,bv k,some (.int gb),some (.int (c:Int)),bv x,o1,o2,g]/\S x=some (.lst xs)/\bT K S xs M/\dS r (λt=>LD i T.ac (λj=>low (T.L r j*b (T.ac j-c)) (T.d*gb)) (c+t)) M;lQ (K:=K) (a:=lA) (xs:=ln c λs=>(T.ac s:Int)) I
  (vw,none,none,none,_,_,O,x4,p_ hN r,dS.start) (λi Y S _ ⟨Z,_⟩=>.inl (.inl (Z _ _ R.oM))) ?_ ?_)
 ·rintro i v Y S pt hv ⟨Z,o1,o2,g,xs,M,rfl,hx,G,N⟩ npt
  let hi:i<c:=by
   have:=(be.mp hv).1
   rwa [cC] at this
  erw [jF hi] at hv;let U:=av npt (.tup [.int (i:Int),.int (T.ac i:Int)]);let p:=R.jR (Z.trans U);let hW':=hW.gO (Z.trans U);have VL :=U _ _ (Z _ _ hw);have mX :=U _ _ hx;have GJ :=G.gO U;let lx:xs.length=r:=G.1.trans N.len;let(p1,e1,e2):=p.last;show(pt,_,O,bQ.of af,O,_,_,O,_,_,O,O,_,O,_,O,_,_,O,O,_,O,?_);show bP (λc1=>?_) (λc1=>?_)
  ·have ur :c<=T.ac i:=by
    have:=Qd c1;omega
   let lt:=ym i hi;let(p6,l6,w1,w2):=hW'.2 (T.ac i-c) cr;let sub:(T.ac i:Int)-(c:Int)=((T.ac i-c:Nat):Int):=cr
   show(_,O,_,O,_,O,_,_,O,O,k,_,_,_,O,O,.inl (.inl VL),(show iP ws ((T.ac i:Int)-(c:Int))=some (.ref p6) by rw [sub];show bI w1),p6,_,_,_,O,O,bQ.of w2,iK,_,O,a,C,u,_,_,O,p.obj,X.cls,X.ib,O,_,O,lL,us,_,_,O,O,.inl (.inl p.ib),e1,_,O,p1,_,_,_,O,O,.inl (.inl e2),kR cr,_,O,_,_,O,O,dE (sz.2 r i cr cr) (bb _ cr) cr cr,_,O,a,C,u,_,_,O,p.obj,X.cls,X.bot,O,_,O,_,_,O,O,dE sz.1 bg cr cr,_,_,O,hd,λp5 H5 J h5=>?_);show(_,O,_,O,_,O,_,_,O,O,x,xs,_,T.ac i-c,O,O,J _ _ mX,(show LR xs.length ((T.ac i:Int)-(c:Int))=some (T.ac i-c) by rw [lx,sub];show pC cr),?_);let ks:aX x H5 (upd H5 x (.lst (xs.set (T.ac i-c) (.ref p5)))):=aX.upd;show(λb' o e=>?_,_,_,_,_,_,O,af,vA ((GJ.gO J).set (p5,O,bQ.of h5)) (J _ _ mX) ks,N.put.congr λt _=>?_)
   ·rw [ag (aj e nx)]
    show J _ _ (U _ _ (Z _ _ e))
   ·rw [iI]
    by_cases z:t=T.ac i-c
    ·rw [jY z,jY cr]
    ·rw [iO z,iO cr]
  ·have ur :¬ c<=T.ac i:=λy=>by
    have:=of_decide_eq_false (VA.mpr c1);omega
   show(Z.trans U,_,_,_,_,_,O,mX,GJ,N.congr λt ht=>?_);rw [iI,iO cr]
 ·rintro Y S ⟨Z,o1,o2,g,xs,M,rfl,hx,G,N⟩
  rw [cC] at N;show(_,O,q x xs M S Z nx hx G N)
def qf (qs:ε)(t:Nat):Rat:=vl (qs.getD t (0,1))
def aF (Z:ξ)(i t:Nat):Rat:=qf (Z.getD i []) t
structure aqc (gs:ε)(aZ:ξ)(gS:ε)(B:Nat)(w:Int×Int)(xq yq:ε):Prop where
 xl:xq.length=gs.length
 yl:yq.length=aZ.length
 xs:∀q∈xq,Sm B B q
 ys:∀q∈yq,Sm B B q
 ws:Sm B B w
 opt:Px.ZH aZ.length gs.length (qf gs) (aF aZ) (qf gS) (vl w) (qf xq) (qf yq)
 yc:∃d:Int,d≠0/\d.natAbs<=2^B/\∀q∈yq,∃n:Int,n.natAbs<=2^B/\vl q=(n:Rat) / (d:Rat)
structure aqd (gs:ε)(aZ:ξ)(B:Nat)(xq:ε):Prop where
 xl:xq.length=gs.length
 xs:∀q∈xq,Sm B B q
 fin:Px.ZI aZ.length gs.length (qf gs) (aF aZ) (qf xq)
def Ti (K:Frag)(H:Hp)(rs:γ)(Z:ξ):Prop:=rs.length=Z.length/\∀i,i<Z.length->∃p Y,rs[i]?=some (.ref p)/\H p=some (.lst Y)/\bT K H Y (Z.getD i [])
theorem Ti.gO (h:Ti K H rs aZ)(s:ar H H'):Ti K H' rs aZ:=#[h.1,λi Y=>by
 let(p,Z,T,U,X):=h.2 i Y
 show(p,Z,T,s _ _ U,X.gO s)]
def bz (r M:Nat):Nat:=(r+1)*(r+1)+M*(r+1)
theorem akK:∀n,Px.fact n<=2^(n*n)
 | 0=>by simp [Px.fact]
 | n+1=>by
  change (n+1)*Px.fact n<=_;let h:n+1<=2^(n+1):=Qr Nat.lt_two_pow_self;show GX (Qq h (akK n)) ?_;rw [<-Uv];show Qt eY ?_;rw [show(n+1)*(n+1)=n*n+n+(n+1) by rw [UP,ani];omega];omega
def IX (G:Px.Good r c A T)(S:∀i j,i<r+1->j<=c->(A i j).natAbs<=2^M):Xm r c (bz r M) T:=by
 let h:=G.bound (X:=2^M) Ur (λi j U Z=>by
  let R:=S i j U Z;generalize (2^M:Nat)=X at R ⊢
  omega)
 let e:Px.fact (r+1)*(2^M)^(r+1)<=2^bz r M:=by
  unfold bz;rw [Uv 2 ((r+1)*(r+1)) (M*(r+1)),Nat.pow_mul 2 M (r+1)];show RE _ (akK _)
 show#[GX h.1 e,λs j Y Z=>GX (h.2 s j Y cr) e]
def me (r c:Nat)(Z:Nat->List Int)(Y:ο)(i j:Nat):Int:=if i<r then (Z i).getD j 0 else if j<c then -(Y.getD j 0) else 0
def rY (h:iB ts qs b)(X:j<qs.length):((ts.getD j 0:Int):Rat)=vl (qs.getD j (0,1))*b:=by
 let U:=h.1;let Y:ts[j]?=some (ts[j]'cr):=gE cr;let Z:qs[j]?=some qs[j]:=gE X;rw [JC,JC,Y,Z];show h.2 j _ _ Y Z
def adu {qs:ε}(h:j<qs.length):(qs++[x]).getD j (0,1)=qs.getD j (0,1):=by
 rw [JC,JC,MF h]
def adL {qs:ε}:(qs++[x]).getD qs.length (0,1)=x:=by
 rw [JC,Mg (DX _),Zl];rfl
def adV {X R:ε}{Y:ξ}(Q:iB Xu X gb)(N:0<gb)
  (S:∀i,i<Y.length->0<bF i/\iB (tsF i) (Y.getD i []++[R.getD i (0,1)]) (bF i)) (U:∀i,i<Y.length->(Y.getD i []).length=X.length):
  Px.Lay Y.length X.length (me Y.length X.length tsF Xu) (qf X) (aF Y) (qf R) bF gb:=by
 show(λi Z=>(S i Z).1,N,λi t Z T=>?_,λi Z=>?_,λt T=>?_,?_)
 ·let h:=rY (S i Z).2 (j:=t) (by rw [JG,U i Z];omega)
  rw [adu (by rwa [U i Z])] at h;unfold me;rwa [jY Z]
 ·let h:=rY (S i Z).2 (j:=X.length) (by rw [JG,U i Z];simp)
  rw [<-U i Z,adL,U i Z] at h;unfold me;rwa [jY Z]
 ·let h:=rY Q T
  unfold me;rw [iO (Qh _),jY T];unfold qf;rw [<-h];push_cast;rfl
 ·unfold me
  rw [iO (Qh _),iO (Qh _)]
theorem qa :∀{n:Nat},LD n e F t=some q->∃s,s<n/\e s=t/\q=F s
 | 0,h=>nomatch h
 | n+1,h=>by
  rw [iI] at h;by_cases z:t=e n
  ·rw [jY z] at h
   cases h;show(n,Qg n,z.symm,O)
  ·rw [iO z] at h
   let(s,X,Y,Z):=qa h;show(s,cr,Y,Z)
def rZ:vl ((0:Int),(1:Int))=0:=by
 unfold vl;decide+kernel
def i9 (h:dS m S qs)(Z:t<m):qf qs t=vl ((S t).getD (0,1)):=by
 unfold qf;rw [JC,h.get t Z];rfl
def dS.sm (h:dS m S qs)(U:∀t q,t<m->S t=some q->Sm B B q):∀q∈qs,Sm B B q:=λq X=>by
 let(t,e):=LP X
 let Z:t<m:=by
  have:=(be.mp e).1;rwa [h.len] at this
 erw [h.get t Z] at e;cases z:S t with
 | none=>show(eY,eY,P1 _,Ur)
 | some Y=>show U t Y Z z
def dS.cd {d:Int}(h:dS m S qs)(U:∀t q,t<m->S t=some q->∃n:Int,n.natAbs<=2^B/\vl q=(n:Rat) / (d:Rat)):∀q∈qs,∃n:Int,n.natAbs<=2^B/\vl q=(n:Rat) / (d:Rat):=λq X=>by
 let(t,e):=LP X
 let Z:t<m:=by
  have:=(be.mp e).1;rwa [h.len] at this
 erw [h.get t Z] at e;cases z:S t with
 | none=>
  show(0,P1 _,?_);change ((0:Int):Rat) / ((1:Int):Rat)=((0:Int):Rat) / (d:Rat);let T:((0:Int):Rat)=0:=rfl;rw [T,Zh,Zh,Rat.zero_mul,Rat.zero_mul]
 | some Y=>show U t Y Z z
def smL (Z:b≠0)(X:t.natAbs<=2^B)(Y:b.natAbs<=2^B):Sm B B (low t b):=(mC Z,oU Z,GX (iV Z) X,GX (iW Z) Y)
section
variable {r c:Nat}{A:Nat->Nat->Int}{T:Px.Tb}{g:Nat->Rat}{a:Nat->Nat->Rat}{l:Nat->Rat}{b:Nat->Int}{gb:Int}
def adW (G:Px.Good r c A T)(L:Px.Lay r c A g a l b gb)(Y:∀j,j<c->0<=T.L r j)(U:dS c (LD r T.dn λs=>low (T.L s c) T.d) xq)(X:dS r (λt=>LD c T.ac (λj=>low (T.L r j*b (T.ac j-c)) (T.d*gb)) (c+t)) yq):
  Px.ZH r c g a l (vl (low (T.L r c) (T.d*gb))) (qf xq) (qf yq):=by
 let I:T.d≠0:=by have:=G.pos;omega
 let Z:T.d*gb≠0:=QD (RL G.pos L.gp);show G.most L Y (λt S=>#[λs M e=>?_,λh=>?_]) (λi R=>#[λj J e=>?_,λh=>?_]) (iY Z)
 ·rw [i9 U S,CV (s:=s) (λi j N Q=>G.dnI i j cr cr) M e]
  show iY I
 ·rw [i9 U S,wW h]
  show rZ
 ·rw [i9 X R,CV (s:=j) (λi j N Q=>G.acI i j N Q) J e]
  change vl (low (T.L r j*b (T.ac j-c)) (T.d*gb))=_;rw [iY Z,e,Ol]
 ·rw [i9 X R,wW h]
  show rZ
def adX (G:Px.Good r c A T)(L:Px.Lay r c A g a l b gb)(U:k<c)(R:T.L r k<0)(free:∀s,s<r->T.L s k<=0)(Z:dS c (eS r T r k gb) xq):Px.ZI r c g a (qf xq):=by
 let S: -(T.L r k)≠0:=cr
 show G.ZJ L U R free λt Y=>(λe=>?_,λs X e=>?_,λh Q=>?_)
 ·rw [i9 Z Y]
  unfold eS;rw [wW (λs X N=>G.JJ k s U cr (e.trans N.symm)),jY e.symm];show iY S
 ·rw [i9 Z Y]
  unfold eS;rw [CV (s:=s) (λi j J M=>G.dnI i j cr cr) X e];show iY S
 ·rw [i9 Z Y]
  unfold eS;rw [wW Q,iO (IL h)];show rZ
end
def V4 (H:Hp)(v:V)(r c:Nat)(T:Px.Tb):Prop:=(v=.cK/\∀j,j<c->0<=T.L r j)\/(∃(p:AZ)(k:Nat),v=.ref p/\H p=some (.tup [.cK,.int (k:Int)])/\k<c/\T.L r k<0/\∀s,s<r->T.L s k<=0)\/
 (∃(p:AZ)(x k:Nat),v=.ref p/\H p=some (.tup [.int (x:Int),.int (k:Int)])/\k<c/\T.L r k<0/\ZQ r c T k x/\(T.L x c=0->∀j,j<c->T.L r j<0->T.ac k<=T.ac j))
def akH (R:iG H C a dx lL lA lD us r c T)(J:r<=900)(I:c<64)(M:Xm r c B T)(G:B<=4000000)(A:∀s,s<r->0<=T.L s c)(N:jh H P0)
  (q:∀v H',aX P0 H H' ->jh H' P0->V4 H' v r c T->Q v H'):wU C P0 [.ref a] H Q E:=
 (a,dx,lL,lA,lD,us,r,c,B,T,O,R,J,I,M,G,A,N,λH' k t h=>q _ _ k t (.inl #[O,h]),λp k H' Z t S U X Y=>q _ _ Z t (.inr (.inl (p,k,O,S,U,X,Y))),λp x k H' Z t S U X Y D=>q _ _ Z t (.inr (.inr (p,x,k,O,S,U,X,Y,D))))
def aiB (ts:ο):ts.map V.int=ln ts.length (λj=>ts.getD j 0):=wD fN λi v Z e=>by
 erw [ir,gE Z] at e;rw [JC,gE Z];rfl
def aiC (K:Frag)(H H':Hp)(R:ε)(Q:ξ)(N:ε)(B:Nat)(v:V):Prop:=
 (∃(p Z X:AZ)(T:V)(xs S:γ)(w:Int×Int)(Y U:ε),v=.ref p/\H' p=some (.tup [.str "most",T,.ref Z,.ref X])/\Nm H' T w/\H' Z=some (.lst xs)/\bT K H' xs Y/\H' X=some (.lst S)/\bT K H' S U/\H Z=none/\H X=none/\Z≠X/\aqc R Q N B w Y U)\/
 (∃(p Z:AZ)(xs:γ)(Y:ε),v=.ref p/\H' p=some (.tup [.str "endless",.ref Z])/\H' Z=some (.lst xs)/\bT K H' xs Y/\H Z=none/\aqd R Q B Y)
inductive M0 (K:Frag)(T:AZ)(vs:γ)(H:Hp)(Q:VK)(L:XK):Prop
|mk (M S N:AZ)(rs R:γ)(Y U:ε)(Z:ξ)(T0 X:Nat)(_:vs=[.ref M,.ref S,.ref N])(_:ac1 K H M Y)(_:bh K H S rs)(_:Ti K H rs Z)(_:bh K H N R)(_:bT K H R U)(_:U.length=Z.length)(_:(∀i,i<Z.length->(Z.getD i []).length=Y.length))(_:(∀q∈Y,Sm T0 X q))(_:(∀q∈U,Sm T0 X q/\0<=q.1))(_:(∀i,i<Z.length->∀q∈Z.getD i [],Sm T0 X q))(_:Y.length<60)(_:Z.length<=60)(_:X*(Y.length+1)<=1900000)(_:bz Z.length (T0+X*(Y.length+1))<=1900000)(_:jh H T)(_:∀v H',aX T H H' ->jh H' T->aiC K H H' Y Z U (bz Z.length (T0+X*(Y.length+1))+(T0+X*(Y.length+1))) v->Q v H')
def fg:aw ["gains","rows","limits","gain","wholes","lines","table","two","worth"] KD (ae iS):=sq
def abx (tc:rJ K C)(eC:mg "zip"=none)(CW:mg "Table"=some (.ref C))(CY:Mk K C fi)(CZ:am P w K mg gN 1 fi fdi JD (CU C))(kh:Binds K fdi JD [])
  (MN:bn P w K mg gN 3 C "next_swap" M_ (wU C P0)) (MW:bn P w K mg gN 34 C "swap" zaV (CT C)) (D:Def K mg "most_of" iS KD)
  (CD:ad P w K mg gN 33 "whole_row" Vu (Rz K)) (kY:ad P w K mg gN 33 "lowest_terms" UU dP) (wY:ad P w K mg gN 34 "fitting_list" ["table"] (rW K C))
  (C_:ad P w K mg gN 34 "price_list" KN (wX K C)) (wZ:ad P w K mg gN 34 "endless_list" IP (rX K C)):ad P w K mg gN 36 "most_of" KD (M0 K P0):=by
 show D.op fg λf cu A gV s H vs Q E hr h=>?_;let(ga,ra,la,rs,ls,gs,N,aZ,T0,B0,rfl,hG,hR,hRw,hL,hN,hll,hrc,smG,aiF,smR,hc6,hr6,hB8,hbz,tb,q):=h
 show(_,(aa (aC 3 fg.nd (aK CD hr (aR (pv 0)))) (aa (Mj (i:=4) (tn:=["row","limit"]) (fr:=[]) (kI:=[]) fg.nd (lK rfl eC (aJ (pv 1) (pv 2))) (λ_ _ _ _=>(j9 (K:=K) (n:=2) rfl rfl (a9 (du (i:=0) (show(["row","limit"]:List Str).Nodup from by decide+kernel) rfl (Qk rfl)) (a9 (du (i:=1) (show(["row","limit"]:List Str).Nodup from by decide+kernel) rfl (Qk rfl)) cM)))) (λ_ _ _ _=>j7) (tS CD hr (aR (ay hV (pv 0) (bS (aR (pv 1))))))) (aa (wg (i:=5) (tn:=["whole"]) (fr:=[]) (kI:=[]) fg.nd (bX (pv 4)) (bC (gH (K:=K) rfl) (pv 0) ah)) (aa (b_ (ku Us σ3 σ2 eE (pv 5) (aR (ay hV (iw (tn:=["top"]) (fr:=[]) (kI:=[]) (bX (aH (pv 3))) (gh dG (pv 0))) (bS (aR ah)))))) (aa (aC 6 fg.nd (amF CY CZ hr.mo rfl CW kh .nil (pY P w) (aR (pv 5)))) (aa (aC 7 fg.nd (fj (k:=3) (pv 6) hr.mo (pY P w))) (aa (oQ M9 (bU akP (pv 7) gY) (aa (bR (bU qY (aH (pv 7)) gY) (ak (aI (a_ (aJ eZ (aK wZ hr (b8 (pv 6) (aH (pv 7)) (aH (pv 3)))))))) bf) (aa (b_ (d6 (k:=34) (pv 6) hr.mo (pY P w) (aJ (aH (pv 7)) (aH (pv 7))))) (ak (aC 7 fg.nd (fj (k:=3) (pv 6) hr.mo (pY P w))))))) (aa (aC 8 fg.nd (aK kY hr (aJ (bC aE (bC aE (bx (pv 6) rfl) (gh dG ah)) (gh dG ah)) (ay bY (bx (pv 6) rfl) (aH (pv 3)))))) (ak (aI (a_ (Lz eZ (b8 (pv 8) (aK wY hr (aR (pv 6))) (aK C_ hr (b8 (pv 6) (pv 4) (aH (pv 3))))))))))))))))),?_);sleep 8
 generalize hM:T0+B0*(gs.length+1)=M at hbz q
 let M1:M<=1900000:=by
  unfold bz at hbz;have:=ID M (show 0<aZ.length+1 by omega);omega
 let M2:M<=bz aZ.length M:=by
  unfold bz;have:=ID M (show 0<aZ.length+1 by omega);omega
 let B0c:B0*gs.length<=B0*(gs.length+1):=amK _ cr;let B01:B0<=B0*(gs.length+1):=ID _ cr;show(_,O,ga,gs,T0,B0,B0*gs.length,O,hG,smG,wH λq hq=>(smG q hq).bot,cr,cr,cr,cr,λpg lg Xu gb H1 s1 nlg hpg hlg gbp gbs hgW hgs=>?_);show(_,O,_,O,ra,la,O,#[_,s1.seq hR],#[_,s1.seq hL],λD1 nD1=>?_);show zI (K:=K) (a:=ra) (b:=la) (xs:=rs) (ys:=ls) (mw:=[]) (λi v H'=>∃(p l:AZ)(ts:ο)(b:Int),v=.ref p/\H' p=some (.tup [.ref l,.int b])/\H' l=some (.lst (ts.map V.int))/\l≠D1/\0<b/\b.natAbs<=2^M/\iB ts (aZ.getD i []++[N.getD i (0,1)]) b/\∀t∈ts,t.natAbs<=2^M) nD1 (by rw [hRw.1];show L_ hr6 eY) (by rw [hRw.1,hN.1,hll]) (λH2 s2=>s2.seq (s1.seq hR)) (λH2 s2=>s2.seq (s1.seq hL)) ?_ ?_ ?_
 ·rintro i v H2 H3 ys hD ks ⟨p,l,ts,b,e,h1,h2,h3,h4⟩
  show(p,l,ts,b,e,ks _ _ (λz=>by erw [z,hD] at h1) h1,ks _ _ h3 h2,h3,h4)
 ·intro i x y H2 R ex ey s2 ⟨ys,hD⟩ k2
  let Z:i<aZ.length:=by
   have:=(be.mp ex).1;rwa [hRw.1] at this
  let(pr,X,r1,r2,r3):=((hRw.gO s1).gO s2).2 i Z;erw [ex] at r1;let hli:i<N.length:=cr
  let el:N[i]?=some N[i]:=gE hli;let nl:=((hN.gO s1).gO s2).2 i y _ ey el;let eg:N.getD i (0,1)=N[i]:=by rw [JC,el];rfl
  show(_,O,_,O,qB,λp3 n3=>?_);let s3:=av n3 (.lst [y]);let ul:X.length=gs.length:=r3.1.trans (hrc i Z);show(pr,p3,X,_,O,O,s3 _ _ r2,af,GX (show X.length+1<=100 by omega) eY,λp4 n4=>?_);let s4:=av n4 (.lst (X++[y]));let s34:=s3.trans s4
  let smX:∀n∈aZ.getD i []++[N[i]],Sm T0 B0 n:=λn hn=>by
   rcases MU.mp hn with z|z
   ·show smR i Z n z
   ·rw [MJ.mp z]
    show(aiF _ (QJ _)).1
  show(p4,aZ.getD i []++[N[i]],T0,B0,B0*(gs.length+1),O,(X++[y],.inl (.inl af),#[by rw [JG,JG,r3.1];rfl,λj u n e1 e2=>?_]),λn hn=>?_,?_,cr,cr,cr,?_,λp l ts b H5 s5 nl5 hp5 hl5 bp bs hW hts=>?_)
  ·by_cases z:j<X.length
   ·rw [MF z] at e1
    rw [MF (by rwa [<-r3.1])] at e2;show(r3.2 j u n e1 e2).gO s34
   ·rw [Mg cr] at e1
    rw [Mg (by rw [<-r3.1];omega)] at e2
    let z0:j-X.length=0:=by
     have:=(be.mp e1).1;simp at this;omega
    rw [z0] at e1;rw [<-r3.1,z0] at e2;cases e1;cases e2;show nl.gO s34
  ·show smX n hn
  ·have:=wH (B:=B0) λq hq=>(smX q hq).bot
   rwa [JG,hrc i Z] at this
  ·rw [JG,hrc i Z]
   change gs.length+1<=1000;omega
  ·show k2 _ _ (s34.trans s5) (p,l,ts,b,O,hp5,hl5,λz=>?_,bp,iC bs (by change B0*(gs.length+1)<=M;omega),by rwa [eg],λt ht=>iC (hts t ht) (by change T0+B0*(gs.length+1)<=M;omega))
   erw [z,s34 _ _ hD] at nl5
 intro zs H2 hz ig s2 α3;rw [hRw.1] at hz;generalize hrr:aZ.length=r at*;generalize LG:gs.length=c at*
 let(α,hZ):=Classical.axiomOfChoice (r:=λ(i:Nat) (z:AZ×AZ×List Int×Int)=>i<r->zs[i]?=some (.ref z.1)/\H2 z.1=some (.tup [.ref z.2.1,.int z.2.2.2])/\H2 z.2.1=some (.lst (z.2.2.1.map V.int))/\0<z.2.2.2/\z.2.2.2.natAbs<=2^M/\iB z.2.2.1 (aZ.getD i []++[N.getD i (0,1)]) z.2.2.2/\∀t∈z.2.2.1,t.natAbs<=2^M) (λi=>by
  by_cases Z:i<r
  ·let e:zs[i]?=some (zs[i]'cr):=gE cr
   let(p,l,ts,b,h0,h1,h2,h3,h4,h5,h6,h7):=ig i _ e;show#[(p,(l,(ts,b))),λ_=>(by rw [e,h0],h1,h2,h4,h5,h6,h7)]
  ·show#[(0,(0,([],0))),λh=>DB h Z])
 show(_,O,D1,O,#[_,.inl (.inl α3)],λD2 nD2=>?_);show eG (K:=K) (a:=D1) (xs:=zs) (mw:=[]) (λi v _=>v=.ref (α i).2.1) nD2 (by rw [hz];show L_ hr6 eY) (λH3 s3=>.inl (.inl (s3 _ _ α3))) (λ_ _ _ _ _ _ _ h=>h) ?_ ?_
 ·intro i u H3 R eu s3 k3
  let Z:i<r:=by
   have:=(be.mp eu).1;omega
  let(z1,z2,_):=hZ i Z;erw [z1] at eu;show(_,O,_,_,_,_,O,O,bQ.of (s3 _ _ z2),iM,k3 _ _ (ar.refl _) rfl)
 intro ys H3 hy VM s3 hD2;rw [hz] at hy;let yk:=s2.trans s3;let aqf:=yk _ _ hpg;let aiG:=yk _ _ hlg;let gtl:Xu.length=c:=by rw [hgW.1,LG]
 show(_,O,.inl (O,_,bh.of hD2),_,O,pg,_,_,_,O,O,bQ.of aqf,iM,lg,O,#[_,.inl (.inl aiG)],λD3 nD3=>?_);show eG (K:=K) (a:=lg) (xs:=Xu.map V.int) (mw:=[]) (λi v _=>v=.int (-(Xu.getD i 0))) nD3 (by rw [Wp,gtl];show P_ hc6 eY) (λH4 s4=>.inl (.inl (s4 _ _ aiG))) (λ_ _ _ _ _ _ _ h=>h) ?_ ?_
 ·intro i u H4 R eu s4 k4
  rw [ir] at eu;let(t,et,rfl):=MK.mp eu;show(_,O,_,O,k4 _ _ (ar.refl _) ?_);rw [JC,et];rfl
 intro ns H4 OC aiH s4 hD3;rw [Wp,gtl] at OC;show#[qB,λp4 n4=>?_];let s5:=av n4 (.lst [V.int 0]);show(D3,p4,_,_,O,O,s5 _ _ hD3,af,GX (show ns.length+1<=100 by omega) eY,λI n5=>?_);let s6:=av n5 (.lst (ns++[V.int 0]));let s46:=s4.trans (s5.trans s6);have aqg :=s46 _ _ hD2;let l46:upd (upd H4 p4 (.lst [V.int 0])) I (.lst (ns++[V.int 0])) I=some (.lst (ns++[V.int 0])):=af;let nl4:H3 I=none:=s4.free (s5.free n5);generalize upd (upd H4 p4 (.lst [V.int 0])) I (.lst (ns++[V.int 0]))=H6 at*;show(D2,ys,_,O,O,aqg,by rw [hy];show L_ hr6 eY,?_);let D2l:I≠D2:=λz=>by erw [z,hD2] at nl4
 let V5:∀b o,H2 b=some o->upd H6 D2 (.lst (ys++[.ref I])) b=some o:=λb o e=>by
  rw [ag (aj e nD2)];show s46 _ _ (s3 _ _ e)
 let D7:upd H6 D2 (.lst (ys++[.ref I])) D2=some (.lst (ys++[.ref I])):=af;let l7:upd H6 D2 (.lst (ys++[.ref I])) I=some (.lst (ns++[V.int 0])):=by rwa [ag D2l]
 generalize upd H6 D2 (.lst (ys++[.ref I]))=H7 at*;let S7:ar H H7:=λb o e=>V5 _ _ (s2 _ _ (s1 _ _ e));generalize hA:me r c (λi=>(α i).2.2.1) Xu=AA
 let OT:QK H7 (ys++[.ref I]) (r+1) (c+1) AA:=by
  show#[by rw [JG,hy];rfl,λs hs=>?_];by_cases z:s<r
  ·let(z1,z2,z3,z4,z5,z6,z7):=hZ s z
   let e:ys[s]?=some (ys[s]'cr):=gE cr;show((α s).2.1,by rw [MF cr,e,VM s _ e],?_);rw [V5 _ _ z3,aiB];let tl:(α s).2.2.1.length=c+1:=by rw [z6.1,JG,hrc s cr];rfl
   rw [tl];congr 2;show lS λj _=>?_;rw [<-hA];unfold me;rw [jY z]
  ·have:s=r:=cr
   subst this;show(I,by rw [Mg cr,hy,Zl];rfl,?_);rw [l7];congr 2;show wD (by rw [JG,OC];rfl) λi v Z e=>?_;rw [<-hA];unfold me;rw [iO (Qh _)];by_cases y:i<c
   ·rw [MF cr] at e
    rw [jY y];show aiH i v e
   ·rw [Mg cr,OC] at e
    rw [iO y];have:i-c=0:=cr
    erw [this] at e;rfl
 let lay:Px.Lay r c AA (qf gs) (aF aZ) (qf N) (λi=>(α i).2.2.2) gb:=by
  rw [<-hA,<-hrr,<-LG];show adV hgW gbp (λi Z=>#[(hZ i cr).2.2.2.1,(hZ i cr).2.2.2.2.2.1]) (λi Z=>by rw [hrc i cr,LG])
 let bA:∀i j,i<r+1->j<=c->(AA i j).natAbs<=2^M:=λi j Z hj=>by
  rw [<-hA];change (if i<r then (α i).2.2.1.getD j 0 else if j<c then -(Xu.getD j 0) else 0).natAbs<=2^M;by_cases z:i<r
  ·rw [jY z]
   let h7:=(hZ i z).2.2.2.2.2.2;by_cases y:j<(α i).2.2.1.length
   ·rw [JC,gE y]
    show h7 _ (QJ _)
   ·rw [JC,JM cr]
    show P1 _
  ·rw [iO z]
   by_cases y:j<c
   ·rw [jY y,Uk,JC,gE cr]
    show iC (hgs _ (QJ _)) cr
   ·rw [iO y]
    show P1 _
 let aiI:∀s,s<r->0<=AA s c:=λs hs=>by
  let h1:=lay.lim s hs
  let h2:0<=(N.getD s (0,1)).1/\0<(N.getD s (0,1)).2:=by
   let hl:s<N.length:=cr
   rw [JC,gE hl];have:=aiF _ (QJ hl);show#[this.2,this.1.pos]
  let h3:(0:Rat)<=qf N s:=by
   unfold qf vl;let a1:(0:Rat)<=((N.getD s (0,1)).1:Rat):=by exact_mod_cast h2.1
   let a2:(0:Rat)<((N.getD s (0,1)).2:Rat):=by exact_mod_cast h2.2
   rw [Zh];show RM a1 (Qm (Zj.mpr a2))
  let h4:(0:Rat)<=(AA s c:Rat):=by
   rw [h1];show RM h3 (Qm (Px.wz (lay.bp s hs)))
  exact_mod_cast h4
 let U:gb.natAbs<=2^M:=iC gbs cr;let aiJ:=V5 _ _ (s2 _ _ hpg);let aiK:=V5 _ _ α3;let wh7:Whs H7 zs r (λi=>(α i).2.2.2):=#[hz,λi Z=>((α i).1,(α i).2.1,(hZ i Z).1,V5 _ _ (hZ i Z).2.1)];let G0:=Px.good0 aiI;let szG:∀T,Px.Good r c AA T->Xm r c (bz r M) T:=λT G=>IX G bA;show(_,O,λa J na ndx ne=>?_)
 let S8:ar H7 (upd (upd H7 J (.own a)) a (.ins C J [])):=λb o e=>by
  rwa [ag (aj e na),ag (aj e ndx)]
 show(a,J,D2,_,r,c,AA,O,af,S8 _ _ D7,OT.gO λb xs _ e=>S8 _ _ e,cr,cr,λlA lD H8 k8 nA nD R8=>#[O,?_]);let S78:ar H7 H8:=λb o e=>k8 b o (aj e na) (S8 _ _ e);let nA7:=S8.free nA;let nD7:=S8.free nD;let Tj:jh H8 P0:=jh.gO (jh.gO tb S7) S78;show(_,O,a,C,J,_,_,_,O,R8.obj,O,MN,?_);dsimp only [iN,gB,gA,gF];show akH R8 cr cr (szG _ G0) cr aiI Tj λv2 H9 k9 tb9 aqk=>?_;let R9:=CS R8 Tj k9;let nP:∀b o,b≠P0->H7 b=some o->H9 b=some o:=λb o n e=>k9 b o n (S78 _ _ e)
 show(λm Y H'=>Td λ(T:Px.Tb) (lL:AZ) (X:γ) (v2:V)=>Y=[bv ga,bv ra,bv la,bv pg,bv D1,bv D2,bv a,some v2,none]/\Px.Good r c AA T/\Px.zY r c m T/\(∀b o,b≠P0->H7 b=some o->H' b=some o)/\iG H' C a J lL lA lD X r c T/\jh H' P0/\V4 H' v2 r c T,
  (_,_,_,_,_,O,G0,Px.halts G0,nP,R9,tb9,aqk),?_)
 rintro m Y H' ⟨T,lL,X,v2,rfl,G,hm,nP',R',V1,aiM⟩
 let adY:∀{b o},H7 b=some o->(∀ps,o≠.lj ps)->b≠P0:=λ{b o} e n z=>by
  let(ps,e'):=jh.lj (jh.gO tb S7);erw [z,e'] at e;show n _ rfl
 have adZ :=nP' _ _ (adY aiJ (λ_ z=>nomatch z)) aiJ;have aql :=nP' _ _ (adY aiK (λ_ z=>nomatch z)) aiK
 let wh':Whs H' zs r (λi=>(α i).2.2.2):=#[hz,λi Z=>by
  let(p,l,e1,e2):=wh7.2 i Z
  show(p,l,e1,nP' _ _ (adY e2 (λ_ z=>nomatch z)) e2)]
 let KS:aX P0 H H':=λb o n e=>nP' b o n (S7 _ _ e);let S:=szG _ G
 let V6:∀b,H' b=none->H b=none:=λb n=>by
  cases z:H b with
  | none=>rfl
  | some o=>
   by_cases y:b=P0
   ·let(ps,e'):=jh.lj V1
    erw [y,e'] at n
   ·rw [KS b o y z] at n
    cases n
 let pB:∀{x y:Int},x.natAbs<=2^bz r M->y.natAbs<=2^M->(x*y).natAbs<=2^(bz r M+M):=λ{x y} h1 h2=>by
  show j_ h1 h2
 let oB:∀{x:Int},x.natAbs<=2^bz r M->x.natAbs<=2^(bz r M+M):=λ{x} h=>iC h cr;show(_,O,O,_,O,bP (λc1=>?_) (λc1=>?_))
 ·show(λY' H''=>∃m',m'<m/\∃(T:Px.Tb)(lL:AZ)(X:γ)(v2:V),Y' =[some (.ref ga),some (.ref ra),some (.ref la),some (.ref pg),some (.ref D1),some (.ref D2),some (.ref a),some v2,none]/\Px.Good r c AA T/\Px.zY r c m' T/\(∀b o,b≠P0->H7 b=some o->H'' b=some o)/\iG H'' C a J lL lA lD X r c T/\jh H'' P0/\V4 H'' v2 r c T,λ_ _ ⟨m',h1,T',lL',jg,v2',h⟩=>(m',h1,T',lL',jg,v2',h),?_)
  rcases aiM with ⟨rfl,_⟩|⟨p,k,rfl,hp,hk,hn,free⟩|⟨p,x,k,rfl,hp,hk,hn,out,aiN⟩
  ·show DB c1 fN
  ·show(_,O,p,_,_,_,O,O,bQ.of hp,iM,O,_,O,bP (λ_=>?_) (λn=>DB fN n))
   show(_,O,_,O,p,_,_,_,O,O,bQ.of hp,iK,_,O,pg,_,_,_,O,O,bQ.of adZ,iK,a,J,lL,lA,lD,X,r,c,bz r M,k,T,gb,O,R',cr,cr,hk,cr,S,iC U M2,cr,λlx xs xq Oa yh nx hx hxn hf=>?_);show#[qt,λpt npt=>?_];let sp:=av npt (.tup [.str "endless",.ref lx]);show q _ _ (tY (tY KS yh) sp) (jh.gO (jh.gO V1 yh) sp) (.inr (pt,lx,xs,xq,O,af,sp _ _ hx,hxn.gO sp,V6 _ nx,(by rw [hf.len,LG],hf.sm λt qq ht e=>?_,?_)))
   ·unfold eS at e
    cases z:LD r T.dn (λs=>low (-(T.L s k)*gb) (-(T.L r k))) t with
    | some q'=>
     erw [z] at e;let(s,hs,_,rfl):=qa z;show smL cr (pB (by rw [Uk];show S.2 s k cr cr) U) (oB (by rw [Uk];show S.2 r k cr cr))
    | none=>
     rw [z] at e;by_cases y:t=T.ac k
     ·rw [jY y] at e
      cases e;show smL cr (pB S.1 U) (oB (by rw [Uk];show S.2 r k cr cr))
     ·rw [iO y] at e
      cases e
   ·rw [hrr,LG]
    show adX G lay hk hn free hf
  ·show(_,O,p,_,_,_,O,O,bQ.of hp,iM,O,_,O,bP (λn=>DB n fN) (λ_=>?_))
   show(_,O,a,C,J,_,_,_,O,R'.obj,O,MW,_,O,p,_,_,_,O,O,bQ.of hp,iM,_,O,p,_,_,_,O,O,bQ.of hp,iK,a,J,lL,lA,lD,X,r,c,bz r M,T,x,k,O,R',out.1,hk,cr,cr,S,cr,by have:=G.pos;omega,λlL2 uo Oa k10 R10=>?_);let stp:Px.OJ r c T (Px.oK T x k) x k:=(out.1,hk,hn,out.2.1,out.2.2,aiN,O);let G10:=stp.good G;let o10:∀b o,H7 b=some o->H' b=some o->Oa b=some o:=λb o e e'=>k10 b o (aj e na) (aj e nA7) (aj e nD7) e'
   let M6:jh Oa P0:=by
    let nn:∀b o,(∀fs C J,o≠.ins C J fs)->(∀xs,o≠.lst xs)->H' b=some o->Oa b=some o:=λb o h1 h2 e=>k10 b o (λz=>by erw [z,R'.obj] at e;show h1 _ _ _ rfl) (λz=>by erw [z,R'.oM] at e;show h2 _ rfl) (λz=>by erw [z,R'.uk] at e;show h2 _ rfl) e
    rcases V1 with e|⟨cc',e1,e2⟩
    ·show .inl (nn _ _ (λ_ _ _ z=>nomatch z) (λ_ z=>nomatch z) e)
    ·show .inr (cc',nn _ _ (λ_ _ _ z=>nomatch z) (λ_ z=>nomatch z) e1,nn _ _ (λ_ _ _ z=>nomatch z) (λ_ z=>nomatch z) e2)
   show(_,O,a,C,J,_,_,_,O,R10.obj,O,MN,?_);dsimp only [iN,gB,gA,gF];show akH R10 cr cr (szG _ G10) cr G10.Xl M6 λv3 S5 k11 ad0 aiO=>?_
   obtain ⟨m',rfl,Zp⟩:∃m',m=m'+1/\Px.zY r c m' (Px.oK T x k):=by
    cases m with
    | zero=>show DB (x,k,stp) (hm _)
    | succ m'=>show(m',O,hm _ (x,k,stp))
   show(m',Qg _,_,_,_,_,O,G10,Zp,λb o n e=>k11 b o n (o10 b o e (nP' b o n e)),CS R10 M6 k11,ad0,aiO)
 ·let hv2:v2=.cK:=by simpa using c1
  subst hv2
  let opt:∀j,j<c->0<=T.L r j:=by
   rcases aiM with ⟨_,h⟩|⟨p,k,z,_⟩|⟨p,x,k,z,_⟩
   ·show h
   ·cases z
   ·cases z
  let(pl,f1,f2):=R'.last;let g:T.d*gb≠0:=QD (RL G.pos gbp);show(_,O,a,C,J,_,_,O,R'.obj,tc.cls,tc.ib,O,_,O,lL,X,_,_,O,O,.inl (.inl R'.ib),f1,_,O,pl,_,_,_,O,O,.inl (.inl f2),pE,_,O,a,C,J,_,_,O,R'.obj,tc.cls,tc.bot,O,_,O,pg,_,_,_,O,O,bQ.of adZ,iK,_,_,O,O,dE S.1 U cr cr,_,_,O,g,λpw Oa yh h10=>?_);show(_,O,_,O,a,J,lL,lA,lD,X,r,c,T,O,R'.jR yh,cr,cr,by have:=G.pos;omega,λlx xs xq S5 vn nx hx hxn hf=>?_);let AE:=yh.trans vn;show(_,O,_,O,_,O,pg,_,_,_,O,O,bQ.of (AE _ _ adZ),iK,a,J,lL,lA,lD,D1,X,zs,r,c,bz r M,T,λi=>(α i).2.2.2,gb,O,R'.jR AE,AE _ _ aql,wh'.gO AE,cr,cr,g,G.ym,S,iC U M2,λi Z=>iC (hZ i Z).2.2.2.2.1 M2,cr,λlp ps pq OU pJ np hp hpn hfp=>?_);show#[z4L,λpt npt=>?_];let sp:=av npt (.tup [.str "most",.ref pw,.ref lx,.ref lp]);let aiP:=AE.trans pJ;show q _ _ (tY (tY KS aiP) sp) (jh.gO (jh.gO V1 aiP) sp) (.inl (pt,lx,lp,.ref pw,xs,ps,_,xq,pq,O,af,(pw,O,sp _ _ (pJ _ _ (vn _ _ h10))),sp _ _ (pJ _ _ hx),(hxn.gO pJ).gO sp,sp _ _ hp,hpn.gO sp,V6 _ (yh.free nx),V6 _ (AE.free np),λz=>?_,(by rw [hf.len,LG],by rw [hfp.len,hrr],hf.sm λt qq ht e=>?_,hfp.sm λt qq ht e=>?_,?_,?_,T.d*gb,g,pB S.1 U,hfp.cd λt qq ht e=>?_)))
  ·rw [<-z,hx] at np
   cases np
  ·let(s,hs,_,rfl):=qa e
   show smL (by have:=G.pos;omega) (oB (S.2 s c cr cr)) (oB S.1)
  ·let(j,hj,ej,rfl):=qa e
   have:=G.ym j hj;show smL g (pB (S.2 r j cr cr) (hZ _ cr).2.2.2.2.1) (pB S.1 U)
  ·show smL g (oB (S.2 r c cr cr)) (pB S.1 U)
  ·rw [hrr,LG]
   show adW G lay opt hf hfp
  ·let(j,hj,ej,rfl):=qa e
   have:=G.ym j hj;show(T.L r j*(α (T.ac j-c)).2.2.2,pB (S.2 r j cr cr) (hZ _ cr).2.2.2.2.1,by rw [d9 g,eh])
def r9 (h:fQ K H cx aZ)(R:Shape T B m aZ)(L:j<m):bT K H (kZ cx j) (cZ aZ j):=by
 show#[by simp [kZ,cZ,h.1],λi u q Y Z=>?_];unfold kZ at Y;unfold cZ at Z;rw [ir] at Y Z;let(S,ev,rfl):=MK.mp Y;let(X,U,rfl):=MK.mp Z;let N:=h.2 i S X ev U;let M:=(R X (IH U)).1;let Q:=N.1;show N.2 j _ _ ?_ ?_
 ·rw [JC,gE cr];rfl
 ·rw [JC,gE cr];rfl
inductive ad1 (K:Frag)(vs:γ)(H:Hp)(Q:VK)(Z:XK):Prop
|mk (u v:V)(ts us:ο)(b c:Int)(m n:Nat)(_:vs=[u,v])(_:Line H u ts b)(_:Line H v us c)(_:us.length=ts.length)(_:ts.length<HZ)(_:(∀t∈ts,t.natAbs<=2^m))(_:(∀t∈us,t.natAbs<=2^n))(_:m<=29000000)(_:n<=29000000)(_:0<b)(_:0<c)(_:b.natAbs<=2^m)(_:c.natAbs<=2^n)(_:gives H Q (low (aoI ts us) (b*c)))
def adA {ts us:ο}{ys:γ}(S:us.length=ts.length)(T:ys.length=ts.length)(h:∀(i:Nat)(v:V),ys[i]?=some v->∃t u,ts[i]?=some t/\us[i]?=some u/\v=.int (t*u)):ys=(Qe (λa b=>a*b) ts us).map V.int:=by
 show U3 λi=>?_;by_cases Y:i<ys.length
 ·let Z:ys[i]?=some ys[i]:=gE Y
  let(t,u,U,X,ev):=h i _ Z;rw [Z,ev,ir,YZ,U,X];rfl
 ·rw [JM cr,JM (by simp;omega)]
def jX:aw ["one","other","top"] My (ae dh):=sq
def agl (D:Def K mg "whole_product" dh My)(V8:mg "sum"=none)(eC:mg "zip"=none)(g:ad P w K mg gN 33 "lowest_terms" UU dP):ad P w K mg gN 34 "whole_product" My (ad1 K):=by
 show D.oo jX λH hr h=>?_;let(u,v,U,X,b,c,m,n,rfl,(Q,j,rfl,G,M),(S,o,rfl,I,N),J,hz,ht,hu,hm,hn,hb,hc,bb,bc,q):=h
 show(_,(aa (aC 2 jX.nd (aS (akc rfl) rfl V8 ago (aR (we (tn:=["left","right"]) (fr:=[]) (kI:=[]) (lK rfl eC (aJ (aH (pv 0)) (aH (pv 1)))) (λ_ _ _ _=>(j9 (K:=K) (n:=2) rfl rfl (a9 (du (i:=0) (show(["left","right"]:List Str).Nodup from by decide+kernel) rfl (Qk rfl)) (a9 (du (i:=1) (show(["left","right"]:List Str).Nodup from by decide+kernel) rfl (Qk rfl)) cM)))) (λ_ _ _ _=>j7) (ay bY (pv 0) (pv 1)))))) (ak (aI (aK g hr (aJ (pv 2) (ay bY (aH (pv 0)) (aH (pv 1)))))))),?_)
 show(_,O,Q,_,_,_,O,O,bQ.of G,iM,_,O,S,_,_,_,O,O,bQ.of I,iM,j,o,O,#[_,bh.of M],#[_,bh.of N],λD z=>?_);show lM (mw:=[]) (K:=K) (xs:=U.map V.int) (ys:=X.map V.int) (λi v _=>∃t u,U[i]?=some t/\X[i]?=some u/\v=.int (t*u)) z (by simpa using hz) (by simpa using J) (λT Z=>bh.of (Z _ _ M)) (λT Z=>bh.of (Z _ _ N)) (λ_ _ _ _ _ _ _ h=>h) ?_ ?_
 ·intro i x y T R E Y Z k
  rw [ir] at E Y;let(t,B,rfl):=MK.mp E;let(u,C,rfl):=MK.mp Y;show(_,O,_,O,_,_,O,O,dE (ht t (IH B)) (hu u (IH C)) cr cr,k _ _ (ar.refl _) (t,u,B,C,O))
 ·intro ys T L f Z hD
  rw [Wp] at L;let Y:=adA J L f;show(D,Qe (λa b=>a*b) U X,O,by rw [<-Y];show bh.of hD,?_);let g1:=Z _ _ G;let g2:=Z _ _ I;show(_,O,_,O,Q,_,_,_,O,O,bQ.of g1,iK,_,O,S,_,_,_,O,O,bQ.of g2,iK,_,_,O,O,dE bb bc cr cr,_,_,O,QD (RL hb hc),λp H3 A e3=>q p H3 (Z.trans A) e3)
inductive ad2 (K:Frag)(vs:γ)(H:Hp)(Q:VK)(R:XK):Prop
|mk (a r:AZ)(m:Nat)(qs:ε)(S:ψ)(X:List (List V:_))(Z:ξ)(T B U Y:Nat)(_:vs=[.ref a,.ref r,.int (m:Int)])(_:ac1 K H a qs)(_:jG H r S X)(_:fQ K H X Z)(_:m<=100)(_:Shape T B m Z)(_:qs.length=Z.length)(_:qs.length<=100)(_:(∀q∈qs,Sm U Y q))(_:U+Y*qs.length<=28000000)(_:T+B*qs.length<=28000000)(_:Y<=28000000)(_:B<=28000000)(_:∀(l:AZ)(us:γ)(rs:Μ)(H':Hp),ar H H' ->H' l=some (.lst us)->Paired (ie K H') us rs->rs.length=m->Q (.ref l) H')
theorem zaJ :∀{ys:γ},(∀(i:Nat)(v:V),ys[i]?=some v->∃r,ie K H v r)->∃rs,Paired (ie K H) ys rs
 | [],_=>#[[],.nil]
 | y::t,h=>by
  let(r,e):=h 0 y rfl;let(rs,p):=zaJ (ys:=t) λi v ev=>h (i+1) v (by simpa using ev);show#[r::rs,.cons e p]
def m_:aw ["shares","rows","many","whole"] JY (ae ft):=sq
def zaf (D:Def K mg "mixed_rows" ft JY)(CD:ad P w K mg gN 33 "whole_row" Vu (Rz K))(uz:ad P w K mg gN 34 "whole_product" My (ad1 K))(Mz:ad P w K mg gN 1 "turned" Ut jV):
  ad P w K mg gN 35 "mixed_rows" JY (ad2 K):=by
 show D.op m_ λf cu A gV s H vs Q E S h=>?_;let(a,r,m,Y,ls,L,J,T,B,Tq,Bq,rfl,ra,M,N,m1,G,hl,hn,sq,hT,hB,hB1,hB2,q):=h
 show(_,(aa (aC 3 m_.nd (aK CD S (aR (pv 0)))) (ak (aI (iw (tn:=["column"]) (fr:=["whole"]) (kI:=[3]) (bX (aK Mz S (aJ (pv 1) (pv 2)))) (tS uz S (aJ (pv 1) (tS CD S (aR (pv 0))))))))),?_)
 let lv:=N.1;let lm:=M.2.1;show(_,O,a,Y,Tq,Bq,Bq*Y.length,O,ra,sq,wH λq k=>(sq q k).bot,cr,cr,cr,cr,λI l1 ts b1 H1 s1 nl1 o LC U bb1 w1 z1=>?_);show(_,O,_,O,r,ls,L,m,O,M.gO s1,cr,cr,cr,λvs y=>?_,λc cs H2 s2 C=>?_)
 ·let(i,hi):=LP y
  have LA :i<L.length:=(be.mp hi).1;let e2:J[i]?=some (J[i]'cr):=gE cr;have:=(N.2 i vs _ hi e2).1;have:=(G _ (IH e2)).1;omega
 let pJ:=s1.trans s2;let lc:cs.length=m:=by have:=C.2.1;simpa [gW] using this
 show(c,O,#[_,bh.of C.1],λD nD=>?_);show eG (mw:=[some (.ref I)]) (K:=K) (a:=c) (xs:=cs.map V.ref) (λj v X=>∃r,ie K X v r) nD (by rw [Wp,lc];show L_ (show m<=1000 by omega) eY) (λX Z=>bh.of (Z _ _ C.1)) (λi v H2 X ys e ks ⟨r,nm⟩=>#[r,nm.aY (bw.ks e ks)]) ?_ ?_
 ·intro j u X R hu Z kk
  rw [ir] at hu;let(l,el,rfl):=MK.mp hu;let g:j<m:=by have:=(be.mp el).1;omega
  let b:=C.2.2 j l (kZ L j) el (by simp [gW,Vi g]);let z:(cZ J j).length=Y.length:=by simp [cZ,hl]
  let sc:=CA G g;show(_,O,_,O,l,cZ J j,T,B,B*Y.length,O,(kZ L j,bh.of (Z _ _ b),(r9 N G g).gO (pJ.trans Z)),sc,by rw [<-z];show wH λq k=>(sc q k).bot,cr,cr,cr,cr,λv2 l2 us b2 H4 s4 nl2 x GN S9 bb2 w2 z2=>?_);let ne:b1*b2≠0:=QD (RL U S9);let lt:=w1.1;let lu:=w2.1;let k4:=(s2.trans Z).trans s4;show(.ref I,.ref v2,ts,us,b1,b2,Tq+Bq*Y.length,T+B*Y.length,O,(I,l1,O,k4 _ _ o,k4 _ _ LC),(v2,l2,O,x,GN),cr,L_ (show ts.length<=1000 by omega) eY,z1,z2,cr,cr,U,S9,iC bb1 cr,iC bb2 cr,λp H5 s5 e5=>?_);rw [d9 ne] at e5;show kk _ _ (s4.trans s5) (_,p,O,bQ.of e5)
 ·intro ys X hy ig Z hD
  rw [Wp,lc] at hy;let(rs,P3):=zaJ ig;show q D ys rs X (pJ.trans Z) hD P3 (by rw [<-P3.length,hy])
theorem cz:∀(n:Nat)(f:Nat->Rat),Ty.sumTo (n+1) f=Ty.sumTo n f+f n
 | 0,f=>by
  change f 0+0=0+f 0;grind
 | n+1,f=>by
  change f 0+Ty.sumTo (n+1) (λi=>f (i+1))=f 0+Ty.sumTo n (λi=>f (i+1))+f (n+1);rw [cz n];grind
theorem bZ:∀(m:Nat)(f g:Nat->Rat),(∀j,j<m->f j=g j)->Ty.sumTo m f=Ty.sumTo m g
 | 0,_,_,_=>rfl
 | m+1,f,g,h=>by
  rw [cz,cz];rw [bZ m f g λj Z=>h j cr,h m cr]
theorem agR:∀(m:Nat)(f g:Nat->Rat),(∀j,j<m->f j<=g j)->Ty.sumTo m f<=Ty.sumTo m g
 | 0,_,_,_=>Uu
 | m+1,f,g,h=>by
  rw [cz,cz];let a:=agR m f g λj Z=>h j cr;let b:=h m cr;grind
theorem i_ (k:Nat)(f:Nat->Rat):∀n,Ty.sumTo (k+n) f=Ty.sumTo k f+Ty.sumTo n (λj=>f (k+j))
 | 0=>by
  change Ty.sumTo k f=Ty.sumTo k f+0;grind
 | n+1=>by
  rw [<-Nat.add_assoc,cz,cz,i_ k f n];grind
theorem se (f:Nat->Rat):∀n,Ty.sumTo (2*n) f=Ty.sumTo n (λb=>f (2*b)+f (2*b+1))
 | 0=>rfl
 | n+1=>by
  rw [show 2*(n+1)=2*n+1+1 by omega,cz,cz,cz,se f n];grind
theorem ou (f:Nat->Nat->Rat)(n:Nat):∀m,Ty.sumTo m (λi=>Ty.sumTo n (λj=>f i j))=Ty.sumTo n (λj=>Ty.sumTo m (λi=>f i j))
 | 0=>(Ty.sumTo_zero n _ λ_=>O).symm
 | m+1=>by
  rw [cz,ou f n m,<-Ty.sumTo_add];show bZ _ _ _ λj _=>(cz _ _).symm
structure C' (k nb:Nat)(G:Nat->Rat)(B:Nat->Nat->Rat)(lo hi:Nat->Rat)(g:Nat->Rat)(a:Nat->Nat->Rat)(l:Nat->Rat):Prop where
 g0:∀t,t<k->g t=G t/\g (k+t)= -G t
 a0:∀b t,b<nb->t<k->a (2*b) t=B t b/\a (2*b) (k+t)= -B t b/\a (2*b+1) t= -B t b/\a (2*b+1) (k+t)=B t b
 l0:∀b,b<nb->l (2*b)=hi b/\l (2*b+1)= -lo b
structure w4 (k nb:Nat)(G:Nat->Rat)(B:Nat->Nat->Rat)(lo hi:Nat->Rat)(w:Rat)(X σ:Nat->Rat):Prop where
 wth:Ty.sumTo k (λj=>G j*X j)=w
 fit:∀b,b<nb->lo b<=Ty.sumTo k (λj=>B j b*X j)/\Ty.sumTo k (λj=>B j b*X j)<=hi b
 prc:∀j,j<k->Ty.sumTo nb (λb=>σ b*B j b)=G j
 top:∀T:Nat->Rat,(∀b,b<nb->lo b<=T b/\T b<=hi b)->Ty.sumTo nb (λb=>σ b*T b)<=w
variable {k nb:Nat}{G:Nat->Rat}{B:Nat->Nat->Rat}{lo hi g:Nat->Rat}{a:Nat->Nat->Rat}{l:Nat->Rat}
def C'.QH (h:C' k nb G B lo hi g a l)(x:Nat->Rat):Ty.sumTo (k+k) (λt=>g t*x t)=Ty.sumTo k (λj=>G j*(x j-x (k+j))):=by
 rw [i_,<-Ty.sumTo_add];show bZ _ _ _ λj Z=>?_;let(X,Y):=h.g0 j Z;rw [X,Y];grind
def C'.row (h:C' k nb G B lo hi g a l)(x:Nat->Rat)(Y:b<nb):Ty.sumTo (k+k) (λt=>a (2*b) t*x t)=Ty.sumTo k (λj=>B j b*(x j-x (k+j)))/\Ty.sumTo (k+k) (λt=>a (2*b+1) t*x t)= -Ty.sumTo k (λj=>B j b*(x j-x (k+j))):=by
 constructor
 ·rw [i_,<-Ty.sumTo_add]
  show bZ _ _ _ λj Z=>?_;let(S,T,_,_):=h.a0 b j Y Z;rw [S,T];grind
 ·rw [i_,<-Ty.sumTo_add,show -Ty.sumTo k (λj=>B j b*(x j-x (k+j)))=(-1)*Ty.sumTo k (λj=>B j b*(x j-x (k+j))) by grind,<-Ty.sumTo_mul]
  show bZ _ _ _ λj Z=>?_;let(_,_,U,X):=h.a0 b j Y Z;rw [U,X];grind
def C'.best (h:C' k nb G B lo hi g a l){w:Rat}(Z:Px.ZH (2*nb) (k+k) g a l w x y):w4 k nb G B lo hi w (λj=>x j-x (k+j)) (λb=>y (2*b)-y (2*b+1)) where
 wth:=by rw [<-h.QH];show Z.wth
 fit:=λb Y=>by
  let(E,H):=h.row x Y;let(U,X):=h.l0 b Y;let N:=Z.fit (2*b) cr;let o:=Z.fit (2*b+1) cr;rw [E,U] at N;rw [H,X] at o;show#[by grind,N]
 prc:=λj S=>by
  let Q:=Z.prc j cr;let R:=Z.prc (k+j) cr;let(p,q):=h.g0 j S;rw [se] at Q R
  let i:Ty.sumTo nb (λb=>y (2*b)*a (2*b) j+y (2*b+1)*a (2*b+1) j)=Ty.sumTo nb (λb=>(y (2*b)-y (2*b+1))*B j b):=bZ _ _ _ λb Y=>by
   let(u,_,A,_):=h.a0 b j Y S;rw [u,A];grind
  let m:Ty.sumTo nb (λb=>y (2*b)*a (2*b) (k+j)+y (2*b+1)*a (2*b+1) (k+j))= -Ty.sumTo nb (λb=>(y (2*b)-y (2*b+1))*B j b):=by
   rw [show -Ty.sumTo nb (λb=>(y (2*b)-y (2*b+1))*B j b)=(-1)*Ty.sumTo nb (λb=>(y (2*b)-y (2*b+1))*B j b) by grind,<-Ty.sumTo_mul];show bZ _ _ _ λb Y=>?_;let(_,z,_,C):=h.a0 b j Y S;rw [z,C];grind
  rw [i,p] at Q;rw [m,q] at R;grind
 top:=λT D=>by
  let e:=Z.wty;rw [se] at e;rw [<-e];show agR _ _ _ λb Y=>?_;let(U,X):=h.l0 b Y;let(I,J):=D b Y;let L:=Z.yp (2*b) cr;let M:=Z.yp (2*b+1) cr;rw [U,X];let c:=IM J L;let f:=IM I M;grind
def C'.never (h:C' k nb G B lo hi g a l)(Z:Px.ZI (2*nb) (k+k) g a x)(S:∀X:Nat->Rat,(∀b,b<nb->Ty.sumTo k (λj=>B j b*X j)=0)->Ty.sumTo k (λj=>G j*X j)=0):False:=by
 let e:=Z.wth;rw [h.QH,S _ λb T=>?_] at e
 ·show DB e eY
 ·let(U,Y):=h.row x T
  let Q:=Z.fit (2*b) cr;let R:=Z.fit (2*b+1) cr;rw [U] at Q;rw [Y] at R;grind
theorem abF :∀{Y:List Z} {T:List β} {U:List Z} {X:List β},Paired F Y T->Paired F U X->Paired F (Y++U) (T++X)
 | _,_,_,_,.nil,h=>h
 | _,_,_,_,.cons h t,h'=>.cons h (abF t h')
inductive M7 (K:Frag)(vs:γ)(H:Hp)(Q:VK)(X:XK):Prop
|mk (l:AZ)(us:γ)(rs:Μ)(_:vs=[.ref l])(_:H l=some (.lst us))(_:Paired (ie K H) us rs)(_:us.length<=50)(_:∀(Z:AZ)(Y :γ)(H':Hp),ar H H' ->H Z=none->H' Z=some (.lst Y)->Paired (ie K H') Y (rs++rs.map λr=> -r)->Q (.ref Z) H')
def aaz:aw UT UT (ae gj):=sq
def aax (D:Def K mg "both_ways" gj UT)(A:ad P w K mg gN 1 "signs_turned" UT (pS K)):ad P w K mg gN 2 "both_ways" UT (M7 K):=by
 show D.oo aaz λH E h=>?_;let(l,Z,L,rfl,M,U,ln,q):=h;let y:=U.length;show(_,(ak (aI (ay hV (pv 0) (aK A E (aR (pv 0)))))),_,O,_,O,l,Z,L,O,M,U,cr,λI Y x X C Q=>?_);let T:=Q.length;rw [Wp] at T;show(l,I,Z,Y,O,O,X _ _ M,C,GX (show Z.length+Y.length<=100 by omega) eY,λJ N=>?_);let S:=av N (.lst (Z++Y));let R:=X.trans S;show q J (Z++Y) _ R (X.free N) af (abF (Paired.cF U λ_ _ z=>z.gO R) (Paired.cF Q λ_ _ z=>z.gO S))
inductive DC (K:Frag)(vs:γ)(H:Hp)(Q:VK)(X:XK):Prop
|mk (l m:AZ)(us ws:γ)(rs ts:Μ)(_:vs=[.ref l,.ref m])(_:H l=some (.lst us))(_:H m=some (.lst ws))(_:Paired (ie K H) us rs)(_:Paired (ie K H) ws ts)(_:rs.length=ts.length)(_:us.length<=50)(_:(∀r∈rs,Ty.Sz 20000000 r))(_:(∀r∈ts,Ty.Sz 20000000 r))(_:∀(Z:AZ)(Y :γ)(H':Hp),ar H H' ->H Z=none->H' Z=some (.lst Y)->Paired (ie K H') Y (Qe (λa b=>a-b) rs ts)->Q (.ref Z) H')
def ae6:aw yD yD (ae eJ):=sq
def zay (D:Def K mg "differences" eJ yD)(eC:mg "zip"=none)(α6:ad P w K mg gN 34 "difference_of" My (CI K λa b=>a-b)):ad P w K mg gN 35 "differences" yD (DC K):=by
 show D.oo ae6 λH hr h=>?_;let(l,m,A,C,p,z,rfl,J,L,N,Q,f,ln,E,I,q):=h;let lu:=N.length;let lw:=Q.length;show(_,(ak (aI (we (tn:=My) (fr:=[]) (kI:=[]) (lK rfl eC (aJ (pv 0) (pv 1))) (λ_ _ _ _=>(j9 (K:=K) (n:=2) rfl rfl (a9 (du (i:=0) (show(My:List Str).Nodup from by decide+kernel) rfl (Qk rfl)) (a9 (du (i:=1) (show(My:List Str).Nodup from by decide+kernel) rfl (Qk rfl)) cM)))) (λ_ _ _ _=>j7) (tS α6 hr (aJ (pv 0) (pv 1)))))),_,O,_,O,l,m,O,#[_,bh.of J],#[_,bh.of L],λD1 M=>?_);show lM (mw:=[]) (K:=K) (xs:=A) (ys:=C) (λi v H'=>∃r t,p[i]?=some r/\z[i]?=some t/\ie K H' v (r-t)) M (L_ ln eY) cr (λU Z=>bh.of (Z _ _ J)) (λU Z=>bh.of (Z _ _ L)) (λi v H6 H7 ys e c ⟨r,t,h1,h2,h3⟩=>(r,t,h1,h2,h3.aY (bw.ks e c))) ?_ ?_
 ·intro i x y U R ex ey Z k
  let(r,X,S):=aQ N ex;let(t,Y,T):=aQ Q ey;show(_,O,_,O,x,y,r,t,O,S.gO Z,T.gO Z,E r (IH X),I t (IH Y),λo H3 u e3=>?_);show k _ _ u (r,t,X,Y,o,O,bQ.of e3)
 ·intro ys U j hy Z hD
  show q D1 ys U Z M hD (ip (by rw [j,Od];omega) λi v e=>?_);let(r,t,X,Y,hv):=hy i v e;show(r-t,by rw [YZ,X,Y],hv)
def sf {T B:Nat}(h:Sm T B q):q=qr (vl q):=zN h.pos h.low
def sj {T B:Nat}(h:bT K H us qs)(s:∀q∈qs,Sm T B q):Paired (ie K H) us (qs.map vl):=ip (by rw [Wp];show h.1) λi u e=>by
 let hi:i<qs.length:=by have:=(be.mp e).1;have:=h.1;omega
 let Z:qs[i]?=some qs[i]:=gE hi;show(vl qs[i],by rw [ir,Z];rfl,?_);have:=h.2 i u _ e Z;rwa [sf (s _ (QJ hi))] at this
def xa {us:γ}{rs:Μ}(p:Paired (ie K H) us rs):bT K H us (rs.map qr):=#[by rw [Wp];show p.length,λi u q X Y=>by
 let(r,Z,h):=aQ p X;erw [ir,Z] at Y
 show h]
def Ti.snoc (h:Ti K H rs aZ)(e:H p=some (.lst us))(n:bT K H us qs):Ti K H (rs++[.ref p]) (aZ++[qs]):=#[by rw [JG,JG,h.1];rfl,λi hi=>by
 let X:=h.1;by_cases z:i<aZ.length
 ·let(Z,Y,S,U,T):=h.2 i z
  show(Z,Y,by rwa [MF cr],U,?_);rwa [JC,MF z,<-JC]
 ·rw [JG] at hi
  have:i=aZ.length:=by simp at hi;omega
  subst this;show(p,us,by rw [<-X,Mg (DX _),Zl];rfl,e,?_);rw [JC,Mg (DX _),Zl]
  show n]
def GU (rs:Μ):List Rat:=rs++rs.map λr=> -r
def jJ (Z:ξ)(c:Nat):List Rat:=(cZ Z c).map vl
def ja (Z:ξ)(c:Nat):(jJ Z c).length=Z.length:=by unfold jJ cZ;rw [Wp,Wp]
def DE (h:t<aZ.length):(jJ aZ c)[t]?=some (aF aZ t c):=by
 unfold jJ cZ aF qf;rw [ir,ir,gE h,JC (l:=aZ),gE h];rfl
def V_ (h:rs[t]?=some r):qf ((GU rs).map qr) t=r/\qf ((GU rs).map qr) (rs.length+t)= -r:=by
 let Z:=(be.mp h).1;unfold qf GU;rw [JC,JC,ir,ir,MF Z,h,Mg cr,Ol,ir,h];show#[eh r,eh (-r)]
theorem xb {Z:Type}(f g:Nat->Z):∀n,((LK n).flatMap λb=>[f b,g b]).length=2*n/\∀b,b<n->((LK n).flatMap λb=>[f b,g b])[2*b]?=some (f b)/\((LK n).flatMap λb=>[f b,g b])[2*b+1]?=some (g b)
 | 0=>#[O,λb h=>DB h (Qn _)]
 | n+1=>by
  let(Y,X):=xb f g n;rw [ZK,ZP];let e:(List.flatMap (λb=>[f b,g b]) [n])=[f n,g n]:=rfl;rw [e];show#[by rw [JG,Y];rfl,λb S=>?_];by_cases z:b<n
  ·let(T,U):=X b z
   rw [MF cr,MF cr];show#[T,U]
  ·have:b=n:=cr
   subst this;rw [Mg cr,Mg cr,Y,Zl,Ol];show#[O,O]
def fY (Z:ξ)(W n:Nat):List (List (Int×Int)):=(LK n).flatMap λb=>[(GU (jJ Z (W+1+b))).map qr,(GU ((jJ Z (W+1+b)).map λr=> -r)).map qr]
def kE (Z:Β)(n:Nat):List (Int×Int):=(LK n).flatMap λb=>[qr (Z.getD b (0,0)).2,qr (-(Z.getD b (0,0)).1)]
def aaB (Z:ξ)(W n:Nat):fY Z W (n+1)=fY Z W n++[(GU (jJ Z (W+1+n))).map qr]++[(GU ((jJ Z (W+1+n)).map λr=> -r)).map qr]:=by
 unfold fY;rw [ZK,ZP,ZO];rfl
def zad (Z:Β)(n:Nat):kE Z (n+1)=kE Z n++[qr (Z.getD n (0,0)).2]++[qr (-(Z.getD n (0,0)).1)]:=by
 unfold kE;rw [ZK,ZP,ZO];rfl
def V' (Z:Β)(b:Nat):Rat:=(Z.getD b (0,0)).1
def Wa (Z:Β)(b:Nat):Rat:=(Z.getD b (0,0)).2
def aae (Z:ξ)(W:Nat)(Y:Β)(nb:Nat):C' Z.length nb (λj=>aF Z j W) (λj b=>aF Z j (W+1+b)) (V' Y) (Wa Y) (qf ((GU (jJ Z W)).map qr)) (aF (fY Z W nb)) (qf (kE Y nb)) where
 g0:=λt X=>by
  have:=V_ (DE (c:=W) X);rwa [ja] at this
 a0:=λb t U X=>by
  let(S,T):=(xb (λb=>(GU (jJ Z (W+1+b))).map qr) (λb=>(GU ((jJ Z (W+1+b)).map λr=> -r)).map qr) nb).2 b U;let M:=V_ (DE (c:=W+1+b) X);let N:=V_ (rs:=(jJ Z (W+1+b)).map λr=> -r) (t:=t) (by rw [ir,DE X];rfl);rw [Wp,ja] at N;rw [ja] at M;unfold aF;let Q:(fY Z W nb).getD (2*b) []=(GU (jJ Z (W+1+b))).map qr:=by rw [JC];unfold fY;rw [S];rfl
  let R:(fY Z W nb).getD (2*b+1) []=(GU ((jJ Z (W+1+b)).map λr=> -r)).map qr:=by rw [JC];unfold fY;rw [T];rfl
  rw [Q,R];show(M.1,M.2,N.1,by rw [N.2];unfold aF;grind)
 l0:=λb U=>by
  let(S,T):=(xb (λb=>qr (Y.getD b (0,0)).2) (λb=>qr (-(Y.getD b (0,0)).1)) nb).2 b U;let Q:(kE Y nb).getD (2*b) (0,1)=qr (Y.getD b (0,0)).2:=by rw [JC];unfold kE;rw [S];rfl
  let R:(kE Y nb).getD (2*b+1) (0,1)=qr (-(Y.getD b (0,0)).1):=by rw [JC];unfold kE;rw [T];rfl
  unfold qf V' Wa;rw [Q,R];show#[eh _,eh _]
def vB {T B:Nat}(h:Sm T B (qr r)):Sm T B (qr (-r)):=(cY _,lR _,by rw [rD];change (-(qr r).1).natAbs<=_;rw [Uk];show h.top,by rw [rD];show h.bot)
def Wb {T B:Nat}(h:∀r∈rs,Sm T B (qr r)):∀q∈(GU rs).map qr,Sm T B q:=λq X=>by
 let(r,Y,rfl):=GV.mp X
 rcases MU.mp Y with z|z
 ·show h r z
 ·let(Z,U,rfl):=GV.mp z
  show vB (h Z U)
def Wc {T B m c:Nat}(Y:Shape T B m S)(U:c<m):∀r∈jJ S c,Sm T B (qr r):=λr Z=>by
 unfold jJ at Z;let(q,X,rfl):=GV.mp Z;have:=CA Y U q X;rw [<-sf this];show this
inductive DF (K:Frag)(U:AZ)(vs:γ)(H:Hp)(Q:VK)(E:XK):Prop
|mk (J M:AZ)(W:Nat)(I:ψ)(L:List (List V:_))(Z:ξ)(us:γ)(Y:Β)(T0:Nat)(_:vs=[.ref J,.int (W:Int),.ref M])(_:jG H J I L)(_:fQ K H L Z)(_:Shape T0 T0 (W+1+Y.length) Z)(_:H M=some (.lst us))(_:Paired (gP K H) us Y)(_:(∀p∈Y,p.1<=0/\0<=p.2/\Sm T0 T0 (qr p.1)/\Sm T0 T0 (qr p.2)))(_:Z.length<=12)(_:Y.length<=8)(_:W<=20)(_:T0*(Z.length+Z.length+1)<=1900000)(_:bz (2*Y.length) (T0+T0*(Z.length+Z.length+1))<=1900000)(_:jh H U)(_:(∀X:Nat->Rat,(∀b,b<Y.length->Ty.sumTo Z.length (λj=>aF Z j (W+1+b)*X j)=0)->Ty.sumTo Z.length (λj=>aF Z j W*X j)=0))(_:∀(p R S:AZ)(T:V)(xs ys:γ)(w:Rat)(X σ:Μ)(N:Nat)(H':Hp),aX U H H' ->jh H' U->H' p=some (.tup [T,.ref R,.ref S])->ie K H' T w->N=bz (2*Y.length) (T0+T0*(Z.length+Z.length+1))+(T0+T0*(Z.length+Z.length+1))->Sm N N (qr w)->H' R=some (.lst xs)->Paired (ie K H') xs X->X.length=Z.length->(∀r∈X,Sm (2*N+1) (2*N) (qr r))->H' S=some (.lst ys)->Paired (ie K H') ys σ->σ.length=Y.length->(∀r∈σ,Sm (N+1) N (qr r))->w4 Z.length Y.length (λj=>aF Z j W) (λj b=>aF Z j (W+1+b)) (V' Y) (Wa Y) w (λj=>X.getD j 0) (λb=>σ.getD b 0)->Q (.ref p) H')
def Ov (h:bT K H us qs)(t:bw H H'):bT K H' us qs:=#[h.1,λi u q Y Z=>m6.aY (h.2 i u q Y Z) t]
theorem Ti.upd (h:Ti K H rs aZ)(n:∀v∈rs,v≠.ref d)(e:H d=some (.lst xs)):Ti K (upd H d o) rs aZ:=#[h.1,λi hi=>by
 let(p,Y,Z,U,X):=h.2 i hi
 show(p,Y,Z,by rw [ag (λz=>n _ (IH Z) (by rw [z]))];show U,Ov X (bw.list e))]
theorem abG :∀{Y:List Z} {X:List β} (k:Nat),Paired F Y X->Paired F (Y.take k) (X.take k)
 | _,_,0,_=>by rw [amJ,amJ];show .nil
 | _,_,k+1,.nil=>.nil
 | _,_,k+1,.cons h t=>.cons h (abG k t)
theorem abH :∀{Y:List Z} {X:List β} (k:Nat),Paired F Y X->Paired F (Y.drop k) (X.drop k)
 | _,_,0,h=>h
 | _,_,k+1,.nil=>.nil
 | _,_,k+1,.cons h t=>abH k t
def aiQ {xs:γ}{rs:Μ}(a:Nat)(h:Paired (ie K H) xs rs):Paired (ie K H) (BV a xs) (BV a rs):=by
 let Z:=h.length;show ip (by rw [fZ,fZ,Z]) λi u e=>?_
 let hi:i<(xs.length+1-a) / 2:=by
  have:=(be.mp e).1
  rwa [fZ] at this
 rw [mJ a xs hi] at e;let(r,Y,z):=aQ h e;show(r,by rw [mJ a rs (by rwa [<-Z])];show Y,z)
def szN (h:Sm N N q)(l:N<20000000):Ty.Sz 20000000 (vl q):=by
 let e:=sf h;show#[by rw [<-e];show iu h.top l,by rw [<-e];show iu h.bot l]
def ad3 (Y:Sm N N (qr x))(Z:Sm N N (qr y)):Sm (2*N+1) (2*N) (qr (x-y)):=by
 show(cY _,lR _,?_,?_)
 ·rw [<-BI]
  show GX (iV (QD (RL Y.pos Z.pos))) ?_;let a:=j_ Y.top Z.bot;let b:=j_ Z.top Y.bot;rw [<-KQ] at a b;show GX (ajb _ _) ?_;rw [Ve];omega
 ·rw [<-BI]
  show GX (iW (QD (RL Y.pos Z.pos))) ?_;let a:=j_ Y.bot Z.bot;rwa [<-KQ] at a
def aiR {d n Y:Int}(Z:d≠0)(X:d.natAbs<=2^N)(R:n.natAbs<=2^N)(S:Y.natAbs<=2^N)(T:x=(n:Rat) / (d:Rat))(U:y=(Y:Rat) / (d:Rat)):Sm (N+1) N (qr (x-y)):=by
 let e:x-y=((n-Y:Int):Rat) / (d:Rat):=by
  rw [T,U,Zh,Zh,Zh];push_cast;grind
 show(cY _,lR _,?_,?_)
 ·rw [e,<-d9 Z]
  show GX (iV Z) (GX (ajb _ _) ?_);rw [Ve];omega
 ·rw [e,<-d9 Z]
  show GX (iW Z) X
def w4.congr {w:Rat}(h:w4 k nb G B lo hi w X σ)(S:∀j,j<k->X' j=X j)(U:∀b,b<nb->σ' b=σ b):w4 k nb G B lo hi w X' σ' where
 wth:=by rw [<-h.wth];show bZ _ _ _ λj Z=>by rw [S j Z]
 fit:=λb Y=>by rw [bZ k (λj=>B j b*X' j) (λj=>B j b*X j) λj Z=>by rw [S j Z]];show h.fit b Y
 prc:=λj Z=>by rw [<-h.prc j Z];show bZ _ _ _ λb Y=>by rw [U b Y]
 top:=λT R=>by rw [bZ nb (λb=>σ' b*T b) (λb=>σ b*T b) λb Y=>by rw [U b Y]];show h.top T R
def qb (t:jh H P0)(k:aX P0 H H'):bw H H':=λb xs e=>by
 let(Y,Z):=t.lj
 rcases e with e|⟨o,e⟩
 ·show .inl (k _ _ (λz=>by erw [z,Z] at e) e)
 ·show .inr #[o,k _ _ (λz=>by erw [z,Z] at e) e]
def cS:aw ["states","ways","lows_and_highs","columns","rows","limits","column","two","told","shares"] IZ (ae fD):=sq
def zaQ (eC:mg "zip"=none)(bq:mg "len"=none)(D:Def K mg "most_borne" fD IZ)(Mz:ad P w K mg gN 1 "turned" Ut jV)(mf:ad P w K mg gN 2 "both_ways" UT (M7 K))(V9:ad P w K mg gN 1 "signs_turned" UT (pS K))(RK:ad P w K mg gN 36 "most_of" KD (M0 K P0))(nh:ad P w K mg gN 35 "differences" yD (DC K)):
  ad P w K mg gN 37 "most_borne" IZ (DF K P0):=by
 show D.op cS λf cu A gV s H vs Q E hr h=>?_;let(bo,lb,W,ls,cx,X,us,U,T0,rfl,M,NN,sh,hlb,pu,hbn,lk,lbn,lW,hB,hbz,tb,hE,q):=h;let lv:=M.2.1;let ln:=NN.1;let lu:=pu.length
 show(_,(aa (aC 3 cS.nd (aK Mz hr (aJ (pv 0) (ay b9 (ay b9 (pv 1) ah) (aS aG rfl bq cn (aR (pv 2))))))) (aa (aC 4 cS.nd (bS gC)) (aa (aC 5 cS.nd (bS gC)) (aa (bM M9 rfl (lK rfl eC (aJ (cX eO (pv 3) (dD (ay b9 (pv 1) ah)) eM) (pv 2))) (g6 rfl (a9 (cB 6 cS.nd) (a9 (cB 7 cS.nd) cM))) (aa (b_ (ku Us PySem.F.slot_list_extend PySem.F.type_list_extend zq (pv 4) (aR (bS (aJ (aK mf hr (aR (pv 6))) (aK mf hr (aR (aK V9 hr (aR (pv 6)))))))))) (ak (b_ (ku Us PySem.F.slot_list_extend PySem.F.type_list_extend zq (pv 5) (aR (bS (aJ (aH (pv 7)) (a_ (aJ (gh dG (aH (aH (pv 7)))) (aH (aH (pv 7))))))))))))) (aa (aC 8 cS.nd (aK RK hr (b8 (aK mf hr (aR (bC aE (pv 3) (pv 1)))) (pv 4) (pv 5)))) (aa (aC 9 cS.nd (aK nh hr (aJ (cX eO (aH (pv 8)) eM (dD (aS aG rfl bq cn (aR (pv 0))))) (cX eO (aH (pv 8)) (dD (aS aG rfl bq cn (aR (pv 0)))) eM)))) (ak (aI (a_ (b8 (aH (pv 8)) (pv 9) (aK nh hr (aJ (Vx (K:=K) rfl (aH (pv 8)) ah ah) (Vx (K:=K) rfl (aH (pv 8)) ah ah))))))))))))),?_);sleep 6
 show(_,O,_,O,_,_,O,O,_,O,lb,_,O,.inl (bh.of hlb),_,_,O,O,bo,ls,cx,_,O,M,cr,cr,cr,λvs hvs=>?_,λc cs H1 s1 C=>?_)
 ·let(i,hi):=LP hvs
  have LA :i<cx.length:=(be.mp hi).1;let e2:X[i]?=some (X[i]'cr):=gE cr;have:=(NN.2 i vs _ hi e2).1;have:=(sh _ (IH e2)).1;omega
 let hm:((W:Int)+1+(us.length:Int)).toNat=W+1+U.length:=cr
 rw [hm] at C;let lc:cs.length=W+1+U.length:=by have:=C.2.1;simpa [gW] using this
 show#[P1 _,?_];intros R n4 H2 s4 e4;show#[P1 _,?_];intros m n5 H3 s5 e5;let e43:=s5 _ _ e4;let yk:=s4.trans s5;let O3:=s1.trans yk;show(_,O,_,O,_,_,O,O,_,O,c,_,O,bh.of (yk _ _ C.1),?_);intros p6 n6 H6 s6 e6;rw [show((W:Int)+1)=((W+1:Nat):Int) from by omega,iT (by rw [Wp];omega)] at e6;let s06:=O3.trans s6;let s16:=yk.trans s6;let rl:R≠m:=λz=>by rw [z] at e4;erw [e4] at n5
 let old:∀{b o},H1 b=some o->b≠R/\b≠m:=λ{b o} e=>#[aj e n4,aj (s4 _ _ e) n5];let p6r:p6≠R:=λz=>by erw [z,e43] at n6
 let p6l:p6≠m:=λz=>by erw [z,e5] at n6
 let aiS:∀{i:Nat} {l:AZ},cs[i]?=some l->H1 l=some (.lst (kZ cx i))/\Paired (ie K H1) (kZ cx i) (jJ X i)/\(kZ cx i).length=X.length:=λ{i l} e=>by
  let hi:i<W+1+U.length:=by have:=(be.mp e).1;omega
  show(C.2.2 i l _ e (by simp [gW,Vi hi]),sj ((r9 NN sh hi).gO s1) (CA sh hi),by simp [kZ,ln])
 show(_,O,p6,lb,O,#[_,bh.of e6],#[_,bh.of (s06 _ _ hlb)],?_)
 show let I:ce:=λi Y H'=>Td λ(o6 o7:ω) (S Xv :γ)=>Y=[bv bo,some (.int (W:Int)),bv lb,bv c,bv R,bv m,o6,o7,none,none]/\(∀b o,b≠R->b≠m->H6 b=some o->H' b=some o)/\H' R=some (.lst S)/\Ti K H' S (fY X W i)/\(∀v∈S,v≠.ref R/\v≠.ref m)/\H' m=some (.lst Xv)/\bT K H' Xv (kE U i);zaL (K:=K) (a:=p6) (b:=lb) (xs:=(cs.map V.ref).drop (W+1)) (ys:=us) I (none,none,[],[],O,λ_ _ _ _ e=>e,s6 _ _ e43,#[O,λi h=>DB h (Qn _)],(λv h=>nomatch h),s6 _ _ e5,#[O,λi u q e=>by simp at e]) (λi Y H' h=>by
   let(_,_,_,_,_,k',_):=h;let(a1,a2):=old (s1 _ _ hlb)
   show#[bh.of (k' _ _ p6r p6l e6),bh.of (k' _ _ a1 a2 (s06 _ _ hlb))]) ?_ ?_
 ·rintro i x y Y H7 p7 ex ey ⟨o6,o7,S,Xv,rfl,k7,hr7,R7,nr7,hl7,L7⟩ np
  let s7:=av np (.tup [x,y]);let e7:(upd H7 p7 (.tup [x,y])) p7=some (.tup [x,y]):=af;generalize upd H7 p7 (.tup [x,y])=H8 at s7 e7 ⊢;rw [aiL,ir] at ex;let(ci,eci,rfl):=MK.mp ex;let(hci,pci,lci):=aiS eci;let(bd,ebd,pbd):=aQ pu ey;let hib:i<U.length:=(be.mp ebd).1;let gbd:U.getD i (0,0)=bd:=by rw [JC,ebd];rfl
  let tt:bw H6 H7:=λb xs e=>by
   rcases e with e|⟨o',e⟩
   ·show .inl (k7 _ _ (λz=>by erw [z,s6 _ _ e43] at e) (λz=>by erw [z,s6 _ _ e5] at e) e)
   ·show .inr #[o',k7 _ _ (λz=>by erw [z,s6 _ _ e43] at e) (λz=>by erw [z,s6 _ _ e5] at e) e]
  let t18:bw H1 H8:=((bw.of s16).trans tt).trans (bw.of s7);let(c1,c2):=old hci;let aiU:=s7 _ _ (k7 _ _ c1 c2 (s16 _ _ hci));let aiV:Paired (ie K H8) (kZ cx (W+1+i)) (jJ X (W+1+i)):=Paired.cF pci λ_ _ z=>z.aY t18;let(pt,a1,a2,rfl,hpt,na1,na2):=pbd;let(pa,rfl,hpa):=na1;show(p7,_,O,bQ.of e7,O,_,_,O,_,_,O,O,_,O,.inl (O,_,bh.of (s7 _ _ hr7)),_,O,ci,_,_,O,aiU,aiV,cr,λJ us9 H9 s9 n9 e9 p9=>?_);let pc9:Paired (ie K H9) (kZ cx (W+1+i)) (jJ X (W+1+i)):=Paired.cF aiV λ_ _ z=>z.gO s9;show(_,O,ci,_,_,O,s9 _ _ aiU,pc9,cr,λl10 aqq Oa yh OS VG=>?_);let aqr:=VG.length;rw [Wp,ja] at aqr;show(l10,aqq,_,O,OS,VG,cr,λNa aIT S5 vn n11 e11 p11=>?_);show#[qt,?_];intros l12 n12 OU pJ e12;let s9c:=s9.trans (yh.trans (vn.trans pJ));let Wd:=s7.trans s9c;show(R,l12,S,_,O,O,Wd _ _ hr7,e12,?_,?_)
  ·let h1:=R7.1
   rw [(show(fY X W i).length=2*i from (xb _ _ i).1)] at h1;show GX (show S.length+2<=100 by omega) eY
  let rs2:∀v∈S ++[V.ref J]++[V.ref Na],v≠.ref R/\v≠.ref m:=λv hv=>by
   let h9:J≠R/\J≠m:=#[(λz=>by erw [z,s7 _ _ hr7] at n9),(λz=>by erw [z,s7 _ _ hl7] at n9)];let aiX:=s7.trans (s9.trans yh);let h11:Na≠R/\Na≠m:=#[(λz=>by erw [z,aiX _ _ hr7] at n11),(λz=>by erw [z,aiX _ _ hl7] at n11)]
   rcases MU.mp hv with hv|hv
   ·rcases MU.mp hv with hv|hv
    ·show nr7 v hv
    ·rw [MJ.mp hv]
     show#[λz=>h9.1 (V.ref.inj z),λz=>h9.2 (V.ref.inj z)]
   ·rw [MJ.mp hv]
    show#[λz=>h11.1 (V.ref.inj z),λz=>h11.2 (V.ref.inj z)]
  let R12:Ti K OU (S ++[V.ref J]++[V.ref Na]) (fY X W (i+1)):=by
   rw [aaB];show((R7.gO Wd).snoc ((yh.trans (vn.trans pJ)) _ _ e9) (xa (Paired.cF p9 λ_ _ z=>z.gO (yh.trans (vn.trans pJ))))).snoc (pJ _ _ e11) (xa (Paired.cF p11 λ_ _ z=>z.gO pJ))
  let aqu:=Wd _ _ hl7;let aiY:=Wd _ _ hr7;let RA:=R12.upd (o:=.lst (S ++[V.ref J]++[V.ref Na])) (λv hv=>(rs2 v hv).1) aiY;let tA:bw OU (upd OU R (.lst (S ++[V.ref J]++[V.ref Na]))):=bw.list aiY;let hrA:(upd OU R (.lst (S ++[V.ref J]++[V.ref Na]))) R=some (.lst (S ++[V.ref J]++[V.ref Na])):=af;let hlA:(upd OU R (.lst (S ++[V.ref J]++[V.ref Na]))) m=some (.lst Xv):=by rwa [ag (IL rl)]
  let kA:∀b o,b≠R->b≠m->H6 b=some o->(upd OU R (.lst (S ++[V.ref J]++[V.ref Na]))) b=some o:=λb o h1 h2 e=>by rw [ag h1];show Wd _ _ (k7 b o h1 h2 e)
  change I_ _ _ _ _ (upd OU R (.lst (S ++[V.ref J,V.ref Na])));rw [show S ++[V.ref J,V.ref Na]=S ++[V.ref J]++[V.ref Na] from by rw [ZO];rfl];generalize upd OU R (.lst (S ++[V.ref J]++[V.ref Na]))=HA at RA tA hrA hlA kA ⊢;let tH:bw H HA:=(((bw.of s1).trans t18).trans (bw.of s9c)).trans tA;let ad5:=bw.gx tH hpt;let aiZ:=bw.gx tH hpa;show(_,O,.inl (O,_,bh.of hlA),_,O,pt,_,_,_,O,O,ad5,iK,_,O,pt,_,_,_,O,O,ad5,iM,pa,_,_,_,O,O,aiZ,iM,_,O,_,O,pt,_,_,_,O,O,ad5,iM,pa,_,_,_,O,O,aiZ,iK,qt,?_);intros pn nn HB sn en;show#[qt,?_];intros lq nq HC sq eq;let sAC:=sn.trans sq;let hlC:=sAC _ _ hlA;let hrC:=sAC _ _ hrA;show(m,lq,Xv,_,O,O,hlC,eq,?_,?_)
  ·let h1:=L7.1
   rw [(show(kE U i).length=2*i from (xb _ _ i).1)] at h1;show GX (show Xv.length+2<=100 by omega) eY
  show(_,_,S ++[V.ref J]++[V.ref Na],Xv ++[a2]++[.ref pn],O,λb o h1 h2 e=>by rw [ag h2];show sAC _ _ (kA b o h1 h2 e),by rwa [ag rl],(RA.gO sAC).upd (λv hv=>(rs2 v hv).2) hlC,rs2,by rw [af,ZO];rfl,?_);let tC:bw HA (upd HC m (.lst (Xv ++[a2,.ref pn]))):=(bw.of sAC).trans (bw.list hlC);rw [zad,gbd];let t7A:bw H7 HA:=((bw.of s7).trans (bw.of s9c)).trans tA;show bT.snoc (bT.snoc (Ov L7 (t7A.trans tC)) (m6.aY na2 (tH.trans tC))) (pn,O,?_);rw [rD];show bw.gx ((bw.of sq).trans (bw.list hlC)) (bQ.of en)
 ·rintro Y H7 ⟨o6,o7,S,Xv,rfl,k7,hr7,R7,nr7,hl7,L7⟩
  let aqw:min ((cs.map V.ref).drop (W+1)).length us.length=U.length:=by rw [Ux,Wp];omega
  rw [aqw] at R7 L7
  let S07:ar H H7:=λb o e=>by
   let(a1,a2):=old (s1 _ _ e);show k7 _ _ a1 a2 (s06 _ _ e)
  let S17:ar H1 H7:=λb o e=>by
   let(a1,a2):=old e;show k7 _ _ a1 a2 (s16 _ _ e)
  obtain ⟨cw,ecw⟩:∃l,cs[W]?=some l:=#[_,gE cr];let(hcw,pcw,lcw):=aiS ecw;show(_,O,_,O,c,_,_,_,O,O,bh.of (S17 _ _ C.1),bI (by rw [ir,ecw];rfl),cw,_,_,O,S17 _ _ hcw,Paired.cF pcw (λ_ _ z=>z.gO S17),cr,λl12 aI0 H8 s8 n8 e8 p8=>?_);let S08:=S07.trans s8;let lg:((GU (jJ X W)).map qr).length=X.length+X.length:=by unfold GU;rw [Wp,JG,Wp,ja]
  let lr:(fY X W U.length).length=2*U.length:=(xb _ _ _).1
  let ai1:∀i,i<(fY X W U.length).length->((fY X W U.length).getD i []).length=X.length+X.length/\∀q∈(fY X W U.length).getD i [],Sm T0 T0 q:=λi hi=>by
   let e:(fY X W U.length)[i]?=some (fY X W U.length)[i]:=gE hi;have Zp :=QJ hi;rw [JC,e];change (fY X W U.length)[i].length=_/\∀q∈(fY X W U.length)[i],Sm T0 T0 q;generalize (fY X W U.length)[i]=row at Zp;let(b,hb,T):=Zo.mp Zp;have j8 :=QF.mp hb;let sc:=Wc sh (c:=W+1+b) cr
   rcases P4.mp T with rfl|T
   ·show#[by unfold GU;rw [Wp,JG,Wp,ja],Wb sc]
   ·rw [MJ.mp T]
    show#[by unfold GU;rw [Wp,JG,Wp,Wp,Wp,ja],Wb λr hr=>?_];let(r',h',rfl):=GV.mp hr;show vB (sc r' h')
  let aqy:∀q∈kE U U.length,Sm T0 T0 q/\0<=q.1:=λq hq=>by
   let(b,hb,T):=Zo.mp hq;have j8 :=QF.mp hb;let e:U.getD b (0,0)=U[b]:=by rw [JC,gE j8];rfl
   let(b1,b2,b3,b4):=hbn _ (QJ j8);rw [e] at T
   rcases P4.mp T with rfl|T
   ·show#[b4,OD.mpr b2]
   ·rw [MJ.mp T]
    show#[vB b3,OD.mpr (by grind)]
  show(_,O,_,O,l12,R,m,S,Xv,(GU (jJ X W)).map qr,kE U U.length,fY X W U.length,T0,T0,O,(_,bh.of e8,xa p8),bh.of (s8 _ _ hr7),R7.gO s8,bh.of (s8 _ _ hl7),L7.gO s8,by rw [lr];show(xb _ _ _).1,λi hi=>by rw [lg];show(ai1 i hi).1,Wb (Wc sh cr),aqy,λi hi=>(ai1 i hi).2,cr,cr,by rwa [lg],by rwa [lg,lr],tb.gO S08,λv H9 k9 t9 L=>?_);rw [lg,lr] at L;generalize hNN:bz (2*U.length) (T0+T0*(X.length+X.length+1))+(T0+T0*(X.length+X.length+1))=N at L q
  let N1:N<=5700000:=by
   have:T0<=T0*(X.length+X.length+1):=ID _ cr;omega
  let two:=aae X W U U.length
  rcases L with L|⟨p,lx,xs,xq,rfl,hp,hlx,nxs,_,Z⟩
  rotate_left
  ·let of:=Z.fin
   rw [lg,lr] at of;show(two.never of hE).elim
  let(p,lx,lp,uw,xs,ps,wq,xq,yq,rfl,hp,nw,hlx,nxs,hlp,nps,_,_,nxp,Z):=L;let opt:=Z.opt;rw [lg,lr] at opt;let lxq:=Z.xl;let lyq:=Z.yl;rw [lg] at lxq;rw [lr] at lyq;let Tj:=tb.gO S08
  let nP:∀{b Xh},H8 b=some (.lst Xh)->H9 b=some (.lst Xh):=λ{b Xh} e=>k9 _ _ (λz=>by
   let(ps',e'):=Tj.lj;rw [z,e'] at e
   cases e) e
  let ai3:=nP (S08 _ _ M.1);let pxs:=sj nxs Z.xs;let GQ:=sj nps Z.ys;let lls:(ls.map V.ref).length=X.length:=by rw [Wp];omega
  let lxs:xs.length=X.length+X.length:=by have:=nxs.1;omega
  let lps:ps.length=2*U.length:=by have:=nps.1;omega
  show(_,O,p,_,_,_,O,O,bQ.of hp,bI (j:=2) rfl,_,O,bo,_,O,.inl (bh.of ai3),_,O,lx,_,O,bh.of hlx,?_);intros VG n10 Oa yh OS;show(_,O,p,_,_,_,O,O,bQ.of (yh _ _ hp),bI (j:=2) rfl,_,O,bo,_,O,.inl (bh.of (yh _ _ ai3)),_,O,lx,_,O,bh.of (yh _ _ hlx),?_);intros p11 n11 S5 vn e11;rw [lls,kd cr] at OS;rw [lls,iT cr] at e11;let ai4:=yh.trans vn;let ai5:Paired (ie K S5) xs (xq.map vl):=Paired.cF pxs λ_ _ z=>z.gO ai4
  let szx:∀r∈xq.map vl,Ty.Sz 20000000 r:=λr T =>by
   let(q',rf,rfl):=GV.mp T;show szN (Z.xs q' rf) cr
  let szy:∀r∈yq.map vl,Ty.Sz 20000000 r:=λr T =>by
   let(q',rf,rfl):=GV.mp T;show szN (Z.ys q' rf) cr
  show(VG,p11,_,_,_,_,O,vn _ _ OS,e11,abG X.length ai5,abH X.length ai5,by rw [Me,Ux,Wp];omega,by rw [Me];omega,λr T =>szx r (Oe T),λr T =>szx r (Oh T),λl13 aqz H13 aqA n13 e13 p13=>?_);let aah:=ai4.trans aqA;let ad6:=aah _ _ hp;show(_,O,p,_,_,_,O,O,bQ.of ad6,bI (j:=1) rfl,_,O,_,O,p,_,_,_,O,O,bQ.of ad6,bI (j:=3) rfl,0,lp,_,O,O,O,bh.of (aah _ _ hlp),?_);intros p14 n14 H14 s14 e14;show(_,O,p,_,_,_,O,O,bQ.of (s14 _ _ ad6),bI (j:=3) rfl,1,lp,_,O,O,O,bh.of (s14 _ _ (aah _ _ hlp)),?_);intros p15 n15 H15 s15 e15;let ai6:=aah.trans (s14.trans s15);let ai7:Paired (ie K H15) ps (yq.map vl):=Paired.cF GQ λ_ _ z=>z.gO ai6;let lyv:(yq.map vl).length=2*U.length:=by rwa [Wp]
  let evm:∀(a:Nat)(r:Rat),r∈BV a (yq.map vl)->r∈yq.map vl:=λa r T =>by
   unfold BV at T;let(k',_,e):=uu.mp T;show IH e
  show(p14,p15,_,_,_,_,O,s15 _ _ e14,e15,aiQ 0 ai7,aiQ 1 ai7,by rw [fZ,fZ,lyv];omega,by rw [fZ];omega,λr T =>szy r (evm 0 r T),λr T =>szy r (evm 1 r T),λl16 aqE H16 aqF n16 e16 p16=>?_);show#[z3L,?_];intros p17 n17 H17 s17 e17;let abI:=aqF.trans s17;let ad7:=ai6.trans abI;let abJ:=(s14.trans s15).trans abI;let KS:aX P0 H H17:=λb o n e=>ad7 _ _ (k9 b o n (S08 _ _ e));let lX:(Qe (λa b=>a-b) ((xq.map vl).take X.length) ((xq.map vl).drop X.length)).length=X.length:=by rw [Od,Me,Ux,Wp];omega
  let lY:(Qe (λa b=>a-b) (BV 0 (yq.map vl)) (BV 1 (yq.map vl))).length=U.length:=by rw [Od,fZ,fZ,lyv];omega
  let qx:∀j,j<X.length+X.length->(xq.map vl)[j]?=some (qf xq j):=λj hj=>by
   rw [ir,gE cr];unfold qf;rw [JC,gE cr];rfl
  let qy:∀j,j<2*U.length->(yq.map vl)[j]?=some (qf yq j):=λj hj=>by
   rw [ir,gE cr];unfold qf;rw [JC,gE cr];rfl
  let atX:∀j,j<X.length->(Qe (λa b=>a-b) ((xq.map vl).take X.length) ((xq.map vl).drop X.length))[j]?=some (qf xq j-qf xq (X.length+j)):=λj hj=>by
   rw [YZ,aiD,jY hj,aiL,qx j cr,qx _ cr]
  let atY:∀b,b<U.length->(Qe (λa b=>a-b) (BV 0 (yq.map vl)) (BV 1 (yq.map vl)))[b]?=some (qf yq (2*b)-qf yq (2*b+1)):=λb hb=>by
   rw [YZ,mJ 0 _ (by rw [lyv];omega),mJ 1 _ (by rw [lyv];omega),am5,qy _ cr,yw 1,qy _ cr]
  let nwr:ie K H17 uw (vl wq):=by
   let(pw,rfl,hpw):=nw;show(pw,O,?_);rw [<-sf Z.ws];show bQ.of (ad7 _ _ hpw)
  let(d,d0,db,dn):=Z.yc;show q p17 l13 l16 uw aqz aqE (vl wq) _ _ N H17 KS ((t9.gO ad7)) e17 nwr rfl (by rw [<-sf Z.ws];show Z.ws) (abJ _ _ e13) (Paired.cF p13 λ_ _ z=>z.gO abJ) lX (λr T =>?_) (s17 _ _ e16) (Paired.cF p16 λ_ _ z=>z.gO s17) lY (λr T =>?_) ((two.best opt).congr (λj hj=>?_) (λb hb=>?_))
  ·let(j,ej):=LP T
   let hj:j<X.length:=by have:=(be.mp ej).1;omega
   erw [atX j hj] at ej
   let sx:∀t,t<X.length+X.length->Sm N N (qr (qf xq t)):=λt ht=>by
    unfold qf;rw [JC,gE cr];have:=Z.xs _ (QJ (l:=xq) (n:=t) cr);change Sm N N (qr (vl xq[t]));rw [<-sf this];show this
   show ad3 (sx j cr) (sx _ cr)
  ·let(b,eb):=LP T
   let hb:b<U.length:=by have:=(be.mp eb).1;omega
   erw [atY b hb] at eb
   let ny:∀t,t<2*U.length->∃n:Int,n.natAbs<=2^N/\qf yq t=(n:Rat) / (d:Rat):=λt ht=>by
    unfold qf;rw [JC,gE cr];show dn _ (QJ _)
   let(n1,h1,e1):=ny (2*b) cr;let(n2,h2,e2):=ny (2*b+1) cr;show aiR d0 db h1 h2 e1 e2
  ·rw [JC,atX j hj]
   rfl
  ·rw [JC,atY b hb]
   rfl
def fsum (l:Ψ)(f:Nat->Rat):Rat:=(l.map f).sum
def dX (a:Nat)(l:Ψ)(f:Nat->Rat):fsum (a::l) f=f a+fsum l f:=by simp [fsum]
theorem tZ (p:Nat->Bool)(f:Nat->Rat):∀l:List Nat,fsum l f=fsum (l.filter p) f+fsum (l.filter λi=> !p i) f
 | []=>by simp [fsum];grind
 | a::l=>by
  let Z:=tZ p f l;cases h:p a
  ·rw [ahv (by simp [h]),ahu (by simp [h]),dX,dX,Z]
   grind
  ·rw [ahu h,ahv (by simp [h]),dX,dX,Z]
   grind
theorem agQ (f:Nat->Rat):∀l:List Nat,(∀i∈l,f i=0)->fsum l f=0
 | [],_=>rfl
 | a::l,h=>by
  rw [dX,h a Mo,agQ f l (λi hi=>h i (MV _ hi))];grind
theorem xf (f:Nat->Rat)(j:Nat):∀l:List Nat,l.Nodup->j∈l->(∀i∈l,i≠j->f i=0)->fsum l f=f j
 | [],_,h,_=>nomatch h
 | a::l,n,h,z=>by
  rw [UG] at n;rw [dX];by_cases e:a=j
  ·subst e
   rw [agQ f l (λi hi=>z i (MV _ hi) (λy=>n.1 (by rwa [<-y])))];grind
  ·let Z:j∈l:=by
    rcases P4.mp h with y|y
    ·show DB y.symm e
    ·show y
   rw [z a Mo e,xf f j l n.2 Z (λi hi=>z i (MV _ hi))];grind
theorem xg :∀l:List Nat,(∀i∈l,f i=g i)->fsum l f=fsum l g
 | [],_=>rfl
 | a::l,h=>by rw [dX,dX,h a Mo,xg l (λi hi=>h i (MV _ hi))]
theorem zaH (c:Rat)(f:Nat->Rat):∀l:List Nat,fsum l (λi=>c*f i)=c*fsum l f
 | []=>by simp [fsum]
 | a::l=>by
  rw [dX,dX,zaH c f l];grind
def zaG (g:Nat->Nat)(f:Nat->Rat)(l:Ψ):fsum (l.map g) f=fsum l (λi=>f (g i)):=by
 unfold fsum;rw [P2];rfl
theorem oy:∀(n:Nat)(f:Nat->Rat),sumTo n f=fsum (LK n) f
 | 0,_=>rfl
 | n+1,f=>by
  rw [ajM,dX,zaG,<-oy n];rfl
def DG :vl (0,1)=0:=by
 unfold vl;simp;grind
def Nb :vl (1,1)=1:=by
 unfold vl;simp;grind
def aeY {os lv:ζ}{ss:χ}(R:Red os m m b Z lv)(Q:ss.map (·.1)=(LK m).filter (free Z))(C:∀x∈ss,i7 x.1 m Z.length Z x.2)(hz:∀o∈os,ev o D=0)(I:j<m)(E:∀x∈ss,∀q,x.2[j]?=some q->g x.1=vl q):fsum (ss.map (·.1)) (λc=>D c*g c)=D j:=by
 let M:=((R.sol D).mpr hz).1
 let U:∀c,c∈ss.map (·.1)->c<m/\(∀y∈Z,y.1≠c)/\∃x∈ss,x.1=c:=λc h=>by
  let h':=h;rw [Q] at h';let(h1,A):=V0.mp h';let(x,Y,e):=GV.mp h;show(QF.mp h1,iH.mp A,x,Y,e)
 let X:(ss.map (·.1)).Nodup:=by
  rw [Q];show AF.filter _
 by_cases N:free Z j=true
 ·let p:=iH.mp N
  let jm:j∈ss.map (·.1):=by
   rw [Q];show V0.mpr #[QF.mpr I,N]
  rw [xf _ j _ X jm ?_]
  ·let(_,_,x,Y,e):=U j jm
   let f1:=(C x Y).2.1;rw [e] at f1;have:=E x Y _ f1;rw [e,Nb] at this;rw [this];grind
  ·intro c f nc
   let(_,_,x,Y,e):=U c f;let f0:=(C x Y).2.2.2 j I (by rw [e];show IL nc) (λi _ y S=>p y (IH S));have:=E x Y _ f0;rw [e,DG] at this;rw [this];grind
 ·let nf:∃y∈Z,y.1=j:=by
   apply Qi;intro z;show N (iH.mpr λy T e=>z (y,T,e))
  let(y,T,S):=nf;let(t,et):=LP T;let ht:t<Z.length:=(be.mp et).1;let e0:=M y T;rw [iZ m y.2 D (by rw [R.rN y T];show DX _),oy,tZ (free Z),<-Q] at e0;let H:=R.here y T;rw [S] at H;let hh':=c7 H
  let e1:fsum ((LK m).filter λi=> !free Z i) (λi=>((y.2.getD i 0:Int):Rat)*D i)=((y.2.getD j 0:Int):Rat)*D j:=by
   show xf _ j _ (AF.filter _) (V0.mpr #[QF.mpr I,by simp [N]]) ?_;intro i hi ni;let(h1,A):=V0.mp hi
   let L:∃u∈Z,u.1=i:=by
    apply Qi;intro z;have:free Z i=true:=iH.mpr λu J e=>z (u,J,e);erw [this] at A
   let(u,J,eu):=L;rw [<-eu,R.off y T u J (by rw [S,eu];show IL ni)];simp
  rw [e1] at e0
  let e2:fsum (ss.map (·.1)) (λc=>D c*g c)=(-1 / ((y.2.getD j 0:Int):Rat))*fsum (ss.map (·.1)) (λi=>((y.2.getD i 0:Int):Rat)*D i):=by
   rw [<-zaH];show xg _ λc f=>?_;let(_,_,x,Y,e):=U c f;let f2:=(C x Y).2.2.1 t ht y et;rw [S] at f2;let k:=E x Y _ f2;rw [e,iY H] at k;rw [k];push_cast;grind
  rw [e2];grind
structure SpZ (nd:ν)(c:Nat)(z:Nat->Rat):Prop where
 one:z c=1
 at':∀y∈nd,z y.1=(-(y.2.getD c 0):Int) / ((y.2.getD y.1 0:Int):Rat)
 no:∀j,j≠c->(∀y∈nd,y.1≠j)->z j=0
theorem SpZ.sol {os T:ζ}(R:Red os L m b X T)(M:c<m)(h:SpZ X c z)(fr:∀y∈X,y.1≠c):∀o∈os,ev o z=0:=by
 show(R.sol z).mp #[λx Y=>?_,λl Q=>?_]
 ·let e:z=λj=>(if j=c then 1 else 0)+(if j=c then 0 else z j):=by
   funext j;by_cases q:j=c
   ·rw [jY q,jY q,q,h.one]
    grind
   ·rw [iO q,iO q]
    grind
  rw [e,L',nZ x.2 (λj=>if j=c then 1 else 0) c (λj Z=>by rw [iO Z];grind),nZ x.2 (λj=>if j=c then 0 else z j) x.1 (λj Z=>?_)]
  ·let N:=c7 (R.here x Y)
   rw [jY rfl,iO (fr x Y),h.at' x Y];push_cast;grind
  ·by_cases q:j=c
   ·rw [jY q]
    grind
   ·rw [iO q]
    by_cases y:∃u∈X,u.1=j
    ·let(u,U,rfl):=y
     rw [R.off x Y u U (IL Z)];simp
    ·rw [h.no j q (λu U e=>y (u,U,e))]
     grind
 ·show vq l z λj=>?_
  by_cases Z:j<m
  ·rw [R.zero l Q j Z]
   simp
  ·rw [h.no j cr (λy S e=>by have:=R.cols y S;omega)]
   grind
def SpZ.behind {os X:ζ}(R:Red os L m b Y X)(h:SpZ Y c z)(U:c<j):z j=0:=by
 by_cases q:∃y∈Y,y.1=j
 ·let(y,Z,rfl):=q
  rw [h.at' y Z,R.low y Z c U];simp [Zh]
 ·show h.no j cr (λy Z e=>q (y,Z,e))
theorem zaF:∀(m:Nat)(f g:Nat->Rat),(∀j,j<m->f j=g j)->Ty.sumTo m f=Ty.sumTo m g
 | 0,_,_,_=>rfl
 | m+1,f,g,h=>by
  simp only [Ty.sumTo];rw [h 0 cr,zaF m (λi=>f (i+1)) (λi=>g (i+1)) (λj Z=>h (j+1) cr)]
def ad8 (h:iB ts qs b)(X:qs.length=m)(z:Nat->Rat):ev ts z=(b:Rat)*sumTo m (λj=>vl (qs.getD j (0,1))*z j):=by
 let U:=h.1;rw [iZ m ts z cr,<-sumTo_mul];show zaF m _ _ λj T=>?_;let Y:ts[j]?=some (ts[j]'cr):=gE cr;let Z:qs[j]?=some (qs[j]'cr):=gE cr;let w:=h.2 j _ _ Y Z;rw [getD_mem Y,w,JC,Z];change _=(b:Rat)*(vl (qs[j]'cr)*z j);grind
def akG (h:iB ts qs b)(X:0<b)(Z:qs.length=m)(z:Nat->Rat):ev ts z=0 ↔ sumTo m (λj=>vl (qs.getD j (0,1))*z j)=0:=by
 rw [ad8 h Z z];have Y :=c7 (show b≠0 by omega);constructor<;>intro q<;>grind
def ady {T B m:Nat}{os:ζ}(S:VO T B m X os)(Y:∀qs∈X,qs.length=m)(z:Nat->Rat):(∀o∈os,ev o z=0) ↔ ∀qs∈X,sumTo m (λj=>vl (qs.getD j (0,1))*z j)=0:=by
 let M:=S.1;constructor
 ·intro h qs Q
  let(i,e):=LP Q;let hi:i<X.length:=(be.mp e).1;let Z:os[i]?=some (os[i]'cr):=gE cr;let(b,R,U):=S.2 i _ qs Z e;show(akG U R (Y qs Q) z).mp (h _ (IH Z))
 ·intro h o N
  let(i,e):=LP N;let hi:i<os.length:=(be.mp e).1;let Z:X[i]?=some (X[i]'cr):=gE cr;let(b,R,U):=S.2 i o _ e Z;show(akG U R (Y _ (IH Z)) z).mpr (h _ (IH Z))
def getD_some {qs:ε}(e:qs[j]?=some q):qs.getD j (0,1)=q:=by
 rw [JC,e];rfl
theorem i7.z {os Y:ζ}(R:Red os L m b nd Y)(F:i7 c m nd.length nd qs):SpZ nd c (λj=>vl (qs.getD j (0,1))) where
 one:=by
  change vl (qs.getD c (0,1))=1;rw [getD_some F.2.1,Nb]
 at':=λy Z=>by
  let(i,e):=LP Z;let hi:i<nd.length:=(be.mp e).1;change vl (qs.getD y.1 (0,1))=_;rw [getD_some (F.2.2.1 i hi y e),iY (R.here y Z)]
 no:=λj X h=>by
  change vl (qs.getD j (0,1))=0;by_cases z:j<m
  ·rw [getD_some (F.2.2.2 j z X (λi _ x e=>h x (IH e))),DG]
  ·rw [JC,JM (by rw [F.1];omega)]
   show DG
def cI (ss:χ)(j:Nat):Nat:=(ss.getD j (0,[])).1
theorem akB {Z:Type}:∀{ss:List (Nat×Z)} {x y:Nat×Z},(ss.map (·.1)).Nodup->x∈ss->y∈ss->x.1=y.1->x=y
 | [],_,_,_,h,_,_=>nomatch h
 | a::t,x,y,n,T,U,e=>by
  rw [M3,UG] at n
  rcases P4.mp T with X|X<;>rcases P4.mp U with Y|Y
  ·rw [X,Y]
  ·show DB (GV.mpr (y,Y,by rw [<-e,X])) n.1
  ·show DB (GV.mpr (x,X,by rw [e,Y])) n.1
  ·show akB n.2 X Y e
def qe (ss:χ):List (List (Int×Int)):=ss.map λx=>x.2
def ajw (ss:χ):(qe ss).length=ss.length:=by unfold qe;rw [Wp]
def mh (e:ss[j]?=some x)(c:Nat):aF (qe ss) j c=vl (x.2.getD c (0,1))/\cI ss j=x.1:=by
 unfold aF qf qe cI;rw [JC (l:=ss.map λx=>x.2),ir,e,JC (l:=ss),e];show#[O,O]
section
variable {os lv:ζ}{m α:Nat}{nd:ν}{ss:χ}
structure yC (os lv:ζ)(m α:Nat)(nd:ν)(ss:χ):Prop where
 R:Red os m m α nd lv
 hc:ss.map (·.1)=(LK m).filter (free nd)
 hF:∀x∈ss,i7 x.1 m nd.length nd x.2
 ol:∀o∈os,o.length<=m
def yC.mem (S:yC os lv m α nd ss)(h:x∈ss):x.1<m/\∀y∈nd,y.1≠x.1:=by
 have:x.1∈(LK m).filter (free nd):=by rw [<-S.hc];show List.mem_map_of_mem h
 let(Y,Z):=V0.mp this;show#[QF.mp Y,iH.mp Z]
theorem yC.z (S:yC os lv m α nd ss)(Y:j<ss.length):SpZ nd (cI ss j) (λc=>aF (qe ss) j c)/\cI ss j<m/\∀y∈nd,y.1≠cI ss j:=by
 let e:ss[j]?=some ss[j]:=gE Y;let Z:=QJ Y;let z:=i7.z S.R (S.hF _ Z);let h:=S.mem Z;rw [(mh e 0).2];show#[?_,h];rw [show(λc=>aF (qe ss) j c)=(λc=>vl (ss[j].2.getD c (0,1))) from funext λc=>(mh e c).1];show z
def yC.own (S:yC os lv m α nd ss)(Z:j<ss.length):∀o∈os,ev o (λc=>aF (qe ss) j c)=0:=(S.z Z).1.sol S.R (S.z Z).2.1 (S.z Z).2.2
def yC.mix (S:yC os lv m α nd ss)(X:Nat->Rat):∀o∈os,ev o (λc=>Ty.sumTo ss.length (λj=>aF (qe ss) j c*X j))=0:=λo Z=>by
 rw [iZ m o _ (S.ol o Z)];let e:(λc=>((o.getD c 0:Int):Rat)*Ty.sumTo ss.length (λj=>aF (qe ss) j c*X j))=λc=>Ty.sumTo ss.length (λj=>((o.getD c 0:Int):Rat)*(aF (qe ss) j c*X j)):=funext λc=>(Ty.sumTo_mul _ _ _).symm;rw [e,ou];rw [bZ ss.length _ (λ_=>0) λj Y=>?_,Ty.sumTo_zero _ _ λ_=>O];let h:=S.own Y o Z;rw [iZ m o _ (S.ol o Z)] at h;rw [bZ m _ (λc=>X j*(((o.getD c 0:Int):Rat)*aF (qe ss) j c)) λc _=>by grind,Ty.sumTo_mul,h];grind
def yC.span (S:yC os lv m α nd ss){z:Nat->Rat}(hz:∀o∈os,ev o z=0)(Q :c<m):z c=Ty.sumTo ss.length (λj=>aF (qe ss) j c*z (cI ss j)):=by
 let Y:(ss.map (·.1)).Nodup:=by rw [S.hc];show AF.filter _
 obtain ⟨g,T⟩:∃g:Nat->Rat,∀x∈ss,g x.1=vl (x.2.getD c (0,1)):=by
  show#[λn=>vl (((ss.find? λx=>x.1==n).getD (0,[])).2.getD c (0,1)),λx Z=>?_]
  have:ss.find? (λy=>y.1==x.1)=some x:=by
   obtain ⟨y,X⟩:∃y,ss.find? (λy=>y.1==x.1)=some y:=ajv.mp (List.find?_isSome.mpr (x,Z,by simp));let L:=List.find?_some X;let M:=List.mem_of_find?_eq_some X;let N:y.1=x.1:=by simpa using L
   rw [X,(akB Y M Z N)]
  change vl (((ss.find? λy=>y.1==x.1).getD (0,[])).2.getD c (0,1))=_;rw [this];rfl
 let h:=aeY S.R S.hc S.hF hz Q (g:=g) λx Z q e=>by rw [T x Z,getD_some e]
 rw [<-h]
 let em:ss.map (·.1)=(LK ss.length).map (cI ss):=by
  show U3 λi=>?_;rw [ir,ir];by_cases hi:i<ss.length
  ·let e:ss[i]?=some ss[i]:=gE hi
   rw [e,Vi hi];change some ss[i].1=some (cI ss i);rw [(mh e 0).2]
  ·rw [JM cr,JM (by simp;omega)]
   rfl
 rw [em,zaG,<-oy];show bZ _ _ _ λj U=>?_;let e:ss[j]?=some ss[j]:=gE U;rw [(mh e c).1,(mh e 0).2,T _ (QJ U)];grind
def yC.need (S:yC os lv m α nd ss){z:Nat->Rat}(hz:∀o∈os,ev o z=0)(X :c<m)(Y:c∉ss.map (·.1))(Q:∀j,c<j->j<m->z j=0):z c=0:=by
 rw [S.hc] at Y;have:¬ free nd c=true:=λh=>Y (V0.mpr #[QF.mpr X,h]);let U:∃y∈nd,y.1=c:=Qi λh=>this (iH.mpr λy Z e=>h (y,Z,e));let(y,Z,rfl):=U;let e:=((S.R.sol z).mpr hz).1 y Z;let N:=S.R.rN y Z;rw [nZ y.2 z y.1 λj T=>?_] at e
 ·let M:=c7 (S.R.here y Z)
  grind
 ·rcases amT T with h|h
  ·rw [S.R.low y Z j h]
   simp
  ·by_cases q:j<m
   ·rw [Q j h q]
    grind
   ·rw [JC,JM cr]
    simp
def yC.ai8 (S:yC os lv m α nd ss)(Y:m=W+1+nb)(Z:W∉ss.map (·.1))(X:Nat->Rat)(h:∀b,b<nb->Ty.sumTo ss.length (λj=>aF (qe ss) j (W+1+b)*X j)=0):Ty.sumTo ss.length (λj=>aF (qe ss) j W*X j)=0:=
 S.need (S.mix X) cr Z λj T U=>by
  have:=h (j-(W+1)) cr;rwa [show W+1+(j-(W+1))=j by omega] at this
variable {W nb:Nat}{lo hi:Nat->Rat}{w:Rat}{X σ:Nat->Rat}
def yC.JK (S:yC os lv m α nd ss)(U:m=W+1+nb)(Y:w4 ss.length nb (λj=>aF (qe ss) j W) (λj b=>aF (qe ss) j (W+1+b)) lo hi w X σ){z:Nat->Rat}(hz:∀o∈os,ev o z=0):z W=Ty.sumTo nb (λb=>σ b*z (W+1+b)):=by
 rw [S.span hz (c:=W) cr,bZ nb _ (λb=>Ty.sumTo ss.length (λj=>σ b*(aF (qe ss) j (W+1+b)*z (cI ss j)))) λb T=>by rw [S.span hz (c:=W+1+b) cr,<-Ty.sumTo_mul],ou];show bZ _ _ _ λj Z=>?_;rw [<-Y.prc j Z,show Ty.sumTo nb (λb=>σ b*aF (qe ss) j (W+1+b))*z (cI ss j)=z (cI ss j)*Ty.sumTo nb (λb=>σ b*aF (qe ss) j (W+1+b)) by grind,<-Ty.sumTo_mul];show bZ _ _ _ λb _=>by grind
structure ai9 (os:ζ)(W nb:Nat)(lo hi:Nat->Rat)(w:Rat):Prop where
 J_ :∃z:Nat->Rat,(∀o∈os,ev o z=0)/\z W=w/\∀b,b<nb->lo b<=z (W+1+b)/\z (W+1+b)<=hi b
 most:∀z:Nat->Rat,(∀o∈os,ev o z=0)->(∀b,b<nb->lo b<=z (W+1+b)/\z (W+1+b)<=hi b)->z W<=w
def yC.told (S:yC os lv m α nd ss)(T:m=W+1+nb)(Z:w4 ss.length nb (λj=>aF (qe ss) j W) (λj b=>aF (qe ss) j (W+1+b)) lo hi w X σ):ai9 os W nb lo hi w where
 J_ :=(_,S.mix X,Z.wth,λb Y=>Z.fit b Y)
 most:=λz U Y=>by
  rw [S.JK T Z U];show Z.top _ Y
def yC.few (S:yC os lv m α nd ss)(J:m=W+1+nb)(H:W∉ss.map (·.1))(E:∀z:Nat->Rat,(∀o∈os,ev o z=0)->(∀j,W<=j->j<m->z j=0)->∀j,j<W->z j=0):ss.length<=nb:=by
 let U:∀c∈ss.map (·.1),W<c:=λc N=>by
  let(x,L,rfl):=GV.mp N;let(j,e):=LP L;let T:=(be.mp e).1;let(Y,M,C):=S.z T;rw [(mh e 0).2] at Y M C
  rcases Nat.lt_or_ge W x.1 with h|h
  ·show h
  rcases Nat.lt_or_ge x.1 W with Q|Q
  ·have:=E _ (S.own T) (λi hi _=>Y.behind S.R cr) x.1 Q
   rw [Y.one] at this;show DB this eY
  ·show DB (show x.1=W by omega) λy=>H (y ▸N)
 let D:(ss.map (·.1)).length<=nb:=by
  rw [S.hc,J,List.range_add,OE,JG]
  let A:(LK (W+1)).filter (free nd)=[]:=List.filter_eq_nil_iff.mpr λc Z I=>by
   have:c∈ss.map (·.1):=by
    rw [S.hc];show V0.mpr #[QF.mpr (by have:=QF.mp Z;omega),I]
   have:=U c this;have:=QF.mp Z;omega
  rw [A];have:=vV (free nd) ((LK nb).map λx=>W+1+x);rw [Wp,Zq] at this;simpa using this
 rwa [Wp] at D
end
def dt (a b:Rat×Rat):Rat:=a.1*b.1+a.2*b.2
def sP (as Z:Μ):Rat:=(Qe (·*·) as Z).sum
def ki (Z:Μ):sP [] Z=0:=by simp [sP]
def f9 (a b:Rat)(as Z:Μ):sP (a::as) (b::Z)=a*b+sP as Z:=by simp [sP]
theorem Nc:∀{a c:Μ} (b d:Μ),a.length=c.length->sP (a++b) (c++d)=sP a c+sP b d
 | [],[],b,d,_=>by
  rw [amy,amy,ki];grind
 | x::a,y::c,b,d,h=>by
  rw [OH,OH,f9,f9,Nc b d (by simpa using h)];grind
 | [],_::_,_,_,h=>by simp at h
 | _::_,[],_,_,h=>by simp at h
theorem ajR:∀(ys cs:ε),jM ys cs=sP (ys.map vl) (cs.map vl)
 | [],_=>by simp [jM,sP]
 | _::_,[]=>by simp [jM,sP]
 | y::ys,c::cs=>by rw [abw,M3,M3,f9,ajR ys cs]
def Nd (x:Str)(w:Rat×Rat)(y:Str):mv (yr x w) y=if y=x then w else (0,0):=by
 unfold mv yr;by_cases e:y=x
 ·rw [jY e,jY e]
  rfl
 ·rw [iO e,iO e]
  rfl
def oz (AP:Δ)(T:Str->Rat)(U:Str->List Rat)(p:ba)(c:Rat×Rat->Rat):Rat:=sP (U p.nm) (p.ws.map c)+(AP.map λb=>T b.nm*c (mv (l_ b) p.nm)).sum
theorem DH (F:ς):∀{AO:υ} {k:Nat} {p:ba},AO[k]?=some p->vl ((fS F AO).getD (2*k) (0,1))=(mv F p.nm).1/\vl ((fS F AO).getD (2*k+1) (0,1))=(mv F p.nm).2
 | q::ps,0,p,h=>by
  cases h;unfold fS;rw [U2];show#[eh _,eh _]
 | q::ps,k+1,p,h=>by
  let Z:=DH F (AO:=ps) (k:=k) (p:=p) (by simpa using h);unfold fS at Z ⊢;rwa [U2]
def gK (h:1<=k):Sz k 0:=by
 have:=Mc (i:=0) (k:=k) (by simpa using anq k) h;simpa using this
structure Zb (n:Nat)(r:Rat):Prop where
 top:(qr r).1.natAbs<=2^n
 bot:(qr r).2.natAbs<=2^n
def abK (h:Sz k r)(Z:k<=50):Sm 50 50 (qr r):=
 (cY r,lR r,Qr (P_ (intBits_le_iff.mp h.top) (Qt eY Z)),Qr (P_ (intBits_le_iff.mp h.bot) (Qt eY Z)))
def ajL (h:∀x,Sz 50 (mv F x).1/\Sz 50 (mv F x).2)(AO:υ):∀q∈fS F AO,Sm 50 50 q:=λq Z=>by
 unfold fS at Z;let(p,_,Z):=Zo.mp Z;let z:=h p.nm
 rcases P4.mp Z with e|Z
 ·rw [e]
  show abK z.1 (DX _)
 ·rw [MJ.mp Z]
  show abK z.2 (DX _)
def ad9 {w:Rat×Rat}(h:Sz 50 w.1/\Sz 50 w.2)(y:Str):Sz 50 (mv (yr x w) y).1/\Sz 50 (mv (yr x w) y).2:=by
 rw [Nd];by_cases c:y=x
 ·rw [jY c]
  show h
 ·rw [iO c]
  show#[gK eY,gK eY]
def We (g:jr AO AP)(R:b∈AP)(y:Str):Sz 50 (mv (l_ b) y).1/\Sz 50 (mv (l_ b) y).2:=by
 let(S,T,_):=g.ends b R;let Y:=g.sz _ S;let Z:=g.sz _ T;unfold mv l_;by_cases U:y=b.one.nm
 ·rw [jY U]
  show#[(Z.1.sub Y.1).up eY,(Z.2.1.sub Y.2.1).up eY]
 ·rw [iO U]
  by_cases X:y=b.kG.nm
  ·rw [jY X]
   show#[(Y.1.sub Z.1).up eY,(Y.2.1.sub Z.2.1).up eY]
  ·rw [iO X]
   show#[gK eY,gK eY]
def oA (g:jr AO AP):∀qs∈dQ AO AP,qs.length=2*AO.length/\∀q∈qs,Sm 50 50 q:=λqs Z=>by
 unfold dQ at Z
 rcases MU.mp Z with h|h
 ·let(p,X,h):=Zo.mp h
  unfold rQ at h;let(w,Y,rfl):=GV.mp h;let z:=(g.sz p X).2.2 w Y;show#[i8 _ _,ajL (ad9 #[z.1.up eY,z.2.up eY]) AO]
 ·let(b,U,rfl):=GV.mp h
  show#[i8 _ _,ajL (We g U) AO]
def allR (AO:υ)(AP:Δ)(F:ς):List (List (Int×Int)):=(dQ AO AP).take (aV AO)++[fS F AO]++(dQ AO AP).drop (aV AO)
def gX (AO:υ)(AP:Δ)(F:ς):List (List (Int×Int)):=(LK (2*AO.length)).map λj=>cZ (allR AO AP F) j
def ai' {Z β:Type}{P:Z->β->Prop}{xs:List Z}{ys:List β}{a:Z}{b:β}(R:xs.length=ys.length)(h:∀(i:Nat) x y,xs[i]?=some x->ys[i]?=some y->P x y)(N:P a b):(xs.take W++[a]++xs.drop W).length=(ys.take W++[b]++ys.drop W).length/\∀(i:Nat) x y,(xs.take W++[a]++xs.drop W)[i]?=some x->(ys.take W++[b]++ys.drop W)[i]?=some y->P x y:=by
 let lt:(xs.take W).length=(ys.take W).length:=by rw [Me,Me,R]
 let U:(xs.take W++[a]).length=(ys.take W++[b]).length:=by rw [JG,JG,lt];rfl
 show#[by simp [R],λi x y X Y=>?_];by_cases S:i<(xs.take W++[a]).length
 ·rw [MF S] at X
  rw [MF cr] at Y;by_cases T:i<(xs.take W).length
  ·rw [MF T] at X
   rw [MF cr] at Y;let Q:i<W:=by rw [Me] at T;omega
   rw [aiD,jY Q] at X Y;show h i x y X Y
  ·rw [Mg cr] at X Y
   rw [<-lt] at Y;rw [JG] at S;let z:i-(xs.take W).length=0:=by simp at S T ⊢;omega
   rw [z] at X Y;cases X;cases Y;show N
 ·rw [Mg cr] at X Y
  rw [<-U] at Y;rw [aiL] at X Y;show h _ x y X Y
def DI (h:Ty.Sz k r):Sm k k (qr r):=(cY r,lR r,Qr (intBits_le_iff.mp h.top),Qr (intBits_le_iff.mp h.bot))
def O9 {T B Z Y:Nat}(h:Sm T B q)(U:T<=Z)(X:B<=Y):Sm Z Y q:=(h.pos,h.low,GX h.top (Qt eY U),GX h.bot (Qt eY X))
section
variable {AO:υ}{AP:Δ}{F:ς}
def zai:(allR AO AP F).length=aV AO+1+AP.length:=by
 let Z:(dQ AO AP).length=aV AO+AP.length:=mL AO AP;unfold allR;rw [JG,JG,Me,Ux,Z];change min (aV AO) (aV AO+AP.length)+1+_=_;omega
def agd (Y:∀x,Ty.Sz 400 (mv F x).1/\Ty.Sz 400 (mv F x).2):∀q∈fS F AO,Sm 400 400 q:=λq Z=>by
 unfold fS at Z;let(p,_,Z):=Zo.mp Z
 rcases P4.mp Z with e|Z
 ·rw [e]
  show DI (Y p.nm).1
 ·rw [MJ.mp Z]
  show DI (Y p.nm).2
def xh (g:jr AO AP)(U:∀x,Ty.Sz 400 (mv F x).1/\Ty.Sz 400 (mv F x).2):Shape 400 400 (2*AO.length) (allR AO AP F):=λY Z=>by
 let X:∀Y∈dQ AO AP,Y.length=2*AO.length/\∀q∈Y,Sm 400 400 q:=λY h=>#[(oA g Y h).1,λq Z=>O9 ((oA g Y h).2 q Z) eY eY];unfold allR at Z
 rcases MU.mp Z with Z|Z
 ·rcases MU.mp Z with Z|Z
  ·show X Y (Oe Z)
  ·rw [MJ.mp Z]
   show#[i8 _ _,agd U]
 ·show X Y (Oh Z)
def akE (g:jr AO AP)(S:∀x,Ty.Sz 400 (mv F x).1/\Ty.Sz 400 (mv F x).2)(E:AO.length<=3)(D:AP.length<=5):Shape 400 400 (aV AO+1+AP.length) (gX AO AP F)/\∀qs∈gX AO AP F,pB qs<=2^950:=by
 let R:=xh g S;let H:aV AO<=2*AO.length:=pQ AO g.lw;constructor<;>intro qs Y<;>(unfold gX at Y;let(j,N,rfl):=GV.mp Y;have I :=QF.mp N)
 ·show#[by unfold cZ;rw [Wp];show zai,CA R I]
 ·let Q:(dQ AO AP).length=aV AO+AP.length:=mL AO AP
  let Z:∀{ds:ξ},(∀d∈ds,d∈dQ AO AP)->pB (cZ ds j)<=2^(50*ds.length):=λ{ds} h=>by
   have:=wH (B:=50) (qs:=cZ ds j) λq Y=>by
    unfold cZ at Y;let(d,X,rfl):=GV.mp Y;let(dl,U):=oA g d (h d X);rw [JC,gE cr];show(U _ (QJ _)).bot
   rwa [show(cZ ds j).length=ds.length from by unfold cZ;rw [Wp]] at this
  unfold allR;let e:∀a b:List (List (Int×Int)),cZ (a++b) j=cZ a j++cZ b j:=λa b=>by unfold cZ;rw [QC]
  rw [e,e,rK,rK];let J:=Z (ds:=(dQ AO AP).take (aV AO)) λd X=>Oe X;let M:=Z (ds:=(dQ AO AP).drop (aV AO)) λd X=>Oh X
  let L:pB (cZ [fS F AO] j)<=2^400:=by
   change ((fS F AO).getD j (0,1)).2.natAbs*1<=_;rw [yx,JC,gE (by rwa [i8])];show(agd S _ (QJ _)).bot
  let T:=Qq (Qq J L) M;rw [<-Uv,<-Uv] at T;show GX T (Qt eY ?_);rw [Me,Ux,Q];omega
end
def i7.aqI {os Q:ζ}(R:Red os L m b nd Q)(F:i7 c m nd.length nd qs):∀q∈qs,Sm b b q:=by
 intro q N;let(j,Z):=LP N;let X:j<m:=by have:=(be.mp Z).1;rw [<-F.1];show this
 by_cases T:j=c
 ·subst T
  erw [F.2.1] at Z;show(eY,eY,Ur,Ur)
 by_cases S:∃(i:Nat)(x:Χ),nd[i]?=some x/\x.1=j
 ·let(i,x,e,rfl):=S
  let hi:i<nd.length:=(be.mp e).1;let U:=F.2.2.1 i hi x e;erw [Z] at U;let Y:=IH e;show B_ (R.here x Y) (by rw [Uk];show R.Tf x Y c) (R.Tf x Y x.1)
 ·let U:=F.2.2.2 j X T (λi _ x e z=>S (i,x,e,z))
  erw [Z] at U;show(eY,eY,P1 _,Ur)
def xi (AO:υ)(AP:Δ)(F:ς)(z:Nat->Rat):Prop:=∀Z∈gX AO AP F,Ty.sumTo (aV AO+1+AP.length) (λj=>vl (Z.getD j (0,1))*z j)=0
structure Nf (AO:υ)(AP:Δ)(F:ς)(lo hi:Nat->Rat)(w:Rat):Prop where
 J_ :∃z:Nat->Rat,xi AO AP F z/\z (aV AO)=w/\∀b,b<AP.length->lo b<=z (aV AO+1+b)/\z (aV AO+1+b)<=hi b
 most:∀z:Nat->Rat,xi AO AP F z->(∀b,b<AP.length->lo b<=z (aV AO+1+b)/\z (aV AO+1+b)<=hi b)->z (aV AO)<=w
def GrE (AO:υ)(AP:Δ)(F:ς):Prop:=∃z:Nat->Rat,xi AO AP F z/\z (aV AO)=1/\∀b,b<AP.length->z (aV AO+1+b)=0
theorem Ng:∀(rs:Μ)(qs:ε),rs.length=qs.length->Ty.sumTo qs.length (λj=>vl (qs.getD j (0,1))*rs.getD j 0)=sP rs (qs.map vl)
 | [],[],_=>by simp [Ty.sumTo,sP]
 | r::rs,q::qs,h=>by
  rw [M3,f9,<-Ng rs qs (by simpa using h),Qz];change vl q*r+Ty.sumTo qs.length (λj=>vl (qs.getD j (0,1))*rs.getD j 0)=_;grind
def Pa (h:ys.length=qs.length):jM ys qs=Ty.sumTo qs.length (λj=>vl (qs.getD j (0,1))*(ys.map vl).getD j 0):=by
 rw [ajR,Ng _ _ (by rwa [Wp])]
def Nh {C a U:AZ}(h:zO K H C a AO AP)(t:jh H U)(k:aX U H H'):zO K H' C a AO AP:=by
 let(A,Q,S,pB,M,N,L,R,W):=h.ex;let(X,J):=t.lj
 let Z:∀{b o},H b=some o->(∀X,o≠.lj X)->H' b=H b:=λ{b o} e n=>by
  rw [k b o (λz=>by erw [z,J] at e;show n _ rfl) e,e]
 let Y:=qb t k;show(A,Q,S,pB,M,N,L,R.IU Y (Z R.obj (λ_ z=>nomatch z)) (Z R.pl (λ_ z=>nomatch z)) (Z R.wy (λ_ z=>nomatch z)) (Z R.br (λ_ z=>nomatch z)),Paired.cF W λ_ _ z=>#[z.1,?_]);let(l,T,D,E,I):=z.2;show(l,T,D,by rwa [Z E (λ_ z=>nomatch z)],I.aY Y)
inductive kj (K:Frag)(C Z:AZ)(vs:γ)(H:Hp)(Q:VK)(J:XK):Prop
|mk (a R S:AZ)(AO:υ)(AP:Δ)(U X:η)(Bd:Λ)(F:ς)(_:vs=[.ref a,.ref R,.ref S])(_:zO K H C a AO AP)(_:jr AO AP)(_:AO.length<=3)(_:AP.length<=5)(_:H R=some (.dK U))(_:(∀Y∈U,∃x∈AP.map (·.nm),Y.1=.inr x))(_:(∀b∈AP,∃v,ff U (.inr b.nm)=some v/\gP K H v (Bd b.nm)/\(Bd b.nm).1<=0/\0<=(Bd b.nm).2))(_:(∀b∈AP,Ty.Sz 400 (Bd b.nm).1/\Ty.Sz 400 (Bd b.nm).2))(_:H S=some (.dK X))(_:PtD K H X F)(_:(∀Y∈X,∃x∈AO.map (·.nm),Y.1=.inr x))(_:(∀x,Ty.Sz 400 (mv F x).1/\Ty.Sz 400 (mv F x).2))(_:(∀z:Nat->Rat,xi AO AP F z->(∀j,aV AO<=j->j<aV AO+1+AP.length->z j=0)->∀j,j<aV AO->z j=0))(_:jh H Z)(_:(∀(p:AZ)(v:V)(H':Hp),aX Z H H' ->jh H' Z->H' p=some (.tup [.str "endless",v])->GrE AO AP F->Q (.ref p) H'))(_:(∀(p:AZ)(T L M N:V)(w:Rat)(H':Hp),aX Z H H' ->jh H' Z->H' p=some (.tup [.str "most",T,L,M,N])->ie K H' T w->Ty.Sz 2000000 w->Nf AO AP F (V' (AP.map λb=>Bd b.nm)) (Wa (AP.map λb=>Bd b.nm)) w->Q (.ref p) H'))
def bK:aw ["F","bounds","load","loaded","lows_and_highs","drawn","ways","rows","states","borne","told","numbers","forces","due","motion"] JL (ae eI):=sq
def zan (hNn:∀H:Hp,bQ K H aN [.int 0,.int 1])(kX:mg "NOUGHT"=some (.ref aN))(hO:∀H:Hp,bQ K H aO [.int 1,.int 1])(RG:mg "ONE"=some (.ref aO))(bq:mg "len"=none)(cH:mg "list"=none)(D:Def K mg "greatest_of" eI JL)(aqJ:ad P w K mg gN 3 "load_row" ["F","load"] (rR K C))(DJ:ad P w K mg gN 3 "all_bounds" KO (MR K C))(aqK:ad P w K mg gN 38 "draw_rows" ["F"] (om K C))(Mz:ad P w K mg gN 1 "turned" Ut jV)(uB:ad P w K mg gN 36 "spare_columns" Ut (wK K))(aja:ad P w K mg gN 3 "pulls_and_pushes" α' (adQ K C))(DK:ad P w K mg gN 37 "most_borne" IZ (DF K P0))(DM:ad P w K mg gN 35 "mixed_rows" JY (ad2 K))(V9:ad P w K mg gN 1 "signs_turned" UT (pS K))(aqL:ad P w K mg gN 37 "solve_rows" JQ (CC K))(aqM:ad P w K mg gN 2 "motion_from" α' (wQ K C)):
  ad P w K mg gN 39 "greatest_of" JL (kj K C P0):=by
 show D.op bK λf cu A gV s H vs Q E J h=>?_;let(a,dB,dL,Y,Z,kB,kL,Bd,F,rfl,R,g,lp,lb,hdB,hkB,hvB,szB,hdL,hP,hkL,szF,hI,tb,q1,q2):=h;let wl:aV Y<=2*Y.length:=pQ Y g.lw;let ql:(dQ Y Z).length=aV Y+Z.length:=mL Y Z;let big:(100:Nat)<=HZ:=eY
 show(_,(aa (aC 3 bK.nd (aK aqJ J (aJ (pv 0) (pv 2)))) (aa (aC 4 bK.nd (aK DJ J (aJ (pv 0) (pv 1)))) (aa (aC 5 bK.nd (aK aqK J (aR (pv 0)))) (aa (aC 6 bK.nd (ay c9 (aS aG rfl bq cn (aR (pv 5))) (aS aG rfl bq cn (aR (pv 4))))) (aa (aC 7 bK.nd (ay hV (ay hV (cX eO (pv 5) eM (dD (pv 6))) (bS (aR (pv 3)))) (cX eO (pv 5) (dD (pv 6)) eM))) (aa (aC 8 bK.nd (aK uB J (aJ (aK Mz J (aJ (pv 7) (aS aG rfl bq cn (aR (pv 3))))) (aS aG rfl bq cn (aR (pv 7)))))) (aa (bR (nJ (LY (dI J) (pv 6) (pv 8))) (ak (aI (a_ (aJ eZ (aH (aK aja J (aJ (pv 0) (cX eO (jk (dI J) (pv 8) (pv 6) (λ_ _=>O)) eM (dD (pv 6)))))))))) bf) (aa (aC 9 bK.nd (aaG rfl rfl cH (pv 8))) (aa (aC 10 bK.nd (aK DK J (b8 (pv 9) (pv 6) (pv 4)))) (aa (aC 11 bK.nd (aK DM J (b8 (aH (pv 10)) (pv 9) (aS aG rfl bq cn (aR (pv 7)))))) (aa (aC 12 bK.nd (aK aja J (aJ (pv 0) (ay hV (cX eO (pv 11) eM (dD (pv 6))) (cX eO (pv 11) (dD (ay b9 (pv 6) ah)) eM))))) (aa (aC 13 bK.nd (ay hV (ay hV (ay rj (bS (aR (gy (v:=.ref aN) rfl kX rfl))) (pv 6)) (bS (aR (gy (v:=.ref aO) rfl RG rfl)))) (aK V9 J (aR (aH (pv 10)))))) (aa (aC 14 bK.nd (aK aqM J (aJ (pv 0) (aH (aK aqL J (b8 (pv 7) (pv 13) (aS aG rfl bq cn (aR (pv 3))))))))) (ak (aI (a_ (Lz eZ (Lz (aH (pv 10)) (b8 (aH (pv 12)) (aH (pv 12)) (pv 14)))))))))))))))))))),?_);sleep 13
 show(_,O,_,O,a,dL,Y,Z,kL,F,O,R,cr,hdL,hP,hkL,λl us H1 s1 nl el nm=>?_);show(_,O,_,O,a,dB,Y,Z,kB,Bd,O,R.gO s1,cr,s1 _ _ hdB,hkB,λb hb=>?_,λlo2 uo H2 s2 nlb Xt pb=>?_)
 ·let(v,h1,h2,h3):=hvB b hb
  show(v,h1,h2.gO s1,h3)
 let pJ:=s1.trans s2;show(_,O,a,Y,Z,O,R.gO pJ,g,λr ls cx H3 s3 nr RR=>?_);let lls:ls.length=aV Y+Z.length:=by rw [RR.vy.2.1,RR.num.1,ql]
 let lu2:uo.length=Z.length:=by have:=pb.length;rwa [Wp] at this
 show(_,O,r,_,O,.inl (bh.of RR.vy.1),_,O,lo2,_,O,.inl (bh.of (s3 _ _ Xt)),_,_,O,O,?_);let eW:(((ls.map V.ref).length:Nat):Int)-((uo.length:Nat):Int)=((aV Y:Nat):Int):=by rw [Wp];omega
 rw [eW];generalize hW:aV Y=W at wl ql lls eW ⊢;show(_,O,_,O,_,O,r,_,O,bh.of RR.vy.1,?_);intros p4 n4 H4 s4 e4;rw [kd (by rw [Wp];omega)] at e4;show(_,O,qB,?_);intros p5 n5 H5 s5 e5;let s35:=s4.trans s5;show(p4,p5,_,_,O,O,s5 _ _ e4,e5,(by rw [Me,Wp];change _+1<=HZ;omega),?_);intros p6 n6 H6 s6 e6;let Tn:=s35.trans s6;show(_,O,_,O,_,O,r,_,O,bh.of (Tn _ _ RR.vy.1),?_);intros p7 n7 H7 s7 e7;rw [iT (by rw [Wp];omega)] at e7;show(p6,p7,_,_,O,O,s7 _ _ e6,e7,(by rw [JG,Me,Ux,Wp];change _+1+_<=HZ;omega),?_);intros r8 n8 H8 s8 e8;let s38:=(Tn.trans s7).trans s8;let s18:=(s2.trans s3).trans s38;let s08:=s1.trans s18;let lsv:ls.length=cx.length:=RR.vy.2.1;let lvq:cx.length=(dQ Y Z).length:=RR.num.1;let im:=ai' (P:=λ(x:AZ) (y:γ)=>H8 x=some (.lst y)) (W:=W) (a:=l) (b:=us) lsv (λi x y T U=>s38 _ _ (RR.vy.2.2 i x y T U)) (s18 _ _ el);let inn:=ai' (P:=λ(y:γ) (z:ε)=>bT K H8 y z) (W:=W) (a:=us) (b:=fS F Y) lvq (λi x y T U=>(RR.num.2 i x y T U).gO s38) (nm.gO s18);let eA:allR Y Z F=(dQ Y Z).take W++[fS F Y]++(dQ Y Z).drop W:=by unfold allR;rw [hW]
 rw [<-eA] at inn
 let e8':H8 r8=some (.lst ((ls.take W++[l]++ls.drop W).map V.ref)):=by
  rw [e8,QC,QC,List.map_take,List.map_drop];rfl
 generalize hLA:ls.take W++[l]++ls.drop W=L at im e8';generalize hVA:cx.take W++[us]++cx.drop W=Xw at im inn;let M8:jG H8 r8 L Xw:=(e8',im.1,im.2);let N8:fQ K H8 Xw (allR Y Z F):=inn;let lA:(allR Y Z F).length=W+1+Z.length:=by rw [zai,hW]
 let lvA:=N8.1;let llA:=M8.2.1;let shA:=xh g szF;let(shC,pbC):=akE g szF lp lb;rw [hW] at shC;let lus:us.length=2*Y.length:=by rw [nm.1,i8]
 show(_,O,_,O,l,_,O,.inl (bh.of (s18 _ _ el)),r8,L,Xw,_,O,M8,cr,cr,cr,λvs hvs=>?_,λc cs H9 s9 Cm=>?_)
 ·let(i,hi):=LP hvs
  have LA :i<Xw.length:=(be.mp hi).1;let U:(allR Y Z F)[i]?=some ((allR Y Z F)[i]'cr):=gE cr;have:=(N8.2 i vs _ hi U).1;have:=(shA _ (IH U)).1;omega
 rw [lus,show(((2*Y.length:Nat):Int)).toNat=2*Y.length by omega] at Cm
 let N9:fQ K H9 (gW Xw (2*Y.length)) (gX Y Z F):=#[by unfold gW gX;rw [Wp,Wp],λi vs qs T U=>by
  let hi:i<2*Y.length:=by have:=(be.mp T).1;simpa [gW] using this
  let a1:(gW Xw (2*Y.length))[i]?=some (kZ Xw i):=by simp [gW,Vi hi]
  let a2:(gX Y Z F)[i]?=some (cZ (allR Y Z F) i):=by unfold gX;rw [ir,Vi hi];rfl
  rw [a1] at T;rw [a2] at U;cases T;cases U
  show(r9 N8 shA hi).gO s9]
 let lcR:(gX Y Z F).length=2*Y.length:=by unfold gX;rw [Wp,Zq]
 let elA:((L.map V.ref).length:Nat)=W+1+Z.length:=by rw [Wp];omega
 show(_,O,r8,_,O,.inl (bh.of (s9 _ _ M8.1)),c,(L.map V.ref).length,cs,_,gX Y Z F,400,400,950,9527,O,Cm,N9,by rwa [elA],pbC,cr,cr,eY,eY,eY,?_,eY,λsd AV M os lv nd HA sA nsd esd m ib red hss hF=>?_)
 ·unfold bb
  show GX (Qq (show min (L.map V.ref).length (gX Y Z F).length+1<=7 by omega) (DX _)) eY
 rw [elA] at ib red hss hF
 let lsR:∀z:Nat->Rat,(∀o∈os,ev o z=0) ↔ xi Y Z F z:=λz=>by
  unfold xi;rw [hW];show ady ib (λqs hq=>(shC qs hq).1) z
 let S:yC os lv (W+1+Z.length) 9527 nd M:=(red,hss,hF,λo ho=>by
  let(i,e):=LP ho;let hi:=(be.mp e).1;let hl:=ib.1;let T:(gX Y Z F)[i]?=some ((gX Y Z F)[i]'cr):=gE cr;let(b,hb,wh):=ib.2 i o _ e T;rw [wh.1,(shC _ (IH T)).1]
  show DX _)
 let sk:=m.keys
 let aqP:(AV.map (·.1)).Nodup:=by
  rw [sk,show(M.map λx=>(U_ (x.1:Int):Key))=(M.map (·.1)).map (λn=>(U_ ((n:Nat):Int):Key)) from by rw [P2];rfl,hss];show am6 _ (λa b hab e=>hab ?_) (AF.filter _);have:=Zk e;omega
 let sAt:∀{j:Nat} {x:Nat×List (Int×Int)},M[j]?=some x->∃p jg,AV[j]?=some (.inl (x.1:Int),.ref p)/\HA p=some (.lst jg)/\bT K HA jg x.2:=λ{j x} e=>by
  let hj:=(be.mp e).1;let hl:=m.1;let ek:AV[j]?=some (AV[j]'cr):=gE cr;let(h1,p,jg,h2,h3,h4):=m.2 j _ x ek e;show(p,jg,?_,h3,h4);rw [ek,<-h1,<-h2]
 let s0A:=s08.trans (s9.trans sA);let RA:=R.gO s0A;show(_,O,_,O,sd,_,O,ia.k (k:=.inl (W:Int)) esd,_,O,?_);by_cases hin:W∈M.map (·.1)
 ·let(x,hx,xW):=GV.mp hin
  let(j,ej):=LP hx;let hj:=(be.mp ej).1;let(p,jg,ek,hp,nq):=sAt ej;let xW':x.1=W:=xW;rw [xW'] at ek;have Xk :=zaq aqP ek;rw [Xk];show Zc ?_;let fl:=(S.hF x hx).1;have aJv :jg.length=W+1+Z.length:=by rw [nq.1,fl]
  show(_,O,_,O,_,O,sd,_,O,Xk ▸ia.k (k:=.inl (W:Int)) esd,_,O,_,O,p,_,O,bh.of hp,?_);intros pB1 nB1 HB sB1 eB1;rw [kd cr] at eB1;show(a,pB1,Y,Z,_,O,RA.gO sB1,g,eB1,by rw [hW,Me];omega,by rw [Me];omega,λpp dT dU HC sC hpp=>?_);show(pp,_,_,_,O,O,bQ.of hpp,iK,qt,?_);intros pt nt HD st et;let sAD:=s0A.trans (sB1.trans (sC.trans st));show q1 pt _ HD (λb o _ e=>sAD _ _ e) (tb.gO sAD) et (λc=>aF (qe M) j c,(lsR _).mp (S.own hj),?_,λb hb=>?_)
  ·rw [hW]
   have:=(S.z hj).1.one;rwa [(mh ej 0).2,xW'] at this
  ·rw [hW]
   let z:=(S.z hj).1;rw [(mh ej 0).2,xW'] at z;show z.behind S.R cr
 let evn:ff AV (.inl (W:Int))=none:=c_ λh=>hin (by
  rw [sk] at h;let(x,hx,e):=GV.mp h;have:=Zk e
  show GV.mpr (x,hx,cr))
 rw [evn];show Za ?_
 let few:=S.few rfl hin (λz hz h=>by
  have:=hI z ((lsR z).mp hz);rw [hW] at this
  show this h)
 show(_,O,sd,AV,O,esd,?_);intros bo nbo HB sB ebo
 let(ws,lws,hws):=jU (P:=λi (kv:Key×V) (w:AZ×List V)=>kv.2=.ref w.1/\HA w.1=some (.lst w.2)/\∀x,M[i]?=some x->bT K HA w.2 x.2) AV λi kv e=>by
  let hi:=(be.mp e).1;let hl:=m.1;let ex:M[i]?=some (M[i]'cr):=gE cr;let(h1,p,jg,h2,h3,h4):=m.2 i kv _ e ex;show((p,jg),h2,h3,λx hx=>by erw [ex] at hx;show h4)
 let lkv:=m.1
 let GP:AV.map (λkv=>kv.2)=(ws.map (·.1)).map V.ref:=by
  show U3 λi=>?_;rw [ir,ir,ir];by_cases hi:i<AV.length
  ·let T:AV[i]?=some AV[i]:=gE hi
   let U:ws[i]?=some (ws[i]'cr):=gE cr;rw [T,U];change some AV[i].2=some (V.ref (ws[i]'cr).1);rw [(hws i _ _ T U).1]
  ·rw [JM cr,JM cr]
   rfl
 rw [GP] at ebo
 let MB:jG HB bo (ws.map (·.1)) (ws.map (·.2)):=(ebo,by rw [Wp,Wp],λi l' vs T U=>by
  rw [ir] at T U;let(w1,ew,rfl):=MK.mp T;erw [ew] at U;let hi:=(be.mp ew).1
  show sB _ _ (hws i _ _ (gE cr) ew).2.1)
 let NB:fQ K HB (ws.map (·.2)) (qe M):=#[by rw [Wp,ajw];omega,λi vs qs T U=>by
  unfold qe at U;rw [ir] at T U;let(w1,ew,rfl):=MK.mp T;let(x,ex,rfl):=MK.mp U;let hi:=(be.mp ew).1
  show((hws i _ _ (gE cr) ew).2.2 x ex).gO sB]
 let sBA:=s9.trans (sA.trans sB);let s0B:=s08.trans sBA;let lst:=ajw M;let lbd:(Z.map λb=>Bd b.nm).length=Z.length:=Wp ..
 let shS:Shape 9527 9527 (W+1+Z.length) (qe M):=λqs hq=>by
  unfold qe at hq;let(x,hx,rfl):=GV.mp hq;show#[(hF x hx).1,i7.aqI red (hF x hx)]
 let s3B:=s38.trans sBA;let k5:M.length<=5:=cr
 let M1:9527+9527*(M.length+M.length+1)<=114324:=cr
 let bz1:bz (2*Z.length) (9527+9527*(M.length+M.length+1))<=1257685:=by
  unfold bz;let a1:=Qq (show 2*Z.length+1<=11 by omega) (show 2*Z.length+1<=11 by omega);let a2:=Qq M1 (show 2*Z.length+1<=11 by omega);omega
 show(_,O,_,O,_,O,bo,lo2,W,_,_,qe M,uo,Z.map (λb=>Bd b.nm),9527,O,MB,NB,by rwa [lbd],(s3.trans s3B) _ _ Xt,Paired.cF pb (λ_ _ z=>z.gO (s3.trans s3B)),λp hp=>?_,cr,cr,cr,by rw [lst];omega,by rw [lst,lbd];omega,tb.gO s0B,?_,λp lx ly uw xs ys w' X σ N HC kC tC hp nw hN smw hlx pX lX sX hly pY lY sY Bq=>?_)
 ·let(b,hb,rfl):=GV.mp hp
  let(v,_,_,h1,h2):=hvB b hb;let(z1,z2):=szB b hb;show(h1,h2,O9 (DI z1) eY eY,O9 (DI z2) eY eY)
 ·rw [lst,lbd]
  show λX h=>S.ai8 rfl hin X h
 rw [lst,lbd] at hN;rw [lst] at lX;rw [lbd] at lY;rw [lst,lbd] at Bq;let N1:N<=1372009:=cr
 let tbB:=tb.gO s0B;let RC:=Nh (R.gO s0B) tbB kC;let ttC:=qb tbB kC
 let KA:∀{b Xh},HB b=some (.lst Xh)->HC b=some (.lst Xh):=λ{b Xh} e=>kC _ _ (λz=>by
  let(ps',e'):=tbB.lj;rw [z,e'] at e
  cases e) e
 let MC:jG HC bo (ws.map (·.1)) (ws.map (·.2)):=(KA MB.1,MB.2.1,λi x y T U=>KA (MB.2.2 i x y T U));let NC:fQ K HC (ws.map (·.2)) (qe M):=#[NB.1,λi x y T U=>Ov (NB.2 i x y T U) ttC];let M8C:jG HC r8 L Xw:=(KA (sBA _ _ M8.1),M8.2.1,λi x y T U=>KA (sBA _ _ (M8.2.2 i x y T U)));let N8C:fQ K HC Xw (allR Y Z F):=#[N8.1,λi x y T U=>Ov ((N8.2 i x y T U).gO sBA) ttC];let elC:=KA ((s18.trans sBA) _ _ el);show(_,O,p,_,_,_,O,O,bQ.of hp,bI (j:=1) rfl,_,O,_,O,r8,_,O,.inl (bh.of M8C.1),lx,bo,(L.map V.ref).length,X.map qr,_,_,qe M,9527,9527,2*N+1,2*N,O,(xs,bh.of hlx,xa pX),MC,NC,cr,by rwa [elA],by rw [Wp,lX,lst],by rw [Wp];omega,λq' rf =>?_,?_,?_,cr,eY,λl2 us3 rs3 HD sD eD pD lD=>?_)
 ·let(r',qc,rfl):=GV.mp rf
  show sX r' qc
 ·rw [Wp,lX]
  have:=Qq (show 2*N<=2744018 by omega) k5;omega
 ·rw [Wp,lX]
  have:=Qq (DX 9527) k5;omega
 let l3u:us3.length=W+1+Z.length:=by rw [pD.length,lD,elA]
 show(_,O,_,O,_,O,_,O,l2,_,O,bh.of eD,?_);intros pa na HE sa ea;rw [kd cr] at ea;show(_,O,_,O,_,_,O,O,_,O,l2,_,O,bh.of (sa _ _ eD),?_);intros pb2 nb2 HF sb eb;rw [show((W:Nat):Int)+1=((W+1:Nat):Int) from by omega,iT cr] at eb;show(pa,pb2,_,_,O,O,sb _ _ ea,eb,(by rw [Me,Ux];omega),?_);intros pc nc HG sc ec;let sCG:=(sD.trans sa).trans (sb.trans sc);show(a,pc,Y,Z,_,O,RC.gO sCG,g,ec,by rw [hW,JG,Me,Ux];omega,by rw [JG,Me,Ux];omega,λpf dT dU HI sI hpf=>?_);show#[qB,?_];intros q5 nq1 HJ sq1 eq1;show(_,O,q5,_,_,O,O,eq1,cr,cr,(by change 1*W<=HZ;omega),?_);intros q6 nq6 HK sq6 eq6;let aqT:(JB ((W:Nat):Int).toNat [V.ref aN]).flatten=JB W (V.ref aN):=by simp
 rw [aqT] at eq6;show#[qB,?_];intros q7 nq7 HL sq7 eq7;show(q6,q7,_,_,O,O,sq7 _ _ eq6,eq7,(by rw [YU];change _+1<=HZ;omega),?_);intros q8 nq8 HM sq8 eq8;let sIM:=(sq1.trans sq6).trans (sq7.trans sq8);let sCM:=(sCG.trans sI).trans sIM;let hpM:=sCM _ _ hp;let lYy:=pY.length;show(_,O,p,_,_,_,O,O,bQ.of hpM,bI (j:=2) rfl,ly,ys,σ,O,sCM _ _ hly,Paired.cF pY (λ_ _ z=>z.gO sCM),cr,λq9 us9 HN2 sN eN pN=>?_);let l9:=pN.length;rw [Wp] at l9;show(q8,q9,_,_,O,O,sN _ _ eq8,eN,(by rw [JG,YU];change W+1+_<=HZ;omega),?_);intros qd nd2 HO2 sd2 ed;let sCO:=sCM.trans (sN.trans sd2);let lYb:σ.length=Z.length:=lY;let M8O:=M8C.gO sCO;let N8O:=N8C.gO sCO
 let nds:bT K HO2 (JB W (V.ref aN)++[V.ref aO]++us9) (JB W (0,1)++[(1,1)]++(σ.map λr=> -r).map qr):=by
  let n1:bT K HO2 (JB W (V.ref aN)++[V.ref aO]) (JB W (0,1)++[(1,1)]):=by
   show bT.snoc #[by simp,λi u q T U=>?_] (aO,O,hO _);rw [Vh] at T U;split at T
   ·rename_i c
    rw [jY c] at U;cases T;cases U;show(aN,O,hNn _)
   ·cases T
  let n2:=xa (Paired.cF pN λ_ _ z=>z.gO sd2);show#[by rw [JG (as:=JB W (V.ref aN)++[V.ref aO]),JG (as:=JB W ((0,1):Int×Int)++[(1,1)]),n1.1,n2.1],λi u q T U=>?_];let ll:=n1.1;by_cases ci:i<(JB W (V.ref aN)++[V.ref aO]).length
  ·rw [MF ci] at T
   rw [MF cr] at U;show n1.2 i u q T U
  ·rw [Mg cr] at T U
   rw [<-ll] at U;show n2.2 _ u q T U
 let lds:(JB W ((0,1):Int×Int)++[(1,1)]++(σ.map λr=> -r).map qr).length=W+1+Z.length:=by rw [JG,JG,YU,Wp,Wp,lYb];rfl
 let N0:400<=N:=cr
 let smd:∀d∈JB W ((0,1):Int×Int)++[(1,1)]++(σ.map λr=> -r).map qr,Sm (N+1) N d:=λd hd=>by
  rcases MU.mp hd with hd|hd
  ·rcases MU.mp hd with hd|hd
   ·rw [(List.mem_replicate.mp hd).2]
    show(eY,eY,P1 _,Ur)
   ·rw [MJ.mp hd]
    show(eY,eY,Ur,Ur)
  ·let(r1,h1,rfl):=GV.mp hd
   let(r2,h2,rfl):=GV.mp h1;show vB (sY r2 h2)
 show(_,O,_,O,_,O,_,O,l,_,O,.inl (bh.of (sCO _ _ elC)),r8,qd,us.length,L,Xw,allR Y Z F,_,JB W (0,1)++[(1,1)]++(σ.map λr=> -r).map qr,N+1,N,2400+N,bb (N+1+(2400+N)) 7,O,M8O,N8O,ed,nds,by rw [lds,lA],?_,smd,?_,cr,cr,cr,cr,cr,BX _ cr,?_,?_,?_)
 ·rw [lus]
  show λqs hq=>#[(shA qs hq).1,λq rf =>O9 ((shA qs hq).2 q rf) cr cr]
 ·intro i qs d T U
  let(h1,h2):=shA qs (IH T);let hd:=smd d (IH U);rw [rK,Uv];show Qq (GX (wH λq hq=>(h2 q hq).bot) (Qt eY (by rw [h1];omega))) ?_;change d.2.natAbs*1<=_;rw [yx];show hd.bot
 ·unfold bb
  omega
 ·intro p2 x jg Xh HP sP hp2 hx nx lx2 zx mX
  let sCP:=sCO.trans sP;show(p2,_,_,_,O,O,bQ.of hp2,iK,a,x,Y,Z,jg,O,RC.gO sCP,g,hx,by rw [nx.1,lx2,lus],λdM HQ sQ=>?_);let sCQ:=sCP.trans sQ;let sIQ:=((sIM.trans (sN.trans sd2)).trans sP).trans sQ;let aje:=sIQ _ _ hpf;show(_,O,p,_,_,_,O,O,bQ.of (sCQ _ _ hp),bI (j:=0) rfl,_,O,pf,_,_,_,O,O,bQ.of aje,iM,_,O,pf,_,_,_,O,O,bQ.of aje,iK,_,O,z5L,?_);intros pt nt HR st et;let sCR:=sCQ.trans st;let tld:=S.told rfl Bq;show q2 pt uw _ _ _ w' HR (λb o n e=>sCR _ _ (kC b o n (s0B _ _ e))) (tC.gO sCR) et (nw.gO sCR) #[iu smw.top cr,iu smw.bot cr] #[?_,λz hz hb=>?_]
  ·let(z,z1,z2,z3):=tld.J_
   rw [hW];show(z,(lsR z).mp z1,z2,z3)
  ·rw [hW] at hb ⊢
   show tld.most z ((lsR z).mpr hz) hb
 ·intro p2 y jg I HP sP hp2 hy ny ly2 zy h0 h1
  exfalso;rw [lA] at ly2
  let ker:∀o∈os,ev o (λj=>(I.map vl).getD j 0)=0:=(lsR _).mpr λqs hq=>by
   unfold gX at hq;let(j,hj,rfl):=GV.mp hq;have U8 :=QF.mp hj;let lcq:(cZ (allR Y Z F) j).length=W+1+Z.length:=by unfold cZ;rw [Wp,lA]
   have:=h0 j (by rwa [lus]);rw [Pa (by rw [ly2,lcq]),lcq] at this;rw [hW];show this
  let pr:=S.JK rfl Bq ker;rw [Pa (by rw [ly2,lds]),lds,i_,cz] at h1
  let e0:Ty.sumTo W (λj=>vl ((JB W ((0,1):Int×Int)++[(1,1)]++(σ.map λr=> -r).map qr).getD j (0,1))*(I.map vl).getD j 0)=0:=by
   rw [bZ W _ (λ_=>0) λj hj=>?_,Ty.sumTo_zero _ _ λ_=>O];rw [JC (l:=JB W ((0,1):Int×Int)++[(1,1)]++_),MF (by simp;omega),MF (by simpa using hj),Vh,jY hj];change vl ((0,1):Int×Int)*_=0;rw [DG];grind
  let eW1:vl ((JB W ((0,1):Int×Int)++[(1,1)]++(σ.map λr=> -r).map qr).getD W (0,1))=1:=by
   rw [JC,MF fN,Mg fN];simp only [YU,Zl];show Nb
  let eB1:Ty.sumTo Z.length (λb=>vl ((JB W ((0,1):Int×Int)++[(1,1)]++(σ.map λr=> -r).map qr).getD (W+1+b) (0,1))*(I.map vl).getD (W+1+b) 0)= -Ty.sumTo Z.length (λb=>σ.getD b 0*(I.map vl).getD (W+1+b) 0):=by
   rw [show -Ty.sumTo Z.length (λb=>σ.getD b 0*(I.map vl).getD (W+1+b) 0)=(-1)*Ty.sumTo Z.length (λb=>σ.getD b 0*(I.map vl).getD (W+1+b) 0) by grind,<-Ty.sumTo_mul];show bZ _ _ _ λb hb=>?_;let ey:σ[b]?=some (σ[b]'cr):=gE cr;rw [JC (l:=JB W ((0,1):Int×Int)++[(1,1)]++_),Mg (by rw [JG,YU];show Nat.le_add_right _ _),JC (l:=σ),ey];simp only [JG,YU,ahF,Ol];rw [ir,ir,ey];change vl (qr (-σ[b]))*_= -1*(σ[b]*_);rw [eh];grind
  rw [e0,eW1,eB1,<-pr] at h1;grind
def cell (Z:ο)(k:Int):Int:=if k<(Z.length:Int) then (Z[k.toNat]?).getD 0 else ((((k+5)*(k+5)*48271).fmod 2147483647)*(((k+5)*(k+5)*48271).fmod 2147483647)).fmod 2147483629
def mP {x m:Int}(h:0<m):0<=x.fmod m/\x.fmod m<m:=#[Ob x h,aiz x h]
inductive oC (K:Frag)(vs:γ)(H:Hp)(Q:VK)(Y:XK):Prop
|mk (a:AZ)(Z:ο)(k:Int)(_:vs=[.ref a,.int k])(_:bh K H a (Z.map V.int))(_:0<=k)(_:k<=1000)(_:Q (.int (cell Z k)) H)
def cell_in {Z:ο}{k:Int}(U:0<=k)(h:k<(Z.length:Int)):iP (Z.map V.int) k=some (.int (cell Z k)):=by
 let Y:k.toNat<Z.length:=cr
 let X:k=((k.toNat:Nat):Int):=cr
 let q:iP (Z.map V.int) ((k.toNat:Nat):Int)=some (.int (cell Z k)):=bI (by
  unfold cell;rw [jY h,ir,gE Y]
  rfl)
 rwa [<-X] at q
def oE (h:i.natAbs<2^k):intBits i<=k:=intBits_le_iff.mpr h
def abM:aw ["_law_script","_law_k","_law_part"] α0 (ae Q6):=sq
def ajf (D:Def K mg "_law_cell_at" Q6 α0)(Q:mg "len"=none):Fn P w K mg gN CX 1 "_law_cell_at" α0 (oC K):=by
 show D.oo abM λH N h=>?_;let(a,Z,k,rfl,T,R,M,q):=h
 show(_,(aa (bR (bU kr (pv 1) (aS aG rfl Q cn (aR (pv 0)))) (ak (aI (bC aE (pv 0) (pv 1)))) bf) (aa (aC 2 abM.nd (ay iq (ay bY (ay bY (ay b9 (pv 1) ah) (ay b9 (pv 1) ah)) ah) ah)) (ak (aI (ay iq (ay bY (pv 2) (pv 2)) ah))))),?_)
 let U:(Z.map V.int).length=Z.length:=Wp _;show(_,O,_,O,a,_,O,.inl T,_,_,O,O,_,O,?_);show bP (λc=>?_) (λc=>?_)
 ·let Y:k<(((Z.map V.int).length:Nat):Int):=Qd c
  rw [U] at Y;show(_,O,_,O,a,_,k,_,O,O,T,cell_in R Y,q)
 ·let Y:¬ k<(((Z.map V.int).length:Nat):Int):=of_decide_eq_false (VA.mpr c)
  rw [U] at Y;let X:intBits (k+5)<=11:=oE (by change _<2048;omega);let L:=mP (x:=(k+5)*(k+5)*48271) (m:=2147483647) eY;let S:intBits (((k+5)*(k+5)*48271).fmod 2147483647)<=31:=oE (by change _<2147483648;omega);show(_,O,_,_,O,O,_,O,_,_,O,O,_,_,O,O,#[GX X eY,GX X eY],_,_,O,O,#[GX (Ws X X) eY,by decide+kernel],_,_,O,O,nz eY,_,O,_,O,_,_,O,O,#[GX S eY,GX S eY],_,_,O,O,nz eY,?_)
  let e:cell Z k=((((k+5)*(k+5)*48271).fmod 2147483647)*(((k+5)*(k+5)*48271).fmod 2147483647)).fmod 2147483629:=by
   unfold cell;rw [iO Y]
  rwa [e] at q
def field (c p m:Int):Int:=(((c.fmod p+11)*48271).fmod p).fmod m
def bD (h:0<m):0<=field c p m/\field c p m<m:=mP h
inductive iA (vs:γ)(H:Hp)(Q:VK)(Z:XK):Prop
|mk (c p m:Int)(_:vs=[.int c,.int p,.int m])(_:0<p)(_:p<=2000000)(_:0<m)(_:Q (.int (field c p m)) H)
def ajg:aw UY UY (ae Q7):=sq
def ajh (D:Def K mg "_law_field" Q7 UY):Fn P w K mg gN CX 1 "_law_field" UY iA:=by
 show D.oo ajg λH X h=>?_;let(c,p,m,rfl,Y,Z,U,q):=h;show(_,(ak (aI (ay iq (ay iq (ay bY (ay b9 (ay iq (pv 0) (pv 1)) ah) ah) (pv 1)) (pv 2)))),?_);let T:=mP (x:=c) Y;show(_,O,_,O,_,_,O,O,nz cr,_,_,O,O,_,_,O,O,#[GX (oE (k:=22) (by change _<4194304;omega)) eY,by decide+kernel],_,O,_,_,O,O,nz cr,_,O,_,_,O,O,nz cr,q)
inductive cT (vs:γ)(H:Hp)(Q:VK)(Z:XK):Prop
|mk (t b:Int)(_:vs=[.int t,.int b])(_:0<b)(_:gives H Q (low t b))
def Pb:aw ["_law_top","_law_bottom","_law_one","_law_other"] Vn (ae Q8):=sq
def aji (T:P.given.tree=none)(D:Def K mg "_law_lowest" Q8 Vn)(R:mg "abs"=none):ad P w K mg gN 33 "_law_lowest" Vn cT:=by
 show D.oo Pb λH S h=>?_;let(t,b,rfl,E,q):=h
 show(_,(aa (aC 2 Pb.nd (aS aft rfl R abf (aR (pv 0)))) (aa (aC 3 Pb.nd (pv 1)) (aa (oQ M9 (bU vG (pv 3) ah) (ak (ach (i:=2) (j:=3) rfl Pb.nd rfl rfl eY rfl rfl (aJ (pv 3) (ay iq (pv 2) (pv 3))) rfl))) (ak (aI (a_ (aJ (ay (fX T (Ty.cp.py S eY) rfl rfl rfl rfl rfl) (pv 0) (pv 2)) (ay (fX T (Ty.cp.py S eY) rfl rfl rfl rfl rfl) (pv 1) (pv 2))))))))),?_)
 show(_,O,t,O,_,O,?_);show ag0 (λY U=>∃x y:Int,Y=[some (.int t),some (.int b),some (.int x),some (.int y)]/\U=H/\0<=x/\0<=y/\Nl x y=Nl t b) (λY _=>match Y with|[_,_,_,some (.int y)]=>y.natAbs|_=>0) (_,b,O,O,?_,cr,?_) ?_ ?_
 ·split<;>omega
 ·split
  ·show Int.neg_gcd
  ·rfl
 ·rintro Y U ⟨x,y,rfl,rfl,I,Q,g⟩
  show(_,O,O,_,O,?_);show bP (λc=>?_) (λc=>?_)
  ·let Z:y≠0:=by
    intro z;subst z;simp at c
   show(_,O,_,O,_,O,_,_,O,O,Z,_,_,O,(_,_,O,O,Q,Ob _ cr,by rwa [afp]),zC Z)
  ·let Z:y=0:=by
    have:=VA.mpr c;simp at this;show this
   subst Z
   let e:x=sg t b:=by
    rw [amU] at g;unfold sg;rw [iO cr];unfold gz;rw [<-g];omega
   subst e;let X:b≠0:=cr
   let c:=vM (t:=t) X;show(_,O,_,O,_,_,O,O,c,_,O,_,O,_,_,O,O,c,qt,λp N=>?_);show q p _ (av N _) af
 ·rintro Y U A C h ⟨v,J,L,k,M,z⟩
  show(v,J,L,k,M,h _ _ z)
structure Ns (n:Nat)(q:Int×Int):Prop where
 top:q.1.natAbs<=2^n
 bot:q.2.natAbs<=2^n
def Ns.up (h:Ns m q)(l:m<=n):Ns n q:=#[GX h.top (Qt eY l),GX h.bot (Qt eY l)]
def nE (K:Frag)(H:Hp)(v:V)(n:Nat)(r:Rat):Prop:=∃q:Int×Int,m6 K H v q/\0<q.2/\vl q=r/\Ns n q
theorem nE.gO (h:nE K H v n r)(s:ar H H'):nE K H' v n r:=by
 let(q,Y,Z):=h;show(q,Y.gO s,Z)
theorem nE.aY (h:nE K H v n r)(s:bw H H'):nE K H' v n r:=by
 let(q,Y,Z):=h;show(q,Y.aY s,Z)
theorem nE.up (h:nE K H v m r)(l:m<=n):nE K H v n r:=by
 let(q,U,X,Y,Z):=h;show(q,U,X,Y,Z.up l)
def gL (h:ie K H v r)(z:Zb n r):nE K H v n r:=(qr r,h,cY r,eh r,#[z.top,z.bot])
def jt (h:Sz k r)(l:k<=n):Zb n r:=#[Qr (P_ (intBits_le_iff.mp h.top) (Qt eY l)),Qr (P_ (intBits_le_iff.mp h.bot) (Qt eY l))]
def oF (x y:Int×Int):Int×Int:=(x.1*y.2+y.1*x.2,x.2*y.2)
def k_ (x y:Int×Int):Int×Int:=(x.1*y.1,x.2*y.2)
def iJ {a b:Int}(Y:a.natAbs<=2^m)(Z:b.natAbs<=2^n):(a*b).natAbs<=2^(m+n):=by
 rw [YT,Uv];show Qq Y Z
def aai (U:0<x.2)(X:0<y.2)(Y:Ns m x)(Z:Ns n y):0<(oF x y).2/\vl (oF x y)=vl x+vl y/\Ns (m+n+1) (oF x y):=by
 show(RL U X,?_,?_,?_)
 ·unfold vl oF
  let R:((x.2:Int):Rat)≠0:=c7 (QD U);let S:((y.2:Int):Rat)≠0:=c7 (QD X);push_cast;grind
 ·let N:=iJ Y.top Z.bot
  let T:=iJ Z.top Y.bot;rw [yw n m] at T;let Q:=yy (x.1*y.2) (y.1*x.2);change (x.1*y.2+y.1*x.2).natAbs<=2^(m+n+1);rw [Ve];omega
 ·show GX (iJ Y.bot Z.bot) (Qt eY cr)
def aaj (U:0<x.2)(X:0<y.2)(Y:Ns m x)(Z:Ns n y):0<(k_ x y).2/\vl (k_ x y)=vl x*vl y/\Ns (m+n) (k_ x y):=by
 show(RL U X,?_,iJ Y.top Z.top,iJ Y.bot Z.bot);unfold vl k_;let S:((x.2:Int):Rat)≠0:=c7 (QD U);let T:((y.2:Int):Rat)≠0:=c7 (QD X);push_cast;grind
inductive dA (K:Frag)(f:Int×Int->Int×Int->Int×Int)(vs:γ)(H:Hp)(Q:VK)(Z:XK):Prop
|mk (u v:V)(x y:Int×Int)(m n:Nat)(_:vs=[u,v])(_:m6 K H u x)(_:m6 K H v y)(_:Ns m x)(_:Ns n y)(_:m+n<=130000000)(_:gives H Q (f x y))
def Pc (S:nE K H u m x)(T:nE K H v n y)(l:m+n<=130000000)(k:∀(p:AZ)(H':Hp),ar H H' ->nE K H' (.ref p) (m+n+1) (x+y)->Q (.ref p) H'):dA K oF [u,v] H Q E:=by
 let(Y,A,C,D,U):=S;let(Z,I,J,L,X):=T;let(M,N,R):=aai C J U X;show(u,v,Y,Z,m,n,O,A,I,U,X,l,λp H' s e=>k p H' s (oF Y Z,(p,O,bQ.of e),M,by rw [N,D,L],R))
def km (S:nE K H u m x)(T:nE K H v n y)(l:m+n<=130000000)(k:∀(p:AZ)(H':Hp),ar H H' ->nE K H' (.ref p) (m+n) (x*y)->Q (.ref p) H'):dA K k_ [u,v] H Q E:=by
 let(Y,A,C,D,U):=S;let(Z,I,J,L,X):=T;let(M,N,R):=aaj C J U X;show(u,v,Y,Z,m,n,O,A,I,U,X,l,λp H' s e=>k p H' s (k_ Y Z,(p,O,bQ.of e),M,by rw [N,D,L],R))
inductive kq (K:Frag)(vs:γ)(H:Hp)(Q:VK)(Z:XK):Prop
|mk (u:V)(x:Int×Int)(_:vs=[u])(_:m6 K H u x)(_:gives H Q (0-x.1,x.2))
def zaE (X:nE K H u m x)(k:∀(p:AZ)(H':Hp),ar H H' ->nE K H' (.ref p) m (-x)->Q (.ref p) H'):kq K [u] H Q E:=by
 let(Z,S,T,U,Y):=X;show(u,Z,O,S,λp H' s e=>k p H' s ((0-Z.1,Z.2),(p,O,bQ.of e),T,?_,?_,Y.bot))
 ·rw [<-U]
  unfold vl;push_cast;grind
 ·have:=Y.top
  change (0-Z.1).natAbs<=2^m;omega
def ajj:aw Qj Qj (ae Q9):=sq
def ajk (D:Def K mg "_law_sum" Q9 Qj):ad P w K mg gN 1 "_law_sum" Qj (dA K oF):=by
 show D.oo ajj λH J h=>?_;let(u,v,x,y,m,n,rfl,(U,rfl,S),(X,rfl,T),Y,Z,l,q):=h;show(_,(ak (aI (a_ (aJ (ay b9 (ay jn (aH (pv 0)) (aH (pv 1))) (ay jn (aH (pv 1)) (aH (pv 0)))) (ay jn (aH (pv 0)) (aH (pv 1))))))),_,O,U,_,_,_,O,O,S,iM,_,O,X,_,_,_,O,O,T,iK,_,_,O,O,iF Y.top Z.bot cr,_,O,X,_,_,_,O,O,T,iM,_,O,U,_,_,_,O,O,S,iK,_,_,O,O,iF Z.top Y.bot cr,_,_,O,O,_,O,U,_,_,_,O,O,S,iK,_,O,X,_,_,_,O,O,T,iK,_,_,O,O,iF Y.bot Z.bot cr,qt,?_);intros Q L M R N;show q Q M R N
def ajl:aw Qj Qj (ae Q_):=sq
def ajm (D:Def K mg "_law_times" Q_ Qj):ad P w K mg gN 1 "_law_times" Qj (dA K k_):=by
 show D.oo ajl λH J h=>?_;let(u,v,x,y,m,n,rfl,(U,rfl,S),(X,rfl,T),Y,Z,l,q):=h;show(_,(ak (aI (a_ (aJ (ay jn (aH (pv 0)) (aH (pv 1))) (ay jn (aH (pv 0)) (aH (pv 1))))))),_,O,U,_,_,_,O,O,S,iM,_,O,X,_,_,_,O,O,T,iM,_,_,O,O,iF Y.top Z.top cr,_,O,U,_,_,_,O,O,S,iK,_,O,X,_,_,_,O,O,T,iK,_,_,O,O,iF Y.bot Z.bot cr,qt,?_);intros Q L M R N;show q Q M R N
def ajn:aw Zu Zu (ae Ra):=sq
def ajo (D:Def K mg "_law_turned" Ra Zu):ad P w K mg gN 1 "_law_turned" Zu (kq K):=by
 show D.oo ajn λH Q h=>?_;let(u,x,rfl,(Z,rfl,Y),q):=h;show(_,(ak (aI (a_ (aJ (ay c9 ah (aH (pv 0))) (aH (pv 0)))))),_,O,Z,_,_,_,O,O,Y,iM,_,_,O,O,_,O,Z,_,_,_,O,O,Y,iK,qt,?_);intros U R S X T;show q U S X T
def nameOf (st a k:Int):Str:=if st=0 then Txt.mul "p" (k+1) else if st=1 then Txt.mul "p" a++#[(List.toArray [(iP (Ql "bcdefghijklm").cps.toList k).getD 0])]++Txt.mul "p" (5-a) else Txt.slice "12345" none (some a)++(toString k:String)
def zaD:∀st:Fin 3,∀a:Fin 6,∀k:Fin 12,∀j:Fin 12,k≠j->nameOf (st.val:Int) (a.val:Int) (k.val:Int)≠nameOf (st.val:Int) (a.val:Int) (j.val:Int):=by decide+kernel
def aea:∀n:Fin 20,MulOk "p" (n.val:Int):=by
 intro n;unfold MulOk
 revert n
 decide+kernel
def aeb:∀k:Fin 12,iP (Ql "bcdefghijklm").cps.toList (k.val:Int)=some ((iP (Ql "bcdefghijklm").cps.toList (k.val:Int)).getD 0):=by decide+kernel
def ajY:∀a:Fin 6,∀k:Fin 12,(Txt.mul "p" (a.val:Int)).length+(#[(List.toArray [(iP (Ql "bcdefghijklm").cps.toList (k.val:Int)).getD 0])]:Str).length<=1000/\
  (Txt.mul "p" (a.val:Int)++(#[(List.toArray [(iP (Ql "bcdefghijklm").cps.toList (k.val:Int)).getD 0])]:Str)).length+(Txt.mul "p" (5-(a.val:Int))).length<=1000/\(Txt.slice "12345" none (some (a.val:Int))).length+(Ql (toString (k.val:Int))).length<=1000:=by decide+kernel
inductive DN (vs:γ)(H:Hp)(Q:VK)(Z:XK):Prop
|mk (c k:Int)(_:vs=[.int c,.int k])(_:0<=k)(_:k<12)(_:Q (.str (nameOf (field c 3001 3) (field c 4001 6) k)) H)
def Wh:aw zaK w_ (ae Ms):=sq
def ajp (y:IG CX)(D:Def K mg "_law_name" Ms w_)(j:mg "str"=none)(L:Fn P w K mg gN CX 1 "_law_field" UY iA):Fn P w K mg gN CX 2 "_law_name" w_ DN:=by
 show D.op Wh λf o A u s H vs Q E M h=>?_;let(c,k,rfl,h0,x,q):=h;let N:=tI (X:=nN CX P w K mg gN zaK "_law_name" (ae Ms) f o A u s H E) y
 show(_,(aa (aC 2 Wh.nd (tJ L M.mo N (b8 (pv 0) ah ah))) (aa (aC 3 Wh.nd (tJ L M.mo N (b8 (pv 0) ah ah))) (aa (bR (bU fO (pv 2) ah) (ak (aI (ay BE eZ (ay b9 (pv 1) ah)))) bf) (aa (bR (bU fO (pv 2) ah) (ak (aI (ay nK (ay nK (ay BE eZ (pv 3)) (bC acv eZ (pv 1))) (ay BE eZ (ay c9 ah (pv 3)))))) bf) (ak (aI (ay nK (cX acL eZ eM (dD (pv 3))) (g_ pins rfl j aga (aR (pv 1)))))))))),?_)
 let C:=bD (c:=c) (p:=3001) (m:=3) eY;let I:=bD (c:=c) (p:=4001) (m:=6) eY;show(_,O,_,_,_,O,eY,eY,eY,_,O,_,_,_,O,eY,eY,eY,?_);generalize field c 3001 3=st at C q ⊢;generalize field c 4001 6=a at I q ⊢;obtain ⟨Y,rfl⟩:∃n:Nat,k=(n:Int):=#[k.toNat,cr];obtain ⟨R,rfl⟩:∃n:Nat,a=(n:Int):=#[a.toNat,cr]
 let mk:∀i:Int,0<=i->i<20->MulOk "p" i:=λi a b=>by
  have:=aea #[i.toNat,cr]
  rwa [show((#[i.toNat,cr]:Fin 20).val:Int)=i by change ((i.toNat:Nat):Int)=i;omega] at this
 show(_,O,O,_,O,?_);show bP (λz=>?_) (λz=>?_)
 ·let T:st=0:=by simpa [AW] using z
  subst T;show(_,O,_,_,O,O,_,_,O,O,mk _ cr cr,q)
 let T:¬ st=0:=by simpa [AW] using z
 let S:=ajY #[R,cr] #[Y,cr];show(_,O,O,_,O,?_);show bP (λU=>?_) (λU=>?_)
 ·let Z:st=1:=by simpa [AW] using U
  subst Z;show(_,O,_,_,O,O,mk _ cr cr,_,O,_,_,_,O,O,(by decide+kernel),aeb #[Y,cr],_,_,O,O,GX S.1 eY,_,O,_,_,O,O,_,_,O,O,mk _ cr cr,_,_,O,O,GX S.2.1 eY,q)
 ·let Z:¬ st=1:=by simpa [AW] using U
  show(_,O,_,O,_,O,(by decide+kernel),?_);let J:(Y:Int).natAbs.log2<1920:=L_ (Nat.log2_le_self _) (by change Y<1920;omega);show(_,O,_,O,J,_,_,O,O,GX S.2.2 eY,?_)
  let e:nameOf st (R:Int) (Y:Int)=Txt.slice "12345" none (some (R:Int))++Ql (toString (Y:Int)):=by
   unfold nameOf;rw [iO T,iO Z]
  rwa [e] at q
def mi (ws:Β):Prop:=ws=[]\/(∃x y:Rat,ws=[(x,y)]/\¬ (x=0/\y=0)/\Sz 22 x/\Sz 22 y)\/ws=[(1,0),(0,1)]
def xk (i:Int)(h:H p=some (.tup [.int i,.int 1])):ie K H (.ref p) (i:Rat):=(p,O,by rw [v_];show bQ.of h)
def jb (h:H p=some (.tup [.int (qr r).1,.int (qr r).2])):ie K H (.ref p) r:=(p,O,bQ.of h)
def t7 (h:H p=some (.tup [u,v]))(Y:ie K H u r)(Z:ie K H v s):gP K H (.ref p) (r,s):=(p,u,v,O,bQ.of h,Y,Z)
def qg {i:Int}(h:i.natAbs<1048576)(Z:20<=k):Sz k (i:Rat):=Mc (P_ h (show 2^20<=2^k from Qt eY Z)) cr
def mQ {t b:Int}(h:0<b)(Y:t.natAbs<1048576)(Z:b<1048576):Sz 20 ((t:Rat) / (b:Rat)):=rE (QD h) (intBits_le_iff.mpr (by change _<1048576;omega)) (intBits_le_iff.mpr (by change _<1048576;omega))
inductive DO (K:Frag)(vs:γ)(H:Hp)(Q:VK)(Z:XK):Prop
|mk (c k:Int)(_:vs=[.int c,.int k])(_:∀(p:AZ)(x y:Rat)(H':Hp),ar H H' ->Sz 20 x->Sz 20 y->gP K H' (.ref p) (x,y)->Q (.ref p) H')
def Wj:aw ["_law_cell","_law_kind","_law_x"] KC (ae Rb):=sq
def ajq (D:Def K mg "_law_spot" Rb KC)(X:ad P w K mg gN 1 "_law_field" UY iA)(L:ad P w K mg gN 33 "_law_lowest" Vn cT):ad P w K mg gN 34 "_law_spot" KC (DO K):=by
 show D.oo Wj λH Z h=>?_;let(c,k,rfl,q):=h;let L2:2<=HZ:=eY
 show(_,(aa (bR (bU fO (pv 1) ah) (ak (aI (a_ (aJ (a_ (aJ (aK X Z (b8 (pv 0) ah ah)) ah)) (a_ (aJ (aK X Z (b8 (pv 0) ah ah)) ah)))))) bf) (aa (bR (bU fO (pv 1) ah) (aa (aC 2 Wj.nd (aK L Z (aJ (ay c9 (aK X Z (b8 (pv 0) ah ah)) ah) (ay b9 ah (aK X Z (b8 (pv 0) ah ah)))))) (ak (aI (a_ (aJ (pv 2) (aK L Z (aJ (ay c9 (aK X Z (b8 (pv 0) ah ah)) ah) (ay b9 ah (aK X Z (b8 (pv 0) ah ah)))))))))) bf) (aa (aC 2 Wj.nd (aK L Z (aJ (ay c9 (aK X Z (b8 (pv 0) ah ah)) ah) (ay b9 ah (aK X Z (b8 (pv 0) ah ah)))))) (ak (aI (a_ (aJ (pv 2) (aK L Z (aJ (ay c9 (aK X Z (b8 (pv 0) ah ah)) ah) (ay b9 ah (aK X Z (b8 (pv 0) ah ah)))))))))))),?_);sleep 3
 show(_,O,O,_,O,?_);show bP (λ_=>?_) (λ_=>?_)
 ·let A:=bD (c:=c) (p:=1009) (m:=4) eY
  let C:=bD (c:=c) (p:=2003) (m:=4) eY;show(_,O,_,_,_,O,eY,eY,eY,L2,?_);intros I j y R S;show(_,O,_,_,_,O,eY,eY,eY,L2,?_);intros J o z U T;show#[L2,?_];intros Q E M Y N;show q Q _ _ M ((R.trans U).trans Y) (qg cr eY) (qg cr eY) (t7 N (((xk _ S).gO U).gO Y) ((xk _ T).gO Y))
 show(_,O,O,_,O,?_);show bP (λ_=>?_) (λ_=>?_)
 ·let A:=bD (c:=c) (p:=1009) (m:=13) eY
  let C:=bD (c:=c) (p:=3001) (m:=3) eY;let u:=bD (c:=c) (p:=2003) (m:=13) eY;let x:=bD (c:=c) (p:=4001) (m:=2) eY;show(_,O,_,_,_,O,eY,eY,eY,_,_,O,O,_,O,_,_,_,O,eY,eY,eY,_,_,O,O,_,_,O,cr,λI y R S=>?_);rw [d9 cr] at S;show(_,O,_,O,_,_,_,O,eY,eY,eY,_,_,O,O,_,O,_,_,_,O,eY,eY,eY,_,_,O,O,_,_,O,cr,λJ z U T=>#[L2,?_]);rw [d9 cr] at T;intros Q E M Y N;show q Q _ _ M ((R.trans U).trans Y) (mQ cr cr cr) (mQ cr cr cr) (t7 N (((jb S).gO U).gO Y) ((jb T).gO Y))
 ·let A:=bD (c:=c) (p:=1000003) (m:=1000003) eY
  let C:=bD (c:=c) (p:=3001) (m:=997) eY;let u:=bD (c:=c) (p:=1000033) (m:=1000003) eY;let x:=bD (c:=c) (p:=4001) (m:=997) eY;show(_,O,_,_,_,O,eY,eY,eY,_,_,O,O,_,O,_,_,_,O,eY,eY,eY,_,_,O,O,_,_,O,cr,λI y R S=>?_);rw [d9 cr] at S;show(_,O,_,O,_,_,_,O,eY,eY,eY,_,_,O,O,_,O,_,_,_,O,eY,eY,eY,_,_,O,O,_,_,O,cr,λJ z U T=>#[L2,?_]);rw [d9 cr] at T;intros Q E M Y N;show q Q _ _ M ((R.trans U).trans Y) (mQ cr cr cr) (mQ cr cr cr) (t7 N (((jb S).gO U).gO Y) ((jb T).gO Y))
inductive DP (K:Frag)(vs:γ)(H:Hp)(Q:VK)(Z:XK):Prop
|mk (c:Int)(_:vs=[.int c])(_:∀(l:AZ)(us:γ)(ws:Β)(H':Hp),mi ws->ar H H' ->H l=none->H' l=some (.lst us)->mT K H' us ws->Q (.ref l) H')
def aak :(qr r).1=0 ↔ r=0:=#[CL,λe=>by rw [e,gm]]
def KG:aw ["_law_cell","_law_kind","_law_x","_law_y"] Vl (ae Rc):=sq
def ajr (D:Def K mg "_law_ways" Rc Vl)(dY:ad P w K mg gN 1 "_law_field" UY iA)(lh:ad P w K mg gN 33 "_law_lowest" Vn cT):ad P w K mg gN 34 "_law_ways" Vl (DP K):=by
 show D.op KG λf cu A gV s H vs Q E R h=>?_;let(c,rfl,q):=h;let L0:0<=HZ:=eY
 let L1:1<=HZ:=eY
 let L2:2<=HZ:=eY
 show(_,(aa (aC 1 KG.nd (aK dY R (b8 (pv 0) ah ah))) (aa (bR (bU kr (pv 1) ah) (ak (aI (bS gC))) bf) (aa (bR (bU kr (pv 1) ah) (ak (aI (bS (aJ (a_ (aJ (a_ (aJ ah ah)) (a_ (aJ ah ah)))) (a_ (aJ (a_ (aJ ah ah)) (a_ (aJ ah ah)))))))) bf) (aa (aC 2 KG.nd (aK lh R (aJ (ay c9 (aK dY R (b8 (pv 0) ah ah)) ah) (ay b9 ah (aK dY R (b8 (pv 0) ah ah)))))) (aa (aC 3 KG.nd (aK lh R (aJ (ay c9 (aK dY R (b8 (pv 0) ah ah)) ah) (ay b9 ah (aK dY R (b8 (pv 0) ah ah)))))) (aa (bR (PW.pt (LH (bU fO (aH (pv 2)) ah) (AM (bU fO (aH (pv 3)) ah)))) (ak (aC 3 KG.nd (a_ (aJ ah ah)))) bf) (ak (aI (bS (aR (a_ (aJ (pv 2) (pv 3))))))))))))),?_);sleep 6
 show(_,O,_,_,_,O,eY,eY,eY,_,O,_,_,O,O,_,O,?_);show bP (λ_=>?_) (λ_=>?_)
 ·show#[L0,?_]
  intros l nl H1 s1 I;show q l [] [] H1 (.inl rfl) s1 nl I .nil
 show(_,O,_,_,O,O,_,O,?_);show bP (λ_=>?_) (λ_=>?_)
 ·show#[L2,?_]
  intros p1 n1 H1 s1 I;show#[L2,?_];intros p2 n2 H2 s2 J;show#[L2,?_];intros p3 n3 T U e3;show#[L2,?_];intros o n4 H4 Y L;show#[L2,?_];intros p5 j X Z M;show#[L2,?_];intros p6 n6 H6 u e6;show#[L2,?_];intros p7 n7 H7 S e7;let sh:=s1.trans (s2.trans (U.trans (Y.trans (Z.trans u))));let w1:gP K H7 (.ref p3) (1,0):=OV CN gm (S _ _ (u _ _ (Z _ _ (Y _ _ e3)))) (S _ _ (u _ _ (Z _ _ (Y _ _ (U _ _ (s2 _ _ I)))))) (S _ _ (u _ _ (Z _ _ (Y _ _ (U _ _ J)))));let w2:gP K H7 (.ref p6) (0,1):=OV gm CN (S _ _ e6) (S _ _ (u _ _ (Z _ _ L))) (S _ _ (u _ _ M));show q p7 _ [(1,0),(0,1)] _ (.inr (.inr rfl)) (sh.trans S) (sh.free n7) e7 (.cons w1 (.cons w2 .nil))
 let i1:=bD (c:=c) (p:=6007) (m:=7) eY;let i2:=bD (c:=c) (p:=7001) (m:=3) eY;let i3:=bD (c:=c) (p:=8009) (m:=7) eY;let i4:=bD (c:=c) (p:=9001) (m:=2) eY;show(_,O,_,_,_,O,eY,eY,eY,_,_,O,O,_,O,_,_,_,O,eY,eY,eY,_,_,O,O,_,_,O,cr,λp1 H1 s1 I=>?_);rw [d9 cr] at I;show(_,O,_,_,_,O,eY,eY,eY,_,_,O,O,_,O,_,_,_,O,eY,eY,eY,_,_,O,O,_,_,O,cr,λp2 H2 s2 J=>?_);rw [d9 cr] at J;let z1:=mQ (t:=field c 6007 7-3) (b:=1+field c 7001 3) cr cr cr;let z2:=mQ (t:=field c 8009 7-3) (b:=1+field c 9001 2) cr cr cr;generalize ((field c 6007 7-3:Int):Rat) / ((1+field c 7001 3:Int):Rat)=x at I z1 ⊢;generalize ((field c 8009 7-3:Int):Rat) / ((1+field c 9001 2:Int):Rat)=y at J z2 ⊢;have LV :=s2 _ _ I;let pJ:=s1.trans s2
 let N:∀(v:V)(C:Rat)(T:Hp),ar H2 T->ie K T v C ->Sz 22 C ->¬ (x=0/\C=0)->∀(p:AZ)(l:AZ)(X:Hp),ar T X->T l=none->X p=some (.tup [.ref p1,v])->X l=some (.lst [.ref p])->Q (.ref l) X:=λv C T U hv zy hn p l X Z nl ep el=>
  q l [.ref p] [(x,C)] X (.inr (.inl (x,C,O,hn,z1.up eY,zy))) (pJ.trans (U.trans Z)) ((pJ.trans U).free nl) el (.cons (t7 ep (((jb LV).gO U).gO Z) (hv.gO Z)) .nil)
 show(_,O,p1,_,_,_,O,O,bQ.of LV,iM,O,_,O,?_);show bP (λc1=>?_) (λc1=>?_)
 ·have ur :x=0:=aak.mp (by simpa using Qd c1)
  show(_,O,p2,_,_,_,O,O,bQ.of J,iM,O,_,O,?_);show bP (λc2=>?_) (λc2=>?_)
  ·show#[L2,?_]
   intros p3 n3 T U e3;show(_,O,_,O,L2,?_);intros o n4 H4 Y L;show#[L1,?_];intros l5 j X Z M;show N (.ref p3) 1 T U (xk 1 e3) (qg (i:=1) eY eY) (λz=>DB z.2 eY) o l5 X (Y.trans Z) (Y.free j) (Z _ _ L) M
  ·let c2':¬ y=0:=λz=>c2 (by rw [z,gm];decide)
   show(_,O,_,O,L2,?_);intros o n4 H4 Y L;show#[L1,?_];intros l5 j X Z M;show N (.ref p2) y H2 (ar.refl _) (jb J) (z2.up eY) (λz=>c2' z.2) o l5 X (Y.trans Z) (Y.free j) (Z _ _ L) M
 ·have ur :¬ x=0:=λz=>c1 (by rw [z,gm];decide)
  show Za ?_;show(_,O,_,O,L2,?_);intros o n4 H4 Y L;show#[L1,?_];intros l5 j X Z M;show N (.ref p2) y H2 (ar.refl _) (jb J) (z2.up eY) (λz=>ur z.1) o l5 X (Y.trans Z) (Y.free j) (Z _ _ L) M
inductive qh (K:Frag)(H:Hp)(d:AZ)(v:V)(p:ba):Prop
|mk (a l:AZ)(s:V)(us:γ)(_:v=.ref a)(_:bQ K H a [.str p.nm,s,.ref l])(_:gP K H s p.sp)(_:H l=some (.lst us))(_:mT K H us p.ws)(_:l≠d)
inductive so (K:Frag)(H:Hp)(v:V)(p:ba):Prop
|mk (a l:AZ)(s:V)(us:γ)(_:v=.ref a)(_:bQ K H a [.str p.nm,s,.ref l])(_:gP K H s p.sp)(_:H l=some (.lst us))(_:mT K H us p.ws)
inductive sy (K:Frag)(H:Hp)(AO:υ)(v:V)(b:cf):Prop
|mk (a:AZ)(i j:Nat)(_:v=.ref a)(_:bQ K H a [.str b.nm,.int (i:Int),.int (j:Int)])(_:AO[i]?=some b.one)(_:AO[j]?=some b.kG)
section
variable {K:Frag}{H H':Hp}{v:V}{p:ba}{d:AZ}
theorem qh.gO (h:qh K H d v p)(s:ar H H'):qh K H' d v p:=by
 let(a,l,Y,Z,e,R,S,T,U,X):=h;show(a,l,Y,Z,e,Ty.ar.gx s R,S.gO s,s _ _ T,U.gO s,X)
theorem qh.upd (h:qh K H d v p)(e:H d=some (.lst xs)):qh K (L2.upd H d o) d v p:=by
 let(a,l,X,Y,ev,S,T,R,U,Z):=h;let t:bw H (L2.upd H d o):=.list e;show(a,l,X,Y,ev,t.gx S,T.aY t,by rwa [ag Z],U.aY t,Z)
def qh.r (h:qh K H d v p):so K H v p:=by
 let(a,l,Y,Z,e,S,T,U,X,_):=h;show(a,l,Y,Z,e,S,T,U,X)
theorem so.gO (h:so K H v p)(s:ar H H'):so K H' v p:=by
 let(a,l,Y,Z,e,S,T,U,X):=h;show(a,l,Y,Z,e,Ty.ar.gx s S,T.gO s,s _ _ U,X.gO s)
def sy.gO (h:sy K H AO v b)(s:ar H H'):sy K H' AO v b:=by
 let(a,i,j,e,X,Y,Z):=h;show(a,i,j,e,Ty.ar.gx s X,Y,Z)
end
structure nF (AO:υ):Prop where
 np:(AO.map (·.nm)).Nodup
 ns:(AO.map (·.sp)).Nodup
 sz:∀p∈AO,Sz 24 p.sp.1/\Sz 24 p.sp.2
 ws:∀p∈AO,mi p.ws
def mi.sz (h:mi ws):∀w∈ws,Sz 22 w.1/\Sz 22 w.2:=λw Z=>by
 rcases h with rfl|⟨x,y,rfl,_,T,U⟩|rfl
 ·cases Z
 ·have:w=(x,y):=by simpa using Z
  rw [this];show#[T,U]
 ·let Y:Sz 22 (1:Rat):=qg (k:=22) (i:=1) eY eY
  let X:Sz 22 (0:Rat):=gK eY;have:w=(1,0)\/w=(0,1):=by simpa using Z
  rcases this with rfl|rfl
  ·show#[Y,X]
  ·show#[X,Y]
def mi.len (h:mi ws):ws.length<=2:=by
 rcases h with rfl|⟨x,y,rfl,_⟩|rfl<;>simp
def nF.snoc (g:nF AO)(R:p.nm∉AO.map (·.nm))(S:p.sp∉AO.map (·.sp))(T:Sz 24 p.sp.1/\Sz 24 p.sp.2)(U:mi p.ws):nF (AO++[p]):=by
 show(?_,?_,λq Z=>?_,λq Z=>?_)
 ·rw [QC,OK]
  show(g.np,by simp,λa X b Y e=>R ?_);have:b=p.nm:=by simpa using Y
  rwa [<-this,<-e]
 ·rw [QC,OK]
  show(g.ns,by simp,λa X b Y e=>S ?_);have:b=p.sp:=by simpa using Y
  rwa [<-this,<-e]
 ·rcases MU.mp Z with z|z
  ·show g.sz q z
  ·rw [MJ.mp z]
   show T
 ·rcases MU.mp Z with z|z
  ·show g.ws q z
  ·rw [MJ.mp z]
   show U
structure xm (AO:υ)(AP:Δ):Prop where
 nb:(AP.map (·.nm)).Nodup
 ends:∀b∈AP,b.one∈AO/\b.kG∈AO/\b.one.nm≠b.kG.nm
theorem fh :∀{Y:List Z} {X:List β} {a:Z} {b:β},Paired F Y X->F a b->Paired F (Y++[a]) (X++[b])
 | _,_,_,_,.nil,h=>.cons h .nil
 | _,_,_,_,.cons h t,h'=>.cons h (fh t h')
def mj (inv:L2.St->Hp->Prop)(U:∀N:L2.St->Hp->Prop,(∀Z H',inv Z H' ->N Z H')->t {D with nx:=N} Y H)(X:∀Z H',inv Z H' ->u D Z H'):I_ t u D Y H:=U _ X
def ajs (g:nF AO)(b:xm AO AP)(Y:AO.length<=7)(X:AP.length<=8):jr AO AP:=
 (g.np,b.nb,b.ends,λp Z=>((g.sz p Z).1,(g.sz p Z).2,(g.ws p Z).sz),Y,X,λp Z=>(g.ws p Z).len)
def ajt:Qx "min"=some (.builtin "min"):=by decide+kernel
def cnt (AO:υ)(x:Rat):Nat:=(AO.filter λp=>decide (x<=p.sp.1)).length
theorem Wk (x:Rat):∀AO:List ba,cnt AO (x+1)<=cnt AO x
 | []=>DX _
 | p::ps=>by
  let Z:=Wk x ps;unfold cnt at Z ⊢;rw [OG,OG];by_cases c:x+1<=p.sp.1
  ·let Y:x<=p.sp.1:=by grind
   rw [jY (P9 c),jY (P9 Y)];simpa using Z
  ·rw [iO (by simpa using c)]
   split
   ·rw [Qz]
    omega
   ·show Z
theorem Wm :∀{AO:υ},(∃p∈AO,p.sp.1=x)->cnt AO (x+1)<cnt AO x
 | [],⟨p,h,_⟩=>by simp at h
 | p::ps,⟨q,U,e⟩=>by
  unfold cnt;rw [OG,OG];by_cases T:p.sp.1=x
  ·let c:¬ x+1<=p.sp.1:=by grind
   let Y:x<=p.sp.1:=by grind
   rw [iO (by simpa using c),jY (P9 Y),Qz];have:=Wk x ps;unfold cnt at this;omega
  ·have X :q∈ps:=by
    rcases P4.mp U with z|z
    ·show DB (by rwa [<-z]) T
    ·show z
   let Z:=Wm (AO:=ps) (q,X,e);unfold cnt at Z;by_cases c:x+1<=p.sp.1
   ·let Y:x<=p.sp.1:=by grind
    rw [jY (P9 c),jY (P9 Y)];simpa using Z
   ·rw [iO (by simpa using c)]
    split
    ·rw [Qz]
     omega
    ·show Z
def aal (AO:υ)(x:Rat):cnt AO x<=AO.length:=vV _ _
def aam (r:Rat):oF (qr r) (1,1)=qr (r+1):=by
 let e:oF (qr r) (1,1)=((qr r).1+(qr r).2,(qr r).2):=by
  unfold oF;simp
 let g:Nl ((qr r).1+(qr r).2) (qr r).2=1:=by
  have:=lR r;rw [<-this];simp
 rw [e,zN (q:=((qr r).1+(qr r).2,(qr r).2)) (cY r) g];congr 1;let z:=IW (r:=r);let v:=eh r;unfold vl at v ⊢;push_cast;grind
def aju (h:Sz k r):Ns k (qr r):=#[Qr (intBits_le_iff.mp h.top),Qr (intBits_le_iff.mp h.bot)]
def aan:∀i:Fin 6,∃N:Fin 4,iP [V.int 0,.int 1,.int 2,.int 2,.int 3,.int 3] (i.val:Int)=some (.int (N.val:Int)):=by decide+kernel
inductive DQ (K:Frag)(vs:γ)(H:Hp)(Q:VK)(X:XK):Prop
|mk (Z:AZ)(Y:ο)(_:vs=[.ref Z])(_:bh K H Z (Y.map V.int))(_:∀(l:AZ)(us:γ)(AO:υ)(H':Hp),ar H H' ->H l=none->H' l=some (.lst us)->Paired (so K H') us AO->nF AO->AO.length<=3->Q (.ref l) H')
def cj:aw ["_law_script","_law_cell","_law_many","_law_kind","_law_pins","_law_k","_law_spot_here"] Zw (ae dN):=sq
def afv (D:Def K mg "_law_few_pins" dN Zw)(bB:mg "range"=none)(Wn:mg "min"=none)(oG:ad P w K mg gN 1 "_law_cell_at" α0 (oC K))(dY:ad P w K mg gN 1 "_law_field" UY iA)
  (aqZ:ad P w K mg gN 34 "_law_spot" KC (DO K)) (aq0:ad P w K mg gN 34 "_law_ways" Vl (DP K)) (aec:ad P w K mg gN 2 "_law_name" w_ DN) (Wo:ad P w K mg gN 1 "_law_sum" Qj (dA K oF)):
  ad P w K mg gN 35 "_law_few_pins" Zw (DQ K):=by
 show D.oo cj λH E h=>?_;let(A,ns,rfl,hS,q):=h;let L2:2<=HZ:=eY
 let L3:3<=HZ:=eY
 show(_,(aa (aC 1 cj.nd (aK oG E (aJ (pv 0) ah))) (aa (aC 2 cj.nd (bC aE (bS (Lz ah (Lz ah (Lz ah (b8 ah ah ah))))) (aK dY E (b8 (pv 1) ah ah)))) (aa (aC 3 cj.nd (aK dY E (b8 (pv 1) ah ah))) (aa (bR (bU fO (pv 3) ah) (ak (aC 2 cj.nd (aS (acH rfl) rfl Wn ajt (aJ (pv 2) ah)))) bf) (aa (aC 4 cj.nd (bS gC)) (aa (bM M9 rfl (ck rfl bB (aR (pv 2))) (cB 5 cj.nd) (aa (aC 6 cj.nd (aK aqZ E (aJ (aK oG E (aJ (pv 0) (ay b9 ah (pv 5)))) (pv 3)))) (aa (oQ M9 (vg (zaR E.units) (pv 6) (iw (tn:=["_law_pin"]) (fr:=[]) (kI:=[]) (bX (pv 4)) (bC (gH (K:=K) rfl) (pv 0) ah)) rfl) (ak (aC 6 cj.nd (a_ (aJ (aK Wo E (aJ (aH (pv 6)) (a_ (aJ ah ah)))) (aH (pv 6))))))) (ak (b_ (ku Us σ3 σ2 eE (pv 4) (aR (a_ (b8 (aK aec E (aJ (pv 1) (pv 5))) (pv 6) (aK aq0 E (aR (aK oG E (aJ (pv 0) (ay b9 ah (pv 5))))))))))))))) (ak (aI (pv 4))))))))),?_);try dsimp only [qC,nN,Cx.ve,Cx.yd]
 show(_,O,A,ns,0,O,hS,eY,eY,?_);generalize cell ns 0=Z;show#[z6L,?_];intros t0 nt0 H0 st0 et0;let i1:=bD (c:=Z) (p:=1009) (m:=6) eY;show(_,O,_,_,_,O,eY,eY,eY,?_);generalize field Z 1009 6=fi at i1 ⊢;obtain ⟨fn,rfl⟩:∃n:Nat,fi=(n:Int):=#[fi.toNat,cr];let(N,eN):=aan #[fn,cr];show(t0,_,_,_,O,O,bh.of et0,eN,_,O,_,_,_,O,eY,eY,eY,?_);generalize field Z 2003 3=T;dsimp only [vE,vf];show mj (λy S=>∃N:Nat,N<=3/\y =[some (.ref A),some (.int Z),some (.int (N:Int)),some (.int T),none,none,none]/\S=H0) (λNx RO=>?_) ?_
 ·show(_,O,O,_,O,?_)
  show bP (λ_=>?_) (λ_=>?_)
  ·let hN:=N.isLt
   show(_,O,_,_,O,RO _ _ (min N.val 3,cr,?_,O))
   have:(if (3:Int)<(N.val:Int) then (3:Int) else (N.val:Int))=((min N.val 3:Nat):Int):=by
    split<;>omega
   rw [this];rfl
  ·show RO _ _ (N.val,by have:=N.isLt;omega,O,O)
 rintro y S ⟨N,hN,rfl,rfl⟩;show#[z0L,?_];intros Q np H1 sp ep;let s01:=st0.trans sp;let OW:H Q=none:=st0.free np;show(_,O,(N:Int),O,cr,cr,let I:ce:=λi Y S=>Td λ(o5 o6:ω) (J:γ) (X:υ)=>Y=[bv A,some (.int Z),some (.int (N:Int)),some (.int T),bv Q,o5,o6]/\ar H S/\S Q=some (.lst J)/\Paired (qh K S Q) J X/\nF X/\X.length=i/\∀p∈X,∃j,j<i/\p.nm=nameOf (field Z 3001 3) (field Z 4001 6) (j:Int);cy (lo:=0) (n:=N) I (none,none,[],[],O,s01,ep,.nil,(by simp,by simp,by simp,by simp),O,by simp) ?_ ?_)
 ·rintro i Y H2 hi ⟨o5,o6,J,X,rfl,s2,e2,pp,gp,lpi,nm⟩
  let ei:(0:Int)+(i:Int)=(i:Int):=Qa _;rw [ei];let lu:J.length=X.length:=Mx pp;show(_,O,_,O,_,_,O,O,A,ns,_,O,s2.seq hS,cr,cr,_,O,_,_,O,λp3 U L H3 s3 zx zy h3=>?_);let s23:=s2.trans s3
  let h30:gP K H3 (.ref p3) (U+((0:Nat):Rat),L):=by
   let e:U+((0:Nat):Rat)=U:=by
    have:((0:Nat):Rat)=0:=by rfl
    rw [this];grind
   rwa [e]
  dsimp only [vE,vf];show mj (λy S=>Tc λ(M:V) (x:Rat)=>y =[some (.ref A),some (.int Z),some (.int (N:Int)),some (.int T),some (.ref Q),some (.int (i:Int)),some M]/\ar H3 S/\gP K S M (x,L)/\Sz 24 x/\(x,L)∉X.map (·.sp)) (λNx RO=>?_) ?_
  ·show(λm Y S=>Tc λ(M:V) (j:Nat)=>Y=[bv A,some (.int Z),some (.int (N:Int)),some (.int T),bv Q,some (.int (i:Int)),some M]/\ar H3 S/\gP K S M (U+(j:Rat),L)/\m=cnt X (U+(j:Rat))/\j+cnt X (U+(j:Rat))<=X.length,(_,_,0,O,ar.refl _,h30,O,by have:=aal X (U+((0:Nat):Rat));omega),?_)
   rintro m Y H4 ⟨M,j,rfl,s4,h4,rfl,hj⟩;let e4:=(s3.trans s4) _ _ e2;let pp4:Paired (qh K H4 Q) J X:=Paired.cF pp λ_ _ z=>z.gO (s3.trans s4);let zj:Sz 24 (U+(j:Rat)):=(zx.add (Mc (i:=(j:Int)) (k:=3) (show _<8 by omega) eY)).up eY;show(_,O,_,O,Q,O,#[_,bh.of e4],λD1 n1=>?_)
   show eG (mw:=[]) (K:=K) (a:=Q) (xs:=J) (λi v H=>∃p,X[i]?=some p/\gP K H v p.sp) n1 (by rw [lu];show L_ (show X.length<=1000 by omega) eY) (λH2 s2=>bh.of (s2 _ _ e4)) (λ_ _ _ _ _ h0 ks h=>by
     let(p,h1,h2):=h;show(p,h1,h2.aY λb xs r=>?_)
     rcases r with r|⟨o',r⟩
     ·show .inl (ks _ _ (λe=>by erw [e,h0] at r) r)
     ·show .inr #[o',ks _ _ (λe=>by erw [e,h0] at r) r]) ?_ ?_
   ·intro jj u H6 R hu s6 k
    let(p,AL,hp):=aQ pp4 hu;let(a,l,M,jg,rfl,h1,h2,_):=hp;show(_,O,a,_,_,_,O,O,Ty.ar.gx s6 h1,O,k _ _ (ar.refl _) (p,AL,h2.gO s6))
   intro ys H6 hy ig s6 hD
   let pq:mT K H6 ys (X.map (·.sp)):=fm (by rw [Wp,hy,lu]) λj u q' LV e2'=>by
    let(p,h1,h2):=ig j u LV;erw [ir,h1] at e2';show h2
   let h6:=h4.gO s6;show((U+(j:Rat),L),D1,ys,_,O,bh.of hD,h6,pq,_,O,?_);show bP (λcc=>?_) (λcc=>?_)
   ·let mem:(U+(j:Rat),L)∈X.map (·.sp):=by simpa using cc
    let(p,hp,AL):=GV.mp mem;let lt:=Wm (x:=U+(j:Rat)) (p,hp,by rw [AL])
    let ej:U+(j:Rat)+1=U+((j+1:Nat):Rat):=by
     push_cast;grind
    rw [ej] at lt;show(λy S=>∃(M:V),y =[some (.ref A),some (.int Z),some (.int (N:Int)),some (.int T),some (.ref Q),some (.int (i:Int)),some M]/\ar H3 S/\gP K S M (U+((j+1:Nat):Rat),L),λy S ⟨sv',h1,h2,h3⟩=>(_,lt,sv',j+1,h1,h2,h3,O,cr),?_);let(sa,u1,u2,rfl,Th,hn1,S4):=h6;show(_,O,sa,_,_,_,O,O,Th,iM,L2,?_);intros p7 n7 H7 s7 e7;show(u1,.ref p7,qr (U+(j:Rat)),(1,1),50,1,O,hn1.gO s7,(p7,O,bQ.of e7),aju (zj.up eY),#[eY,eY],eY,λp8 H8 s8 e8=>?_);rw [aam,ej] at e8;show(_,O,sa,_,_,_,O,O,Ty.ar.gx (s7.trans s8) Th,iK,L2,?_);intros p9 n9 H9 s9 e9;let s69:=(s7.trans s8).trans s9;show(.ref p9,O,(s4.trans s6).trans s69,t7 e9 ((jb e8).gO s9) (S4.gO s69))
   ·let fresh:(U+(j:Rat),L)∉X.map (·.sp):=by simpa using cc
    show RO _ _ (M,U+(j:Rat),O,s4.trans s6,h6,zj,fresh)
  rintro y H4 ⟨M,x,rfl,s4,h4,zx',fresh⟩;let f:=s3.trans s4;let vw:=s2.trans f;let e4:=f _ _ e2;let pp4:Paired (qh K H4 Q) J X:=Paired.cF pp λ_ _ z=>z.gO f;show(_,O,.inl (O,_,bh.of e4),_,O,_,O,_,_,O,cr,cr,_,O,_,O,_,O,_,_,O,O,A,ns,_,O,vw.seq hS,cr,cr,_,O,λl8 us8 ws H8 wk s8 n8 e8 p8=>#[L3,?_]);intros p9 n9 H9 s9 e9;let C:=s8.trans s9;let e49:=C _ _ e4;let pp9:Paired (qh K H9 Q) J X:=Paired.cF pp4 λ_ _ z=>z.gO C;show(Q,_,_,O,O,e49,(by rw [lu];show L_ (show X.length<=1000 by omega) eY),?_);let zp:qh K H9 Q (.ref p9) (nameOf (field Z 3001 3) (field Z 4001 6) (i:Int),(x,L),ws):=(p9,l8,M,us8,O,bQ.of e9,h4.gO C,s9 _ _ e8,p8.gO s9,λz=>by erw [z,e4] at n8);show(_,_,_,X++[(nameOf (field Z 3001 3) (field Z 4001 6) (i:Int),(x,L),ws)],O,λb o z=>?_,af,fh (Paired.cF pp9 λ_ _ z=>z.upd e49) (zp.upd e49),gp.snoc (λz=>?_) fresh #[zx',zy.up eY] wk,by simp [lpi],λp hp=>?_)
  ·rw [ag (aj z OW)]
   show C _ _ (vw _ _ z)
  ·let(p,hp,AL):=GV.mp z
   let(j,hj,ej):=nm p hp;let i3:=bD (c:=Z) (p:=3001) (m:=3) eY;let i4:=bD (c:=Z) (p:=4001) (m:=6) eY
   have:=zaD #[(field Z 3001 3).toNat,cr] #[(field Z 4001 6).toNat,cr] #[j,cr] #[i,cr] (λz=>by
    have:=ox Fin.val z;simp at this
    omega)
   show this ?_;change nameOf (((field Z 3001 3).toNat:Nat):Int) (((field Z 4001 6).toNat:Nat):Int) (j:Int)=nameOf (((field Z 3001 3).toNat:Nat):Int) (((field Z 4001 6).toNat:Nat):Int) (i:Int);rwa [show(((field Z 3001 3).toNat:Nat):Int)=field Z 3001 3 by omega,show(((field Z 4001 6).toNat:Nat):Int)=field Z 4001 6 by omega,<-ej]
  ·rcases MU.mp hp with z|z
   ·let(j,hj,ej):=nm p z
    show(j,cr,ej)
   ·rw [MJ.mp z]
    show(i,cr,O)
 ·rintro Y H2 ⟨o5,o6,J,X,rfl,s2,e2,pp,gp,lpi,nm⟩
  show(_,O,q Q J X H2 s2 OW e2 (Paired.cF pp λ_ _ z=>z.r) gp cr)
inductive DR (K:Frag)(vs:γ)(H:Hp)(Q:VK)(T:XK):Prop
|mk (Z Y:AZ)(U:ο)(us:γ)(AO:υ)(_:vs=[.ref Z,.ref Y])(_:bh K H Z (U.map V.int))(_:H Y=some (.lst us))(_:us.length=AO.length)(_:(AO.map (·.nm)).Nodup)(_:AO.length<=6)(_:∀(l:AZ)(X :γ)(AP:Δ)(H':Hp),ar H H' ->H l=none->H' l=some (.lst X)->Paired (sy K H' AO) X AP->xm AO AP->AP.length<=5->Q (.ref l) H')
def xm.snoc (g:xm AO AP)(U:b.nm∉AP.map (·.nm))(X:b.one∈AO/\b.kG∈AO/\b.one.nm≠b.kG.nm):xm AO (AP++[b]):=by
 show#[?_,λq Z=>?_]
 ·rw [QC,OK]
  show(g.nb,by simp,λa T c Y e=>U ?_);have:c=b.nm:=by simpa using Y
  rwa [<-this,<-e]
 ·rcases MU.mp Z with z|z
  ·show g.ends q z
  ·rw [MJ.mp z]
   show X
def t_:aw ["_law_script","_law_pins","_law_cell","_law_many","_law_bars_here","_law_k","_law_one","_law_step"] KJ (ae Rf):=sq
def ajx (D:Def K mg "_law_bars" Rf KJ)(bB:mg "range"=none)(bq:mg "len"=none)(oG:ad P w K mg gN 1 "_law_cell_at" α0 (oC K))(dY:ad P w K mg gN 1 "_law_field" UY iA)(aec:ad P w K mg gN 2 "_law_name" w_ DN):
  ad P w K mg gN 3 "_law_bars" KJ (DR K):=by
 show D.oo t_ λH L h=>?_;let(A,E,M,T,U,rfl,hS,hp,lu,np,lp,q):=h;let L3:3<=HZ:=eY
 show(_,(aa (aC 2 t_.nd (aK oG L (aJ (pv 0) ah))) (aa (aC 3 t_.nd (aK dY L (b8 (pv 2) ah ah))) (aa (bR (bU kr (aS aG rfl bq cn (aR (pv 1))) ah) (ak (aC 3 t_.nd ah)) bf) (aa (aC 4 t_.nd (bS gC)) (aa (bM M9 rfl (ck rfl bB (aR (pv 3))) (cB 5 t_.nd) (aa (aC 6 t_.nd (aK dY L (b8 (aK oG L (aJ (pv 0) (ay b9 ah (pv 5)))) ah (aS aG rfl bq cn (aR (pv 1)))))) (aa (aC 7 t_.nd (ay b9 ah (aK dY L (b8 (aK oG L (aJ (pv 0) (ay b9 ah (pv 5)))) ah (ay c9 (aS aG rfl bq cn (aR (pv 1))) ah))))) (ak (b_ (ku Us σ3 σ2 eE (pv 4) (aR (a_ (b8 (aK aec L (aJ (pv 2) (pv 5))) (pv 6) (ay iq (ay b9 (pv 6) (pv 7)) (aS aG rfl bq cn (aR (pv 1))))))))))))) (ak (aI (pv 4)))))))),?_);try dsimp only [qC,nN,Cx.ve,Cx.yd]
 show(_,O,A,M,1,O,hS,eY,eY,?_);generalize cell M 1=Z;let i1:=bD (c:=Z) (p:=1009) (m:=6) eY;show(_,O,_,_,_,O,eY,eY,eY,?_);generalize field Z 1009 6=fi at i1 ⊢;obtain ⟨fn,rfl⟩:∃n:Nat,fi=(n:Int):=#[fi.toNat,cr];dsimp only [vE,vf];show mj (λY' H'=>∃N:Nat,N<=5/\(0<N->2<=U.length)/\Y' =[some (.ref A),some (.ref E),some (.int Z),some (.int (N:Int)),none,none,none,none]/\H'=H) (λNx RO=>?_) ?_
 ·show(_,O,E,_,O,.inl (bh.of hp),_,_,O,O,_,O,?_)
  show bP (λ_=>?_) (λc=>?_)
  ·show RO _ _ (0,cr,cr,O,O)
  ·let c':¬ (T.length:Int)<2:=λz=>c (P9 z)
   show RO _ _ (fn,cr,λ_=>cr,O,O)
 rintro Y' Hy ⟨N,hN,hN2,rfl,rfl⟩;show#[z0L,?_];intros C nb H1 sb eb;show(_,O,(N:Int),O,cr,cr,let I:ce:=λi Y H'=>Ex5 λ(o5 o6 o7:ω) (Q :γ) (S:Δ)=>Y=[bv A,bv E,some (.int Z),some (.int (N:Int)),bv C,o5,o6,o7]/\ar Hy H'/\H' C=some (.lst Q)/\Paired (sy K H' U) Q S/\xm U S/\S.length=i/\∀b∈S,∃j,j<i/\b.nm=nameOf (field Z 3001 3) (field Z 4001 6) (j:Int);cy (lo:=0) (n:=N) I (none,none,none,[],[],O,sb,eb,.nil,#[by simp,by simp],O,by simp) ?_ ?_)
 ·rintro i Y H2 hi ⟨o5,o6,o7,Q,S,rfl,J,e2,pb,gb,lbi,nm⟩
  let ei:(0:Int)+(i:Int)=(i:Int):=Qa _;rw [ei];let n2:2<=U.length:=hN2 cr;let lv:Q.length=S.length:=Mx pb;let sp:=bh.of (K:=K) (J _ _ hp);show(_,O,_,O,_,_,O,O,A,M,_,O,J.seq hS,cr,cr,_,O,E,_,O,.inl sp,_,_,_,O,eY,eY,cr,?_);let j1:=bD (c:=cell M (8+(i:Int))) (p:=1009) (m:=(T.length:Int)) cr;let j2:=bD (c:=cell M (8+(i:Int))) (p:=2003) (m:=(T.length:Int)-1) cr;show(_,O,_,O,_,_,O,O,A,M,_,O,J.seq hS,cr,cr,_,O,E,_,O,.inl sp,_,_,O,O,_,_,_,O,eY,eY,cr,_,_,O,O,?_);generalize field (cell M (8+(i:Int))) 1009 (T.length:Int)=u at j1 ⊢;generalize field (cell M (8+(i:Int))) 2003 ((T.length:Int)-1)=step at j2 ⊢;obtain ⟨X,rfl⟩:∃n:Nat,u=(n:Int):=#[u.toNat,cr]
  let oo:∃m:Nat,((X:Int)+(1+step)).fmod (T.length:Int)=(m:Int)/\m<T.length/\m≠X:=by
   let f:=mP (x:=(X:Int)+(1+step)) (m:=(T.length:Int)) cr;show((((X:Int)+(1+step)).fmod (T.length:Int)).toNat,cr,cr,λz=>?_);let e:((X:Int)+(1+step)).fmod (T.length:Int)=(X:Int):=cr
   rw [Int.fmod_eq_emod_of_nonneg _ cr] at e;by_cases c:(X:Int)+(1+step)<(T.length:Int)
   ·rw [am7 cr c] at e
    omega
   ·rw [<-Int.sub_emod_right,am7 cr cr] at e
    omega
  let(R,e2',l2',ne2):=oo;show(_,O,.inl (O,_,bh.of e2),_,O,_,O,_,_,O,cr,cr,_,O,_,O,_,O,_,_,O,O,_,O,E,_,O,.inl sp,_,_,O,O,nz cr,L3,?_);intros y n9 H9 s9 e9;let e9:H9 y=some (.tup [.str (nameOf (field Z 3001 3) (field Z 4001 6) (i:Int)),.int (X:Int),.int (((X:Int)+(1+step)).fmod (T.length:Int))]):=e9;rw [e2'] at e9;let e29:=s9 _ _ e2;show(C,_,_,O,O,e29,(by rw [lv];show L_ (show S.length<=1000 by omega) eY),?_);let l1:X<U.length:=cr
  let l2:R<U.length:=cr
  let st:bw H9 (upd H9 C (.lst (Q ++[.ref y]))):=.list e29
  let ns9:∀(v:V)(b:cf),sy K H2 U v b->sy K (upd H9 C (.lst (Q ++[.ref y]))) U v b:=λv b h=>by
   let(a,i',j',e,h1,h2,h3):=h.gO s9;show(a,i',j',e,st.gx h1,h2,h3)
  show(_,_,_,Q ++[.ref y],S++[(nameOf (field Z 3001 3) (field Z 4001 6) (i:Int),U[X],U[R])],O,λb o z=>?_,af,fh (Paired.cF pb λ_ _ z=>ns9 _ _ z) ?_,gb.snoc (λz=>?_) (QJ l1,QJ l2,λz=>?_),by simp [lbi],λb hb=>?_)
  ·rw [ag (aj z nb)]
   show s9 _ _ (J _ _ z)
  ·show(y,X,R,O,st.gx (bQ.of e9),gE l1,gE l2)
  ·let(b,hb,AL):=GV.mp z
   let(j,hj,ej):=nm b hb;let i3:=bD (c:=Z) (p:=3001) (m:=3) eY;let i4:=bD (c:=Z) (p:=4001) (m:=6) eY
   have:=zaD #[(field Z 3001 3).toNat,cr] #[(field Z 4001 6).toNat,cr] #[j,cr] #[i,cr] (λz=>by
    have:=ox Fin.val z;simp at this
    omega)
   show this ?_;change nameOf (((field Z 3001 3).toNat:Nat):Int) (((field Z 4001 6).toNat:Nat):Int) (j:Int)=nameOf (((field Z 3001 3).toNat:Nat):Int) (((field Z 4001 6).toNat:Nat):Int) (i:Int);rwa [show(((field Z 3001 3).toNat:Nat):Int)=field Z 3001 3 by omega,show(((field Z 4001 6).toNat:Nat):Int)=field Z 4001 6 by omega,<-ej]
  ·let q1:(U.map (·.nm))[X]?=some U[X].nm:=by rw [ir,gE l1];rfl
   let q2:(U.map (·.nm))[R]?=some U[X].nm:=by rw [ir,gE l2];show ox some z.symm
   show ne2 ((ajc (by rw [Wp];omega) np).mp (q1.trans q2.symm)).symm
  ·rcases MU.mp hb with z|z
   ·let(j,hj,ej):=nm b z
    show(j,cr,ej)
   ·rw [MJ.mp z]
    show(i,cr,O)
 ·rintro Y H2 ⟨o5,o6,o7,Q,S,rfl,J,e2,pb,gb,lbi,nm⟩
  show(_,O,q C Q S H2 J nb e2 pb gb cr)
def aao (v:V):Uw ("ways":Str) [(("way":Str),v)]=none:=by
 let h:(("ways":Str)=="way")=false:=by decide+kernel
 simp [Uw,h]
inductive xo (K:Frag)(C:AZ)(vs:γ)(H:Hp)(Q:VK)(U:XK):Prop
|mk (Z X:AZ)(us Y :γ)(AO:υ)(AP:Δ)(_:vs=[.ref Z,.ref X])(_:H Z=some (.lst us))(_:Paired (so K H) us AO)(_:H X=some (.lst Y))(_:Paired (sy K H AO) Y AP)(_:nF AO)(_:xm AO AP)(_:AO.length<=6)(_:AP.length<=8)(_:∀(a:AZ)(H':Hp),ar H H' ->zO K H' C a AO AP->Q (.ref a) H')
def ua:aw ["_law_pins","_law_bars_here","_law_frame_here","_law_name_here","_law_spot_here","_law_ways_here","_law_one","_law_other"] IQ (ae Rg):=sq
def ajy {C CR CF fI fR:AZ}(D:Def K mg "_law_frame" Rg IQ)(bq:mg "len"=none)(aed:Mk K C fI)(aee:mg "Frame"=some (.ref C))(aq4:am P w K mg gN 1 fI fdI M_ (CJ K C))(aef:Binds K fdI M_ [])
  (aeg:mg "Roller"=some (.ref CR)) (aeh:mg "Fixed"=some (.ref CF)) (aei:Mk0 K CF) (aej:Mk K CR fR) (aq5:am P w K mg gN 1 fR fdR yB (CM K CR)) (aek:Binds K fdR yB [])
  (wR:bn P w K mg gN 2 CR "ways" M_ (pK K CR)) (wF:bn P w K mg gN 2 CF "ways" M_ (pM K))
  (MPb:bn P w K mg gN 3 C "put_bar" α7 (pO K C)) (MPp:bn P w K mg gN 3 C "put_pin" IS (ik P w K mg gN C)) (MPd:Mb P w K mg gN (aU P w) 3 C "put_pin" IS [.none] (ik P w K mg gN C)):
  ad P w K mg gN 4 "_law_frame" IQ (xo K C):=by
 show D.op ua λf cu A gV s H vs Q E hr h=>?_;let(pA,bA,us,ix,N,AP,rfl,hp,pp,hb,pb,gp,gb,lp6,lb8,q):=h;let lu:us.length=N.length:=Mx pp
 show(_,(aa (aC 2 ua.nd (aer aed aq4 hr.mo rfl aee aef .nil (pY P w))) (aa (bM M9 rfl (bX (pv 0)) (g6 rfl (a9 (cB 3 ua.nd) (a9 (cB 4 ua.nd) (a9 (cB 5 ua.nd) cM)))) (aa (bR (bU fO (aS aG rfl bq cn (aR (pv 5))) ah) (ak (b_ (zaU (k:=3) (pv 2) hr.mo (pY P w) (b8 (pv 3) (aH (pv 4)) (aH (pv 4)))))) bf) (aa (bR (bU fO (aS aG rfl bq cn (aR (pv 5))) ah) (ak (b_ (d6 (k:=3) (pv 2) hr.mo (pY P w) (Lz (pv 3) (b8 (aH (pv 4)) (aH (pv 4)) (amF aej aq5 hr.mo rfl aeg aek .nil (pY P w) (aJ (aH (z9 (pv 5))) (aH (z9 (pv 5)))))))))) bf) (ak (bR (bU fO (aS aG rfl bq cn (aR (pv 5))) ah) (ak (b_ (d6 (k:=3) (pv 2) hr.mo (pY P w) (Lz (pv 3) (b8 (aH (pv 4)) (aH (pv 4)) (acJ aei rfl aeh)))))) bf))))) (aa (bM M9 rfl (bX (pv 1)) (g6 rfl (a9 (cB 3 ua.nd) (a9 (cB 6 ua.nd) (a9 (cB 7 ua.nd) cM)))) (ak (b_ (d6 (k:=3) (pv 2) hr.mo (pY P w) (b8 (pv 3) (aH (bC aE (pv 0) (pv 6))) (aH (bC aE (pv 0) (pv 7)))))))) (ak (aI (pv 2)))))),?_);sleep 3
 intro a S na ndx nad;let sF:ar H (upd (upd H S (.own a)) a (.ins C S [])):=λb o e=>by rwa [ag (aj e na),ag (aj e ndx)]
 show(a,S,O,af,λpP pW pB H1 k1 nP nW nB R1=>#[O,?_]);let s1:ar H H1:=λb o e=>k1 b o (aj e na) (sF _ _ e);let nP:=rF sF nP;let nW:=rF sF nW;let nB:=rF sF nB
 show(_,O,pA,O,#[_,bh.of (s1 _ _ hp)],let I:ce:=λi Y U=>Ex5 λ(o4 o5 o6:ω) (kP kW:η)=>Y=[bv pA,bv bA,bv a,o4,o5,o6,none,none]/\ar H U/\jf K U C a S pP pW pB ((N.take i).map λp=>(p.nm,IY p.sp)) [] kP kW []/\LB K U ((N.take i).map λp=>(p.nm,p.ws)) kW;ef (K:=K) (a:=pA) (xs:=us) I (none,none,none,[],[],O,s1,R1,.nil) (λi Y U _ h=>by
   let(_,_,_,_,_,_,s,_):=h
   show bh.of (s _ _ hp)) ?_ ?_)
 ·rintro i u Y R hu ⟨o4,o5,o6,kP,kW,rfl,s2,R2,W2⟩
  let(p,ep,hpr):=aQ pp hu;let mp:p∈N:=IH ep;let(ta,l,sv,ws,rfl,h1,h2,h3,h4):=hpr.gO s2;let(sa,x1,y1,rfl,Th,hn1,S4):=h2;show(ta,_,O,h1,O,_,_,O,_,_,O,_,_,O,O,?_);let tk:=take_snoc ep;let il:i<N.length:=(be.mp ep).1;let nlP:l≠pP:=λz=>by erw [z,R2.pl] at h3
  let nlW:l≠pW:=λz=>by erw [z,R2.wy] at h3
  let L:∀(hv:V)(H5:Hp)(Q5:VK)(E5:XK),ar R H5->abz P w K mg gN H5 hv p.ws->
    (∀U VR y,ar H U ->U l=some (.lst ws)->jf K U C a S pP pW pB ((N.take (i+1)).map λp=>(p.nm,IY p.sp)) [] VR y []->LB K U ((N.take (i+1)).map λp=>(p.nm,p.ws)) y ->Q5 .cK U)->ik P w K mg gN C [.ref a,.str p.nm,x1,y1,hv] H5 Q5 E5:=λhv H5 Q5 E5 M hY L=>by
   show(a,S,pP,pW,pB,_,_,kP,kW,_,_,p.nm,x1,y1,hv,IY p.sp,p.ws,O,R2.gO M,W2.gO M,by rw [P2,P2];rfl,hn1.gO M,S4.gO M,λz=>?_,λz hz e=>?_,?_,hY,λU VR y k' R' W'=>?_)
   ·rw [P2] at z
    let(p',hp',e'):=GV.mp z;show o_ (nm:=ba.nm) gp.np ep hp' e'
   ·let(p',hp',e'):=GV.mp hz
    rw [<-e'] at e;let e1:=ox aoq e;let e2:=ox aor e;let e3:p'.sp=p.sp:=Zx (n_ e1) (n_ e2);let(j,hj,ej):=IA.mp hp';rw [am1] at ej;rw [Me] at hj;let q1:(N.map (·.sp))[j]?=some p.sp:=by rw [ir,gE cr,ej,<-e3];rfl
    let q2:(N.map (·.sp))[i]?=some p.sp:=by rw [ir,ep];rfl
    have:=(ajc (by rw [Wp];omega) gp.ns).mp (q1.trans q2.symm);omega
   ·rw [Wp,Me]
    omega
   ·show L U VR y (λb o z=>k' b o (aj z nP) (aj z nW) (M _ _ (s2 _ _ z))) (k' _ _ nlP nlW (M _ _ h3)) ?_ ?_
    ·rw [tk,QC]
     show R'
    ·rw [tk,QC]
     show W'
  let l2:=bh.of (K:=K) h3;let J:ws.length=p.ws.length:=Mx h4;show(_,O,l,_,O,.inl l2,O,_,O,?_)
  rcases gp.ws p mp with hw|⟨wx,wy,hw,wn,_,_⟩|hw
  ·rw [hw] at J
   show bP (λ_=>?_) (λc=>by rw [J] at c;simp at c);show(_,O,a,C,S,_,_,_,O,R2.obj,O,MPd,_,O,_,O,sa,_,_,_,O,O,Th,iM,_,O,sa,_,_,_,O,O,Th,iK,?_);dsimp only [iN,gB,gA,gF];show L .cK R _ _ (ar.refl _) (.inl #[O,hw]) λU VR y s' m R' W'=>?_;let m:=bh.of (K:=K) m;show(_,O,l,_,O,.inl m,O,_,O,bP (λc=>by rw [J] at c;simp at c) (λ_=>?_));show(_,O,l,_,O,.inl m,O,_,O,bP (λc=>by rw [J] at c;simp at c) (λ_=>?_));show(_,_,_,VR,y,O,s',R',W')
  ·rw [hw] at J h4
   let(w0,rfl):=al_.mp J
   let hw0:gP K R w0 (wx,wy):=by
    cases h4 with
    | cons h _=>show h
   let(wa,y2,y3,rfl,S6,hm1,hm2):=hw0;show bP (λc=>by simp at c) (λ_=>?_);show(_,O,l,_,O,.inl l2,O,_,O,bP (λ_=>?_) (λc=>DB rfl c));show(_,O,a,C,S,_,_,_,O,R2.obj,O,MPp,_,O,_,O,sa,_,_,_,O,O,Th,iM,_,O,sa,_,_,_,O,O,Th,iK,_,O,l,_,_,_,O,O,l2,O,wa,_,_,_,O,O,S6,iM,_,O,l,_,_,_,O,O,l2,O,wa,_,_,_,O,O,S6,iK,?_);intro Z X x nd1 ne1;let s4:ar R (upd (upd R X (.own Z)) Z (.ins CR X [])):=λb o e=>by rwa [ag (aj e x),ag (aj e nd1)]
   let e4:(upd (upd R X (.own Z)) Z (.ins CR X [])) Z =some (.ins CR X []):=af;generalize upd (upd R X (.own Z)) Z (.ins CR X [])=H4 at s4 e4 ⊢;show(Z,X,y2,y3,wx,wy,O,e4,hm1.gO s4,hm2.gO s4,wn,λT n5=>#[O,?_]);let UN:T≠Z :=λz=>by erw [z,e4] at n5
   let M:ar R (upd (upd H4 T (.tup [y2,y3])) Z (.ins CR X [("way",.ref T)])):=λb o e=>by
    let z:b≠Z :=λz=>by erw [z,x] at e
    rw [ag z];show av n5 _ _ _ (s4 _ _ e)
   let e5:(upd (upd H4 T (.tup [y2,y3])) Z (.ins CR X [("way",.ref T)])) Z =some (.ins CR X [("way",.ref T)]):=af;let t5:(upd (upd H4 T (.tup [y2,y3])) Z (.ins CR X [("way",.ref T)])) T=some (.tup [y2,y3]):=by rw [ag UN,af]
   generalize upd (upd H4 T (.tup [y2,y3])) Z (.ins CR X [("way",.ref T)])=H5 at M e5 t5 ⊢;let aq9:gP K H5 (.ref T) (wx,wy):=t7 t5 (hm1.gO M) (hm2.gO M);dsimp only [iN,gB,gA,gF];show L (.ref Z) H5 _ _ M (.inr (Z,CR,X,_,M_,pK K CR,O,e5,aao _,wR,λH6 e6 t6 Q' an=>(Z,X,T,(wx,wy),O,e6,aq9.aY t6,by rwa [hw] at an))) λU VR y s' m R' W'=>?_;show(_,O,l,_,O,.inl (bh.of (K:=K) m),O,_,O,bP (λc=>by simp at c) (λ_=>?_));show(_,_,_,VR,y,O,s',R',W')
  ·rw [hw] at J
   show bP (λc=>by rw [J] at c;simp at c) (λ_=>?_);show(_,O,l,_,O,.inl l2,O,_,O,bP (λc=>by rw [J] at c;simp at c) (λ_=>?_));show(_,O,l,_,O,.inl l2,O,_,O,bP (λ_=>?_) (λc=>by rw [J] at c;simp at c));show(_,O,a,C,S,_,_,_,O,R2.obj,O,MPp,_,O,_,O,sa,_,_,_,O,O,Th,iM,_,O,sa,_,_,_,O,O,Th,iK,?_);intro Z X x nd1 ne1;let s4:ar R (upd (upd R X (.own Z)) Z (.ins CF X [])):=λb o e=>by rwa [ag (aj e x),ag (aj e nd1)]
   let e4:(upd (upd R X (.own Z)) Z (.ins CF X [])) Z =some (.ins CF X []):=af;generalize upd (upd R X (.own Z)) Z (.ins CF X [])=H4 at s4 e4 ⊢;dsimp only [iN,gB,gA,gF];show L (.ref Z) H4 _ _ s4 (.inr (Z,CF,X,_,M_,pM K,O,e4,O,wF,λH6 _ _ Q' an=>(Z,O,by rwa [hw] at an))) λU VR y s' m R' W'=>?_;show(_,_,_,VR,y,O,s',R',W')
 ·rintro Y R ⟨o4,o5,o6,kP,kW,rfl,s2,R2,W2⟩
  rw [lu,Uz] at R2 W2;let lv:ix.length=AP.length:=Mx pb
  show(_,O,bA,O,#[_,bh.of (s2 _ _ hb)],let I:ce:=λi Y U=>Td λ(o3 o7 o8:ω) (kB:η)=>Y=[bv pA,bv bA,bv a,o3,o5,o6,o7,o8]/\ar H U/\jf K U C a S pP pW pB (N.map λp=>(p.nm,IY p.sp)) ((AP.take i).map λb=>(b.nm,(b.one.nm,b.kG.nm))) kP kW kB/\LB K U (N.map λp=>(p.nm,p.ws)) kW;ef (K:=K) (a:=bA) (xs:=ix) I (_,none,none,[],O,s2,R2,W2) (λi Y U _ h=>by
    let(_,_,_,_,_,s,_):=h
    show bh.of (s _ _ hb)) ?_ ?_)
  ·rintro i u Y H3 hu ⟨o3,o7,o8,kB,rfl,s3,R3,W3⟩
   let(b,ebr,hbr):=aQ pb hu;let mb:b∈AP:=IH ebr;let(ta,i1,j1,rfl,h1,g1,g2):=hbr.gO s3;let(m1,m2,m3):=gb.ends b mb;let tk:=take_snoc ebr;let il:i<AP.length:=(be.mp ebr).1
   have ajA :∀(k:Nat)(p:ba),N[k]?=some p->∃(c la:AZ)(sv:V),iP us (k:Int)=some (.ref c)/\bQ K H3 c [.str p.nm,sv,.ref la]:=λk p ek=>by
    let(u',eu',hu'):=aQ (d3 pp) ek;let(c,la,sv,ws,rfl,q1,_):=so.gO hu' s3;show(c,la,sv,bI eu',q1)
   let(c1,la1,sv1,ea1,q1):=ajA _ _ g1;let(c2,la2,sv2,ea2,q2):=ajA _ _ g2;show(ta,_,O,h1,O,_,_,O,_,_,O,_,_,O,O,?_);let lp3:=bh.of (K:=K) (s3 _ _ hp);show(_,O,a,C,S,_,_,_,O,R3.obj,O,MPb,_,O,_,O,_,O,pA,_,_,_,O,O,lp3,ea1,c1,_,_,_,O,O,q1,O,_,O,_,O,pA,_,_,_,O,O,lp3,ea2,c2,_,_,_,O,O,q2,O,?_);show(a,S,pP,pW,pB,_,_,kP,kW,kB,b.nm,b.one.nm,b.kG.nm,O,R3,λz=>?_,?_,?_,m3,?_,λU kB' k' R'=>?_)
   ·rw [P2] at z
    let(b',j8,e'):=GV.mp z;show o_ (nm:=cf.nm) gb.nb ebr j8 e'
   ·rw [P2]
    show GV.mpr (_,m1,O)
   ·rw [P2]
    show GV.mpr (_,m2,O)
   ·rw [Wp,Me]
    omega
   ·show(_,_,_,kB',O,λc o z=>k' c o (aj z nB) (s3 _ _ z),?_,?_)
    ·rw [tk,QC]
     show R'
    ·show Paired.cF W3 λp' kv z=>#[z.1,?_]
     let(m,jg,z1,z2,z3):=z.2;show(m,jg,z1,k' _ _ (λz=>by erw [z,R3.br] at z2) z2,z3.aY λc xs r=>?_)
     rcases r with r|⟨o',r⟩
     ·show .inl (k' _ _ (λe=>by erw [e,R3.br] at r) r)
     ·show .inr #[o',k' _ _ (λe=>by erw [e,R3.br] at r) r]
  ·rintro Y H3 ⟨o3,o7,o8,kB,rfl,s3,R3,W3⟩
   rw [lv,Uz] at R3;show(_,O,q a H3 s3 (S,pP,pW,pB,kP,kW,kB,R3,W3))
def iU {Z:Type}{l:List Z}(h:l.Nodup){i j:Nat}{x:Z}(hi:l[i]?=some x)(U:l[j]?=some x):i=j:=by
 let(S,X):=be.mp hi;let(T,Y):=be.mp U;show(am_ h).mp (X.trans Y.symm)
def Ni (h:0<q.2):0<q.1 ↔ 0<vl q:=by
 let z:((q.2:Int):Rat)≠0:=c7 (QD h)
 let e:((q.1:Int):Rat)=vl q*((q.2:Int):Rat):=by
  unfold vl;grind
 let p:(0:Rat)<((q.2:Int):Rat):=by exact_mod_cast h
 constructor
 ·intro k
  let Y:(0:Rat)<((q.1:Int):Rat):=by exact_mod_cast k
  apply Qi;intro n;let Z:vl q<=0:=by grind
  have:=afz Z (Qm p);grind
 ·intro k
  have:=Zi k p;rw [<-e] at this
  exact_mod_cast this
def p6:afS 10 6:=(eY,eY,eY)
def aj5 {t b:Int}(h:t<=0)(Z:0<b):(t:Rat) / (b:Rat)<=0:=by
 apply Qi;intro n;let p:0<vl (t,b):=by unfold vl;grind
 have:=(Ni (q:=(t,b)) Z).mpr p;have:0<t:=this;omega
def aj2 {t b:Int}(h:0<=t)(Z:0<b):0<=(t:Rat) / (b:Rat):=by
 by_cases c:t=0
 ·rw [c]
  have:((0:Int):Rat)=0:=by rfl
  rw [this];grind
 ·have:=(Ni (q:=(t,b)) Z).mp (show 0<t by omega)
  unfold vl at this;show Qm this
def Pd {t b:Int}(h:0<b)(Y:t.natAbs<512)(Z:b<512):Sz 9 ((t:Rat) / (b:Rat)):=rE (QD h) (intBits_le_iff.mpr (by change _<512;omega)) (intBits_le_iff.mpr (by change _<512;omega))
structure aem (K:Frag)(H:Hp)(lv hv:V)(r:Rat×Rat):Prop where
 lo:ie K H lv r.1
 hi:ie K H hv r.2
 l0:r.1<=0
 h0:0<=r.2
 zl:Sz 9 r.1
 zh:Sz 9 r.2
theorem xr :∀{l:List Z} {xs:List β},Paired R l xs->(∀a b,b∈xs->R a b->S a b)->Paired S l xs
 | _,_,.nil,_=>.nil
 | _,_,.cons h t,k=>.cons (k _ _ Mo h) (xr t λa b m=>k a b (MV _ m))
def KvP (K:Frag)(H:Hp)(f:Λ)(Z:Key×V)(x:Str):Prop:=Z.1=.inr x/\gP K H Z.2 (f x)
def KH (K:Frag)(H:Hp)(d:AZ)(AV:η)(xs:τ)(f:Λ):Prop:=H d=some (.dK AV)/\Paired (KvP K H f) AV xs
section
variable {K:Frag}{H H':Hp}{d:AZ}{AV:η}{xs:τ}{f:Λ}
theorem KH.gO (h:KH K H d AV xs f)(s:ar H H'):KH K H' d AV xs f:=#[s _ _ h.1,Paired.cF h.2 λ_ _ z=>#[z.1,z.2.gO s]]
def qi (h:Paired (KvP K H f) AV xs):AV.map (·.1)=xs.map (λx=>(Qw x:Key)):=by
 induction h with
 | nil=>rfl
 | cons h _ Z=>rw [M3,M3,h.1,Z]
def KH.val (h:KH K H d AV xs f)(Y:xs.Nodup)(U:x∈xs):∃v,ff AV (.inr x)=some v/\gP K H v (f x):=by
 let(i,Q):=LP U;let(X,R,S,T):=aQ (d3 h.2) Q
 let Z:(AV.map (·.1)).Nodup:=by
  rw [qi h.2];show am6 _ (λa b n z=>n (by injection z)) Y
 show(X.2,pH Z (by rw [R,<-S]),T)
def KH.key (h:KH K H d AV xs f):∀Z∈AV,∃x∈xs,Z.1=.inr x:=λZ Y=>by
 have:Z.1∈AV.map (·.1):=GV.mpr (Z,Y,O);rw [qi h.2] at this;let(x,X,e):=GV.mp this;show(x,X,e.symm)
end
inductive sE (K:Frag)(vs:γ)(H:Hp)(Q:VK)(S:XK):Prop
|mk (Z X:AZ)(U:ο)(Y :γ)(AO:υ)(AP:Δ)(_:vs=[.ref Z,.ref X])(_:bh K H Z (U.map V.int))(_:H X=some (.lst Y))(_:Paired (sy K H AO) Y AP)(_:(AP.map (·.nm)).Nodup)(_:AP.length<=5)(_:∀(d:AZ)(T:η)(B:Λ)(H':Hp),ar H H' ->H d=none->KH K H' d T (AP.map (·.nm)) B->(∀x,(B x).1<=0/\0<=(B x).2/\Sz 9 (B x).1/\Sz 9 (B x).2)->Q (.ref d) H')
def cU:aw ["_law_script","_law_bars_here","_law_bounds_here","_law_k","_law_cell","_law_low","_law_high"] IT (ae fE):=sq
def zaN (D:Def K mg "_law_bounds" fE IT)(bB:mg "range"=none)(bq:mg "len"=none)(oG:ad P w K mg gN 1 "_law_cell_at" α0 (oC K))(J:ad P w K mg gN 1 "_law_field" UY iA)(lh:ad P w K mg gN 33 "_law_lowest" Vn cT):
  ad P w K mg gN 34 "_law_bounds" IT (sE K):=by
 show D.oo cU λH X h=>?_;let(sA,j,ns,L,AO,AP,rfl,hS,hB,pb,nb,lb,q):=h;let L2:2<=HZ:=eY
 let lv:L.length=AP.length:=Mx pb;let z0:Sz 9 (0:Rat):=gK eY
 show(_,(aa (aC 2 cU.nd fW) (aa (bM M9 rfl (ck rfl bB (aR (aS aG rfl bq cn (aR (pv 1))))) (cB 3 cU.nd) (aa (aC 4 cU.nd (aK oG X (aJ (pv 0) (ay b9 ah (pv 3))))) (aa (aC 5 cU.nd (aK lh X (aJ (ay c9 ah (ay iq (aK J X (b8 (pv 4) ah (ay Um ah ah))) ah)) (ay b9 ah (aK J X (b8 (pv 4) ah ah)))))) (aa (aC 6 cU.nd (aK lh X (aJ (ay iq (aK J X (b8 (pv 4) ah (ay Um ah ah))) ah) (ay b9 ah (aK J X (b8 (pv 4) ah ah)))))) (aa (bR (bU fO (aK J X (b8 (pv 4) ah ah)) ah) (ak (aC 5 cU.nd (a_ (aJ ah ah)))) bf) (aa (bR (bU fO (aK J X (b8 (pv 4) ah ah)) ah) (ak (aC 6 cU.nd (a_ (aJ ah ah)))) bf) (ak (gI (dI X) (pv 2) (aH (bC aE (pv 1) (pv 3))) (a_ (aJ (pv 5) (pv 6))) rfl)))))))) (ak (aI (pv 2))))),?_);try dsimp only [qC,nN,Cx.ve,Cx.yd]
 intros d n1 H1 s1 e1;show(_,O,j,_,O,.inl (bh.of (s1 _ _ hB)),((L.length:Nat):Int),O,cr,cr,let I:ce:=λi Y S=>Ex6 λ(o3 o4 o5 o6:ω) (R:η) (B:Λ)=>Y=[bv sA,bv j,bv d,o3,o4,o5,o6]/\ar H S/\S d=some (.dK R)/\Paired (KvP K S B) R ((AP.take i).map (·.nm))/\∀x,(B x).1<=0/\0<=(B x).2/\Sz 9 (B x).1/\Sz 9 (B x).2;cy (lo:=0) (n:=((L.length:Nat):Int).toNat) I (none,none,none,none,[],λ_=>(0,0),O,s1,e1,.nil,λx=>(Uu,Uu,z0,z0)) ?_ ?_)
 ·rintro i Y H2 hi ⟨o3,o4,o5,o6,R,B,rfl,s2,e2,M,tB⟩
  let ek:(0:Int)+(i:Int)=(i:Int):=Qa _;rw [ek];let u:i<L.length:=cr
  show(_,O,_,O,_,_,O,O,sA,ns,_,O,s2.seq hS,cr,cr,?_);generalize cell ns (28+(i:Int))=c;let i1:=bD (c:=c) (p:=2003) (m:=7) eY;let i2:=bD (c:=c) (p:=3001) (m:=7) eY;let f1:=mP (x:=field c 1009 ((10:Int)^(6:Int).toNat)) (m:=401) eY;let f2:=mP (x:=field c 1000003 ((10:Int)^(6:Int).toNat)) (m:=401) eY;show(_,O,_,_,O,O,p6,_,_,_,O,eY,eY,by decide+kernel,_,_,O,O,nz eY,_,_,O,O,_,O,_,_,_,O,eY,eY,eY,_,_,O,O,_,_,O,cr,λp3 H3 s3 e3=>?_);rw [d9 cr] at e3;let z3:=Pd (t:=0-(field c 1009 ((10:Int)^(6:Int).toNat)).fmod 401) (b:=1+field c 2003 7) cr cr cr;let l3:=aj5 (t:=0-(field c 1009 ((10:Int)^(6:Int).toNat)).fmod 401) (b:=1+field c 2003 7) cr cr;show(_,O,_,_,O,O,p6,_,_,_,O,eY,eY,by decide+kernel,_,_,O,O,nz eY,_,O,_,_,_,O,eY,eY,eY,_,_,O,O,_,_,O,cr,λp4 H4 s4 e4=>?_);rw [d9 cr] at e4;let z4:=Pd (t:=(field c 1000003 ((10:Int)^(6:Int).toNat)).fmod 401) (b:=1+field c 3001 7) cr cr cr;let l4:=aj2 (t:=(field c 1000003 ((10:Int)^(6:Int).toNat)).fmod 401) (b:=1+field c 3001 7) cr cr;let s24:=s3.trans s4;let T:aem K H4 (.ref p3) (.ref p4) (_,_):=((jb e3).gO s4,jb e4,l3,l4,z3,z4);dsimp only [dZ,vE];show mj (λf S=>Tc λ(lv:V) (r:Rat×Rat)=>f =[some (.ref sA),some (.ref j),some (.ref d),some (.int (i:Int)),some (.int c),some lv,some (.ref p4)]/\ar H4 S/\aem K S lv (.ref p4) r) (λNx RO=>?_) ?_
  ·show(_,O,_,_,_,O,eY,eY,eY,O,_,O,bP (λ_=>?_) (λ_=>RO _ _ (_,_,O,ar.refl _,T)))
   show#[L2,?_];intros q6 n6 H6 s6 e6;show RO _ _ (_,(0,_),O,s6,(xk 0 e6,T.hi.gO s6,Uu,T.h0,z0,T.zh))
  rintro f H6 ⟨A,r6,rfl,s6,U⟩;show mj (λf S=>Tc λ(hv:V) (r:Rat×Rat)=>f =[some (.ref sA),some (.ref j),some (.ref d),some (.int (i:Int)),some (.int c),some A,some hv]/\ar H6 S/\aem K S A hv r) (λNx RO=>?_) ?_
  ·show(_,O,_,_,_,O,eY,eY,eY,O,_,O,bP (λ_=>?_) (λ_=>RO _ _ (_,_,O,ar.refl _,U)))
   show#[L2,?_];intros p7 n7 H7 s7 e7;show RO _ _ (_,(r6.1,0),O,s7,(U.lo.gO s7,xk 0 e7,U.l0,Uu,U.zl,z0))
  rintro f H7 ⟨hv7,r7,rfl,s7,Z⟩;let Q:=s24.trans (s6.trans s7);let s07:=s2.trans Q;let(b,eb,hbr):=aQ pb (gE u);let tk:=take_snoc eb;show(_,O,_,O,L2,?_);intros va n8 H8 E e8;let N:=s07.trans E;let(ta,i',j',eu,h1,_):=hbr.gO N;let ai:iP L (i:Int)=some (.ref ta):=bI (by rw [gE u,eu]);let o:=E _ _ (Q _ _ e2);let lk:=Mx M;rw [Wp,Me] at lk;show(_,O,_,O,_,O,j,_,_,_,O,O,bh.of (N _ _ hB),ai,ta,_,_,_,O,O,h1,O,d,_,O,mS.k (k:=.inr b.nm) o (L_ (show R.length<=1000 by omega) eY),?_);let t9:bw H8 (upd H8 d (.dK (R++[(.inr b.nm,.ref va)]))):=.dict o;let hv:gP K H8 (.ref va) r7:=t7 e8 (Z.lo.gO E) (Z.hi.gO E)
  let C:∀x∈(AP.take i).map (·.nm),x≠b.nm:=λx y e=>by
   let(b',j8,e'):=GV.mp y;show o_ (nm:=cf.nm) nb eb j8 (e'.trans e)
  let new:ff R (.inr b.nm)=none:=c_ (by
   rw [qi M];intro z;let(x,y,e'):=GV.mp z
   show C x y (by injection e'))
  rw [fV _ new];show(_,_,_,_,_,λnm=>if nm=b.nm then r7 else B nm,O,λc o' z=>?_,af,?_,λx=>?_)
  ·rw [ag (aj z n1)]
   show N _ _ z
  ·rw [tk,QC]
   show fh (xr M λkv x y z=>#[z.1,?_]) #[O,?_]
   ·dsimp only
    rw [iO (C x y)];show((z.2.gO Q).gO E).aY t9
   ·dsimp only
    rw [jY rfl];show hv.aY t9
  ·dsimp only
   split
   ·show(Z.l0,Z.h0,Z.zl,Z.zh)
   ·show tB x
 ·rintro Y H2 ⟨o3,o4,o5,o6,R,B,rfl,s2,e2,M,tB⟩
  let en:((L.length:Nat):Int).toNat=AP.length:=cr
  rw [en,Uz] at M;show(_,O,q d R B H2 s2 n1 #[e2,M] tB)
def ax (k:Int)(p:Rat×Rat):Rat:=if k=0 then p.1 else p.2
def Pe {k:Int}(U:k=0\/k=1)(h:gP K H v p):∃(a:AZ)(xs:γ)(u:V),v=.ref a/\bQ K H a xs/\iP xs k=some u/\ie K H u (ax k p):=by
 let(a,X,Y,rfl,Z,S,T):=h
 rcases U with rfl|rfl
 ·show(a,_,X,O,Z,O,S)
 ·show(a,_,Y,O,Z,O,T)
def Pf {k:Int}(h:Sz n p.1/\Sz n p.2):Sz n (ax k p):=by
 unfold ax;split
 ·show h.1
 ·show h.2
def Wt {us:γ}{AO:υ}(Q:Paired (so K H) us AO)(e:AO[k]?=some p):∃(c Y:AZ)(Z:V),iP us (k:Int)=some (.ref c)/\bQ K H c [.str p.nm,Z,.ref Y]/\gP K H Z p.sp:=by
 let(T,U,X):=aQ (d3 Q) e;obtain ⟨c,Y,Z,N,rfl,R,S,_⟩:so K H T p:=X;show(c,Y,Z,bI U,R,S)
inductive Nj (K:Frag)(vs:γ)(H:Hp)(Q:VK)(Y:XK):Prop
|mk (Z:AZ)(us:γ)(AO:υ)(u:V)(b:cf)(k:Int)(_:vs=[.ref Z,u,.int k])(_:H Z=some (.lst us))(_:Paired (so K H) us AO)(_:nF AO)(_:sy K H AO u b)(_:(k=0\/k=1))(_:∀(v:V)(H':Hp),ar H H' ->nE K H' v 49 (ax k b.kG.sp-ax k b.one.sp)->Q v H')
def ajB:aw xj xj (ae Rh):=sq
def ajC (D:Def K mg "_law_arm" Rh xj)(Wo:ad P w K mg gN 1 "_law_sum" Qj (dA K oF))(X:ad P w K mg gN 1 "_law_turned" Zu (kq K)):
  ad P w K mg gN 2 "_law_arm" xj (Nj K):=by
 show D.oo ajB λH N h=>?_;let(R,us,AO,u,b,k,rfl,hp,S,J,(U,i,j,rfl,L,E,I),M,q):=h;show(_,(ak (aI (aK Wo N (aJ (bC rg (aH (bC aE (pv 0) (aH (pv 1)))) (pv 2)) (aK X N (aR (bC rg (aH (bC aE (pv 0) (aH (pv 1)))) (pv 2)))))))),?_);let(c1,l1,c,Y,q1,r1):=Wt S E;let(c2,l2,f,Z,q2,r2):=Wt S I;let(a1,y,u1,rfl,m,p,n1):=Pe M r1;let(a2,z,u2,rfl,o,x,n2):=Pe M r2;let A:=Pf (k:=k) (J.sz _ (IH E));let C:=Pf (k:=k) (J.sz _ (IH I));let Q:=bh.of (K:=K) hp;show(_,O,_,O,U,_,_,_,O,O,L,O,R,_,_,_,O,O,Q,Z,c2,_,_,_,O,O,q2,O,_,O,a2,_,_,_,O,O,o,x,_,O,_,O,U,_,_,_,O,O,L,O,R,_,_,_,O,O,Q,Y,c1,_,_,_,O,O,q1,O,_,O,a1,_,_,_,O,O,m,p,?_);dsimp only [iN,gB,gA,gF];change kq K [_] _ _ E0;show zaE (gL n1 (jt A (DX _))) λp3 H3 T n3=>?_;change dA K oF [_,_] _ _ E0;show Pc ((gL n2 (jt C (DX _))).gO T) n3 eY λp4 H4 s4 n4=>?_;show q (.ref p4) H4 (T.trans s4) ?_;rwa [Rat.sub_eq_add_neg]
structure Found (K:Frag)(H:Hp)(fA:AZ)(ls:ψ)(F:Nat->Rat×Rat)(B:Nat):Prop where
 hf:H fA=some (.lst (ls.map V.ref))
 nd:ls.Nodup
 nf:fA∉ls
 row:∀(i:Nat)(l:AZ),ls[i]?=some l->∃v1 v2,H l=some (.lst [v1,v2])/\nE K H v1 B (F i).1/\nE K H v2 B (F i).2
def KL (Z:ψ)(H H':Hp):Prop:=∀b o,b∉Z->H b=some o->H' b=some o
theorem Found.gO {B:Nat}(h:Found K H fA ls F B)(s:ar H H'):Found K H' fA ls F B:=(s _ _ h.hf,h.nd,h.nf,λi l e=>by
 let(Y,Z,a,b,c):=h.row i l e
 show(Y,Z,s _ _ a,b.gO s,c.gO s))
theorem Found.up {B Z:Nat}(h:Found K H fA ls F B)(l:B<=Z):Found K H fA ls F Z:=(h.hf,h.nd,h.nf,λi x e=>by
 let(X,Y,a,b,c):=h.row i x e
 show(X,Y,a,b.up l,c.up l))
def Found.aY {B:Nat}(h:Found K H fA ls F B)(k:KL ls H H'):bw H H':=λb xs r=>by
 let Z:∀o,H b=some o->(∀Y,o≠.lst Y)->H' b=some o:=λo e n=>k b o (λm=>by
  let(i,U):=LP m;let(S,T,a,_):=h.row i b U;rw [a] at e
  show n _ (QI e).symm) e
 rcases r with r|⟨X,r⟩
 ·show .inl (Z _ r λY z=>nomatch z)
 ·show .inr #[X,Z _ r λY z=>nomatch z]
def dC (F:Nat->Rat×Rat)(k:Nat)(a:Int)(d:Rat):Nat->Rat×Rat:=λi=>if i=k then (if a=0 then ((F i).1+d,(F i).2) else ((F i).1,(F i).2+d)) else F i
def DS {a:Int}(Y:a=0\/a=1)(Z:c=0\/c=1)(i:Nat):ax c (dC F k a d i)=ax c (F i)+if i=k/\c=a then d else 0:=by
 unfold dC ax;by_cases hi:i=k
 ·subst hi
  rcases Y with rfl|rfl<;>rcases Z with rfl|rfl<;>simp<;>grind
 ·simp [hi]
  grind
inductive Nk (K:Frag)(vs:γ)(H:Hp)(Q:VK)(X:XK):Prop
|mk (Y:AZ)(Z:ψ)(F:Nat->Rat×Rat)(B:Nat)(k:Nat)(a:Int)(v:V)(m:Nat)(d:Rat)(_:vs=[.ref Y,.int (k:Int),.int a,v])(_:Found K H Y Z F B)(_:k<Z.length)(_:(a=0\/a=1))(_:nE K H v m d)(_:B+m<=130000000)(_:∀(H':Hp),KL Z H H' ->Found K H' Y Z (dC F k a d) (B+m+1)->Q .cK H')
def ajD:aw yA yA (ae Ri):=sq
def ajE (D:Def K mg "_law_add" Ri yA)(Wo:ad P w K mg gN 1 "_law_sum" Qj (dA K oF)):
  ad P w K mg gN 2 "_law_add" yA (Nk K):=by
 show D.oo ajD λH hr h=>?_;let(N,T,F,B,k,a,v,m,d,rfl,Z,hk,y,nv,le,q):=h;show(_,(ak (g9 (aK Wo hr (aJ (bC aE (bC aE (pv 0) (pv 1)) (pv 2)) (pv 3))) (g7 (bC aE (pv 0) (pv 1)) (pv 2) set_list))),?_);obtain ⟨l,S⟩:∃l,T[k]?=some l:=#[_,gE hk];let(X,Y,A,E,I):=Z.row k l S;let x:iP (T.map V.ref) (k:Int)=some (.ref l):=bI (by rw [ir,S];rfl);let lm:l∈T:=IH S;let lf:l≠N:=λz=>Z.nf (z▸lm)
 obtain ⟨u,ea,nu⟩:∃u,iP [X,Y] a=some u/\nE K H u B (ax a (F k)):=by
  rcases y with rfl|rfl
  ·show(X,O,E)
  ·show(Y,O,I)
 show(_,O,_,O,N,_,_,_,O,O,bh.of Z.hf,x,_,O,l,_,_,_,O,O,bh.of A,ea,_,O,?_);dsimp only [iN,gB,gA,gF];change dA K oF [_,_] _ _ E0;show Pc nu nv le λR M U J=>?_
 obtain ⟨j,ej,Q⟩:∃j,LR [X,Y].length a=some j/\((a=0/\j=0)\/(a=1/\j=1)):=by
  rcases y with rfl|rfl
  ·show(0,O,.inl #[O,O])
  ·show(1,O,.inr #[O,O])
 show(_,O,_,O,N,_,_,_,O,O,bh.of (U _ _ Z.hf),x,_,O,l,_,_,j,O,O,U _ _ A,ej,?_);let L:=Z.gO U
 let kl:KL T H (upd M l (.lst ([X,Y].set j (.ref R)))):=λb o nb e=>by
  rw [ag (λz=>nb (by rwa [z]))];show U _ _ e
 let k3:KL T M (upd M l (.lst ([X,Y].set j (.ref R)))):=λb o nb e=>by
  rw [ag (λz=>nb (by rwa [z]))];show e
 let st:=L.aY k3;show q _ kl (?_,Z.nd,Z.nf,λi C e=>?_)
 ·rw [ag (IL lf)]
  show L.hf
 ·by_cases c:i=k
  ·subst c
   erw [S] at e;show(([X,Y].set j (.ref R))[0]?.getD .cK,([X,Y].set j (.ref R))[1]?.getD .cK,?_,?_,?_)
   ·rw [af]
    rcases Q with ⟨_,rfl⟩|⟨_,rfl⟩<;>rfl
   ·unfold dC
    rw [jY rfl]
    rcases Q with ⟨rfl,rfl⟩|⟨rfl,rfl⟩
    ·show J.aY st
    ·show((E.gO U).aY st).up cr
   ·unfold dC
    rw [jY rfl]
    rcases Q with ⟨rfl,rfl⟩|⟨rfl,rfl⟩
    ·show((I.gO U).aY st).up cr
    ·show J.aY st
  ·let(f,p,g1,g2,g3):=L.row i C e
   let nl:C≠l:=λz=>c (iU Z.nd e (z▸S));show(f,p,?_,?_,?_)
   ·rw [ag nl]
    show g1
   ·unfold dC
    rw [iO c];show(g2.aY st).up cr
   ·unfold dC
    rw [iO c];show(g3.aY st).up cr
inductive DT (K:Frag)(vs:γ)(H:Hp)(Q:VK)(Z:XK):Prop
|mk (u v:V)(m n:Nat)(r:Rat)(_:vs=[u,v])(_:nE K H u m r)(_:nE K H v n r)(_:m+n<=130000000)(_:Q (.bl true) H)
def ajF:aw Qj Qj (ae Rl):=sq
def ajG (D:Def K mg "_law_alike" Rl Qj):ad P w K mg gN 1 "_law_alike" Qj (DT K):=by
 show D.op ajF λf j A o s H z Q E p h=>?_;let(u,v,m,n,r,rfl,(x,(U,rfl,S),L,M,Y),(y,(X,rfl,T),N,R,Z),l,q):=h;show(_,(ak (aI (ji fO (ay jn (aH (pv 0)) (aH (pv 1))) (ay jn (aH (pv 1)) (aH (pv 0))) (j5 _)))),_,O,U,_,_,_,O,O,S,iM,_,O,X,_,_,_,O,O,T,iK,_,_,O,O,iF Y.top Z.bot cr,_,O,X,_,_,_,O,O,T,iM,_,O,U,_,_,_,O,O,S,iK,_,_,O,O,iF Z.top Y.bot cr,O,?_)
 let e:x.1*y.2=y.1*x.2:=by
  let C:((x.2:Int):Rat)≠0:=c7 (QD L);let I:((y.2:Int):Rat)≠0:=c7 (QD N);let k:vl x=vl y:=by rw [M,R]
  unfold vl at k
  have:((x.1*y.2:Int):Rat)=((y.1*x.2:Int):Rat):=by
   push_cast;grind
  show GZ.mp this
 let J:decide (V.int (x.1*y.2)=V.int (y.1*x.2))=true:=P9 (by rw [e]);rwa [<-J] at q
structure LFr (K:Frag)(H:Hp)(pA bA:AZ)(us vs:γ)(AO:υ)(AP:Δ):Prop where
 hp:H pA=some (.lst us)
 pp:Paired (so K H) us AO
 gp:nF AO
 hb:H bA=some (.lst vs)
 pb:Paired (sy K H AO) vs AP
 en:∀b∈AP,b.one.nm≠b.kG.nm
 lp:AO.length<=9
 lb:AP.length<=14
theorem LFr.gO (h:LFr K H pA bA us vs AO AP)(s:ar H H'):LFr K H' pA bA us vs AO AP:=(s _ _ h.hp,Paired.cF h.pp λ_ _ z=>z.gO s,h.gp,s _ _ h.hb,Paired.cF h.pb λ_ _ z=>z.gO s,h.en,h.lp,h.lb)
structure LFo (K:Frag)(H:Hp)(tA uA:AZ)(ts xs:γ)(AO:υ)(AP:Δ)(T:Str->Rat)(U:Str->List Rat)(N:Nat):Prop where
 ht:H tA=some (.lst ts)
 pt:Paired (λv (b:cf)=>nE K H v N (T b.nm)) ts AP
 hu:H uA=some (.lst xs)
 pu:Paired (λv (p:ba)=>∃la ys,v=.ref la/\H la=some (.lst ys)/\Paired (λv r=>nE K H v N r) ys (U p.nm)) xs AO
 lU:∀p∈AO,(U p.nm).length=p.ws.length
 hN:N<=1000000
def KL.gO (Y:∀l∈Z,H l=none)(s:ar H H6)(k:KL Z H6 H7):ar H H7:=λb o e=>k b o (λm=>by erw [Y b m] at e) (s b o e)
def qj (T:Str->Rat)(Z:Δ)(a:Int)(p:ba):Rat:=(Z.map λb=>T b.nm*ax a (mv (l_ b) p.nm)).sum
def ael {a:Int}:qj T (bs++[b]) a p=qj T bs a p+T b.nm*ax a (mv (l_ b) p.nm):=by
 unfold qj;rw [QC,anl,M3,Wv,amN,List.sum_nil];grind
def Wu {AO:υ}(Z:(AO.map (·.nm)).Nodup){i j:Nat}(hi:AO[i]?=some p)(Y:AO[j]?=some q)(e:p.nm=q.nm):i=j:=iU Z (x:=q.nm) (by rw [ir,hi,<-e];rfl) (by rw [ir,Y];rfl)
def afn {AO:υ}(Q:(AO.map (·.nm)).Nodup)(N:b.one.nm≠b.kG.nm){i Y Z:Nat}(hi:AO[i]?=some p)(X:AO[Y]?=some b.one)(T:AO[Z]?=some b.kG)(t:Rat)(k:Int):
  (if i=Y then t*(ax k b.kG.sp-ax k b.one.sp) else 0)+(if i=Z then -(t*(ax k b.kG.sp-ax k b.one.sp)) else 0)=t*ax k (mv (l_ b) p.nm):=by
 let U:Y≠Z:=λz=>by rw [z,T] at X;show N (by rw [QI X])
 unfold mv l_;by_cases R:i=Y
 ·subst R
  erw [X] at hi;rw [jY rfl,iO U,jY rfl];change _=t*ax k (CO b.one b.kG);unfold ax CO;split<;>grind
 ·rw [iO R,iO (λz=>R (Wu Q hi X z))]
  by_cases S:i=Z
  ·subst S
   erw [T] at hi;rw [jY rfl,jY rfl];change _=t*ax k (CO b.kG b.one);unfold ax CO;split<;>grind
  ·rw [iO S,iO (λz=>S (Wu Q hi T z))]
   change (0:Rat)+0=t*ax k (0,0);unfold ax;split<;>grind
inductive xt (K:Frag)(vs:γ)(H:Hp)(Q:VK)(L:XK):Prop
|mk (X M Y Z:AZ)(us ws ts xs:γ)(AO:υ)(AP:Δ)(T:Str->Rat)(U:Str->List Rat)(N:Nat)(_:vs=[.ref X,.ref M,.ref Y,.ref Z])(_:LFr K H X M us ws AO AP)(_:LFo K H Y Z ts xs AO AP T U N)(_:∀(R:AZ)(S:ψ)(F:Nat->Rat×Rat)(H':Hp),ar H H' ->S.length=AO.length->Found K H' R S F (1+92*(N+51))->(∀(i:Nat)(p:ba),AO[i]?=some p->(F i).1=oz AP T U p (·.1)/\(F i).2=oz AP T U p (·.2))->Q (.ref R) H')
def ub:aw ["_law_pins","_law_bars_here","_law_pulls","_law_pushes","_law_found","_law_k","_law_axis","_law_draw","_law_j"] J' (ae Rj):=sq
def ajH (D:Def K mg "_law_forces" Rj J')(bq:mg "len"=none)(bB:mg "range"=none)(yE:ad P w K mg gN 1 "_law_times" Qj (dA K k_))(aen:ad P w K mg gN 1 "_law_turned" Zu (kq K))(arf:ad P w K mg gN 2 "_law_arm" xj (Nj K))(aeo:ad P w K mg gN 2 "_law_add" yA (Nk K)):
  ad P w K mg gN 3 "_law_forces" J' (xt K):=by
 show D.oo ub λH hr h=>?_;let(pA,bA,tA,uA,us,ws,ts,xs,o,AP,T,U,N,rfl,fr,fo,q):=h;let L2:2<=HZ:=eY
 let hN:=fo.hN;let lp:=fr.lp;let lb:=fr.lb;let lu:us.length=o.length:=Mx fr.pp;let lw:ws.length=AP.length:=Mx fr.pb
 show(_,(aa (wg (i:=4) (tn:=["_law_pin"]) (fr:=[]) (kI:=[]) ub.nd (bX (pv 0)) (bS (aJ (a_ (aJ ah ah)) (a_ (aJ ah ah))))) (aa (bM M9 rfl (ck rfl bB (aR (aS aG rfl bq cn (aR (pv 1))))) (cB 5 ub.nd) (ak (bM M9 rfl (ck rfl bB (aR ah)) (cB 6 ub.nd) (aa (aC 7 ub.nd (aK yE hr (aJ (bC aE (pv 2) (pv 5)) (aK arf hr (b8 (pv 0) (bC aE (pv 1) (pv 5)) (pv 6)))))) (aa (b_ (aK aeo hr (Lz (pv 4) (b8 (aH (bC aE (pv 1) (pv 5))) (pv 6) (pv 7))))) (ak (b_ (aK aeo hr (Lz (pv 4) (b8 (aH (bC aE (pv 1) (pv 5))) (pv 6) (aK aen hr (aR (pv 7))))))))))))) (aa (bM M9 rfl (ck rfl bB (aR (aS aG rfl bq cn (aR (pv 0))))) (cB 5 ub.nd) (ak (bM M9 rfl (ck rfl bB (aR (aS aG rfl bq cn (aR (aH (bC aE (pv 0) (pv 5))))))) (cB 8 ub.nd) (ak (bM M9 rfl (ck rfl bB (aR ah)) (cB 6 ub.nd) (ak (b_ (aK aeo hr (Lz (pv 4) (b8 (pv 5) (pv 6) (aK yE hr (aJ (bC aE (bC aE (pv 3) (pv 5)) (pv 8)) (bC rg (bC aE (aH (bC aE (pv 0) (pv 5))) (pv 8)) (pv 6)))))))))))))) (ak (aI (pv 4)))))),?_);sleep 3
 show(_,O,pA,O,#[_,bh.of fr.hp],λE n1=>?_);show aa7 (mw:=[]) (K:=K) (a:=pA) (xs:=us) (λys Q=>∃L:List AZ,ys=L.map V.ref/\L.Nodup/\E∉L/\∀l∈L,H l=none/\∃p q:AZ,Q l=some (.lst [.ref p,.ref q])/\Q p=some (.tup [.int 0,.int 1])/\Q q=some (.tup [.int 0,.int 1])) n1 (by rw [lu];show L_ (show o.length<=100 by omega) eY) (λH2 s2=>bh.of (s2 _ _ fr.hp)) ([],O,anx,by simp,λl h=>by cases h) ?_ ?_
 ·intro i x ys H2 R hx ly hJ s2 hD k
  let(L,rfl,nd,nf,hl):=hJ;show#[L2,?_];intros p3 n3 H3 s3 e3;show#[L2,?_];intros p4 n4 H4 M e4;show#[L2,?_];intros l5 n5 H5 y e5;let f:=s3.trans (M.trans y);let D5:=f _ _ hD;let D4:=M _ _ (s3 _ _ hD);show k _ _ f (L++[l5],by simp,?_,?_,λl hm=>?_)
  ·rw [OK]
   show(nd,by simp,λa Z b hb z=>?_);have j8 :b=l5:=by simpa using hb
   let(_,p,q,h1,_):=hl a Z;rw [z,j8] at h1;erw [M _ _ (s3 _ _ h1)] at n5
  ·intro z
   rcases MU.mp z with z|z
   ·show nf z
   ·rw [<-MJ.mp z,D4] at n5
    cases n5
  ·rcases MU.mp hm with z|z
   ·let(h0,p,q,h1,h2,h3):=hl l z
    show(h0,p,q,?_,?_,?_)
    ·rw [ag (λe:l=E=>nf (by rwa [<-e]))]
     show f _ _ h1
    ·rw [ag (λe=>by erw [e,hD] at h2)]
     show f _ _ h2
    ·rw [ag (λe=>by erw [e,hD] at h3)]
     show f _ _ h3
   ·let z:=MJ.mp z
    subst z;show((s2.trans (s3.trans M)).free n5,p3,p4,?_,?_,?_)
    ·rw [ag (λe=>by erw [e,D4] at n5)]
     show e5
    ·rw [ag (λe=>by erw [e,hD] at n3)]
     show y _ _ (M _ _ e3)
    ·rw [ag (λe=>by erw [e,s3 _ _ hD] at n4)]
     show y _ _ e4
 intro ys H2 ly hJ s2 hD;let(L,rfl,nd,nf,hl):=hJ;let hn:∀l∈L,H l=none:=λl m=>(hl l m).1;let ll:L.length=o.length:=by rw [<-lu,<-ly,Wp]
 let z0:∀(p:AZ)(Q:Hp),Q p=some (.tup [.int 0,.int 1])->nE K Q (.ref p) 1 0:=λp Q e=>((0,1),(p,O,bQ.of e),eY,by decide+kernel,eY,eY)
 let F0:Found K H2 E L (λ_=>(0,0)) (1+0*(4*(N+51))):=(hD,nd,nf,λi l e=>by
  let(_,p,q,h1,h2,h3):=hl l (IH e);rw [yv]
  show(_,_,h1,z0 p _ h2,z0 q _ h3))
 let en:((ws.length:Nat):Int).toNat=ws.length:=cr
 show(_,O,bA,_,O,.inl (bh.of (s2 _ _ fr.hb)),((ws.length:Nat):Int),O,cr,cr,let I:ce:=λt Y Q=>Td λ(F:Nat->Rat×Rat) (o5 X J:ω)=>Y=[bv pA,bv bA,bv tA,bv uA,bv E,o5,X,J,none]/\ar H Q/\Found K Q E L F (1+t*(4*(N+51)))/\∀(i:Nat)(p:ba),o[i]?=some p->∀a:Int,(a=0\/a=1)->ax a (F i)=qj T (AP.take t) a p;cy (lo:=0) (n:=((ws.length:Nat):Int).toNat) I (_,none,none,none,O,s2,F0,λi p _ a _=>?_) ?_ ?_)
 ·change ax a (0,0)=0
  unfold ax;split<;>rfl
 ·rintro t Y H3 ht ⟨F,o5,X,J,rfl,s3,F3,S⟩
  let ek:(0:Int)+(t:Int)=(t:Int):=Qa _;rw [ek];let htw:t<ws.length:=cr
  let(b,eb,hbr):=aQ fr.pb (gE htw);let mb:b∈AP:=IH eb;let(tv,etv,htv):=aQ (d3 fo.pt) eb;let abt:iP ws (t:Int)=some ws[t]:=bI (gE htw);let att:iP ts (t:Int)=some tv:=bI etv;let bt:t*(4*(N+51))<=13*(4*(N+51)):=RE _ cr;generalize hB:1+t*(4*(N+51))=B at F3;show((2:Int),O,eY,eY,let I:ce:=λk Y Q=>Zz λ(F:Nat->Rat×Rat) (X J:ω)=>Y=[bv pA,bv bA,bv tA,bv uA,bv E,some (.int (t:Int)),X,J,none]/\ar H Q/\Found K Q E L F (B+k*(2*(N+51)))/\∀(i:Nat)(p:ba),o[i]?=some p->∀a:Int,(a=0\/a=1)->ax a (F i)=qj T (AP.take t) a p+if a<(k:Int) then T b.nm*ax a (mv (l_ b) p.nm) else 0;cy (lo:=0) (n:=2) I (F,X,J,O,s3,by rwa [yv],λi p e a Z=>?_) ?_ ?_)
  ·rw [S i p e a Z,iO (by rcases Z with rfl|rfl<;>decide)]
   grind
  ·rintro k Y H4 hk ⟨F,X,J,rfl,M,F4,S⟩
   let ek:(0:Int)+(k:Int)=(k:Int):=Qa _;rw [ek];let hk2:(k:Int)=0\/(k:Int)=1:=cr
   let fr4:=fr.gO M;let bk:k*(2*(N+51))<=1*(2*(N+51)):=RE _ cr;let(ta,i1,i2,eta,hbt,e1,e2):=hbr.gO M;let hi1:i1<L.length:=by rw [ll];show(be.mp e1).1
   let hi2:i2<L.length:=by rw [ll];show(be.mp e2).1
   show(_,O,_,O,tA,_,_,_,O,O,bh.of (M _ _ fo.ht),att,_,O,_,O,_,O,bA,_,_,_,O,O,bh.of fr4.hb,abt,_,O,pA,us,o,_,b,(k:Int),O,fr4.hp,fr4.pp,fr.gp,hbr.gO M,hk2,λv5 H5 y n5=>?_);dsimp only [iN,gB,gA,gF];change dA K k_ [_,_] _ _ E0;show km ((htv.gO M).gO y) n5 cr λp6 H6 C n6=>?_;let s06:=M.trans (y.trans C);rw [eta] at abt;let F6:=F4.gO (y.trans C);show(_,O,_,O,_,O,bA,_,_,_,O,O,bh.of (s06 _ _ fr.hb),abt,ta,_,_,_,O,O,Ty.ar.gx (y.trans C) hbt,O,_,O,_,O,E,L,F,_,i1,(k:Int),_,_,_,O,F6,hi1,hk2,n6,cr,λH7 k7 F7=>?_);let s07:=KL.gO hn s06 k7;let n7:=n6.aY (F6.aY k7);show(_,O,_,O,_,O,bA,_,_,_,O,O,bh.of (s07 _ _ fr.hb),abt,ta,_,_,_,O,O,(F6.aY k7).gx (Ty.ar.gx (y.trans C) hbt),O,_,O,_,O,?_);dsimp only [iN,gB,gA,gF];change kq K [_] _ _ E0;show zaE n7 λp8 H8 s8 n8=>?_;let F8:=F7.gO s8;show(E,L,_,_,i2,(k:Int),_,_,_,O,F8,hi2,hk2,n8,cr,λH9 k9 F9=>?_);let s09:=KL.gO hn (s07.trans s8) k9;show(_,_,_,O,s09,F9.up (by rw [UP];omega),λi p e a Z=>?_);rw [DS hk2 Z,DS hk2 Z,S i p e a Z];let bp:=afn fr.gp.np (fr.en b mb) e e1 e2 (T b.nm) (k:Int);by_cases ca:a=(k:Int)
   ·subst ca
    rw [iO (c:=(k:Int)<(k:Int)) cr,jY (c:=(k:Int)<((k+1:Nat):Int)) cr,<-bp];simp only [and_true];grind
   ·let c1:¬ (i=i1/\a=(k:Int)):=λz=>ca z.2
    let c2:¬ (i=i2/\a=(k:Int)):=λz=>ca z.2;rw [iO c1,iO c2];by_cases cl:a<(k:Int)
    ·rw [jY cl,jY (c:=a<((k+1:Nat):Int)) cr]
     grind
    ·rw [iO cl,iO (c:=a<((k+1:Nat):Int)) cr]
     grind
  ·rintro Y H4 ⟨F,X,J,rfl,M,F4,S⟩
   show(F,_,_,_,O,M,F4.up (by rw [UP,<-hB];omega),λi p e a Z=>?_);rw [take_snoc eb,ael,S i p e a Z,jY (by rcases Z with rfl|rfl<;>decide)]
 ·rintro Y H3 ⟨F,o5,X,J,rfl,s3,F3,S⟩
  rw [en,lw] at F3;rw [en,lw,Uz] at S;let bl:AP.length*(4*(N+51))<=14*(4*(N+51)):=RE _ cr;generalize hB:1+AP.length*(4*(N+51))=B at F3;let en2:((us.length:Nat):Int).toNat=us.length:=cr
  show(_,O,pA,_,O,.inl (bh.of (s3 _ _ fr.hp)),((us.length:Nat):Int),O,cr,cr,let I:ce:=λk Y Q=>Ex5 λ(F:Nat->Rat×Rat) (o5 X J o8:ω)=>Y=[bv pA,bv bA,bv tA,bv uA,bv E,o5,X,J,o8]/\ar H Q/\Found K Q E L F (B+k*(4*(N+51)))/\∀(i:Nat)(p:ba),o[i]?=some p->∀a:Int,(a=0\/a=1)->ax a (F i)=qj T AP a p+if i<k then sP (U p.nm) (p.ws.map (ax a)) else 0;cy (lo:=0) (n:=((us.length:Nat):Int).toNat) I (F,o5,X,J,none,O,s3,by rwa [yv],λi p e a Z=>?_) ?_ ?_)
  ·rw [S i p e a Z,iO cr]
   grind
  ·rintro k Y H4 hk ⟨F,o5,X,J,o8,rfl,M,F4,S⟩
   let ek:(0:Int)+(k:Int)=(k:Int):=Qa _;rw [ek];let hku:k<us.length:=cr
   let(p,ep,hpr):=aQ fr.pp (gE hku);let mp:p∈o:=IH ep;let(xv,exv,la,ys,exl,hla,py):=aQ (d3 fo.pu) ep;subst exl;let lup:=fo.lU p mp;let lwp:=(fr.gp.ws p mp).len;let ly:ys.length=(U p.nm).length:=Mx py;let akx:iP xs (k:Int)=some (.ref la):=bI exv;let aku:iP us (k:Int)=some us[k]:=bI (gE hku);let(pa,l,sv,ix,epa,h1,h2,h3,h4):=hpr;rw [epa] at aku;let lv:ix.length=p.ws.length:=Mx h4;let kp:k<o.length:=cr
   let bk:k*(4*(N+51))<=8*(4*(N+51)):=RE _ cr;generalize hB2:B+k*(4*(N+51))=B2 at F4;let en3:((ix.length:Nat):Int).toNat=ix.length:=cr
   show(_,O,_,O,pA,_,_,_,O,O,bh.of (M _ _ fr.hp),aku,pa,_,_,_,O,O,Ty.ar.gx M h1,O,l,_,O,.inl (bh.of (M _ _ h3)),((ix.length:Nat):Int),O,cr,cr,let I:ce:=λj Y Q=>Td λ(F:Nat->Rat×Rat) (X J o8:ω)=>Y=[bv pA,bv bA,bv tA,bv uA,bv E,some (.int (k:Int)),X,J,o8]/\ar H Q/\Found K Q E L F (B2+j*(2*(N+51)))/\∀(i:Nat)(p:ba),o[i]?=some p->∀a:Int,(a=0\/a=1)->ax a (F i)=qj T AP a p+if i<k then sP (U p.nm) (p.ws.map (ax a)) else if i=k then sP ((U p.nm).take j) ((p.ws.take j).map (ax a)) else 0;cy (lo:=0) (n:=((ix.length:Nat):Int).toNat) I (F,X,J,o8,O,M,by rwa [yv],λi p e a Z=>?_) ?_ ?_)
   ·rw [S i p e a Z,amJ,ki]
    split<;>simp
   ·rintro j Y H5 hj ⟨F,X,J,o8,rfl,y,F5,S⟩
    let ek:(0:Int)+(j:Int)=(j:Int):=Qa _;rw [ek];let hj1:j<ix.length:=cr
    let hj2:j<ys.length:=cr
    let(x,ex,hx):=aQ py (gE hj2);let(wq,ewq,hwq):=aQ h4 (gE hj1);let zw:=(fr.gp.ws p mp).sz wq (IH ewq);let axj:iP ys (j:Int)=some ys[j]:=bI (gE hj2);let awj:iP ix (j:Int)=some ix[j]:=bI (gE hj1);let bj:j*(2*(N+51))<=1*(2*(N+51)):=RE _ cr;generalize hB3:B2+j*(2*(N+51))=B3 at F5;show((2:Int),O,eY,eY,let I:ce:=λc Y Q=>Tc λ(F:Nat->Rat×Rat) (X:ω)=>Y=[bv pA,bv bA,bv tA,bv uA,bv E,some (.int (k:Int)),X,J,some (.int (j:Int))]/\ar H Q/\Found K Q E L F (B3+c*(N+51))/\∀(i:Nat)(p:ba),o[i]?=some p->∀a:Int,(a=0\/a=1)->ax a (F i)=(qj T AP a p+if i<k then sP (U p.nm) (p.ws.map (ax a)) else if i=k then sP ((U p.nm).take j) ((p.ws.take j).map (ax a)) else 0)+if i=k/\a<(c:Int) then x*ax a wq else 0;cy (lo:=0) (n:=2) I (F,X,O,y,by rwa [yv],λi p e a Z=>?_) ?_ ?_)
    ·rw [S i p e a Z,iO (c:=i=k/\a<((0:Nat):Int)) (λz=>by rcases Z with rfl|rfl<;>show DB z.2 eY)]
     grind
    ·rintro c Y H6 hc ⟨F,X,rfl,C,F6,S⟩
     let ek:(0:Int)+(c:Int)=(c:Int):=Qa _;rw [ek];let hc2:(c:Int)=0\/(c:Int)=1:=cr
     let bc:c*(N+51)<=1*(N+51):=RE _ cr;let(wa,zs,u,ewa,S6,awc,nwc):=Pe hc2 (hwq.gO C);rw [ewa] at awj;show(_,O,_,O,_,O,_,O,_,O,uA,_,_,_,O,O,bh.of (C _ _ fo.hu),akx,_,O,la,_,_,_,O,O,bh.of (C _ _ hla),axj,_,O,_,O,pA,_,_,_,O,O,bh.of (C _ _ fr.hp),aku,pa,_,_,_,O,O,Ty.ar.gx C h1,O,_,O,l,_,_,_,O,O,bh.of (C _ _ h3),awj,_,O,wa,_,_,_,O,O,S6,awc,?_);dsimp only [iN,gB,gA,gF];change dA K k_ [_,_] _ _ E0;show km (hx.gO C) (gL nwc (jt (Pf zw) (DX _))) cr λp7 H7 s7 n7=>?_;show(E,L,F,_,k,(c:Int),_,_,_,O,F6.gO s7,cr,hc2,n7,cr,λH8 k8 F8=>?_);show(_,_,O,KL.gO hn (C.trans s7) k8,F8.up (by rw [UP];omega),λi p' e a Z=>?_);rw [DS hc2 Z,S i p' e a Z];by_cases A:i=k
     ·by_cases ca:a=(c:Int)
      ·subst ca
       rw [iO (c:=i=k/\(c:Int)<(c:Int)) (λz=>cr),jY (c:=i=k/\(c:Int)=(c:Int)) #[A,O],jY (c:=i=k/\(c:Int)<((c+1:Nat):Int)) #[A,cr]];grind
      ·rw [iO (c:=i=k/\a=(c:Int)) (λz=>ca z.2)]
       by_cases cl:a<(c:Int)
       ·rw [jY (c:=i=k/\a<(c:Int)) #[A,cl],jY (c:=i=k/\a<((c+1:Nat):Int)) #[A,cr]]
        grind
       ·rw [iO (c:=i=k/\a<(c:Int)) (λz=>cl z.2),iO (c:=i=k/\a<((c+1:Nat):Int)) (λz=>by have:=z.2;omega)]
        grind
     ·rw [iO (c:=i=k/\a<(c:Int)) (λz=>A z.1),iO (c:=i=k/\a=(c:Int)) (λz=>A z.1),iO (c:=i=k/\a<((c+1:Nat):Int)) (λz=>A z.1)]
      grind
    ·rintro Y H6 ⟨F,X,rfl,C,F6,S⟩
     show(F,_,_,_,O,C,F6.up (by rw [UP,<-hB3];omega),λi p' e a Z=>?_);rw [S i p' e a Z];by_cases A:i=k
     ·subst A
      erw [ep] at e;rw [iO (Qh _),jY rfl,iO (Qh _),jY rfl,jY (c:=i=i/\a<((2:Nat):Int)) #[O,by rcases Z with rfl|rfl<;>decide]];rw [take_snoc ex,take_snoc ewq,QC,Nc _ _ (by rw [Wp,Me,Me];omega),M3,Wv,f9,ki];grind
     ·rw [iO (c:=i=k/\a<((2:Nat):Int)) (λz=>A z.1),iO A,iO A]
      grind
   ·rintro Y H5 ⟨F,X,J,o8,rfl,y,F5,S⟩
    rw [en3] at F5 S
    show(F,_,_,_,_,O,y,F5.up (by
     have:ix.length*(2*(N+51))<=2*(2*(N+51)):=RE _ cr;rw [UP,<-hB2]
     omega),λi p' e a Z=>?_)
    rw [S i p' e a Z];by_cases A:i=k
    ·subst A
     erw [ep] at e;rw [iO (Qh _),jY rfl,jY (Qg _),Zt cr,Zt cr]
    ·rw [iO A]
     by_cases cl:i<k
     ·rw [jY cl,jY cr]
     ·rw [iO cl,iO cr]
  ·rintro Y H4 ⟨F,o5,X,J,o8,rfl,M,F4,S⟩
   rw [en2,lu] at F4 S;let bp:o.length*(4*(N+51))<=9*(4*(N+51)):=RE _ cr;show(_,O,q E L F H4 M ll (F4.up cr) λi p e=>?_);let hi:=(be.mp e).1;let a0:=S i p e 0 (.inl rfl);let a1:=S i p e 1 (.inr rfl);rw [jY hi] at a0 a1;unfold oz;unfold qj at a0 a1;let e0:ax 0=λp:Rat×Rat=>p.1:=rfl;let e1:ax 1=λp:Rat×Rat=>p.2:=rfl;rw [e0] at a0;rw [e1] at a1;show#[a0.trans (Rat.add_comm _ _),a1.trans (Rat.add_comm _ _)]
def zaC {ys:γ}:iP (x::ys) 0=some x:=bI (xs:=x::ys) (j:=0) rfl
def Nn {Z β:Type}{nm:Z->Str}(X:β){l:List Z}(U:(l.map nm).Nodup)(f:Nat->β):∃T:Str->β,∀(i:Nat)(x:Z),l[i]?=some x->T (nm x)=f i:=by
 classical
 show#[λs=>if h:∃i,(l.map nm)[i]?=some s then f h.choose else X,λi x e=>?_];let Y:(l.map nm)[i]?=some (nm x):=by rw [ir,e];rfl
 let h:∃i,(l.map nm)[i]?=some (nm x):=#[i,Y];change (if h:∃i,(l.map nm)[i]?=some (nm x) then f h.choose else X)=f i;rw [dif_pos h];show ox f (iU U h.choose_spec Y)
def Pg (h:0<b)(Y:t.natAbs<128)(Z:b<128):Sz 7 (vl (t,b)):=rE (QD h) (intBits_le_iff.mpr (by change _<128;omega)) (intBits_le_iff.mpr (by change _<128;omega))
def zaB (e:H p=some (.tup [.int t,.int b]))(h:0<b)(Y:t.natAbs<128)(Z:b<128):nE K H (.ref p) 13 (vl (t,b)):=((t,b),(p,O,bQ.of e),h,O,(by change _<=8192;omega),(by change _<=8192;omega))
theorem uc :∀(n:Nat) {us:γ} {zs:List Z},Paired R us zs->Paired R (us.take n) (zs.take n)
 | 0,_,_,_=>by simpa using Paired.nil
 | n+1,_,_,.nil=>by simpa using Paired.nil
 | n+1,_,_,.cons h t=>by
  rw [amL,amL];show .cons h (uc n t)
theorem Ww {Z:Type}{f:Z->Rat}:∀{l:List Z},(∀x∈l,Sz k (f x))->Sz (l.length*(k+1)+1) (l.map f).sum
 | [],_=>by
  rw [Wv,List.sum_nil];show gK fN
 | x::l,h=>by
  rw [M3,amN,Qz];show((h x Mo).add (Ww λy Y=>h y (MV _ Y))).up ?_;rw [UP];omega
theorem abO :∀{us ws:Μ},(∀u∈us,Sz k u)->(∀w∈ws,Sz m w)->Sz (us.length*(k+m+1)+1) (sP us ws)
 | [],ws,_,_=>by
  rw [ki];show gK fN
 | u::us,[],_,_=>by
  have:sP (u::us) []=0:=by simp [sP]
  rw [this];show gK fN
 | u::us,w::ws,X,Y=>by
  rw [f9,Qz];show(((X u Mo).mul (Y w Mo)).add (abO (us:=us) (ws:=ws) (λy Z=>X y (MV _ Z)) λy Z=>Y y (MV _ Z))).up ?_;rw [UP];omega
def zaA (g:jr AO AP)(L:AP.length<=5)(R:∀b∈AP,Sz 13 (T b.nm))(S:∀p∈AO,∀u∈U p.nm,Sz 7 u)(J:∀p∈AO,(U p.nm).length=p.ws.length)(Z:p∈AO)(Y:∀{n:Nat} {w:Rat×Rat},Sz n w.1/\Sz n w.2->Sz n (c w)):Sz 390 (oz AP T U p c):=by
 unfold oz
 let N:Sz ((U p.nm).length*(7+22+1)+1) (sP (U p.nm) (p.ws.map c)):=abO (S p Z) λw I=>by
  let(M,H,rfl):=GV.mp I;show Y ((g.sz p Z).2.2 M H)
 let Q:Sz (AP.length*(63+1)+1) (AP.map λb=>T b.nm*c (mv (l_ b) p.nm)).sum:=Ww λb X=>((R b X).mul (Y (We g X p.nm))).up eY;let A:=g.lw p Z;let C:=J p Z;let D:(U p.nm).length*(7+22+1)<=2*30:=RE 30 cr;let E:AP.length*(63+1)<=5*64:=RE 64 L;show(N.add Q).up cr
def abP (AP:Δ)(T:Str->Rat)(U:Str->List Rat)(p:ba):Rat×Rat:=(-(oz AP T U p (·.1)), -(oz AP T U p (·.2)))
def Ph (h:0<q.2)(e:vl q=r):low (0-q.1) q.2=qr (-r):=by
 rw [d9 (QD h),<-e];congr 1;unfold vl;push_cast;grind
inductive xu (K:Frag)(vs:γ)(H:Hp)(Q:VK)(R:XK):Prop
|mk (Z Y U X:AZ)(T:ο)(us ws:γ)(AO:υ)(AP:Δ)(S:η)(B:Λ)(_:vs=[.ref Z,.ref Y,.ref U,.ref X])(_:bh K H Z (T.map V.int))(_:LFr K H Y U us ws AO AP)(_:jr AO AP)(_:AP.length<=5)(_:KH K H X S (AP.map (·.nm)) B)(_:(∀x,Sz 9 (B x).1/\Sz 9 (B x).2))(_:∀(d:AZ)(AV:η)(L:Λ)(H':Hp),ar H H' ->KH K H' d AV (AO.map (·.nm)) L->(∀p∈AO,Sz 390 (L p.nm).1/\Sz 390 (L p.nm).2)->Q (.ref d) H')
def ju:aw ["_law_script","_law_pins","_law_bars_here","_law_bounds_here","_law_pulls","_law_k","_law_cell","_law_share","_law_pushes","_law_some","_law_found","_law_load","_law_x","_law_y"] JA (ae Rk):=sq
def ajK (D:Def K mg "_law_borne" Rk JA)(bq:mg "len"=none)(bB:mg "range"=none)(oG:ad P w K mg gN 1 "_law_cell_at" α0 (oC K))(dY:ad P w K mg gN 1 "_law_field" UY iA)(yE:ad P w K mg gN 1 "_law_times" Qj (dA K k_))(arj:ad P w K mg gN 3 "_law_forces" J' (xt K))(lh:ad P w K mg gN 33 "_law_lowest" Vn cT):
  ad P w K mg gN 34 "_law_borne" JA (xu K):=by
 show D.oo ju λH S h=>?_;let(sA,pA,bA,dB,ns,N,ws,Q,AP,kB,B,rfl,hS,X,g,lb5,hB,zB,q):=h;let nb:=g.nb;let L2:2<=HZ:=eY
 let lp:=X.lp;let lb:=X.lb;let lu:N.length=Q.length:=Mx X.pp;let lw:ws.length=AP.length:=Mx X.pb
 show(_,(aa (aC 4 ju.nd (bS gC)) (aa (bM M9 rfl (ck rfl bB (aR (aS aG rfl bq cn (aR (pv 2))))) (cB 5 ju.nd) (aa (aC 6 ju.nd (aK oG S (aJ (pv 0) (ay b9 ah (pv 5))))) (aa (aC 7 ju.nd (a_ (aJ (aK dY S (b8 (pv 6) ah ah)) ah))) (ak (b_ (ku Us σ3 σ2 eE (pv 4) (aR (aK yE S (aJ (pv 7) (bC rg (jk (dI S) (pv 3) (aH (bC aE (pv 2) (pv 5))) (λ_ _=>O)) (aK dY S (b8 (pv 6) ah ah)))))))))))) (aa (aC 8 ju.nd (bS gC)) (aa (bM M9 rfl (ck rfl bB (aR (aS aG rfl bq cn (aR (pv 1))))) (cB 5 ju.nd) (aa (aC 6 ju.nd (aK oG S (aJ (pv 0) (ay b9 ah (pv 5))))) (aa (aC 9 ju.nd (bS (aJ (a_ (aJ (ay c9 (aK dY S (b8 (pv 6) ah ah)) ah) ah)) (a_ (aJ (ay c9 (aK dY S (b8 (pv 6) ah ah)) ah) ah))))) (ak (b_ (ku Us σ3 σ2 eE (pv 8) (aR (cX eO (pv 9) eM (dD (aS aG rfl bq cn (aR (aH (bC aE (pv 1) (pv 5)))))))))))))) (aa (aC 10 ju.nd (aK arj S (Lz (pv 1) (b8 (pv 2) (pv 4) (pv 8))))) (aa (aC 11 ju.nd fW) (aa (bM M9 rfl (ck rfl bB (aR (aS aG rfl bq cn (aR (pv 1))))) (cB 5 ju.nd) (aa (aC 12 ju.nd (aK lh S (aJ (ay c9 ah (aH (z9 (bC aE (pv 10) (pv 5))))) (aH (z9 (bC aE (pv 10) (pv 5))))))) (aa (aC 13 ju.nd (aK lh S (aJ (ay c9 ah (aH (z9 (bC aE (pv 10) (pv 5))))) (aH (z9 (bC aE (pv 10) (pv 5))))))) (ak (gI (dI S) (pv 11) (aH (bC aE (pv 1) (pv 5))) (a_ (aJ (pv 12) (pv 13))) rfl))))) (ak (aI (pv 11)))))))))),?_);sleep 6
 show#[z0L,?_];intros lT nT H1 s1 eT;let en:((ws.length:Nat):Int).toNat=ws.length:=cr
 show(_,O,bA,_,O,.inl (bh.of (s1 _ _ X.hb)),((ws.length:Nat):Int),O,cr,cr,let I:ce:=λi Y f=>Ex5 λ(o4 o5 o6:ω) (ts:γ) (Z:Μ)=>Y=[bv sA,bv pA,bv bA,bv dB,bv lT,o4,o5,o6,none,none,none,none,none,none]/\ar H f/\f lT=some (.lst ts)/\Paired (λv r=>nE K f v 13 r) ts Z/\Z.length=i/\∀r∈Z,Sz 13 r;cy (lo:=0) (n:=((ws.length:Nat):Int).toNat) I (none,none,none,[],[],O,s1,eT,.nil,O,by simp) ?_ ?_)
 ·rintro i Y H2 hi ⟨o4,o5,o6,ts,Z,rfl,s2,e2,pt,J,zr⟩
  let ek:(0:Int)+(i:Int)=(i:Int):=Qa _;rw [ek];let lt:ts.length=Z.length:=Mx pt;show(_,O,_,O,_,_,O,O,sA,ns,_,O,s2.seq hS,cr,cr,?_);generalize cell ns (22+(i:Int))=R;let f1:=bD (c:=R) (p:=4001) (m:=10) eY;let f2:=bD (c:=R) (p:=5003) (m:=2) eY;let hiw:i<ws.length:=cr
  let(b,eb,hbr):=aQ X.pb (gE hiw);let mb:=IH eb;show(_,O,_,_,_,O,eY,eY,eY,L2,?_);intros p3 n3 H3 C e3;let O3:=s2.trans C;let(ta,i1,i2,eta,hbt,_):=hbr.gO O3;let ai:iP ws (i:Int)=some (.ref ta):=bI (by rw [gE hiw,eta]);let(v,ev,hv):=hB.val nb (GV.mpr (b,mb,O));let fk:field R 5003 2=0\/field R 5003 2=1:=cr
  let(pv,xv,u,rfl,hq,au,nu):=Pe fk (hv.gO O3);let zu:=Pf (k:=field R 5003 2) (zB b.nm);let e23:=C _ _ e2
  let dg:ia H3 dB (.str b.nm) (some (.ref pv)):=by
   have:=ia.k (k:=.inr b.nm) (O3 _ _ hB.1);rwa [ev] at this
  show(_,O,.inl (O,_,bh.of e23),_,O,_,O,_,O,_,O,bA,_,_,_,O,O,bh.of (O3 _ _ X.hb),ai,ta,_,_,_,O,O,hbt,zaC,dB,_,O,dg,_,O,_,_,_,O,eY,eY,eY,pv,_,_,_,O,O,hq,au,?_);dsimp only [iN];change dA K k_ [_,_] _ _ E0;let zs:Sz 4 (vl (field R 4001 10,9)):=rE (by change (9:Int)≠0;decide) (intBits_le_iff.mpr (by change _<16;omega)) (intBits_le_iff.mpr (by change 9<16;decide));show km (m:=4) ((field R 4001 10,9),(p3,O,bQ.of e3),by change (0:Int)<9;decide,O,#[by change _<=16;omega,by change 9<=16;decide]) (gL nu (jt zu (DX _))) eY λp6 H6 s6 n6=>?_;let Tn:=C.trans s6;let e26:=Tn _ _ e2;let lt:ts.length=Z.length:=Mx pt;show(lT,_,_,O,O,e26,L_ (show ts.length<=100 by omega) eY,?_);let st:bw H6 (upd H6 lT (.lst (ts++[.ref p6]))):=.list e26;show(_,_,_,ts++[.ref p6],Z++[vl (field R 4001 10,9)*ax (field R 5003 2) (B b.nm)],O,λb o z=>?_,af,fh (Paired.cF pt λ_ _ z=>(z.gO Tn).aY st) (n6.aY st),by simp [J],λr S=>?_)
  ·rw [ag (aj z nT)]
   show Tn _ _ (s2 _ _ z)
  ·rcases MU.mp S with z|z
   ·show zr r z
   ·rw [MJ.mp z]
    show zs.mul zu
 rintro Y H2 ⟨o4,o5,o6,ts,Z,rfl,s2,e2,pt,J,zr⟩;rw [en,lw] at J;show#[z0L,?_];intros lU nU H3 C eU;let O3:=s2.trans C;let en2:((N.length:Nat):Int).toNat=N.length:=cr
 show(_,O,pA,_,O,.inl (bh.of (O3 _ _ X.hp)),((N.length:Nat):Int),O,cr,cr,let I:ce:=λi Y f=>Ex6 λ(o4 o5 o6 o7:ω) (xs:γ) (y:List (List Rat))=>Y=[bv sA,bv pA,bv bA,bv dB,bv lT,o4,o5,o6,bv lU,o7,none,none,none,none]/\ar H2 f/\f lU=some (.lst xs)/\Paired (λv Z=>∃la ys,v=.ref la/\la≠lU/\f la=some (.lst ys)/\Paired (λv r=>nE K f v 13 r) ys Z) xs y/\y.length=i/\∀(j:Nat)(Z:Μ)(p:ba),y[j]?=some Z->Q[j]?=some p->Z.length=p.ws.length/\∀r∈Z,Sz 7 r;cy (lo:=0) (n:=((N.length:Nat):Int).toNat) I (o4,o5,o6,none,[],[],O,C,eU,.nil,O,by simp) ?_ ?_)
 ·rintro i Y H4 hi ⟨o4,o5,o6,o7,xs,y,rfl,s4,e4,α2,lr',zz⟩
  let ek:(0:Int)+(i:Int)=(i:Int):=Qa _;rw [ek];let vw:=s2.trans s4;let lx:xs.length=y.length:=Mx α2;let hiu:i<N.length:=cr
  let(p,A,hpr):=aQ X.pp (gE hiu);let mp:=IH A;let(ta,l,sv,ix,eu,h1,h2,h3,h4):=hpr.gO vw;let ai:iP N (i:Int)=some (.ref ta):=bI (by rw [gE hiu,eu]);let lv:ix.length=p.ws.length:=Mx h4;let lwp:=(X.gp.ws p mp).len;show(_,O,_,O,_,_,O,O,sA,ns,_,O,vw.seq hS,cr,cr,?_);generalize cell ns (16+(i:Int))=R;let f1:=bD (c:=R) (p:=6007) (m:=201) eY;let f2:=bD (c:=R) (p:=7001) (m:=201) eY;show(_,O,_,_,_,O,eY,eY,eY,_,_,O,O,L2,?_);intros p5 n5 H5 s5 e5;show(_,O,_,_,_,O,eY,eY,eY,_,_,O,O,L2,?_);intros p6 n6 H6 s6 e6;show#[L2,?_];intros l7 n7 H7 s7 e7;let s47:=s5.trans (s6.trans s7);let e47:=s47 _ _ e4;show(_,O,.inl (O,_,bh.of e47),_,O,_,O,_,O,pA,_,_,_,O,O,bh.of ((vw.trans s47) _ _ X.hp),ai,ta,_,_,_,O,O,Ty.ar.gx s47 h1,O,l,_,O,.inl (bh.of (s47 _ _ h3)),_,O,l7,_,O,bh.of e7,?_);rw [kd (show ix.length<=[V.ref p5,V.ref p6].length by change ix.length<=2;omega)];intros la n8 H8 s8 e8;let e48:=s8 _ _ e47;let s48:=s47.trans s8;show(lU,_,_,O,O,e48,L_ (show xs.length<=100 by omega) eY,?_);let st:bw H8 (upd H8 lU (.lst (xs++[.ref la]))):=.list e48;let Xs:la≠lU:=λz=>by erw [z,e47] at n8
  let two:Paired (λv r=>nE K H8 v 13 r) [V.ref p5,V.ref p6] [vl (field R 6007 201-100,1),vl (field R 7001 201-100,2)]:=.cons (zaB (s8 _ _ (s7 _ _ (s6 _ _ e5))) eY cr eY) (.cons (zaB (s8 _ _ (s7 _ _ e6)) eY cr eY) .nil);show(_,_,_,_,xs++[.ref la],y++[[vl (field R 6007 201-100,1),vl (field R 7001 201-100,2)].take ix.length],O,λb o z=>?_,af,fh (Paired.cF α2 λv Z ⟨la',ys,a,b,c,d⟩=>(la',ys,a,b,by rw [ag b];show s48 _ _ c,Paired.cF d λ_ _ z=>(z.gO s48).aY st)) (la,_,O,Xs,by rwa [ag Xs],Paired.cF (uc _ two) λ_ _ z=>z.aY st),by simp [lr'],λj Z p' M AL =>?_)
  ·rw [ag (aj z nU)]
   show s48 _ _ (s4 _ _ z)
  ·by_cases c:j<y.length
   ·rw [MF c] at M
    show zz j Z p' M AL
   ·rw [Mg cr] at M
    let ej0:j=i:=by
     by_cases z:j-y.length=0
     ·omega
     ·rw [JM (by simp;omega)] at M
      cases M
    subst ej0;erw [show j-y.length=0 by omega] at M;erw [A] at AL;show#[?_,λr S=>?_]
    ·rw [Me]
     change min ix.length 2=p.ws.length;omega
    ·have:=Oe S
     rcases P4.mp this with z|z
     ·rw [z]
      show Pg eY cr eY
     ·rw [MJ.mp z]
      show Pg eY cr eY
 rintro Y H4 ⟨o4,oc,o6',os,xs,y,rfl,s4,e4,α2,lr',zz⟩;rw [en2,lu] at lr';let(T,hT):=Nn (nm:=cf.nm) (0:Rat) nb λi=>Z.getD i 0;let(U,hU):=Nn (nm:=ba.nm) ([]:List Rat) X.gp.np λi=>y.getD i []
 let tT:∀(i:Nat)(b:cf),AP[i]?=some b->Z[i]?=some (T b.nm):=λi b e=>by
  let hi:=(be.mp e).1;rw [hT i b e,JC,gE cr];rfl
 let tU:∀(i:Nat)(p:ba),Q[i]?=some p->y[i]?=some (U p.nm):=λi p e=>by
  let hi:=(be.mp e).1;rw [hU i p e,JC,gE cr];rfl
 let fo:LFo K H4 lT lU ts xs Q AP T U 13:=by
  show(s4 _ _ e2,ip (by rw [Mx pt,J]) λi v e=>?_,e4,ip (by rw [Mx α2,lr']) λi v e=>?_,λp hp=>?_,eY)
  ·let(r,er,nr):=aQ pt e
   let hi:=(be.mp er).1;obtain ⟨b,eb⟩:∃b,AP[i]?=some b:=#[_,gE cr];have:=tT i b eb;rw [er] at this;show(b,eb,by rw [<-QI this];show nr.gO s4)
  ·let(xZ,er,la,ys,a,b,c,d):=aQ α2 e
   let hi:=(be.mp er).1;obtain ⟨p,A⟩:∃p,Q[i]?=some p:=#[_,gE cr];have:=tU i p A;rw [er] at this;show(p,A,la,ys,a,c,by rwa [<-QI this])
  ·let(i,ei):=LP hp
   show(zz i _ p (tU i p ei) ei).1
 let zT:∀b∈AP,Sz 13 (T b.nm):=λb hb=>by
  let(i,ei):=LP hb;show zr _ (IH (tT i b ei))
 let zU:∀p∈Q,∀u∈U p.nm,Sz 7 u:=λp hp u hu=>by
  let(i,ei):=LP hp;show(zz i _ p (tU i p ei) ei).2 u hu
 let vw:=s2.trans s4;show(_,O,_,O,_,O,_,O,pA,bA,lT,lU,N,ws,ts,xs,Q,AP,T,U,13,O,X.gO vw,fo,λfA ls F H1 s1 ll hF eF=>?_);let s01:=vw.trans s1;let(L,hL):=Nn (nm:=ba.nm) ((0,0):Rat×Rat) X.gp.np λi=>(Q[i]?.map (abP AP T U)).getD (0,0)
 let eL:∀(i:Nat)(p:ba),Q[i]?=some p->L p.nm=abP AP T U p:=λi p e=>by
  rw [hL i p e,e];rfl
 intros d nd H2 s2 e2;let Tg:=s01.trans s2;let enb:((N.length:Nat):Int).toNat=N.length:=cr
 show(_,O,pA,_,O,.inl (bh.of (Tg _ _ X.hp)),((N.length:Nat):Int),O,cr,cr,let I:ce:=λi Y f=>Td λ(o5 o6 o7:ω) (E:η)=>Y=[bv sA,bv pA,bv bA,bv dB,bv lT,o5,oc,o6',bv lU,os,bv fA,bv d,o6,o7]/\ar H1 f/\f d=some (.dK E)/\E.map (·.1)=(Q.take i).map (λp=>(Qw p.nm:Key))/\∀(j:Nat)(p:ba),(Q.take i)[j]?=some p->∃v,E[j]?=some (.inr p.nm,v)/\gP K f v (L p.nm);cy (lo:=0) (n:=((N.length:Nat):Int).toNat) I (o4,none,none,[],O,s2,e2,by simp,λj p e=>by simp at e) ?_ ?_)
 ·rintro i Y H3 hi ⟨o5,o6,o7,E,rfl,C,e3,ky,tv⟩
  let ek:(0:Int)+(i:Int)=(i:Int):=Qa _;rw [ek];let O3:=s01.trans C;let hiu:i<N.length:=cr
  let(p,A,hpr):=aQ X.pp (gE hiu);let mp:=IH A;let(ta,lw,sv,ix,eu,h1,_,_,_):=hpr.gO O3;let ai:iP N (i:Int)=some (.ref ta):=bI (by rw [gE hiu,eu]);let F3:=hF.gO C;obtain ⟨J,elr⟩:∃J,ls[i]?=some J:=#[_,gE cr];let(w1,w2,hlr,(q1,(a1,rfl,m1),b1,c1,_),(q2,(a2,rfl,m2),b2,c2,_)):=F3.row i J elr;let(f1,f2):=eF i p A;let etl:iP (ls.map V.ref) (i:Int)=some (.ref J):=bI (by rw [ir,elr];rfl);let lf:=bh.of (K:=K) F3.hf;let lrq:=bh.of (K:=K) hlr;show(_,O,_,O,fA,_,_,_,O,O,lf,etl,J,_,_,_,O,O,lrq,O,a1,_,_,_,O,O,m1,iM,_,_,O,O,_,O,_,O,fA,_,_,_,O,O,lf,etl,J,_,_,_,O,O,lrq,O,a1,_,_,_,O,O,m1,iK,_,_,O,b1,λp4 H4 s4 e4=>?_);rw [Ph b1 (c1.trans f1)] at e4;let lf4:=bh.of (K:=K) (s4 _ _ F3.hf);let lr4:=bh.of (K:=K) (s4 _ _ hlr);let m24:=Ty.ar.gx s4 m2;show(_,O,_,O,fA,_,_,_,O,O,lf4,etl,J,_,_,_,O,O,lr4,O,a2,_,_,_,O,O,m24,iM,_,_,O,O,_,O,_,O,fA,_,_,_,O,O,lf4,etl,J,_,_,_,O,O,lr4,O,a2,_,_,_,O,O,m24,iK,_,_,O,b2,λp5 H5 s5 e5=>?_);rw [Ph b2 (c2.trans f2)] at e5;show(_,O,_,O,L2,?_);intros p6 n6 H6 s6 e6;let Tn:=s4.trans (s5.trans s6);let e36:=Tn _ _ e3
  let lk:E.length=i:=by
   have:=ox Wy ky;rw [Wp,Wp,Me] at this;omega
  show(_,O,_,O,_,O,pA,_,_,_,O,O,bh.of ((O3.trans Tn) _ _ X.hp),ai,ta,_,_,_,O,O,Ty.ar.gx Tn h1,zaC,d,_,O,mS.k (k:=.inr p.nm) e36 (L_ (show E.length<=100 by omega) eY),?_)
  let new:ff E (.inr p.nm)=none:=c_ (by
   rw [ky];intro z;let(p',hp',e'):=GV.mp z
   show o_ (nm:=ba.nm) X.gp.np A hp' (by injection e'))
  rw [fV _ new]
  let t6:bw H6 (upd H6 d (.dK (E++[(.inr p.nm,.ref p6)]))):=λb zs r=>by
   rcases r with r|⟨o',r⟩
   ·show .inl (by rw [ag (λe=>by erw [e,e36] at r)];show r)
   ·show .inr #[o',by rw [ag (λe=>by erw [e,e36] at r)];show r]
  let pv:gP K H6 (.ref p6) (L p.nm):=by
   rw [eL i p A];show(p6,_,_,O,bQ.of e6,jb (s6 _ _ (s5 _ _ e4)),jb (s6 _ _ e5))
  show(_,_,_,E++[(.inr p.nm,.ref p6)],O,λb o z=>?_,af,?_,λj p' M=>?_)
  ·rw [ag (aj z nd)]
   show Tn _ _ (C _ _ z)
  ·rw [QC,ky,take_snoc A,QC]
   rfl
  ·rw [take_snoc A] at M
   let l0:(Q.take i).length=i:=by rw [Me];omega
   by_cases c:j<i
   ·rw [MF cr] at M
    let(v,e1,e2):=tv j p' M;show(v,by rwa [MF cr],(e2.gO Tn).aY t6)
   ·let ej0:j=i:=by
     rw [Mg cr] at M;by_cases z:j-(Q.take i).length=0
     ·omega
     ·rw [JM (by simp only [ahF];omega)] at M
      cases M
    subst ej0;erw [Mg cr,show j-(Q.take j).length=0 by omega] at M;show(.ref p6,by rw [Mg cr,show j-E.length=0 by omega];rfl,pv.aY t6)
 ·rintro Y H3 ⟨o5,o6,o7,E,rfl,C,e3,ky,tv⟩
  rw [enb,lu,Uz] at ky tv
  let lk:E.length=Q.length:=by
   have:=ox Wy ky;rwa [Wp,Wp] at this
  show(_,O,q d E L H3 (s01.trans C) #[e3,fm (by rw [Wp,lk]) λj kv x ek ex=>?_] λp hp=>?_)
  ·rw [ir] at ex
   let(p,hp,rfl):=MK.mp ex;let(v,a,b):=tv j p hp;erw [ek] at a;show#[O,b]
  ·let(i,ei):=LP hp
   rw [eL i p ei];show#[(zaA g lb5 zT zU fo.lU hp (λh=>h.1)).neg,(zaA g lb5 zT zU fo.lU hp (λh=>h.2)).neg]
inductive DU (K:Frag)(vs:γ)(H:Hp)(Q:VK)(Z:XK):Prop
|mk (v u:V)(r:Rat×Rat)(b:Rat)(n:Nat)(_:vs=[v,u])(_:gP K H v r)(_:ie K H u b)(_:Sz n r.1)(_:Sz n r.2)(_:Sz 10 b)(_:n<=1000)(_:∀(p:AZ)(H':Hp),ar H H' ->gP K H' (.ref p) (r.1*b,r.2*b)->Q (.ref p) H')
def Pj {H:Hp}{n:Nat}(h:0<q.2)(e:vl q=r):low q.1 q.2=qr r:=by
 rw [d9 (QD h),<-e];rfl
def gM:aw ["_law_pair","_law_by","_law_one","_law_other"] JW (ae cV):=sq
def akJ (D:Def K mg "_law_pair_times" cV JW)(Q:ad P w K mg gN 1 "_law_times" Qj (dA K k_))(C:ad P w K mg gN 33 "_law_lowest" Vn cT):
  ad P w K mg gN 34 "_law_pair_times" JW (DU K):=by
 show D.oo gM λH X h=>?_;let(v,u,r,b,n,rfl,(a,u1,u2,rfl,A,h1,h2),z,j,m,R,ln,q):=h;let L2:2<=HZ:=eY
 show(_,(aa (aC 2 gM.nd (aK Q X (aJ (aH (pv 0)) (pv 1)))) (aa (aC 3 gM.nd (aK Q X (aJ (aH (pv 0)) (pv 1)))) (ak (aI (a_ (aJ (aK C X (aJ (aH (pv 2)) (aH (pv 2)))) (aK C X (aJ (aH (pv 3)) (aH (pv 3)))))))))),?_)
 show(_,O,a,_,_,_,O,O,A,iM,_,O,?_);dsimp only [iN];change dA K k_ [_,_] _ _ E0;show km (gL h1 (jt j (DX _))) (gL z (jt R (DX _))) cr λI H3 Y c=>?_;show(_,O,a,_,_,_,O,O,Ty.ar.gx Y A,iK,_,O,?_);dsimp only [iN];change dA K k_ [_,_] _ _ E0;show km (gL (h2.gO Y) (jt m (DX _))) (gL (z.gO Y) (jt R (DX _))) cr λJ H4 L f=>?_;let(q3,(a3,S,E),o,c3,_):=c.gO L;let(q4,(a4,T,m4),p,c4,_):=f;cases S;cases T;show(_,O,I,_,_,_,O,O,E,iM,_,O,I,_,_,_,O,O,E,iK,_,_,O,o,λp5 H5 M x=>?_);rw [Pj (H:=H5) (n:=0) o c3] at x;let Z:=Ty.ar.gx M m4;show(_,O,J,_,_,_,O,O,Z,iM,_,O,J,_,_,_,O,O,Z,iK,_,_,O,p,λp6 H6 N y=>?_);rw [Pj (H:=H6) (n:=0) p c4] at y;show#[L2,?_];intros i n7 H7 U e7;show q i H7 ((Y.trans L).trans (M.trans (N.trans U))) (t7 e7 ((jb x).gO (N.trans U)) ((jb y).gO U))
inductive Np (K:Frag)(vs:γ)(H:Hp)(Q:VK)(Y:XK):Prop
|mk (d:AZ)(u:V)(AV:η)(xs:τ)(f:Λ)(b:Rat)(n:Nat)(_:vs=[.ref d,u])(_:KH K H d AV xs f)(_:xs.Nodup)(_:xs.length<=100)(_:ie K H u b)(_:Sz 10 b)(_:(∀x∈xs,Sz n (f x).1/\Sz n (f x).2))(_:n<=1000)(_:∀(p:AZ)(Z:η)(H':Hp),ar H H' ->H p=none->KH K H' p Z xs (λx=>((f x).1*b,(f x).2*b))->Q (.ref p) H')
def fM:aw ["_law_pairs","_law_by","_law_found","_law_name_here","_law_pair"] JX (ae dj):=sq
def agY (D:Def K mg "_law_all_times" dj JX)(sH:ad P w K mg gN 34 "_law_pair_times" JW (DU K)):
  ad P w K mg gN 35 "_law_all_times" JX (Np K):=by
 show D.oo fM λH hr h=>?_;let(d,u,AV,xs,i,b,n,rfl,(R,pk),nd,lx,hb,zb,zx,ln,q):=h;let lk:AV.length=xs.length:=Mx pk
 show(_,(aa (aC 2 fM.nd fW) (aa (vt (bM M9 rfl (vY (pv 0)) (g6 rfl (a9 (cB 3 fM.nd) (a9 (cB 4 fM.nd) cM))) (ak (gI (dI hr) (pv 2) (pv 3) (aK sH hr (aJ (pv 4) (pv 1))) rfl)))) (ak (aI (pv 2))))),?_);sleep 2
 intro p S;let s1:=av S (.dK []);let e1:(upd H p (.dK [])) p=some (.dK []):=af;generalize upd H p (.dK [])=H1 at s1 e1 ⊢;let Z_:=s1 _ _ R;let pd:p≠d:=λz=>by erw [z,R] at S
 show(_,O,d,AV,O,Z_,λo=>?_);let k0:∀b Z,b≠d->b≠p->H b=some Z ->(upd H1 d (.iL o (.dK AV))) b=some Z:=λb Z n _ z=>by rw [ag n];show s1 _ _ z
 let tH:∀{X:Hp},(∀b Z,b≠d->b≠p->H b=some Z ->X b=some Z)->bw H X:=λ{X} k b xs r=>by
  rcases r with r|⟨Z,r⟩
  ·show .inl (k _ _ (λz=>by erw [z,R] at r) (λz=>by erw [z,S] at r) r)
  ·show .inr #[Z,k _ _ (λz=>by erw [z,R] at r) (λz=>by erw [z,S] at r) r]
 show let I:ce:=λt Y X=>Zz λ(o3 o4:ω) (U:η)=>Y=[bv d,some u,bv p,o3,o4]/\(∀b Z,b≠d->b≠p->H b=some Z ->X b=some Z)/\X d=some (.iL o (.dK AV))/\X p=some (.dK U)/\Paired (KvP K X (λx=>((i x).1*b,(i x).2*b))) U (xs.take t);mE (d:=d) (o:=o) (AV:=AV) I (none,none,[],O,k0,af,by rwa [ag pd],.nil) (λt Y X _ h=>by
   let(_,_,_,_,_,h,_):=h
   show h) ?_ ?_
 ·rintro t k y Y E A GP ⟨o3,o4,U,rfl,k6,J,M,T⟩ n7
  obtain ⟨x,L,rfl,ny⟩:∃x,xs[t]?=some x/\k=.inr x/\gP K H y (i x):=by
   let(x,L,h1,h2):=aQ pk GP;show(x,L,h1,h2)
  let Q:=av n7 (.tup [kV (.inr x),y]);let e7:(upd E A (.tup [kV (.inr x),y])) A=some (.tup [kV (.inr x),y]):=af;generalize upd E A (.tup [kV (.inr x),y])=H7 at Q e7 ⊢;let k7:∀b Z,b≠d->b≠p->H b=some Z ->H7 b=some Z:=λb Z n m z=>Q _ _ (k6 b Z n m z);let(z1,z2):=zx x (IH L);show(A,_,O,bQ.of e7,O,_,_,O,_,_,O,O,_,O,_,O,y,u,i x,b,n,O,ny.aY (tH k7),hb.aY (tH k7),z1,z2,zb,ln,λc8 H8 C e8=>?_);let N:=C _ _ (Q _ _ M);let lT:=Mx T;rw [Me] at lT;show(_,O,_,O,p,_,O,mS.k (k:=.inr x) N (L_ (show U.length<=1000 by omega) eY),?_)
  let fresh:(Qw x:Key)∉U.map (·.1):=λz=>by
   rw [qi T] at z;let(x',mX,ek):=GV.mp z;let(j,f):=LP mX
   let hj:j<t:=by
    have:=(be.mp f).1;rw [Me] at this;omega
   rw [agW hj] at f;rw [Wz ek] at f;have:=iU nd f L;omega
  rw [fV _ (c_ fresh)];let t8:bw H8 (upd H8 p (.dK (U++[(.inr x,.ref c8)]))):=.dict N;show(_,_,_,O,λb Z n m z=>?_,?_,af,?_)
  ·rw [ag m]
   show C _ _ (k7 b Z n m z)
  ·rw [ag (IL pd)]
   show C _ _ (Q _ _ J)
  ·rw [OM,L]
   show fh (Paired.cF T λ_ _ z=>#[z.1,(z.2.gO (Q.trans C)).aY t8]) #[O,e8.aY t8]
 ·rintro Y E ⟨o3,o4,U,rfl,k6,J,M,T⟩
  show(d,o,AV,J,λZ u' z=>(by have z':H d=some (.iL Z u'):=z;erw [R] at z'),?_);rw [Zt cr] at T
  let t2:bw E (upd E d (.dK AV)):=λb xs r=>by
   rcases r with r|⟨Z,r⟩
   ·show .inl (by rw [ag (λz=>by erw [z,J] at r)];show r)
   ·show .inr #[Z,by rw [ag (λz=>by erw [z,J] at r)];show r]
  show(_,O,q p U _ (λb Z z=>?_) S #[by rwa [ag pd],Paired.cF T λ_ _ z=>#[z.1,z.2.aY t2]]);by_cases c:b=d
  ·subst c
   erw [R] at z;show af
  ·rw [ag c]
   show k6 b Z c (λe=>by erw [e,S] at z) z
inductive DV (K:Frag)(vs:γ)(H:Hp)(Q:VK)(Z:XK):Prop
|mk (c:Int)(_:vs=[.int c])(_:∀(p:AZ)(r:Rat)(H':Hp),ar H H' ->ie K H' (.ref p) r->0<r->Sz 10 r->Q (.ref p) H')
def aaC:aw Vl Vl (ae gk):=sq
def aaZ (D:Def K mg "_law_above" gk Vl)(Y:ad P w K mg gN 1 "_law_field" UY iA)(X:ad P w K mg gN 33 "_law_lowest" Vn cT):
  ad P w K mg gN 34 "_law_above" Vl (DV K):=by
 show D.op aaC λf M A S s H T Q E Z h=>?_;let(c,rfl,q):=h;show(_,(ak (aI (aK X Z (aJ (ay b9 ah (aK Y Z (b8 (pv 0) ah ah))) (ay b9 ah (aK Y Z (b8 (pv 0) ah ah))))))),?_);let N:=bD (c:=c) (p:=3001) (m:=999) eY;let R:=bD (c:=c) (p:=4001) (m:=7) eY;show(_,O,_,_,_,O,eY,eY,eY,_,_,O,O,_,O,_,_,_,O,eY,eY,eY,_,_,O,O,_,_,O,cr,λp U s e=>?_);rw [d9 cr] at e;show q p _ U s (jb e) ?_ (rE cr (intBits_le_iff.mpr (by change _<1024;omega)) (intBits_le_iff.mpr (by change _<1024;omega)));show(Ni (q:=(1+field c 3001 999,1+field c 4001 7)) (by change 0<1+field c 4001 7;omega)).mp (by change 0<1+field c 3001 999;omega)
theorem Pk:∀(as l:Μ),(∀y∈l,y=0)->sP as l=0
 | [],_,_=>ki _
 | a::as,[],_=>by simp [sP]
 | a::as,y::l,h=>by
  rw [f9,h y Mo,Pk as l λz hz=>h z (MV _ hz)];grind
theorem Pl:∀(as l:Μ),(∀y∈as,y=0)->sP as l=0
 | [],_,_=>ki _
 | a::as,[],_=>by simp [sP]
 | a::as,y::l,h=>by
  rw [f9,h a Mo,Pl as l λz hz=>h z (MV _ hz)];grind
def aep (ws:Β):Prop:=∀Z:List Rat,Z.length=ws.length->sP Z (ws.map (·.1))=0->sP Z (ws.map (·.2))=0->∀u∈Z,u=0
def aap (h:mi ws):aep ws:=λT Y U X u Z=>by
 rcases h with rfl|⟨x,y,rfl,S,_,_⟩|rfl
 ·rw [IK.mp Y] at Z
  cases Z
 ·let(a,rfl):=al_.mp Y
  let e:u=a:=by simpa using Z
  let M:a*x=0:=by
   have:=U;rw [M3,Wv,f9,ki] at this;grind
  let N:a*y=0:=by
   have:=X;rw [M3,Wv,f9,ki] at this;grind
  rw [e];by_cases c:x=0
  ·have:y≠0:=λz=>S #[c,z]
   grind
  ·grind
 ·match T,Y with
  | [a,b],_=>
   rw [M3,M3,Wv,f9,f9,ki] at U X;let Q:a=0:=by grind
   let R:b=0:=by grind
   rcases P4.mp Z with z|z
   ·rwa [z]
   ·rwa [MJ.mp z]
def uD (c:Rat×Rat->Rat)(x:Str)(q:ba):List Rat:=q.ws.map λw=>c (mv (yr q.nm w) x)
def afh (Y:c (0,0)=0)(h:x≠q.nm):∀y∈uD c x q,y=0:=λy Z=>by
 let(w,_,rfl):=GV.mp Z;rwa [Nd,iO h]
def afC :uD c q.nm q=q.ws.map c:=HS λw _=>by rw [Nd,jY rfl]
theorem ag9:∀{ps:υ},(ps.map (·.nm)).Nodup->(∀p∈ps,aep p.ws)->∀us:List Rat,us.length=aV ps->(∀p∈ps,sP us (ps.flatMap (uD (·.1) p.nm))=0/\sP us (ps.flatMap (uD (·.2) p.nm))=0)->∀u∈us,u=0
 | [],_,_,us,S,_=>λu Z=>by
  erw [IK.mp S] at Z
 | q::ps,X,N,us,S,h=>λu Z=>by
  rw [M3,UG] at X
  have H :us.length=q.ws.length+aV ps:=by
   rw [S];unfold aV;rw [U2,JG]
  let L:us=us.take q.ws.length++us.drop q.ws.length:=(OX _ _).symm;let lt:(us.take q.ws.length).length=q.ws.length:=by rw [Me];omega
  let M:∀(c:Rat×Rat->Rat)(x:Str),sP us ((q::ps).flatMap (uD c x))=sP (us.take q.ws.length) (uD c x q)+sP (us.drop q.ws.length) (ps.flatMap (uD c x)):=λc x=>by
   rw [U2]
   conv=>lhs;rw [L]
   show Nc _ _ (by rw [lt];unfold uD;rw [Wp])
  let Y:∀(c:Rat×Rat->Rat),c (0,0)=0->sP (us.drop q.ws.length) (ps.flatMap (uD c q.nm))=0:=λc I=>Pk _ _ λy U=>by
   let(r,J,U):=Zo.mp U;show afh I (λe=>X.1 (GV.mpr (r,J,e.symm))) y U
  let own:∀y∈us.take q.ws.length,y=0:=by
   let(Q,R):=h q Mo;rw [M,Y _ rfl,afC] at Q R;show N q Mo _ lt (by grind) (by grind)
  rw [L] at Z
  rcases MU.mp Z with z|z
  ·show own u z
  ·show ag9 X.2 (λp T=>N p (MV _ T)) (us.drop q.ws.length) (by rw [Ux];omega) (λp T=>?_) u z
   let(Q,R):=h p (MV _ T);rw [M,Pl _ _ own] at Q R;show#[by grind,by grind]
section
variable {AO:υ}{AP:Δ}{F F':ς}
def za1 (a b:ξ)(j:Nat):cZ (a++b) j=cZ a j++cZ b j:=by unfold cZ;rw [QC]
def aaq {k:Nat}{p:ba}(j:Nat)(c:Rat×Rat->Rat)(S:∀F,vl ((fS F AO).getD j (0,1))=c (mv F p.nm)):(cZ ((dQ AO AP).take (aV AO)) j).map vl=AO.flatMap (uD c p.nm):=by
 let Y:∀Z:List ba,((Z.flatMap λq=>rQ AO q).map λU=>vl (U.getD j (0,1)))=Z.flatMap (uD c p.nm):=λZ=>by
  induction Z with
  | nil=>rfl
  | cons q Z X=>
   rw [U2,U2,QC,X];congr 1;unfold rQ;rw [P2];show HS λw _=>S _
 let T:(AO.flatMap λq=>rQ AO q).length=aV AO:=by
  unfold aV
  have:∀Z:List ba,(Z.flatMap λq=>rQ AO q).length=(Z.flatMap λq=>q.ws).length:=λZ=>by
   induction Z with
   | nil=>rfl
   | cons q Z X=>
    rw [U2,U2,JG,JG,X];unfold rQ;rw [Wp]
  show this AO
 unfold dQ;rw [<-T,List.take_left];unfold cZ;rw [P2];show Y AO
theorem Pm :∀{ps:υ} (i:Nat),(∀p∈ps,(mv F' p.nm).1=(mv F p.nm).1*h/\(mv F' p.nm).2=(mv F p.nm).2*h)->vl ((fS F' ps).getD i (0,1))=vl ((fS F ps).getD i (0,1))*h
 | [],i,_=>by
  change vl (([]:List (Int×Int)).getD i (0,1))=vl (([]:List (Int×Int)).getD i (0,1))*h;rw [List.getD_nil]
  have:vl ((0,1):Int×Int)=0:=by
   change ((0:Int):Rat) / ((1:Int):Rat)=0;have:((0:Int):Rat)=0:=by rfl
   rw [this];grind
  rw [this];grind
 | p::ps,0,e=>by
  change vl (qr _)=vl (qr _)*h;rw [eh,eh,(e p Mo).1]
 | p::ps,1,e=>by
  change vl (qr _)=vl (qr _)*h;rw [eh,eh,(e p Mo).2]
 | p::ps,i+2,e=>by
  let Z:=Pm (ps:=ps) i λq Y=>e q (MV _ Y);unfold fS at Z ⊢;rwa [U2,U2]
def afB:((dQ AO AP).take (aV AO)).length=aV AO:=by
 let Z:(dQ AO AP).length=aV AO+AP.length:=mL AO AP;rw [Me];omega
def arq (i:Nat):cZ (allR AO AP F) i=cZ ((dQ AO AP).take (aV AO)) i++((fS F AO).getD i (0,1)::cZ ((dQ AO AP).drop (aV AO)) i):=by
 unfold allR;rw [za1,za1,ZO];rfl
def za0 (i:Nat):(cZ ((dQ AO AP).take (aV AO)) i).length=aV AO:=by unfold cZ;rw [Wp,afB]
def Nq (i j:Nat):(cZ (allR AO AP F) i).getD j (0,1)=if j<aV AO then (cZ ((dQ AO AP).take (aV AO)) i).getD j (0,1) else if j=aV AO then (fS F AO).getD i (0,1) else (cZ ((dQ AO AP).drop (aV AO)) i).getD (j-aV AO-1) (0,1):=by
 let l:=za0 (AO:=AO) (AP:=AP) i;rw [arq,JC,JC,JC];by_cases c:j<aV AO
 ·rw [jY c,MF cr]
 ·rw [iO c,Mg cr,l]
  by_cases e:j=aV AO
  ·rw [jY e,e,Zl]
   rfl
  ·rw [iO e,show j-aV AO=(j-aV AO-1)+1 by omega,List.getElem?_cons_succ,Nat.add_sub_cancel,JC]
def amI (e:∀p∈AO,(mv F' p.nm).1=(mv F p.nm).1*h/\(mv F' p.nm).2=(mv F p.nm).2*h)(U:z (aV AO)=z' (aV AO)*h)(X:∀j,j≠aV AO->z j=z' j)(hz:xi AO AP F z):xi AO AP F' z':=λT Y=>by
 unfold gX at Y;let(i,hi,rfl):=GV.mp Y;let k:=hz (cZ (allR AO AP F) i) (by unfold gX;show GV.mpr (i,hi,O));rw [<-k];show Px.dz _ _ _ λj _=>?_;rw [Nq,Nq];by_cases c:j<aV AO
 ·rw [jY c,jY c,X j cr]
 ·rw [iO c,iO c]
  by_cases Z:j=aV AO
  ·rw [jY Z,jY Z,Pm i e,Z,U]
   grind
  ·rw [iO Z,iO Z,X j Z]
def DY (hz:xi AO AP F z):xi AO AP F (λj=>c*z j):=λZ Y=>by
 let k:=hz Z Y;rw [Px.dz _ _ (λj=>c*(vl (Z.getD j (0,1))*z j)) (λj _=>by grind),Ty.sumTo_mul,k];grind
def akg (S:(AO.map (·.nm)).Nodup)(T:∀p∈AO,aep p.ws)(hz:xi AO AP F z)(Q:∀j,aV AO<=j->j<aV AO+1+AP.length->z j=0):∀j,j<aV AO->z j=0:=by
 let Y:∀(i:Nat)(c:Rat×Rat->Rat)(p:ba),i<2*AO.length->(∀F,vl ((fS F AO).getD i (0,1))=c (mv F p.nm))->sP ((LK (aV AO)).map z) (AO.flatMap (uD c p.nm))=0:=λi c p hi Z=>by
  let U:=hz (cZ (allR AO AP F) i) (by unfold gX;show GV.mpr (i,QF.mpr hi,O));rw [show aV AO+1+AP.length=aV AO+(1+AP.length) by omega,Px.mI,Px.dz (1+AP.length) _ (λ_=>0) (λj Z=>by rw [Q (aV AO+j) cr cr];grind),Ty.sumTo_zero _ _ (λ_=>O)] at U;let l:=za0 (AO:=AO) (AP:=AP) i;let e:=Ng ((LK (aV AO)).map z) (cZ ((dQ AO AP).take (aV AO)) i) (by rw [Wp,Zq,l]);rw [l] at e;rw [aaq (k:=0) (p:=p) i c Z] at e;rw [<-e,Px.dz _ _ (λj=>vl ((cZ (allR AO AP F) i).getD j (0,1))*z j) (λj Z=>?_)]
  ·grind
  ·rw [Nq,jY Z,JC (l:=(LK (aV AO)).map z),ir,Vi Z]
   rfl
 let all:=ag9 S T ((LK (aV AO)).map z) (by rw [Wp,Zq]) λp R=>by
  let(k,X):=LP R;let U:=(be.mp X).1;show#[Y (2*k) (·.1) p cr λF=>(DH F X).1,Y (2*k+1) (·.2) p cr λF=>(DH F X).2]
 show λj Z=>all _ (GV.mpr (j,QF.mpr Z,O))
variable {lo hi lo' LA :Nat->Rat}{w w' h:Rat}
def mm {a b c:Rat}(Z:0<c)(l:a<=b):c*a<=c*b:=IM l (Qm Z)
def Nf.ajN (Y:0<h)(m:Nf AO AP F lo hi w)(X:Nf AO AP F lo' LA w')(T:∀b,b<AP.length->lo' b=h*lo b/\LA b=h*hi b):h*w<=w':=by
 let(z,U,e,bz):=m.J_;rw [<-e];show X.most (λj=>h*z j) (DY U) λb Z=>?_;let(R,S):=T b Z;rw [R,S];show#[mm Y (bz b Z).1,mm Y (bz b Z).2]
def Nf.times (X:0<h)(m:Nf AO AP F lo hi w)(U:Nf AO AP F lo' LA w')(Y:∀b,b<AP.length->lo' b=lo b*h/\LA b=hi b*h):w'=w*h:=by
 let N:h*w<=w':=m.ajN X U λb Z=>#[by rw [(Y b Z).1];grind,by rw [(Y b Z).2];grind]
 let S:0<h⁻¹:=by
  apply Qi;intro n;let T:h⁻¹<=0:=by grind
  have:=IM T (Qm X);let e:h*h⁻¹=1:=yz h (by grind);grind
 let e:h*h⁻¹=1:=yz h (by grind);let R:h⁻¹*w' <=w:=U.ajN S m λb Z=>#[by rw [(Y b Z).1];grind,by rw [(Y b Z).2];grind];let Q:=mm X R;have:h*(h⁻¹*w')=w':=by grind
 grind
def GrE.Pn (X:GrE AO AP F)(m:Nf AO AP F lo hi w)(U:∀b,b<AP.length->lo b<=0/\0<=hi b):False:=by
 let(z,Y,e,bz):=X
 have:=m.most (λj=>(w+1)*z j) (DY Y) λb Z=>by
  rw [bz b Z];let(S,T):=U b Z;show#[by grind,by grind]
 rw [e] at this;grind
def GrE.load (S:0<h)(e:∀p∈AO,(mv F' p.nm).1=(mv F p.nm).1*h/\(mv F' p.nm).2=(mv F p.nm).2*h)(U:GrE AO AP F):GrE AO AP F':=by
 let(z,Y,T,bz):=U;show(λj=>if j=aV AO then 1 else h*z j,amI e (z:=λj=>h*z j) ?_ (λj Z=>?_) (DY Y),jY rfl,λb X=>?_)
 ·rw [jY rfl,T]
  grind
 ·rw [iO Z]
 ·change (if aV AO+1+b=aV AO then (1:Rat) else h*z (aV AO+1+b))=0
  rw [iO cr,bz b X];grind
def amH (X:0<h)(e:∀p∈AO,(mv F' p.nm).1=(mv F p.nm).1*h/\(mv F' p.nm).2=(mv F p.nm).2*h):0<h⁻¹/\∀p∈AO,(mv F p.nm).1=(mv F' p.nm).1*h⁻¹/\(mv F p.nm).2=(mv F' p.nm).2*h⁻¹:=by
 let U:h*h⁻¹=1:=yz h (by grind);show#[?_,λp Y=>?_]
 ·apply Qi
  intro n;let Z:h⁻¹<=0:=by grind
  have:=IM Z (Qm X);grind
 ·let(a,b):=e p Y
  rw [a,b];show#[by grind,by grind]
def Nf.WC (U:0<h)(e:∀p∈AO,(mv F' p.nm).1=(mv F p.nm).1*h/\(mv F' p.nm).2=(mv F p.nm).2*h)(m:Nf AO AP F lo hi w)(Y:Nf AO AP F' lo hi w'):w<=w'*h:=by
 let(z,X,S,bz):=m.J_;let Q:h*h⁻¹=1:=yz h (by grind)
 let k:=Y.most (λj=>if j=aV AO then w*h⁻¹ else z j) (amI e (z:=z) (by rw [jY rfl,S];grind) (λj Z=>by rw [iO Z]) X) λb T=>by
  rw [iO cr];show bz b T
 rw [jY rfl] at k;have:=mm U k;let R:h*(w*h⁻¹)=w:=by grind
 grind
def Nf.ajO (Z:0<h)(e:∀p∈AO,(mv F' p.nm).1=(mv F p.nm).1*h/\(mv F' p.nm).2=(mv F p.nm).2*h)(m:Nf AO AP F lo hi w)(Y:Nf AO AP F' lo hi w'):w=w'*h:=by
 let R:=m.WC Z e Y;let(X,T):=amH Z e;let U:=Y.WC X T m;let N:h*h⁻¹=1:=yz h (by grind);let S:=mm Z U;let Q:h*(w*h⁻¹)=w:=by grind
 grind
end
def nG (AO:υ)(L:Λ)(x:Str):Option (Rat×Rat):=if x∈AO.map (·.nm) then some (L x) else none
def DZ (h:x∈AO.map (·.nm)):mv (nG AO L) x=L x:=by
 unfold mv nG;rw [jY h];rfl
structure ars (K:Frag)(AO:υ)(AP:Δ)(F:ς)(lo hi:Nat->Rat)(H:Hp)(p:AZ)(uw v1 v2 v3:V)(w:Rat):Prop where
 tup:H p=some (.tup [.str "most",uw,v1,v2,v3])
 num:ie K H uw w
 sz:Ty.Sz 2000000 w
 gr:Nf AO AP F lo hi w
structure ajP (AO:υ)(AP:Δ)(F:ς)(H:Hp)(p:AZ)(v:V):Prop where
 tup:H p=some (.tup [.str "endless",v])
 gr:GrE AO AP F
def Po (K:Frag)(AO:υ)(AP:Δ)(F:ς)(lo hi:Nat->Rat)(H:Hp)(p:AZ):Prop:=(∃v,ajP AO AP F H p v)\/∃U X Y Z w,ars K AO AP F lo hi H p U X Y Z w
def Po.ks (h:Po K AO AP F lo hi H p)(t:jh H P0)(k:aX P0 H H'):Po K AO AP F lo hi H' p:=by
 let(R,S):=t.lj;let Z:∀{o},H p=some (.tup o)->H' p=some (.tup o):=λ{o} e=>k p _ (λz=>by erw [z,S] at e) e
 rcases h with ⟨v,h⟩|⟨T,U,X,Y,w,h⟩
 ·show .inl (v,Z h.tup,h.gr)
 ·show .inr (T,U,X,Y,w,Z h.tup,h.num.aY (qb t k),h.sz,h.gr)
def KH.ks (h:KH K H d AV xs f)(t:jh H P0)(k:aX P0 H H'):KH K H' d AV xs f:=by
 let(Y,Z):=t.lj;show#[k d _ (λz=>by rw [z] at h;erw [h.1] at Z) h.1,Paired.cF h.2 λ_ _ z=>#[z.1,z.2.aY (qb t k)]]
def D_ {AP:Δ}{Bd:Λ}(Z:b<AP.length):V' (AP.map λb=>Bd b.nm) b=(Bd AP[b].nm).1/\Wa (AP.map λb=>Bd b.nm) b=(Bd AP[b].nm).2:=by
 unfold V' Wa;rw [JC,ir,gE Z];show#[O,O]
def sJ {C X a u A:AZ}{Bd L:Λ}(R:zO K H C a AO AP)(gp:nF AO)(g:jr AO AP)(lp:AO.length<=3)(lb:AP.length<=5)
  (I:KH K H u kB (AP.map (·.nm)) Bd) (M:∀b∈AP,(Bd b.nm).1<=0/\0<=(Bd b.nm).2) (N:∀b∈AP,Sz 400 (Bd b.nm).1/\Sz 400 (Bd b.nm).2) (Y:KH K H A kL (AO.map (·.nm)) L) (J:∀p∈AO,Sz 400 (L p.nm).1/\Sz 400 (L p.nm).2) (tb:jh H X)
  (k:∀(p:AZ)(H':Hp),aX X H H' ->jh H' X->Po K AO AP (nG AO L) (V' (AP.map λb=>Bd b.nm)) (Wa (AP.map λb=>Bd b.nm)) H' p->Q (.ref p) H'):kj K C X [.ref a,.ref u,.ref A] H Q E:=by
 let T:∀b∈AP,b.nm∈AP.map (·.nm):=λb Z=>GV.mpr (b,Z,O);show(a,u,A,AO,AP,kB,kL,Bd,nG AO L,O,R,g,lp,lb,I.1,I.key,λb Z=>?_,N,Y.1,λx=>?_,Y.key,λx=>?_,λz hz h0=>akg g.np (λp S=>aap (gp.ws p S)) hz h0,tb,λp v H' U q e D=>k p H' U q (.inl (v,e,D)),λp f i j m w H' U q e nw o D=>k p H' U q (.inr (f,i,j,m,w,e,nw,o,D)))
 ·let(v,e,h):=I.val g.nb (T b Z)
  show(v,e,h,M b Z)
 ·by_cases c:x∈AO.map (·.nm)
  ·let(v,e,h):=Y.val g.np c
   show .inr (v,L x,e,jY c,h)
  ·show .inl #[c_ (λz=>c ?_),iO c]
   rw [qi Y.2] at z;let(y,hy,e):=GV.mp z;let e:y=x:=by injection e
   rwa [<-e]
 ·by_cases c:x∈AO.map (·.nm)
  ·rw [DZ c]
   let(p,S,rfl):=GV.mp c;show J p S
  ·let e:mv (nG AO L) x=(0,0):=by
    unfold mv nG;rw [iO c];rfl
   rw [e];show#[gK eY,gK eY]
def jd:aw ["_law_script","_law_pins","_law_bars_here","_law_frame_here","_law_bounds_here","_law_load","_law_wider","_law_heavier","_law_plain","_law_wide","_law_heavy"] Zw (ae pF):=sq
def aeq (F:nO K "law" "law" pF f fd)
  (oG:ad P w K mg gN 1 "_law_cell_at" α0 (oC K)) (xw:ad P w K mg gN 35 "_law_few_pins" Zw (DQ K)) (art:ad P w K mg gN 3 "_law_bars" KJ (DR K)) (aru:ad P w K mg gN 4 "_law_frame" IQ (xo K C)) (D':ad P w K mg gN 34 "_law_bounds" IT (sE K))
  (arv:ad P w K mg gN 34 "_law_borne" JA (xu K)) (ud:ad P w K mg gN 34 "_law_above" Vl (DV K)) (kF:ad P w K mg gN 35 "_law_all_times" JX (Np K)) (jK:ad P w K mg gN 39 "greatest_of" JL (kj K C P0)) (yE:ad P w K mg gN 1 "_law_times" Qj (dA K k_)) (ajQ:ad P w K mg gN 1 "_law_alike" Qj (DT K)):
  am P w K mg gN 42 f fd Zw (Ml K P0):=by
 show F.okG jd (λvs H Q E h=>?_) (λcu A gV s H vs Q E X h=>?_)
 ·let(a,ns,rfl,_):=h
  rfl
 let(sA,ns,rfl,hS,hn,N,hT,q):=h;let tb0:jh H P0:=.inl hT
 show(_,(aa (aC 1 jd.nd (aK xw X (aR (pv 0)))) (aa (aC 2 jd.nd (aK art X (aJ (pv 0) (pv 1)))) (aa (aC 3 jd.nd (aK aru X (aJ (pv 1) (pv 2)))) (aa (aC 4 jd.nd (aK D' X (aJ (pv 0) (pv 2)))) (aa (aC 5 jd.nd (aK arv X (Lz (pv 0) (b8 (pv 1) (pv 2) (pv 4))))) (aa (aC 6 jd.nd (aK ud X (aR (aK oG X (aJ (pv 0) ah))))) (aa (aC 7 jd.nd (aK ud X (aR (aK oG X (aJ (pv 0) ah))))) (aa (aC 8 jd.nd (aK jK X (b8 (pv 3) (pv 4) (pv 5)))) (aa (aC 9 jd.nd (aK jK X (b8 (pv 3) (aK kF X (aJ (pv 4) (pv 6))) (pv 5)))) (aa (aC 10 jd.nd (aK jK X (b8 (pv 3) (pv 4) (aK kF X (aJ (pv 5) (pv 7)))))) (aa (bR (bU fO (aH (pv 8)) eZ) (ak (aI (Ua (ji fO (aH (pv 9)) eZ (j5 _)) (LI (ji fO (aH (pv 10)) eZ (j5 _)))))) bf) (aa (bR (PW.pt (GY (bU vG (aH (pv 8)) eZ) (GY (bU vG (aH (pv 9)) eZ) (AN (bU vG (aH (pv 10)) eZ))))) (ak (aI aa2)) bf) (aa (bR (T_ (vD (aK ajQ X (aJ (aH (pv 9)) (aK yE X (aJ (aH (pv 8)) (pv 6))))))) (ak (aI aa2)) bf) (ak (aI (aK ajQ X (aJ (aH (pv 8)) (aK yE X (aJ (aH (pv 10)) (pv 7)))))))))))))))))))),?_);sleep 13
 show(_,O,sA,ns,O,hS,λpA us U H1 s1 nA eA pp gp lp=>?_);let lu:us.length=U.length:=Mx pp;show(_,O,_,O,sA,pA,ns,us,U,O,s1.seq hS,eA,lu,gp.np,cr,λbA ix Z H2 s2 nB eB pb gb lb=>?_);let pp2:Paired (so K H2) us U:=Paired.cF pp λ_ _ z=>z.gO s2;show(_,O,_,O,pA,bA,us,ix,U,Z,O,s2 _ _ eA,pp2,eB,pb,gp,gb,cr,cr,λfA H3 s3 R=>?_);let O3:=s1.trans (s2.trans s3);let g:=ajs gp gb cr cr;let pb3:Paired (sy K H3 U) ix Z:=Paired.cF pb λ_ _ z=>z.gO s3;show(_,O,_,O,sA,bA,ns,ix,U,Z,O,O3.seq hS,s3 _ _ eB,pb3,gb.nb,lb,λdB kB B H4 s4 _ hB D=>?_);let vw:=O3.trans s4;let fr4:LFr K H4 pA bA us ix U Z:=(s4 _ _ (s3 _ _ (s2 _ _ eA)),Paired.cF pp2 λ_ _ z=>z.gO (s3.trans s4),gp,s4 _ _ (s3 _ _ eB),Paired.cF pb3 λ_ _ z=>z.gO s4,λb N=>(gb.ends b N).2.2,cr,cr);show(_,O,_,O,_,O,_,O,sA,pA,bA,dB,ns,us,ix,U,Z,kB,B,O,vw.seq hS,fr4,g,lb,hB,λx=>#[(D x).2.2.1,(D x).2.2.2],λdL kL L H5 s5 hL zL=>?_);let s05:=vw.trans s5;show(_,O,sA,ns,2,O,s05.seq hS,eY,eY,_,O,λwA Y H6 s6 nW j zW=>?_);let s06:=s05.trans s6;show(_,O,sA,ns,34,O,s06.seq hS,eY,eY,_,O,λhA y H7 s7 nV hv0 zV=>?_);let i:=s6.trans s7;let R7:=R.gO (s4.trans (s5.trans i));let hB7:=hB.gO (s5.trans i);let hL7:=hL.gO i;let J:=jh.gO tb0 (s06.trans s7);let nW7:=nW.gO s7;let bz:∀b∈Z,(B b.nm).1<=0/\0<=(B b.nm).2:=λb _=>#[(D b.nm).1,(D b.nm).2.1];let bs:∀b∈Z,Sz 400 (B b.nm).1/\Sz 400 (B b.nm).2:=λb _=>#[(D b.nm).2.2.1.up eY,(D b.nm).2.2.2.up eY];let ls:∀p∈U,Sz 400 (L p.nm).1/\Sz 400 (L p.nm).2:=λp I=>#[(zL p I).1.up eY,(zL p I).2.up eY];show(_,O,_,O,_,O,?_);dsimp only [iN];change kj K C P0 [_,_,_] _ _ E0;show sJ R7 gp g lp lb hB7 bz bs hL7 ls J λp8 H8 k8 Tj g8=>?_;let t8:=qb J k8;let R8:=Nh R7 J k8;let hB8:=hB7.ks J k8;let hL8:=hL7.ks J k8;show(_,O,_,O,_,O,dB,_,kB,Z.map (·.nm),B,Y,9,O,hB8,g.nb,by rw [Wp];omega,nW7.aY t8,zW,λx hx=>#[(D x).2.2.1,(D x).2.2.2],eY,λdW kW H9 s9 _ hW9=>?_);let s79:=tY k8 s9;let tb9:=jh.gO Tj s9;let ajS:∀{r:Rat},Sz (9+10) r->Sz 400 r:=λz=>z.up eY
 let bzW:∀b∈Z,(B b.nm).1*Y<=0/\0<=(B b.nm).2*Y:=λb N=>by
  let(h1,h2):=bz b N;let k1:=afz h1 (Qm j);let k2:=afz h2 (Qm j);show#[by grind,by grind]
 let bsW:∀b∈Z,Sz 400 ((B b.nm).1*Y)/\Sz 400 ((B b.nm).2*Y):=λb _=>#[ajS ((D b.nm).2.2.1.mul zW),ajS ((D b.nm).2.2.2.mul zW)];show(_,O,?_);dsimp only [iN];change kj K C P0 [_,_,_] _ _ E0;show sJ (R8.gO s9) gp g lp lb hW9 bzW bsW (hL8.gO s9) ls tb9 λVG Oa k10 M6 u=>?_;let RP:aX P0 H8 Oa:=λb o n e=>k10 b o n (s9 _ _ e);let R10:=Nh R8 Tj RP;let ajT:=hB8.ks Tj RP;let ajU:=hL8.ks Tj RP;let arC:=(nW7.aY t8).aY (qb Tj RP);let ajV:=(nV.aY t8).aY (qb Tj RP);show(_,O,_,O,_,O,_,O,dL,_,kL,U.map (·.nm),L,y,390,O,ajU,g.np,by rw [Wp];omega,ajV,zV,λx hx=>?_,eY,λdH kH S5 vn _ ajW=>?_)
 ·let(p,I,rfl):=GV.mp hx
  show zL p I
 let ad0:=jh.gO M6 vn;let lsH:∀p∈U,Sz 400 ((L p.nm).1*y)/\Sz 400 ((L p.nm).2*y):=λp I=>#[(zL p I).1.mul zV,(zL p I).2.mul zV];dsimp only [iN];change kj K C P0 [_,_,_] _ _ E0;show sJ (R10.gO vn) gp g lp lb (ajT.gO vn) bz bs ajW lsH ad0 λp12 OU k12 aKD g12=>?_;let Pp:aX P0 Oa OU:=λb o n e=>k12 b o n (vn _ _ e);let arD:aX P0 H8 OU:=λb o n e=>Pp b o n (RP b o n e);let g8:=g8.ks Tj arD;let u:=u.ks M6 Pp;let nW:=arC.aY (qb M6 Pp);let nV:=ajV.aY (qb M6 Pp);clear ajT ajU ajW R10 hB8 hL8 R8 hW9 R7 hB7 hL7
 let b0:∀b,b<Z.length->V' (Z.map λb=>B b.nm) b<=0/\0<=Wa (Z.map λb=>B b.nm) b:=λb N=>by
  let(e1,e2):=D_ (Bd:=B) N;rw [e1,e2];show bz _ (QJ N)
 let eb:∀b,b<Z.length->V' (Z.map λb=>((λx=>((B x).1*Y,(B x).2*Y)):Str->Rat×Rat) b.nm) b=V' (Z.map λb=>B b.nm) b*Y/\Wa (Z.map λb=>((λx=>((B x).1*Y,(B x).2*Y)):Str->Rat×Rat) b.nm) b=Wa (Z.map λb=>B b.nm) b*Y:=λb N=>by
  let(e1,e2):=D_ (Bd:=B) N;let(e3,e4):=D_ (Bd:=λx=>((B x).1*Y,(B x).2*Y)) N;rw [e1,e2,e3,e4];show#[O,O]
 let bW:∀b,b<Z.length->V' (Z.map λb=>((λx=>((B x).1*Y,(B x).2*Y)):Str->Rat×Rat) b.nm) b<=0/\0<=Wa (Z.map λb=>((λx=>((B x).1*Y,(B x).2*Y)):Str->Rat×Rat) b.nm) b:=λb N=>by
  let(e3,e4):=D_ (Bd:=λx=>((B x).1*Y,(B x).2*Y)) N;rw [e3,e4];show bzW _ (QJ N)
 let el:∀p∈U,(mv (nG U λx=>((L x).1*y,(L x).2*y)) p.nm).1=(mv (nG U L) p.nm).1*y/\(mv (nG U λx=>((L x).1*y,(L x).2*y)) p.nm).2=(mv (nG U L) p.nm).2*y:=λp I=>by
  let m:p.nm∈U.map (·.nm):=GV.mpr (p,I,O);rw [DZ m,DZ m];show#[O,O]
 rcases g8 with ⟨v8,e8⟩|⟨u8,x8,y8,z8,w8,M⟩
 ·rcases u with ⟨v10,OS⟩|⟨u10,x10,y10,z10,w10,S⟩
  ·rcases g12 with ⟨v12,e12⟩|⟨u12,x12,y12,z12,w12,T⟩
   ·show(_,O,p8,_,_,_,O,O,bQ.of e8.tup,O,O,_,O,bP (λ_=>?_) (λc=>DB (by decide+kernel) c))
    show(_,O,VG,_,_,_,O,O,bQ.of OS.tup,O,O,true,ox V.bl (P9 rfl),Zc ?_);show(_,O,p12,_,_,_,O,O,bQ.of e12.tup,O,O,?_);change Q (.bl (decide (V.str "endless"=V.str "endless"))) OU;rw [P9 rfl];show q _
   ·show((e8.gr.load hv0 el).Pn T.gr b0).elim
  ·show(e8.gr.Pn S.gr bW).elim
 ·rcases u with ⟨v10,OS⟩|⟨u10,x10,y10,z10,w10,S⟩
  ·show(OS.gr.Pn M.gr b0).elim
  ·rcases g12 with ⟨v12,e12⟩|⟨u12,x12,y12,z12,w12,T⟩
   ·let(I,el'):=amH hv0 el
    show((e12.gr.load I el').Pn M.gr b0).elim
   ·let q1:=M.gr.times j S.gr eb
    let q2:=M.gr.ajO hv0 el T.gr;show(_,O,p8,_,_,_,O,O,bQ.of M.tup,O,O,_,O,bP (λc=>DB c (by decide+kernel)) (λ_=>?_));dsimp only [Ub];show(_,O,p8,_,_,_,O,O,bQ.of M.tup,O,O,_,O,bP (λc=>DB c (by decide+kernel)) (λ_=>?_));show(_,O,VG,_,_,_,O,O,bQ.of S.tup,O,O,_,O,bP (λc=>DB c (by decide+kernel)) (λ_=>?_));show(_,O,p12,_,_,_,O,O,bQ.of T.tup,O,O,_,O,bP (λc=>DB c (by decide+kernel)) (λ_=>?_));show(_,O,VG,_,_,_,O,O,bQ.of S.tup,O,_,O,p8,_,_,_,O,O,bQ.of M.tup,O,_,O,?_);dsimp only [iN];change dA K k_ [_,_] _ _ E0;show km (gL M.num (jt M.sz (DX _))) (gL nW (jt zW (DX _))) eY λp13 H13 yk n13=>?_;show(u10,.ref p13,2000000,2000000+10,w10,O,gL (S.num.gO yk) (jt S.sz (DX _)),by rwa [q1],eY,_,O,bP (λc=>nomatch c) (λ_=>?_));dsimp only [Ub];show(_,O,p8,_,_,_,O,O,bQ.of (yk _ _ M.tup),O,_,O,p12,_,_,_,O,O,bQ.of (yk _ _ T.tup),O,_,O,?_);dsimp only [iN];change dA K k_ [_,_] _ _ E0;show km (gL (T.num.gO yk) (jt T.sz (DX _))) (gL (nV.gO yk) (jt zV (DX _))) eY λp14 H14 s14 n14=>?_;show(u8,.ref p14,2000000,2000000+10,w8,O,gL (M.num.gO (yk.trans s14)) (jt M.sz (DX _)),by rwa [q2],eY,q _)
end
def all_mk {l:PySem.W.OpenLaw}{w:World}{K:Frag}{h:Heap}{mg:ι}{fa:AZ}{P0:AZ}(X:K.In h)(G:h.Ns LO mg)(hfa:mg "law"=some (.ref fa))
  (arE:mq K "difference_of" Mq) (RQ:mq K "is_less" iR) (arI:mq K "lowest_terms" JP) (arM:mq K "greatest_shared" QM) (arQ:mq K "arm_between" QN) (arU:mq K "pair_difference" Mr) (arY:mq K "pair_row" QO) (ar2:mq K "load_row" QP) (EA:mq K "check_bars" fq) (ar6:mq K "bar_row" QQ) (ar':mq K "draw_rows" QR) (ase:mq K "pulls_and_pushes" QS) (asj:mq K "motion_from" QT) (aso:mq K "signs_turned" QU) (EE:mq K "mixed_rows" ft) (ass:mq K "solve_rows" QV) (uE:mq K "spare_columns" df) (EI:mq K "spare_list" fu) (asx:mq K "turned" QW) (asB:mq K "whole_row" QX) (uI:mq K "whole_product" dh) (asF:mq K "solution_of" QY) (asJ:mq K "reduced" QZ) (asN:mq K "first_not_nought" Q0) (asR:mq K "cleared" Q3) (asV:mq K "divided" Q4) (Sl:mq K "most_of" iS) (xx:mq K "fitting_list" dJ) (EM:mq K "price_list" fw) (xC:mq K "endless_list" cD) (yJ:mq K "greatest_of" eI) (ES:mq K "all_bounds" fB) (EW:mq K "has_nought" fC) (FA:mq K "most_borne" fD) (KU:mq K "both_ways" gj) (yQ:mq K "differences" eJ) (asZ:mq K "_law_cell_at" Q6) (as3:mq K "_law_field" Q7) (as7:mq K "_law_lowest" Q8) (ata:mq K "_law_sum" Q9) (ate:mq K "_law_times" Q_) (ati:mq K "_law_turned" Ra) (atm:mq K "_law_name" Ms) (atq:mq K "_law_spot" Rb) (atv:mq K "_law_ways" Rc) (xI:mq K "_law_few_pins" dN) (atz:mq K "_law_bars" Rf) (atE:mq K "_law_frame" Rg) (atJ:mq K "_law_arm" Rh) (atO:mq K "_law_add" Ri) (atU:mq K "_law_forces" Rj) (FG:mq K "_law_bounds" fE) (at3:mq K "_law_borne" Rk) (sO:mq K "_law_pair_times" cV) (uP:mq K "_law_all_times" dj) (K_:mq K "_law_above" gk) (at7:mq K "_law_alike" Rl) (ak8:nsIn K LO "law"=some (some (.ref abQ))) (ak9:K.lookup abQ=some (aub,auc,.func (fnOf "law" "law" (aq pF) (ao pF) (ae pF) .none aeJ aeK aeL aeM WV aeN),aud)) (ak':codeIn K WV "law"=true) (ala:keepIn K (.ref abQ)=true) (aue:nsIn K LO "MOST_PINS"=some (some (.int 24 aD5))) (auf:nsIn K LO "MOST_BARS"=some (some (.int 60 aD6))) (auh:nsIn K LO "NOUGHT"=some (some (.ref aeO))) (aui:K.lookup aeO=some (.type "tuple",aD7,.seq (List.toArray [.int 0 auj,.int 1 auk]) aD8,aD9)) (aul:nsIn K LO "ONE"=some (some (.ref aeP))) (aum:K.lookup aeP=some (.type "tuple",aD',.seq (List.toArray [.int 1 aun,.int 1 auo]) aEa,aEb)) (aup:nsIn K LO "NO_MOVE"=some (some (.ref aeQ))) (auq:K.lookup aeQ=some (.type "tuple",aEc,.seq (List.toArray [.ref alb,.ref alc]) aEd,aEe)) (aur:K.lookup alb=some (.type "tuple",aEf,.seq (List.toArray [.int 0 aus,.int 1 aut]) aEg,aEh)) (auu:K.lookup alc=some (.type "tuple",aEi,.seq (List.toArray [.int 0 auv,.int 1 auw]) aEj,aEk)) (FL:nsIn K LO "ValueError"=some none) (ald:nsIn K LO "abs"=some none) (ale:nsIn K LO "any"=some none) (aeR:nsIn K LO "dict"=some none) (Lv:nsIn K LO "enumerate"=some none) (alf:nsIn K LO "len"=some none) (aeS:nsIn K LO "list"=some none) (alg:nsIn K LO "min"=some none) (aaH:nsIn K LO "range"=some none) (WW:nsIn K LO "sorted"=some none) (alh:nsIn K LO "str"=some none) (ali:nsIn K LO "sum"=some none) (alj:nsIn K LO "zip"=some none) (auy:nsIn K LO "YardError"=some (some (.ref auz))) (auA:nsIn K LO "NoWay"=some (some (.ref auB))) (auC:nsIn K LO "PinThere"=some (some (.ref auD))) (auE:nsIn K LO "SpotTaken"=some (some (.ref auF))) (auG:nsIn K LO "NoPin"=some (some (.ref auH))) (auI:nsIn K LO "BarThere"=some (some (.ref auJ))) (auK:nsIn K LO "NoBar"=some (some (.ref auL))) (auM:nsIn K LO "NoLength"=some (some (.ref auN))) (auO:nsIn K LO "TooMany"=some (some (.ref auP))) (SD:nsIn K LO "NoBound"=some (some (.ref SE))) (aaI:nsIn K LO "Table"=some (some (.ref bu))) (auQ:nsIn K LO "Frame"=some (some (.ref cE))) (auR:nsIn K LO "Hold"=some (some (.ref uT))) (auS:nsIn K LO "Roller"=some (some (.ref mV))) (auT:nsIn K LO "Fixed"=some (some (.ref sV))) (alk:σ4 K cE Str.empty=true) (alm:ZD K cE=true) (aln:ZY K cE=true) (alo:P5 K (.ref cE) "__setattr__"=some (some (.builtin "object.__setattr__"))) (alp:Wg K cE=true) (alq:keepIn K (.ref cE)=true) (M:qz K cE "__init__" "Frame.__init__" Rm) (auW:P5 K (.ref cE) "put_pin"=some (some (.ref aaJ))) (auX:Zy K (.ref aaJ)=true) (auY:K.lookup aaJ=some (aEu,aEv,.func (fnOf "put_pin" "Frame.put_pin" (aq um) (ao um) (ae um) (.ref WY) abR abS abT abU WZ abV),aEw)) (alw:K.lookup WY=some (aEx,auZ,.seq (List.toArray [.none]) aEy,au0)) (au1:codeIn K WZ "Frame.put_pin"=true) (alx:keepIn K (.ref aaJ)=true) (i:qz K cE "put_bar" "Frame.put_bar" Rn) (j:qz K cE "check_bar" "Frame.check_bar" Ro) (g:qz K cE "check_pin" "Frame.check_pin" Rp) (p:qz K cE "pins" "Frame.pins" Rq) (q:qz K cE "bars" "Frame.bars" Rr) (u:qz K cE "place" "Frame.place" Rt) (x:qz K cE "ways" "Frame.ways" Ru) (y:qz K cE "ends" "Frame.ends" Rv) (alO:σ4 K uT Str.empty=true) (alP:ZD K uT=true) (alQ:ZY K uT=true) (alR:P5 K (.ref uT) "__setattr__"=some (some (.builtin "object.__setattr__"))) (alS:Wg K uT=true) (alT:keepIn K (.ref uT)=true) (alU:P5 K (.ref uT) "__init__"=some (some (.builtin "object.__init__"))) (z:qz K uT "ways" "Hold.ways" ZS) (alX:σ4 K mV Str.empty=true) (alY:ZD K mV=true) (alZ:ZY K mV=true) (al0:P5 K (.ref mV) "__setattr__"=some (some (.builtin "object.__setattr__"))) (al1:Wg K mV=true) (al2:keepIn K (.ref mV)=true) (L:qz K mV "__init__" "Roller.__init__" Rw) (k:qz K mV "ways" "Roller.ways" Rx) (al9:σ4 K sV Str.empty=true) (al':ZD K sV=true) (ama:ZY K sV=true) (amb:P5 K (.ref sV) "__setattr__"=some (some (.builtin "object.__setattr__"))) (amc:Wg K sV=true) (amd:keepIn K (.ref sV)=true) (ame:P5 K (.ref sV) "__init__"=some (some (.builtin "object.__init__"))) (m:qz K sV "ways" "Fixed.ways" Ry) (W7:σ4 K bu Str.empty=true) (W8:ZD K bu=true) (W9:ZY K bu=true) (W_:P5 K (.ref bu) "__setattr__"=some (some (.builtin "object.__setattr__"))) (Xa:Wg K bu=true) (Xb:keepIn K (.ref bu)=true) (qE:qz K bu "__init__" "Table.__init__" fF) (qH:P5 K (.ref bu) "next_swap"=some (some (.ref eV))) (qI:Zy K (.ref eV)=true) (jw:K.lookup eV=some (Nu,Nv,.func (fnOf "next_swap" "Table.next_swap" (aq bH) (ao bH) (ae bH) .none Nw Ny Nz NA (.ref cA) NF),NG)) (jx:codeIn K (.ref cA) "Table.next_swap"=true) (jy:keepIn K (.ref eV)=true) (uU:qz K bu "growing" "Table.growing" dk) (xN:qz K bu "growth" "Table.growth" dO) (sZ:qz K bu "line_out" "Table.line_out" cW) (qK:qz K bu "is_sooner" "Table.is_sooner" cG) (FP:qz K bu "swap" "Table.swap" fG) (uZ:qz K bu "swapped" "Table.swapped" dm) (hC:ot K cA P0=true) (hKT:K.lookup P0=none) (Xc:P5 K (.ref cE) "pin_places"=some none) (aeT:P5 K (.ref cE) "pin_ways"=some none) (aeU:P5 K (.ref cE) "bar_ends"=some none) (abW:P5 K (.ref mV) "way"=some none) (ht:l.prog.given.tree=none) (aaV:P5 K (.ref bu) "lines"=some none) (Xd:P5 K (.ref bu) "bottom"=some none) (Xe:P5 K (.ref bu) "across"=some none) (aeV:P5 K (.ref bu) "down"=some none):
  ∃(cA':AZ)(fd:FuncData),ot K cA' P0=true/\K.lookup P0=none/\(∀(s:G_)(v:Value),BindsTo s fd #[[v],[]] [("_law_script",v)])/\∀gN:Heap,K.In gN->gN.Ns LO mg->BMain mg gN->cO l.prog w K mg gN (aU l.prog w) 42 fa fd ["_law_script"] (Ml K P0):=by
 let e:=hfa.symm.trans (mg_of X G ak8);cases e;let(M,als,auU,auV,alv):=M;let(i,au3,au4,au5,alz):=i;let(j,au7,au8,au9,alB):=j;let(g,ava,avb,avc,alD):=g;let(p,ave,avf,avg,alF):=p;let(q,avi,avj,avk,alH):=q;let(u,avm,avn,avo,alJ):=u;let(x,avq,avr,avs,alL):=x;let(y,avu,avv,avw,alN):=y;let(z,avy,avz,avA,alW):=z;let(L,al4,avB,avC,al6):=L;let(k,avE,avF,avG,al8):=k;let(m,avI,avJ,avK,amg):=m;let(qE,qF,FN,FO,qG):=qE;let(uU,uV,uW,uX,kK):=uU;let(xN,xO,xP,xQ,my):=xN;let(sZ,s_,tf,tj,jZ):=sZ;let(qK,qL,qM,qN,jz):=qK;let(FP,FQ,FR,FT,qO):=FP;let(uZ,u0,u3,u4,kN):=uZ;let avL:Def K mg _ _ ["one","other"]:=gQ X G arE;let SY:Def K mg _ _ ["one","other"]:=gQ X G RQ;let avM:Def K mg _ _ ["top","bottom"]:=gQ X G arI;let avN:Def K mg _ _ ["one","other"]:=gQ X G arM;let avO:Def K mg _ _ ["F","one","other"]:=gQ X G arQ;let avP:Def K mg _ _ ["one","other"]:=gQ X G arU;let avQ:Def K mg _ _ ["F","draws"]:=gQ X G arY;let avR:Def K mg _ _ ["F","load"]:=gQ X G ar2;let FU:Def K mg _ _ ["F","told"]:=gQ X G EA;let avS:Def K mg _ _ ["F","one","other"]:=gQ X G ar6;let avT:Def K mg _ _ ["F"]:=gQ X G ar';let avU:Def K mg _ _ ["F","numbers"]:=gQ X G ase;let avV:Def K mg _ _ ["F","numbers"]:=gQ X G asj;let avW:Def K mg _ _ ["numbers"]:=gQ X G aso;let FV:Def K mg _ _ ["shares","rows","many"]:=gQ X G EE;let avX:Def K mg _ _ ["rows","due","many"]:=gQ X G ass;let u5:Def K mg _ _ ["rows","many"]:=gQ X G uE;let FW:Def K mg _ _ ["needed","column","many"]:=gQ X G EI;let amh:Def K mg _ _ ["rows","many"]:=gQ X G asx;let avY:Def K mg _ _ ["row"]:=gQ X G asB;let u6:Def K mg _ _ ["one","other"]:=gQ X G uI;let avZ:Def K mg _ _ ["lines","many"]:=gQ X G asF;let av0:Def K mg _ _ ["lines","many"]:=gQ X G asJ;let av1:Def K mg _ _ ["lines","column"]:=gQ X G asN;let av2:Def K mg _ _ ["line","lead","column"]:=gQ X G asR;let av3:Def K mg _ _ ["line"]:=gQ X G asV;let S0:Def K mg _ _ ["gains","rows","limits"]:=gQ X G Sl;let xR:Def K mg _ _ ["table"]:=gQ X G xx;let FX:Def K mg _ _ ["table","wholes","bottom"]:=gQ X G EM;let xS:Def K mg _ _ ["table","column","bottom"]:=gQ X G xC;let yX:Def K mg _ _ ["F","bounds","load"]:=gQ X G yJ;let FY:Def K mg _ _ ["F","bounds"]:=gQ X G ES;let FZ:Def K mg _ _ ["two"]:=gQ X G EW;let F_:Def K mg _ _ ["states","ways","lows_and_highs"]:=gQ X G FA;let Lw:Def K mg _ _ ["numbers"]:=gQ X G KU;let yY:Def K mg _ _ ["ones","others"]:=gQ X G yQ;let av4:Def K mg _ _ ["_law_script","_law_k"]:=gQ X G asZ;let av5:Def K mg _ _ ["_law_cell","_law_prime","_law_many"]:=gQ X G as3;let av6:Def K mg _ _ ["_law_top","_law_bottom"]:=gQ X G as7;let av7:Def K mg _ _ ["_law_one","_law_other"]:=gQ X G ata;let av8:Def K mg _ _ ["_law_one","_law_other"]:=gQ X G ate;let av9:Def K mg _ _ ["_law_one"]:=gQ X G ati;let av':Def K mg _ _ ["_law_cell","_law_k"]:=gQ X G atm;let awa:Def K mg _ _ ["_law_cell","_law_kind"]:=gQ X G atq;let awb:Def K mg _ _ ["_law_cell"]:=gQ X G atv;let xT:Def K mg _ _ ["_law_script"]:=gQ X G xI;let awd:Def K mg _ _ ["_law_script","_law_pins"]:=gQ X G atz;let awe:Def K mg _ _ ["_law_pins","_law_bars_here"]:=gQ X G atE;let awf:Def K mg _ _ ["_law_pins","_law_bar","_law_axis"]:=gQ X G atJ;let awg:Def K mg _ _ ["_law_found","_law_k","_law_axis","_law_draw"]:=gQ X G atO;let awh:Def K mg _ _ ["_law_pins","_law_bars_here","_law_pulls","_law_pushes"]:=gQ X G atU;let GB:Def K mg _ _ ["_law_script","_law_bars_here"]:=gQ X G FG;let awi:Def K mg _ _ ["_law_script","_law_pins","_law_bars_here","_law_bounds_here"]:=gQ X G at3;let tu:Def K mg _ _ ["_law_pair","_law_by"]:=gQ X G sO;let u9:Def K mg _ _ ["_law_pairs","_law_by"]:=gQ X G uP;let Lx:Def K mg _ _ ["_law_cell"]:=gQ X G K_;let awk:Def K mg _ _ ["_law_one","_law_other"]:=gQ X G at7;let R:y_ K cE:=(alk,alm,aln,alo);let aed:Mk K cE _:=(alp,M,als,alq);let ami:=cQ (st:=Rm) auU auV alv;let aef:=ami.yn (ps:=["self"]);let aKP:Meth K cE "__init__" _:=(M,als,alv);let awl:=ae2 (st:=um) auY au1 alx;let awm:Binds K (fnOf "put_pin" "Frame.put_pin" (aq um) (ao um) (ae um) (.ref WY) abR abS abT abU WZ abV) ["self","name","x","y","hold"] []:=λs A X hl=>by let(a,b,c,d,e,rfl):=bl5 (P:=λA=>∃a b c d e,A=[a,b,c,d,e]) (λa b c d e=>(a,b,c,d,e,O)) A (by simpa using hl);show BindsTo.of_defaults rfl (X _ _ alw) rfl rfl rfl
 let amj:Binds K (fnOf "put_pin" "Frame.put_pin" (aq um) (ao um) (ae um) (.ref WY) abR abS abT abU WZ abV) ["self","name","x","y","hold"] [.none]:=λs A X hl=>by let(a,b,c,d,rfl):=bl4 (P:=λA=>∃a b c d,A=[a,b,c,d]) (λa b c d=>(a,b,c,d,O)) A (by simpa using hl);show BindsTo.of_defaults rfl (X _ _ alw) rfl rfl rfl
 let amk:Meth K cE "put_pin" aaJ:=(auW,auX,alx);let aml:=cQ (st:=Rn) au4 au5 alz;let awn:=aml.yn (ps:=["self","name","one","other"]);let awo:Meth K cE "put_bar" _:=(i,au3,alz);let amm:=cQ (st:=Ro) au8 au9 alB;let awp:=amm.yn (ps:=["self","name","one","other"]);let awq:Meth K cE "check_bar" _:=(j,au7,alB);let amn:=cQ (st:=Rp) avb avc alD;let awr:=amn.yn (ps:=["self","pin"]);let aws:Meth K cE "check_pin" _:=(g,ava,alD);let amo:=cQ (st:=Rq) avf avg alF;let awt:=amo.yn (ps:=["self"]);let awu:Meth K cE "pins" _:=(p,ave,alF);let amq:=cQ (st:=Rr) avj avk alH;let awv:=amq.yn (ps:=["self"]);let aww:Meth K cE "bars" _:=(q,avi,alH);let amr:=cQ (st:=Rt) avn avo alJ;let awx:=amr.yn (ps:=["self","pin"]);let awy:Meth K cE "place" _:=(u,avm,alJ);let ams:=cQ (st:=Ru) avr avs alL;let awz:=ams.yn (ps:=["self","pin"]);let awA:Meth K cE "ways" _:=(x,avq,alL);let amt:=cQ (st:=Rv) avv avw alN;let awB:=amt.yn (ps:=["self","bar"]);let awC:Meth K cE "ends" _:=(y,avu,alN);let cls_cm:y_ K uT:=(alO,alP,alQ,alR);let aKQ:Mk0 K uT:=(alS,alU,alT);let awD:=cQ (st:=ZS) avz avA alW;let aKR:=awD.yn (ps:=["self"]);let aKS:Meth K uT "ways" _:=(z,avy,alW);let NQ:y_ K mV:=(alX,alY,alZ,al0);let aej:Mk K mV _:=(al1,L,al4,al2);let amu:=cQ (st:=Rw) avB avC al6;let aek:=amu.yn (ps:=["self","x","y"]);let aKT:Meth K mV "__init__" _:=(L,al4,al6);let amv:=cQ (st:=Rx) avF avG al8;let awE:=amv.yn (ps:=["self"]);let awF:Meth K mV "ways" _:=(k,avE,al8);let aeW:y_ K sV:=(al9,al',ama,amb);let aei:Mk0 K sV:=(amc,ame,amd);let amw:=cQ (st:=Ry) avJ avK amg;let awG:=amw.yn (ps:=["self"]);let awH:Meth K sV "ways" _:=(m,avI,amg);let D:y_ K bu:=(W7,W8,W9,W_);let CY:Mk K bu _:=(Xa,qE,qF,Xb);let qP:=cQ (st:=fF) FN FO qG;let kh:=qP.yn (ps:=["self","lines"]);let aaW:Meth K bu "__init__" _:=(qE,qF,qG);let qQ:=cQ (st:=bH) jw jx jy;let qR:=qQ.yn (ps:=["self"]);let qS:Meth K bu "next_swap" eV:=(qH,qI,jy);let kO:=cQ (st:=dk) uW uX kK;let u_:=kO.yn (ps:=["self"]);let vb:Meth K bu "growing" _:=(uU,uV,kK);let mz:=cQ (st:=dO) xP xQ my;let xU:=mz.yn (ps:=["self","two"]);let xV:Meth K bu "growth" _:=(xN,xO,my);let j0:=cQ (st:=cW) tf tj jZ;let tw:=j0.yn (ps:=["self","column"]);let tD:Meth K bu "line_out" _:=(sZ,s_,jZ);let jA:=cQ (st:=cG) qM qN jz;let qT:=jA.yn (ps:=["self","at","best","column"]);let qU:Meth K bu "is_sooner" _:=(qK,qL,jz);let qV:=cQ (st:=fG) FR FT qO;let GG:=qV.yn (ps:=["self","at","column"]);let GH:Meth K bu "swap" _:=(FP,FQ,qO);let kQ:=cQ (st:=dm) u3 u4 kN;let vc:=kQ.yn (ps:=["self","line","lead","column"]);let vd:Meth K bu "swapped" _:=(uZ,u0,kN);let adK:=mg_of X G aue;let adM:=mg_of X G auf;let kX:mg "NOUGHT"=some (.ref aeO):=mg_of X G auh;let RG:mg "ONE"=some (.ref aeP):=mg_of X G aul;let adN:mg "NO_MOVE"=some (.ref aeQ):=mg_of X G aup;let aKU:mg "YardError"=some (.ref auz):=mg_of X G auy;let aKV:mg "NoWay"=some (.ref auB):=mg_of X G auA;let aKW:mg "PinThere"=some (.ref auD):=mg_of X G auC;let aKX:mg "SpotTaken"=some (.ref auF):=mg_of X G auE;let aKY:mg "NoPin"=some (.ref auH):=mg_of X G auG;let aKZ:mg "BarThere"=some (.ref auJ):=mg_of X G auI;let aK0:mg "NoBar"=some (.ref auL):=mg_of X G auK;let aK1:mg "NoLength"=some (.ref auN):=mg_of X G auM;let aK2:mg "TooMany"=some (.ref auP):=mg_of X G auO;let afw:mg "NoBound"=some (.ref SE):=mg_of X G SD;let CW:mg "Table"=some (.ref bu):=mg_of X G aaI;let aee:mg "Frame"=some (.ref cE):=mg_of X G auQ;let aK3:mg "Hold"=some (.ref uT):=mg_of X G auR;let aeg:mg "Roller"=some (.ref mV):=mg_of X G auS;let aeh:mg "Fixed"=some (.ref sV):=mg_of X G auT;let aaX:mg "ValueError"=none:=mg_none_of X G FL;let z_:mg "abs"=none:=mg_none_of X G ald;let VE:mg "any"=none:=mg_none_of X G ale;let MM:mg "dict"=none:=mg_none_of X G aeR;let bV:mg "enumerate"=none:=mg_none_of X G Lv;let Z:mg "len"=none:=mg_none_of X G alf;let B:mg "list"=none:=mg_none_of X G aeS;let Wn:mg "min"=none:=mg_none_of X G alg;let S:mg "range"=none:=mg_none_of X G aaH;let wV:mg "sorted"=none:=mg_none_of X G WW;let Wi:mg "str"=none:=mg_none_of X G alh;let V8:mg "sum"=none:=mg_none_of X G ali;let C:mg "zip"=none:=mg_none_of X G alj;let F:=cQ (st:=pF) ak9 ak' ala;show(cA,fnOf "law" "law" (aq pF) (ao pF) (ae pF) .none aeJ aeK aeL aeM WV aeN,hC,hKT,λs v=>.of_eq rfl,λgN _ _ hB=>?_);let hM:IG (aU l.prog w):=aU.BB;let hN:∀H:Hp,bQ K H aeO [.int 0,.int 1]:=λH=>.inr (_,_,_,aui,O,O,qt,.cons #[_,O] (.cons #[_,O] .nil));let hO:∀H:Hp,bQ K H aeP [.int 1,.int 1]:=λH=>.inr (_,_,_,aum,O,O,qt,.cons #[_,O] (.cons #[_,O] .nil));let nm:∀{c:AZ} {o:Ζ} {k0 k1:Tok} {n:Nat} {sl:Ι},K.lookup c=some (.type "tuple",o,.seq (List.toArray [.int 0 k0,.int 1 k1]) n,sl)->∀H:Hp,ie K H (.ref c) 0:=λt H=>(_,O,by rw [gm];show .inr (_,_,_,t,O,O,qt,.cons #[_,O] (.cons #[_,O] .nil)));let hMo:∀H:Hp,gP K H (.ref aeQ) (0,0):=λH=>(_,.ref alb,.ref alc,O,.inr (_,_,_,auq,O,O,qt,.cons rfl (.cons rfl .nil)),nm aur H,nm auu H);let N:U7 K cE:=(R,Xc,aeT,aeU);let G1:=ahf (P:=l.prog) (w:=w) (gN:=gN) (CX:=aU l.prog w) avN z_;let E:=ahg ht avM G1;let GW:=ahi ht avY G1;let GDv:=ahj ht av3 G1;let GCl:=ahk ht av2 C G1 GDv;let GF:=ahm (P:=l.prog) (w:=w) (gN:=gN) av1 bV;let GR:=aho av0 S B GF GCl;let GS:=aht hN kX avZ VE GR E;let awI:=ahy avX C Z GW GS (aby amh S) E;let GD:=adI (ahP hM avL E);let GPD:=ahR hM avP GD;let GI:=ahT (P:=l.prog) (w:=w) (mg:=mg) (gN:=gN) ami N;let J:bN l.prog w K mg gN (aU l.prog w) 1 cE "bars" ["self"] (oj K cE):=(_,_,R,aww,ahV amq N B,awv);let Q:bN l.prog w K mg gN (aU l.prog w) 1 cE "pins" ["self"] (lZ K cE):=(_,_,R,awu,ahX amo N B,awt);let f:bN l.prog w K mg gN (aU l.prog w) 1 cE "check_pin" ["self","pin"] (ij K cE):=(_,_,R,aws,ahZ amn N,awr);let MCb:bN l.prog w K mg gN (aU l.prog w) 2 cE "check_bar" ["self","name","one","other"] (ke K cE):=(_,_,R,awq,aie amm N adM Z f,awp);let MPb:bN l.prog w K mg gN (aU l.prog w) 3 cE "put_bar" ["self","name","one","other"] (pO K cE):=(_,_,R,awo,aih aml N MCb,awn);let okP:=aic (P:=l.prog) (w:=w) (mg:=mg) (gN:=gN) awl N adK Z B;let MPp:bN l.prog w K mg gN (aU l.prog w) 3 cE "put_pin" ["self","name","x","y","hold"] (ik l.prog w K mg gN cE):=(_,_,R,amk,okP,awm);let MPd:Mb l.prog w K mg gN (aU l.prog w) 3 cE "put_pin" ["self","name","x","y","hold"] [.none] (ik l.prog w K mg gN cE):=(_,_,R,amk,okP,amj);let MPl:bN l.prog w K mg gN (aU l.prog w) 2 cE "place" ["self","pin"] (vx K cE):=(_,_,R,awy,ah1 amr N f,awx);let ME:bN l.prog w K mg gN (aU l.prog w) 1 cE "ends" ["self","bar"] (CK K cE):=(_,_,R,awC,ah3 amt N,awB);let MW:bN l.prog w K mg gN (aU l.prog w) 2 cE "ways" ["self","pin"] (wL K cE):=(_,_,R,awA,ah5 ams N B f,awz);let wR:bN l.prog w K mg gN (aU l.prog w) 1 mV "ways" ["self"] (pK K mV):=(_,_,NQ,awF,ah9 amv NQ abW,awE);let wF:bN l.prog w K mg gN (aU l.prog w) 1 sV "ways" ["self"] (pM K):=(_,_,aeW,awH,aia amw,awG);let GRI:=ah7 (P:=l.prog) (w:=w) (mg:=mg) (gN:=gN) amu NQ abW;let GA:=aik avO MPl GPD;let GPR:=ail hMo adN avQ Q;let GBR:=aio avS GA GPR;let GDR:=aiq avT Q MW J ME GPR GBR;let GPP:=air avU Z MM C Q MW J;let GMF:=ait avV bV Q;let GLR:=aim avR Q GPR;let T:rJ K bu:=(D,aaV,Xd,Xe,aeV);let GL:=abl (P:=l.prog) (w:=w) (gN:=gN) (CX:=aU l.prog w) SY;let GIt:=agy (P:=l.prog) (w:=w) (mg:=mg) (gN:=gN) qP T Z B S;let MG:bN l.prog w K mg gN (aU l.prog w) 1 bu "growing" ["self"] (mM bu):=(_,_,D,vb,agz kO T S Z,u_);let MWt:bN l.prog w K mg gN (aU l.prog w) 1 bu "growth" ["self","two"] (pU bu):=(_,_,D,xV,afo mz T,xU);let MS:bN l.prog w K mg gN (aU l.prog w) 1 bu "is_sooner" ["self","at","best","column"] (pV bu):=(_,_,D,qU,aks jA T,qT);let MO:bN l.prog w K mg gN (aU l.prog w) 2 bu "line_out" ["self","column"] (mN bu):=(_,_,D,tD,akd j0 T S Z MS,tw);let MN:bN l.prog w K mg gN (aU l.prog w) 3 bu "next_swap" ["self"] (wU bu P0):=(_,_,D,qS,akj jw jx hC hB T wV MG MO MWt GL,qR);let MP:bN l.prog w K mg gN (aU l.prog w) 33 bu "swapped" ["self","line","lead","column"] (mO bu):=(_,_,D,vd,agm ht kQ T C,vc);let MX:bN l.prog w K mg gN (aU l.prog w) 34 bu "swap" ["self","at","column"] (CT bu):=(_,_,D,GH,ai2 qV T B MP,GG);let GMo:=abx T C CW CY GIt kh MN MX S0 GW E (afl hN kX Z bV T xR E) (agh hN kX Z bV T FX E) (afe hN kX Z bV T xS E);let GSL:=akL hN kX hO RG FW E;let GSC:=akD u5 S GW GR GSL;let GTn:=aby (P:=l.prog) (w:=w) (gN:=gN) amh S;let GSg:=aiv (P:=l.prog) (w:=w) (gN:=gN) avW;let GCB:=akF FU J;let GHN:=aiw (P:=l.prog) (w:=w) (gN:=gN) FZ;let GAB:=aib FY J GCB GHN;let GWP:=agl u6 V8 C E;let GMR:=zaf FV GW GWP GTn;let GBW:=aax Lw GSg;let GDf:=zay yY C GD;let GBo:=zaQ C Z F_ GTn GBW GSg GMo GDf;let GGr:=zan hN kX hO RG Z B yX GLR GAB GDR GTn GSC GPP GBo GMR GSg awI GMF;let GC:=ajf (P:=l.prog) (w:=w) (gN:=gN) (CX:=aU l.prog w) av4 Z;let Y:=ajh (P:=l.prog) (w:=w) (gN:=gN) (CX:=aU l.prog w) av5;let U:=aji (w:=w) (gN:=gN) ht av6 z_;let GSu:=ajk (P:=l.prog) (w:=w) (gN:=gN) av7;let I:=ajm (P:=l.prog) (w:=w) (gN:=gN) av8;let GTu:=ajo (P:=l.prog) (w:=w) (gN:=gN) av9;let GNa:=ajp hM av' Wi Y;let GSp:=ajq awa Y U;let GWy:=ajr awb Y U;let GPi:=afv xT S Wn GC Y GSp GWy GNa GSu;let GBa:=ajx awd S Z GC Y GNa;let GFr:=ajy awe Z aed aee GI aef aeg aeh aei aej GRI aek (wR.mono eY) (wF.mono eY) MPb MPp MPd;let GAr:=ajC awf GSu GTu;let GAd:=ajE awg GSu;let GFo:=ajH awh Z S I GTu GAr GAd;let GBd:=zaN GB S Z GC Y U;let GBn:=ajK awi Z S GC Y I GFo U;let GPT:=akJ tu I U;let GAT:=agY u9 GPT;let GAv:=aaZ Lx Y U;let GAl:=ajG (P:=l.prog) (w:=w) (gN:=gN) awk;show aeq F GC GPi GBa GFr GBd GBn GAv GAT GGr I GAl
end T_k77
end
open PySem PySem.W PyProof.Rows
set_option maxRecDepth 100000 in
set_option maxHeartbeats 0 in
theorem PySem.Challenge.cw_trussyard_k77_whole_bounds_and_loads_tim_holds : PySem.Challenge.rw_trussyard_k77_whole_bounds_and_loads_tim.Holds := by
 w_on;o_law;k_head;(case hw=>w_witness2)
 k_fill
 refine Ty.ag6 (l:=PySem.Challenge.rw_trussyard_k77_whole_bounds_and_loads_tim) (x:="_law_script") (k:=42) (CX:=λw=>Ty.aU (PySem.Challenge.rw_trussyard_k77_whole_bounds_and_loads_tim).prog w) rfl rfl (by first | rfl | decide+kernel) ⟨rfl,eY,eY⟩ (λw h σ=>⟨σ.1,σ.2 _ (List.Mem.head _)⟩) (λw=>Ty.aU.BB) ?F
 case F=>
  intro w X U h Y G Z
  refine' T_k77.all_mk Y G Z ⟨?A0,?A1,?A2,?A3⟩ ⟨?A4,?A5,?A6,?A7⟩ ⟨?A8,?A9,?Aa,?Ab⟩ ⟨?Ac,?Ad,?Ae,?Af⟩ ⟨?Ag,?Ah,?Ai,?Aj⟩ ⟨?Ak,?Al,?Am,?An⟩ ⟨?Ao,?Ap,?Aq,?Ar⟩ ⟨?As,?At,?Au,?Av⟩ ⟨?Aw,?Ax,?Ay,?Az⟩ ⟨?B0,?B1,?B2,?B3⟩ ⟨?B4,?B5,?B6,?B7⟩ ⟨?B8,?B9,?Ba,?Bb⟩ ⟨?Bc,?Bd,?Be,?Bf⟩ ⟨?Bg,?Bh,?Bi,?Bj⟩ ⟨?Bk,?Bl,?Bm,?Bn⟩ ⟨?Bo,?Bp,?Bq,?Br⟩ ⟨?Bs,?Bt,?Bu,?Bv⟩ ⟨?Bw,?Bx,?By,?Bz⟩ ⟨?C0,?C1,?C2,?C3⟩ ⟨?C4,?C5,?C6,?C7⟩ ⟨?C8,?C9,?Ca,?Cb⟩ ⟨?Cc,?Cd,?Ce,?Cf⟩ ⟨?Cg,?Ch,?Ci,?Cj⟩ ⟨?Ck,?Cl,?Cm,?Cn⟩ ⟨?Co,?Cp,?Cq,?Cr⟩ ⟨?Cs,?Ct,?Cu,?Cv⟩ ⟨?Cw,?Cx,?Cy,?Cz⟩ ⟨?D0,?D1,?D2,?D3⟩ ⟨?D4,?D5,?D6,?D7⟩ ⟨?D8,?D9,?Da,?Db⟩ ⟨?Dc,?Dd,?De,?Df⟩ ⟨?Dg,?Dh,?Di,?Dj⟩ ⟨?Dk,?Dl,?Dm,?Dn⟩ ⟨?Do,?Dp,?Dq,?Dr⟩ ⟨?Ds,?Dt,?Du,?Dv⟩ ⟨?Dw,?Dx,?Dy,?Dz⟩ ⟨?E0,?E1,?E2,?E3⟩ ⟨?E4,?E5,?E6,?E7⟩ ⟨?E8,?E9,?Ea,?Eb⟩ ⟨?Ec,?Ed,?Ee,?Ef⟩ ⟨?Eg,?Eh,?Ei,?Ej⟩ ⟨?Ek,?El,?Em,?En⟩ ⟨?Eo,?Ep,?Eq,?Er⟩ ⟨?Es,?Et,?Eu,?Ev⟩ ⟨?Ew,?Ex,?Ey,?Ez⟩ ⟨?F0,?F1,?F2,?F3⟩ ⟨?F4,?F5,?F6,?F7⟩ ⟨?F8,?F9,?Fa,?Fb⟩ ⟨?Fc,?Fd,?Fe,?Ff⟩ ⟨?Fg,?Fh,?Fi,?Fj⟩ ⟨?Fk,?Fl,?Fm,?Fn⟩ ⟨?Fo,?Fp,?Fq,?Fr⟩ ⟨?Fs,?Ft,?Fu,?Fv⟩ ⟨?Fw,?Fx,?Fy,?Fz⟩ ⟨?G0,?G1,?G2,?G3⟩ ⟨?G4,?G5,?G6,?G7⟩ ⟨?G8,?G9,?Ga,?Gb⟩ ?Gc ?Gd ?Ge ?Gf ?Gg ?Gh ?Gi ?Gj ?Gk ?Gl ?Gm ?Gn ?Go ?Gp ?Gq ?Gr ?Gs ?Gt ?Gu ?Gv ?Gw ?Gx ?Gy ?Gz ?H0 ?H1 ?H2 ?H3 ?H4 ?H5 ?H6 ?H7 ?H8 ?H9 ?Ha ?Hb ?Hc ?Hd ?He ?Hf ?Hg ?Hh ?Hi ?Hj ?Hk ?Hl ?Hm ?Hn ⟨?Ho,?Hp,?Hq,?Hr,?Hs⟩ ?Ht ?Hu ?Hv ?Hw ?Hx ?Hy ⟨?Hz,?I0,?I1,?I2,?I3⟩ ⟨?I4,?I5,?I6,?I7,?I8⟩ ⟨?I9,?Ia,?Ib,?Ic,?Id⟩ ⟨?Ie,?If,?Ig,?Ih,?Ii⟩ ⟨?Ij,?Ik,?Il,?Im,?In⟩ ⟨?Io,?Ip,?Iq,?Ir,?Is⟩ ⟨?It,?Iu,?Iv,?Iw,?Ix⟩ ⟨?Iy,?Iz,?J0,?J1,?J2⟩ ?J3 ?J4 ?J5 ?J6 ?J7 ?J8 ?J9 ⟨?Ja,?Jb,?Jc,?Jd,?Je⟩ ?Jf ?Jg ?Jh ?Ji ?Jj ?Jk ⟨?Jl,?Jm,?Jn,?Jo,?Jp⟩ ⟨?Jq,?Jr,?Js,?Jt,?Ju⟩ ?Jv ?Jw ?Jx ?Jy ?Jz ?K0 ?K1 ⟨?K2,?K3,?K4,?K5,?K6⟩ ?K7 ?K8 ?K9 ?Ka ?Kb ?Kc ⟨?Kd,?Ke,?Kf,?Kg,?Kh⟩ ?Ki ?Kj ?Kk ?Kl ?Km ⟨?Kn,?Ko,?Kp,?Kq,?Kr⟩ ⟨?Ks,?Kt,?Ku,?Kv,?Kw⟩ ⟨?Kx,?Ky,?Kz,?L0,?L1⟩ ⟨?L2,?L3,?L4,?L5,?L6⟩ ⟨?L7,?L8,?L9,?La,?Lb⟩ ⟨?Lc,?Ld,?Le,?Lf,?Lg⟩ ?Lh ?Li ?Lj ?Lk ?Ll ?Lm ?Ln ?Lo ?Lp ?Lq ?Lr
  (case A0|A1|A2|A3|A4|A5|A6|A7|A8|A9|Aa|Ab|Ac|Ad|Ae|Af|Ag|Ah|Ai|Aj|Ak|Al|Am|An|Ao|Ap|Aq|Ar|As|At|Au|Av|Aw|Ax|Ay|Az|B0|B1|B2|B3|B4|B5|B6|B7|B8|B9|Ba|Bb|Bc|Bd|Be|Bf|Bg|Bh|Bi|Bj|Bk|Bl|Bm|Bn|Bo|Bp|Bq|Br|Bs|Bt|Bu|Bv|Bw|Bx|By|Bz|C0|C1|C2|C3|C4|C5|C6|C7|C8|C9|Ca|Cb|Cc|Cd|Ce|Cf|Cg|Ch|Ci|Cj|Ck|Cl|Cm|Cn|Co|Cp|Cq|Cr|Cs|Ct|Cu|Cv|Cw|Cx|Cy|Cz|D0|D1|D2|D3|D4|D5|D6|D7|D8|D9|Da|Db|Dc|Dd|De|Df|Dg|Dh|Di|Dj|Dk|Dl|Dm|Dn|Do|Dp|Dq|Dr|Ds|Dt|Du|Dv|Dw|Dx|Dy|Dz|E0|E1|E2|E3|E4|E5|E6|E7|E8|E9|Ea|Eb|Ec|Ed|Ee|Ef|Eg|Eh|Ei|Ej|Ek|El|Em|En|Eo|Ep|Eq|Er|Es|Et|Eu|Ev|Ew|Ex|Ey|Ez|F0|F1|F2|F3|F4|F5|F6|F7|F8|F9|Fa|Fb|Fc|Fd|Fe|Ff|Fg|Fh|Fi|Fj|Fk|Fl|Fm|Fn|Fo|Fp|Fq|Fr|Fs|Ft|Fu|Fv|Fw|Fx|Fy|Fz|G0|G1|G2|G3|G4|G5|G6|G7|G8|G9|Ga|Gb|Gc|Gd|Ge|Gf|Gg|Gh|Gi|Gj|Gk|Gl|Gm|Gn|Go|Gp|Gq|Gr|Gs|Gt|Gu|Gv|Gw|Gx|Gy|Gz|H0|H1|H2|H3|H4|H5|H6|H7|H8|H9|Ha|Hb|Hc|Hd|He|Hf|Hg|Hh|Hi|Hj|Hk|Hl|Hm|Hn|Ho|Hp|Hq|Hr|Hs|Ht|Hu|Hv|Hw|Hx|Hy|Hz|I0|I1|I2|I3|I4|I5|I6|I7|I8|I9|Ia|Ib|Ic|Id|Ie|If|Ig|Ih|Ii|Ij|Ik|Il|Im|In|Io|Ip|Iq|Ir|Is|It|Iu|Iv|Iw|Ix|Iy|Iz|J0|J1|J2|J3|J4|J5|J6|J7|J8|J9|Ja|Jb|Jc|Jd|Je|Jf|Jg|Jh|Ji|Jj|Jk|Jl|Jm|Jn|Jo|Jp|Jq|Jr|Js|Jt|Ju|Jv|Jw|Jx|Jy|Jz|K0|K1|K2|K3|K4|K5|K6|K7|K8|K9|Ka|Kb|Kc|Kd|Ke|Kf|Kg|Kh|Ki|Kj|Kk|Kl|Km|Kn|Ko|Kp|Kq|Kr|Ks|Kt|Ku|Kv|Kw|Kx|Ky|Kz|L0|L1|L2|L3|L4|L5|L6|L7|L8|L9|La|Lb|Lc|Ld|Le|Lf|Lg=>k_is);(case Lh=>kernel_rfl);(case Li=>kernel_rfl);(case Lj|Lk|Ll|Lm=>k_is);(case Ln=>rfl);(case Lo|Lp|Lq|Lr=>k_is)
#print axioms PySem.Challenge.cw_trussyard_k77_whole_bounds_and_loads_tim_holds
