import PyProof.Rows.All
import Wide.FinOn
import OpenK.KLine
import OpenK.KWalk
import KE.KSortKey
import OpenK.KOwn
import KE.KLam
import KE.KNestM
import KE.KItem
import KE.KNest
import KE.IntBitsLaws
import KE.KDictList
import KE.KIsAll
import KE.KDictOf
import KE.KTryMore
import OpenK.KRaise
import KE.IntText
import PySem.Challenge.RW_trussyard_k75_refused_bounds
set_option Elab.async false
set_option linter.all false
set_option maxRecDepth 100000
set_option compiler.extract_closed false
def gE.{u}{Y:Type u}{l:List Y}(h:i < l.length):l[i]? =some l[i]:=List.getElem?_eq_getElem h

local macro_rules|`(tactic|omega)=>`(tactic|lia)
namespace PySem.W.Fast
local macro_rules|`(universe $x*)=>do return Lean.mkNullNode (←x.mapM λx=>do {let n:=(x.getId.toString.drop 1).toString.foldl (λn c=>n*62+(if c.toNat<58 then c.toNat-48 else if c.toNat<91 then c.toNat-55 else c.toNat-61)) 0;let i:=Lean.mkIdent (.mkSimple s!"tw{n}");return (←`(def $i:ident:=())).raw})
universe tFxITplyH46H t9vHvnXqjTD0 tJzANpF5q7fY t5eqtxraBsD5 tGaWCCfPVACQ t93LdOLBWbxZ t7wksu1QpuwE t9McGLqHeIeU tLmbVtQZ0yBk tHc5BLuTxZdt t8hnjA5k4J0h t1SSdTUTJDij tBU8T5L0OP03 t58gAHmorALd tBDGtNFs8hoa tNcoxZHGKoR tErHXGmSpn5u t9yGVAEFPmor t2FwXxzktGwP tKg7Wl0IpXgO t6bUs6Z9JRwM t7FV2yVwL9RH tK2wqCYyGHkU tCmWX8hDFzu6 tAm88ggaC0dY tRxotQw1oMq t4Jj5e65kmKH t7CTjGBpJVpN tK5TlaGRurs2 t6yHO3gRGIEQ tIbL2U1aD62x tJCuZ0l1JK7P tAKi1FKqW9zZ t6FbPBcAfLzo tKyH75RcVvoK t49kurs4vQqH t3yVUrQpZfum t4x5g8jFLcE7 tHtLsXjyOHw4 t9OeFNc0mJ1E tIeP5zGa5IZL ty6xqH1G2hl t1H77xKAx4eK t3HXCqFdySUB tCSrmQlK6pij tJQ6je4VPT2e t8NDYOx4iiuK tBpVhsxynkNa tD9fw5SWHK1W t7pOh6drSs5o tIZ8HyqoPdSb tBHf1TLPihHE t16DBZ77JSDO tCIRy4QV0zUK tFxcU1HDydMf tEfP26ytQ9RM tH7rZdaaSuDt tCjjOzv7rsPE tGyBdssa8Ev1 tFc78dMcljkm t7lubzZ6UFs3 tKHCSjTPRG4 tDezNX4bKw2t tLTk6n3JgrQf t5bJCHh2xPwS tG60sZuMCWwh tEAzl85L1mf3 tCbYHW94vktB tKo4hHtiMnlx t2DgpMrX2j0M tAbAiPO0i9No t6vBIiaO7BGq t2vDnTs99bZC t3apsq4gqmWy t4bjCq2HW072 tHk8GkVzC0cd t3PuyUasWAv0 t8jsMJ76Hb7t tJDyewcukPuo tDwLiFPilDjp t1oMQXlP4H18 t2VGfq4bgIXn t7Ua4cKzX32G t2phyEsImFjH t534dnYKrmwk t8DNPV5tDrw9 tLsZ1ovT9sDV tDkjrFq12SbN t9qM5DJ2ghVB t5iEOTfaFHtA tJz0XRwNqTZl tAWPARhZeCnV tJg0HmtHnKS tGsMHwtG7aAS tGOvBaAodPhv tJ7plOZGZCvy tLuoQH0vMCwp t18SDeR6xRbF tLj69vbrPtCM tHT1FYoD9kfO tLErRkNKwTl9 tHCd94RyBpWF tD7JxuF61Jbt t2mEMiuAJ7th t9szJdhinNlG tCmJUn3Mwtps tFCiK7PnqVoF tK9oXYin4fns tDwkxgcnAQYT tEUhIu8TDBxE t2iRgvvI4snw tJ3OoKuZWBUZ t955H4Y06PWP tDnk4YVqcnHd tC8alTuUjWWa t8EwjOAX2AMS t3Yvr7J8MMpw tJ8ZEWWfiXCV tHoiZ3ofrRuC t3pATeJOfTG6 tHHcioX3zWB4 t8J7iDOh7pP8 tCc1OPGhPyNr t98d8cZKCp0T tJLtSD4uG4sT t5UN4juy31Pw tDHYUnnuYQcd t4v5b4gxSpdK tF8W4lVOKBJ3 tEc8g6yxTMrr tCp1recZnLUk t2zsVoDBBzs7 t6ktQSfKeTEA tJqOckYesiYe t2KXp9asDGPh tEvFauPkdRE2 t1EKx8FTTDsk t96kApRUYdPM t2vyZA5yBXgW tAafAKW5JLWu tD4pIJejztbz tD1kHlYpOzGo t65LV0LWW8e3 t5OQ6hv8RJbi tH0PMz4u3TQ4 tGF45W5DiDf5 t5XWr9MgQA8p tJT5dhzvrg9p tDV55W88wWQ5 t6tL1PZ7Qf1q t1Wvx7sps5kd tIHg3Ii3p4Uu tKFPcaoPunDQ tJXDQjZnTMcy tGvgTsL7xeKx tAtZZvNIJYMY t23BekNY0nTN tApYxTCWmJVh tB17UrdEvzRo tJGKVvjPGAp0 tJHNgXEwa1b1 t8gohdVl3TDU t8X1BWn1dYSb t1yUPNhp1zXd tBq0fQvDftfV tDDHjkE6GP2I t6nhy9ayk62J t6JK33onvVxY tCTv7SYf8Cqq tAg105d2WBS3 tF4jFnnCcHmk tALkQkSjZWmq t5Ph6DkqHIZH tFQF1A11ENgW tIMR5ka0zCIC tCsIgk4f3Ntv t3TW7wGjzHmp t1XyD5ipA7jW t4vzqn56HlN5 tJ3Xx3ae7lGe tCmzshHfNUHD tCDkrgfoMDvg tFSG7T7RS8pT tJeugT5tVZaB t3eWpcWll3Le t1J3QrIFkr9B tAzMTV2FMi9i t8iYfXkQWEyQ tDezVQor8Rrk tBfGPIGWF43o tEFg84Pd2Ot6 tJzwVguguSm7 tAOvEdSVe9f tmxcBKPeNFF t8z95r7gFOgy tA4ATXGBU7ws tFJMp9IzpkQj tEf7UhOfM4S1 tBB396NWXrCv tGXiT1rtdAqH t3fiWFpFabAD tHCi6VwsitJN tJXG46Z2CNLp tGSCQXcpJneP tHamU8r5pdu0 tB20jooaLftO tHCt9m3dSXpa tBh29YMF28hq t1Z4UNde7ZpQ tJodp5eLqqPU tCs1kK5vVTbE tCPHSN9oF8xS tEmc8lKsNKvd tFDLLQKnPLBn t6YqFvu634EI t5cy0Dk0vGWQ t2BHCkvuKQ0h t6zXzmVQ6p6O tJXx5Bh2McnZ tJJxFCrltzdI t97QgRCjjxG0 t6yTccqDBuCh t31YC9KKwpRi tFayuH0uJ2rq tAcGlesAUZP7 tIrMvjUakXrA t5uXyXXIUHHW tLDDXcH7wtnb tImZ2rmXwRR5 t9dyhM8qQCYR t54C20pB2GTt tFoQzF2y4ubo tIcucomAfppX t2vxejfNidb tWAaeZKAGOi tBqMvM6auQIY tI8e8G8knz9p t64tq3xGSrEW tHj0noAq6bxs t9EYHpqpE4Ae tLnzVbgd8p1S tErik8Xb8o9A t7Yfr6TGo93x tHTzxfXVDhET tESaralPHFBA t5UwdRLIZOBc tK6FMMpNx4gY tLSJzvXReZUV tJGFsW4bOU4K t5WGRM2VeX9g t8f1smlg3zBD t6bBiiIyq0Bi t6pcKdQAvI74 tGCVPdx0U31d t3OFumC4FPVQ t2JC7acLgkCO tD0s2XictzIV t6yUcbXa1DzU t1hwAVZgJXc8 tHfrtbzjZKoW t1kY8KFoxeQk tIwsZmtKd18I tEF0BoEGCnxa tKDOI5VAo3YT t42Y0Uw5LTjU t7KME6oZDzRp tF39Z9MfnTai t9U3UxcAb76H tIifzLKyvVc5 t4riCl9Uwne1 t13l2mrLvO99 tAnvsdklOqBz t2zorFgufyBq tH2FFqvTkA6f t9v9fJFUewf3 t9O2utxd65mm t9SDtmKSN6Tz tRAq6BpruGk tFirt4H8e7ws tA4krh7hOXvP t53DFbSgaw5Q t4Bqr5hUXhFM tJtNqzs3qXPG t46qYmppuQDa t1e3U9hEd0LN t4RfGz93nDaQ t3HlNepjhwBf tCgGW2lJeM6V t1T7VZ6aaHuB t1Jhs1m0NxPU tA01HuAQHGQJ tFzmsbF86wLW t2rKi7UK0e1q tKAfR1ZhEOn3 t5aoYxgzkWms t19O2Qc8ZLRc tLSE0Zz1i1oD t3pdfVUIvwo2 tIJuQ3EViEYW t61Jki56fF9Q t8W7Rr3ogRuk tCe5okNaFQQf t4krjXPQnig8 tFzDrDfI4EPc t6Ydf9QYkvw tCbfP4sn9tgL t6qFGwvW5Hem tBLs7JTS1YQL tJVyjzltVQ1P t1l2C40Tw3R1 tAPDcKx7PZl9 t8rkocHOfMdD t1vRUjUgLRRN tI79gvStfobb tGI7CshbUYfn tAOz7kLqPcAk t4wUBNutJjz6 t2D6F7fUZ1JE t9Me42VlBBCM t5pkKPnTsNDr tDgtPJNV1unW t7hC4aVld8z3 tJATmm8RsFzh tIOCUDqTn4YE tFBiCXkMzzaG tPXIPpzXMkA t4mIjL4HJHNU t6IcD9swSuLd tIVzh09Nsbdm tAunIQ27T8At tBrEqrAY0Vte t3DGsNwBy7z5 tLAeNBapoJsG t6mgVJ9kJ2PP t1w6L7uNqmnl tGxMWBhDPN6i tB9aH1yxk23s tKkTxBmMWDvr tIZF0N5SnyMW tIRi8ctSpuCP t24MEbHxhOPa t5yzop1AY0gL tGWDgVpB68mi tAL9Un793hO3 tFOlpU4QtLlt tLErDSyGV05d tDFnJPwod9Nb tCzVCCRo8G6R tFVAkXbMubuO t1vYTXwqR1ta t1bcODvc87pY tBjdcdReaCl5 tFaX7durtgGH tLbpuk8nl5py tLomfXTgeiAq tH8M3469OsPS t6hejb6fGdMn two0kdcxnlJ tD557meVomPG tCI5ngBpjRlW tLm7VrQXo7MO tDcRWvr6IEjK tEDEX6EJEDxG t52uLnZSL3D1 tPK7asu1IYO tCwSR1ALh7K t8DfxRYIL2aZ tGjztt3KebTR t9WBGDCKD5Km tKYHkIHbtpyO t3up4RO0rwfo t5ZZHJbxndcc tGtVwhPNZ5bq t1LskgBhrjgu tEAJwJp7g251 tAJk5p2CaWOU t7Y50KE1RrDE tTVKDGw3bxw tCGsiTy7E2sc tADGkw1bV1Ej t78iVgQkKZcv tIyd0t0wvExL tIPNaxwsx5MF t6E5XHmLOUaB tHvujbd2bHLu t9s8PdFIP6xk t8rlqB3KTRxI tCVqfaRlHNuz t3hULsvpmCs4 t2yEiol3njod tFcWvPOr4STF tKzJlEVDqPRI tItn4zzaQ0Vq t11uOJCrPJQy tLkRrt90GUYG tLH7N2hGVuFm tEFB8ZUfqnrW tLnz5zty83Oa t6H5jVcqYRtr t1jclh3Nwd8e t5eSZ8lK2GLF t43JLT8BDxDJ t2PKhgfAaSKB t2hrPVlay0aN t2bde6beCcNh tDyg0CWyXWwZ t5q9PaVJDEZk tLfqMVfa9JZA tIksD200HXip tAESYyTOpijR t5YtbmmcboJn t5uQMsFAeCSP tBVeypUUse7h t6E7PC4LmzC8 t2KjvAnNzAUx tHMzGmACaICY tDIWzMZfNEE9 t5uvAL5N6dKL t1V4BXTFvFpT t7Ov7nUgNx9p
end PySem.W.Fast
open Array renaming length_toList->amo, getElem?_eq_getElem->am6, append_assoc->aoA, toList->au6
open Bool renaming false_ne_true->QW, eq_false_iff->WR, and_eq_true->EK, eq_iff_iff->Qe, false_eq_true->zp, and_false->US, and_true->aoz, false_and->at1, or_false->auX
open Classical renaming byContradiction->VD, propDecidable->T1, not_forall->alB, not_imp->al4
open Int renaming ne_of_gt->VB, gcd->Po, zero_add->VM, mul_comm->VY, mul_pos->VR, natAbs_neg->vP, mul_assoc->v5, natAbs_mul->EH, gcd_dvd_right->Qj, gcd_dvd_left->Qg, fmod_nonneg_of_pos->ajZ, le_of_lt->EE, natAbs_dvd_natAbs->ako, fdiv_eq_of_eq_mul_right->ak_, mul_nonneg->Pw, mul_zero->FJ, mul_neg_of_pos_of_neg->alI, toNat_natCast->yv, natAbs_add_le->al1, mul_le_mul_of_nonneg_right->al7, mul_lt_mul_of_pos_right->amH, fmod_lt_of_pos->amI, lt_trichotomy->am8, natAbs_sub_le->ane, mul_eq_zero->anY, gcd_zero_right->aoI, fmod_def->aoL, le_of_eq->apz, emod_eq_of_lt->apF, gcd_mul_left->apS, neg_mul->aqD, gcd_pos_iff->aqG, mul_ne_zero->aqH, dvd_coe_gcd->atI
open List renaming getElem?_eq_some_iff->ir, getElem?_map->Wp, length_map->CA, mem_of_getElem?->CU, getD_eq_getElem?_getD->GO, getElem?_eq_none->IF, mem_map->CS, length_append->GY, replicate->FZ, getElem?_append_left->PR, getElem?_of_mem->OV, mem_cons_of_mem->OX, mem_singleton->OK, getElem?_append_right->RF, mem_append->OB, mem_cons_self->Pz, length_take->QT, map_cons->O_, range->KA, size_toArray->RS, mem_cons->QQ, map_append->RL, map_map->Pp, getElem_mem->Sk, mem_range->Rb, getElem?_set->VC, ext_getElem?->VH, mem_append_right->Vg, length_cons->VN, mem_append_left->Vo, zipWith->Rr, getElem?_replicate->qM, flatMap_cons->Vb, nodup_cons->VS, take_length->Vj, length_replicate->vT, getElem?_zipWith->vS, getElem?_range->qL, length_drop->ZX, lookup->VL, mem_filterMap->v8, mem_filter->ZQ, flatMap_append->EO, append_nil->Zu, mem_iff_getElem->OC, append_assoc->EJ, take_of_length_le->T4, length_filter_le->T2, length_range->OE, length_eq_zero_iff->Ub, range_succ->EF, replicate_succ->Qh, mem_flatMap->FQ, length_eraseIdx->UX, mem_of_mem_eraseIdx->ajb, filterMap_cons->UT, map_congr_left->UU, length->uz, getElem?_eraseIdx->aj_, find?_cons->Qb, take_append_drop->akG, getElem?_inj->UB, mem_of_mem_drop->alC, map_nil->FN, cons_append->UQ, any_eq_true->UP, nodup_range->UO, length_zipWith->zq, any_cons->Pu, of_mem_zip->UN, length_set->UL, filter_append->zH, getElem?_take->yw, filter_cons_of_pos->alT, filter_cons_of_neg->alU, getElem?_set_self->alX, flatten_cons->yo, getElem_take->al2, take_add_one->al3, length_singleton->al6, filter_cons->al8, getElem?_set_ne->al9, mem_of_mem_take->ama, forIn_cons->yG, lookup_append->amJ, forIn_nil->yi, getElem?_drop->am2, pairwise_iff_getElem->am7, pairwise_map->ang, nodup_append->ano, getElem?_take_of_lt->anx, all_cons->vt, length_eraseIdx_le->anC, range_succ_eq_map->anO, zipWith_cons_cons->anS, getElem_cons_drop->anT, length_eq_one_iff->anU, nil_append->anV, length_nil->anX, eq_nil_or_concat->an2, concat_eq_append->an5, getElem?_append->an_, getElem_range->aoC, forIn_toArray->aoG, pairwise_cons->aoJ, foldl_append->apj, countP_cons->ap0, lookup_cons->ap6, all_eq_true->ap8, zipIdx_cons->aqg, getElem_map->aqh, cons_ne_nil->aqw, length_zip->aqI, zipIdx_nil->as_, foldl->auJ, take_zero->auM, zip_map'->au3
open List.Pairwise renaming map->anm
open Nat renaming le_trans->CP, le_refl->CK, lt_of_le_of_lt->K', lt_of_lt_of_le->Qi, ne_of_lt->QV, lt_succ_self->V3, le_of_lt->RK, not_lt_zero->VA, pow_le_pow_right->Vd, lt_irrefl->Sa, zero_le->RQ, mul_le_mul->VF, one_le_two_pow->W9, lt_succ_iff_lt_or_eq->OO, mul_le_mul_right->EM, lt_succ_of_lt->EI, ne_of_gt->ZG, le_mul_of_pos_right->UY, pow_add->Zq, pow_succ->v7, add_sub_cancel_left->ajM, mul_comm->zw, sub_self->EA, le_succ->zg, min_eq_left->UC, add_mul->Pn, pow_le_pow_left->amw, le_of_eq->U4, eq_of_mul_eq_mul_left->am4, mul_one->UA, lt_trichotomy->ani, mul_assoc->x8, le_of_not_lt->anB, add_comm->vx, lt_trans->vv, one_mul->vo, two_mul->vI, mul_le_mul_left->aos, lt_or_gt_of_ne->aoH, min_self->aoN, le_succ_of_le->ao_, zero_add->apB, mod_eq_of_lt->ap_, mul_add->aqE, two_pow_pos->aq_
open Ne renaming symm->CV
open Option renaming map_eq_some_iff->OR, map_some->FP, isSome_iff_exists->aja, isSome_map->am_, some_ne_none->aow, getD_none->apL, none->avh
open Option.some renaming inj->VE
open Or renaming inl->V1, inr->ze
open Prod renaming ext->Pl, fst->avj, snd->avk
open Rat renaming inv_mul_cancel->ZR, mul_nonneg->Vn, intCast_mul->Zs, le_of_lt->vN, le_refl->uY, mul_pos->FD, div_def->FC, num_nonneg->UR, inv_pos->Qa, intCast_inj->x9, num_eq_zero->an0, num_divInt_den->aoF, divInt_eq_div->aoR, intCast_add->aqJ, intCast_sub->ar_
open Sum renaming inr->Rq, inl->W8
open Sum.inl renaming inj->FF
open Sum.inr renaming inj->Zp
open PySem.W (Frag nsIn codeIn keepIn fnOf mg_of mg_none_of)
open PySem renaming wpAny_bind->BR, Addr->BQ, wpAny_pure->CO, wpAny->BX, model->BY, sizeLine->CM, Shared->CH, starEach->CW, mainGlobals->J_, Program->HV, eval->CQ, wpAny_mono->Oy, Around->LA, wpAny_ite_false->VI, bootBuiltins->V0, rawInt->PQ, backTo->QS, wpAny_holding->VT, compareOp->V2, wpAny_Call_Name_kw->se, IsPair->QZ, wpAny_field->VP, codeAny->Ri, sysModules->VO, attributeBase->WX, foldedSetIterable->vZ, recursionLimit->wj, wpAny_seqItems->wg, intBits_mul_le->wc, excClassObj->Zm, wpAny_execs_nil->EX, codeAny_call_builtin->TX, wpAny_truthy_bool->PM, wpAny_typeNameOfWhole_valiter->adO, wpAny_call_entry->P8, wpAny_setField_rec->TV, wpAny_passesOwn->OZ, binaryOp->Vw, cLine->V6, wpAny_call->uR, swapsWith->Zg, sliceBounds->v_, codeAny_mono->EY, wpAny_typeNameOf_valiter->ad3, mem_of_lookup->Us, wpAny_getItem_str_slice->ad5, wpAny_Call_method0_late->ad6, pyNext->VW, IsZip->VG, tupleKind_room_in1->Ur, keywordEach->ES, wpAny_nextOf_list_item->aec, wpAny_newObj_type->Up, wpAny_loadPart_at->Um, wpAny_isOneOf_valiter->aej, wpAny_execs_cons->Ul, assignEach->ER, wpAny_pyIter_zip->Uk, behindInMarks->TN, wpAny_standAt->TM, evalArgs_none->aeq, call_meetsIn->TJ, builtinsNs->OM, holding->Zx, call_meets->OH, wpAny_pyIter_list->agj, backToKw->EL, checkBuiltinCall->agq, getMethod->OG, Within->Uc, letOwnedTupleGo->agu, isInstance->TB, closureFor->T5, post_val_or_str->agx, wpAny_updateSeq->agy, wpAny_loadPart->agA, wpAny_ite_true->agB, wpAny_fieldsOf->agD, sizeLine_eq->Uh
open PySem.Heap renaming get?_push_of_some->GQ, lt_size->GK, get?_push_size->Py, get?_update_other->Vx, size_push->vd, get?_update_self->EV, SameBut->WV
open PySem.W renaming findIn->ON, kitOne->QU, emptyDict->Vh, instObj->Vc, hasDictIn->Z_, exmOne->Vs, mroIn->Vp, plainGet->vY, makesIn->yd, callWith_K->PX, plainOver->P9, tabObj->Pa, codeHdIn->Tx, isFn->OQ, methodCall_KW->aei, clsIn->TK, kla_obj->Uj, lookIn->agz, tailIn->agC
open PySem.PassesOwn renaming never->Pm, leaving->agn
open PySem.Paired renaming length->RY, snoc->TF
open PyProof.Rows renaming callWith_type1->vb, envOfC->RH, AllBare->WU, kindOf->VZ
open PySem.Str renaming ofString->Rj
open PySem.Builtin.SmallTypes renaming ownedTupleIsFree->EZ, nextOf->Zo
open PySem.F renaming plainAttrs_list->Zn, slot_list_append->OW, type_list_append->OS, slot_zip_next->EW, slot_dict_valueiterator_next->adL, slot_dict_values->aet, plainAttrs_dict->agk, slot_dict_items->agl, args_zip_next_1->agm, entry_zip_next->agr
open PySem.Calls renaming spliced_cons->EU, callWith_builtin->TY, spliced_nil->TQ
open PySem.Builtin.List renaming listTooLong->T_, listExtendWith->adQ
open PySem.Obj renaming mapSeq->uL, mapFields->P_
def iA.{u}{c:Prop}[Decidable c](a:¬c){Y:Sort u}{t e:Y}:ite c t e=e:=if_neg a
def iB.{u}{c:Prop}[Decidable c](a:c){Y:Sort u}{t e:Y}:ite c t e=t:=if_pos a
def CC{a b:Prop}(h:a)(n:¬a):b:=absurd h n
def RE{p:Prop}[Decidable p](h:decide p=true):p:=of_decide_eq_true h
def Qd{p:Prop}[Decidable p](h:p):decide p=true:=decide_eq_true h
def Sb{p:Prop}[Decidable p](h:¬p):decide p=false:=decide_eq_false h
def sU.{u,v}{Y:Sort u}{β:Sort v}{a b:Y}(f:Y->β)(h:a=b):f a=f b:=congrArg f h
theorem O.{u}{Z:Sort u}{a:Z}:a=a:=rfl
section
def qqv:Nat->Lean.Term->Lean.MacroM (Lean.TSyntax `rcasesPat)
|0,_=>Lean.Macro.throwUnsupported
|n+1,x=>match x with|`(($a,$b,*))=>do {let a←qqv n a;let b←b.getElems.mapM (qqv n);`(rcasesPat|⟨$a,$b,*⟩)}|`(#[$b,*])=>do {let b←b.getElems.mapM (qqv n);`(rcasesPat|⟨$b,*⟩)}|`(_)=>`(rcasesPat|_)|`($x:ident)=>`(rcasesPat|$x:ident)|_=>Lean.Macro.throwUnsupported
local macro_rules|`(tactic|show $x)=>`(tactic|refine $x)
theorem gu {p:Prop}(h:p:=by omega):p:=h
theorem d_k{p:Prop}(h:p:=by decide+kernel):p:=h
theorem gM {p:Prop}[Decidable p](h:decide p=true:=by rfl):p:=of_decide_eq_true h
theorem gN {p:Prop}(h:p:=by simp):p:=h
local macro_rules|`(tactic|erw [$r,*] at $h:ident)=>`(tactic|(rw [$r,*] at $h:ident;cases $h:ident))
local macro_rules|`(tactic|let $d:letDecl)=>`(tactic|have $d:letDecl)
local macro_rules|`(tactic|let $p:term:=$e)=>do {let p←qqv 9 p;`(tactic|obtain $p:rcasesPat:=$e)}
def dgz(x:Array Lean.Term):Lean.MacroM (Array Lean.Term):=do
 let h←`(_)
 let o←`(O)
 let q←`(?_)
 return x.flatMap λe=>match e.raw.isNatLit? with|some 0=>#[h,o]|some 1=>#[h,h,o,o]|some 2=>#[q]|some 3=>#[h,o,h,o]|some 4=>#[h,h,o]|some 5=>#[h,h,h,o,o]|some 6=>#[h,h,h,o]|some 7=>#[o,h,o]|some 8=>#[o,o]|some 9=>#[h,h]|_=>#[e]
local macro_rules|`($a ⊆ $b)=>`(BEq.beq $a $b)
local macro_rules|`($a == $b)=>`($a=some $b)
local macro_rules|`(!$f)=>let i:=Lean.mkIdent;let v:=#[i `P,i `w,i `K,i `mg,i `gV];let g:=if f.raw.isIdent then f.raw else f.raw[0];if [`GG,`cz,`Fn,`nK,`cxh,`FnH,`bR,`Rg,`am,`bv,`ce,`ahD,`iO].contains g.getId then match f with|`($g:ident $x*)=>`($g $v* $x*)|_=>`($f $v*) else Lean.Macro.throwUnsupported
local macro_rules|`($a \ $b)=>`($a _ _ $b)
local macro_rules|`($a >>> $b)=>`(($a).trans $b)
local macro_rules|`(![$x,*])=>do {let r←x.getElems.mapM λe=>if ["←","<-"].contains e.raw[0].getAtomVal then let t:Lean.Term:=⟨e.raw[1][0]⟩;`(Lean.Parser.Tactic.rwRule|←$t) else `(Lean.Parser.Tactic.rwRule|$e:term);`(by rw[$r,*])}
local macro_rules|`(↑$s)=>`(($s).heap.objs.size)
local macro_rules|`($s ⊂ $x)=>`({$s with heap:=$x})
set_option hygiene false
local macro_rules|`(⇑$x)=>`(.ref $x)
local macro_rules|`(↥$x)=>`(.int $x)
local macro_rules|`(![$x,*] $y)=>do {let r←x.getElems.mapM λe=>if ["←","<-"].contains e.raw[0].getAtomVal then let t:Lean.Term:=⟨e.raw[1][0]⟩;`(Lean.Parser.Tactic.rwRule|←$t) else `(Lean.Parser.Tactic.rwRule|$e:term);`(by rw[$r,*];exact $y)}
local macro_rules|`(.$x:ident)=>match x.getId.toString.toList.map "abcdefghijkm".toList.idxOf? with|[some n]=>`(pv $(Lean.quote n))|_=>Lean.Macro.throwUnsupported
set_option hygiene true
local macro_rules|`(~~~$x)=>`(by simpa using $x)
local macro_rules|`($c ^^^ $x)=>match x with|`([$_,*])=>`({cls:=.type $c,data:=.fields (List.toArray $x)})|_=>`({cls:=.type $c,data:=$x})
set_option hygiene false
local macro_rules|`(.n)=>let K:=Lean.mkIdent `K;`((λ_ _ _ _=>(mm (K:=$K) (n:=2) rfl rfl (aK (dh (i:=0) (by change List.Nodup (_++_);decide+kernel) rfl (V1 rfl)) (aK (dh (i:=1) (by change List.Nodup (_++_);decide+kernel) rfl (V1 rfl)) cC)))))
local macro_rules|`(.o)=>`((λ_ _ _ _=>mj))
set_option hygiene true
set_option hygiene false
local macro_rules|`($x >> $y >> $z)=>`($x >> ($y >> $z))|`($x >> $y)=>`(aa $x $y)
set_option hygiene true
local macro_rules|`(($a,$x,*))=>if x.getElems.size<2 then Lean.Macro.throwUnsupported else do {let x←dgz (#[a]++x.getElems);`(⟨$x,*⟩)}
local macro_rules|`(#[$x,*])=>if x.getElems.size<1 then Lean.Macro.throwUnsupported else do {let x←dgz x;`(⟨$x,*⟩)}
set_option hygiene false
local macro_rules|`(.p)=>`((xw X (tn++fr) scope (bB X.env fr) C s H Z))
local macro_rules|`(.q)=>`((BY X.prog X.w))
local macro_rules|`(.r)=>`((!nK N qual scope f bx A outer s0 H0 E))
local macro_rules|`(.s)=>`((BY prog w))
local macro_rules|`(.u)=>`((.ListComp elt [(target,iter,ifs,(0))] scope pos))
local macro_rules|`(.w)=>`((.e_ o (.dK BN)))
local macro_rules|`(.x)=>`((some (.builtin "object.__setattr__")))
local macro_rules|`(.y)=>`((bf .a rfl))
local macro_rules|`(.z)=>`((x⊆("__debug__":Str)))
local macro_rules|`(.A)=>`((ow C++bB X.env fr))
local macro_rules|`(.B)=>`((aJ (aE (aJ (aE ag ag)) (aJ (aE ag ag)))))
local macro_rules|`(.C)=>`((if s=a then (T.L a j:Rat) else (T.d:Rat)⁻¹*((T.L a k:Rat)*(T.L s j:Rat)-(T.L s k:Rat)*(T.L a j:Rat))))
local macro_rules|`(.D)=>`((bP (eQ (K:=K) rfl) .a ag))
local macro_rules|`(.E)=>`((V.ref aN))
local macro_rules|`(.F)=>`(("dict_items"^^^[.ref d]))
local macro_rules|`(.G)=>`((X.env.qual++ "<lambda>"))
local macro_rules|`(.H)=>`((gz (m.getD c 0) (l.getD c 0)))
local macro_rules|`(.I)=>`((K' (show Y.length<=1000 by omega) gM))
local macro_rules|`(.J)=>`((Y.objs.size+1))
local macro_rules|`(.K)=>`((a9 L Z (aE (ax eK (a9 X Z (bS .a ag ag)) ag) (ax bW ag (a9 X Z (bS .a ag ag))))))
local macro_rules|`(.L)=>`((aq.refl _))
local macro_rules|`(.M)=>`((aR l.prog w))
local macro_rules|`(.N)=>`((T.L r k))
local macro_rules|`(.O)=>`((.type "ValueError"))
local macro_rules|`(.P)=>`((.Call (.Attribute o m apos) (e::es) [] pos))
local macro_rules|`(.Q)=>`((min m os.length))
local macro_rules|`(.R)=>`((aI ay rfl a_ cu (aU .b)))
local macro_rules|`(.S)=>`((.builtin "BaseException.__getattribute__"))
local macro_rules|`(.T)=>`((agx #[CP (Txt.slice_le z _ _) U,λY k=>(.str _,H,I.tok k,#[Y,O],q)]))
local macro_rules|`(.U)=>`((upd (upd m Z (.lst (ln (c+1) (T.L x)))) D (.lst (U.set x (.ref Z)))))
local macro_rules|`(.V)=>`((.inl rfl))
local macro_rules|`(.W)=>`((.Call (.Name x p) (e::es) [] pos))
local macro_rules|`(.X)=>`((cf I q gN))
local macro_rules|`(.Y)=>`((start N vs))
local macro_rules|`(.Z)=>`((bJ (aU (eJ (v:=.ref aN) rfl kr rfl))))
local macro_rules|`(.zA)=>`((List.toArray [PQ pos.line,PQ pos.col,.ref Y]))
set_option hygiene true
namespace L2
open PySem PySem.Spec PyProof.Rows
abbrev _root_.γ:=Value->CH->Prop
abbrev _root_.ζ:=List (BQ×Obj)
abbrev _root_.η:=List (List Int)
abbrev _root_.θ:=List (Int×Int)
abbrev _root_.ι:=Str->Option Value
abbrev _root_.ν:=List (Nat×List Int)
abbrev _root_.ξ:=Str->Option (Rat×Rat)
abbrev _root_.ο:=List (List (Int×Int))
abbrev _root_.ρ:=List Int
abbrev _root_.ς:=List Value
abbrev _root_.τ:=List Str
abbrev _root_.υ:=List (Nat×List (Int×Int))
abbrev _root_.χ:=Option BQ
abbrev _root_.ω:=List Expr
abbrev _root_.Δ:=List BQ
abbrev _root_.Ε:=List (Str×Str×Str)
abbrev _root_.Ζ:=Array Value
abbrev _root_.Η:=List (Rat×Rat)
abbrev _root_.Θ:=Result->CH->Prop
abbrev _root_.Ι:=Array (Option Value)
abbrev _root_.Ν:=Str->Rat×Rat
abbrev _root_.Ξ:=Option Value->CH->Prop
abbrev _root_.Ρ:=Unit->CH->Prop
abbrev _root_.Τ:=Option (Str×Str)
abbrev _root_.Υ:=List Rat
abbrev _root_.Χ:=List (Str×List (Rat×Rat))
abbrev Key:=Sum Int Str
abbrev _root_.Ω:=List (List Key×BQ×Value)
def D':Key->Value->Bool
 | .inl k,v=>Value.isInt k v
 | .inr x,v=>Value.isStrOf x v
def awo (w:World):Key->Int
 | .inl k=>hashInt k
 | .inr x=>hashStr w x
def cV:∀{k:Key} {v:Value},D' k v=true->(∃i t,k=W8 i/\v=Value.int i t)\/(∃x t,k=Rq x/\v=Value.str x t)
 | .inl i,v,h=>by
  let(t,e):=Value.isInt_shape (k:=i) (v:=v) h;show .inl (i,t,O,e)
 | .inr x,v,h=>by
  let(t,e):=Value.isStrOf_shape (x:=x) (v:=v) h;show .inr (x,t,O,e)
def ae_ (i:Int)(t:Tok):D' (.inl i) (.int i t)=true:=by simp[D',Value.isInt]
def adb (x:Str)(t:Tok):D' (.inr x) (.str x t)=true:=by simp[D',Value.isStrOf]
def aib (a b:Int):decide ((W8 a:Key)=W8 b)=(a⊆b):=by
 by_cases e:a=b
 ·subst e;simp
 ·let h:¬ (W8 a:Key)=W8 b:=λq=>e (FF q)
  rw[Sb h];show(beq_eq_false_iff_ne.mpr e).symm
def aic (a b:Str):decide ((Rq a:Key)=Rq b)=decide (a=b):=by
 by_cases e:a=b
 ·subst e;simp
 ·let h:¬ (Rq a:Key)=Rq b:=λq=>e (Zp q)
  rw[Sb h,Sb e]
def aid (a:Int)(b:Str):decide ((W8 a:Key)=Rq b)=false:=Sb (λq=>nomatch q)
def aie (a:Str)(b:Int):decide ((Rq a:Key)=W8 b)=false:=Sb (λq=>nomatch q)
def bM (prog:HV)(w:World):PySem.KeyKind prog w Key where
 is:=D'
 hash:=awo w
 inj:=λv a b U Y=>by
  rcases cV U with ⟨i,t,rfl,rfl⟩|⟨x,t,rfl,rfl⟩
  ·rcases cV Y with ⟨j,u,rfl,e⟩|⟨y,u,rfl,e⟩
   ·injection e with e1 _;rw[e1]
   ·show nomatch e
  ·rcases cV Y with ⟨j,u,rfl,e⟩|⟨y,u,rfl,e⟩
   ·show nomatch e
   ·injection e with e1 _;rw[e1]
 byValue:=λk v h=>by
  rcases cV h with ⟨i,t,rfl,rfl⟩|⟨x,t,rfl,rfl⟩<;>rfl
 pyHash:=λZ h=>by
  rcases cV Z with ⟨i,t,rfl,rfl⟩|⟨x,t,rfl,rfl⟩
  ·show wpAny_pyHash_int h
  ·show wpAny_pyHash_str h
 eqBool:=λX Z h=>by
  rcases cV X with ⟨i,t,rfl,rfl⟩|⟨x,t,rfl,rfl⟩
  ·rcases cV Z with ⟨j,u,rfl,rfl⟩|⟨y,u,rfl,rfl⟩
   ·rw[aib] at h;show wpAny_eqBool_int h
   ·rw[aid] at h;show SeqAt.EqAt.int_str i t y u _ _ _ _ h
  ·rcases cV Z with ⟨j,u,rfl,rfl⟩|⟨y,u,rfl,rfl⟩
   ·rw[aie] at h;show SeqAt.EqAt.str_int x t j u _ _ _ _ h
   ·rw[aic] at h;show wpAny_eqBool_str h
 «strs»:=λk x t v h=>by
  rcases cV h with ⟨i,u,rfl,e⟩|⟨y,u,rfl,e⟩
  ·show nomatch e
  ·injection e with e1 _
   subst e1;cases v<;>rfl
def zac (prog:HV)(w:World)(i:Int)(t:Tok):(bM prog w).is (.inl i) (.int i t)=true:=ae_ i t
def acW (prog:HV)(w:World)(x:Str)(t:Tok):(bM prog w).is (.inr x) (.str x t)=true:=adb x t
inductive V where
 | cS|bl (b:Bool)|int (i:Int)|str (x:Str)|vi (b:Array UInt8)|flt (b:UInt64)|ref (a:BQ)|ty (n:String)
 deriving DecidableEq
abbrev _root_.δ:=List (Key×V)
abbrev _root_.ε:=List V
abbrev _root_.Β:=Option V
abbrev _root_.Κ:=List (List V)
abbrev _root_.Ψ:=List (List Key×V)
def RelV:V->Value->Prop
 | .cS,u=>u=Value.none
 | .bl b,u=>u=Value.bool b
 | .int i,u=>∃t,u=Value.int i t
 | .str x,u=>∃t,u=Value.str x t
 | .vi b,u=>∃t,u=Value.bytes b t
 | .flt b,u=>∃t,u=Value.float b t
 | .ref a,u=>u=Value.ref a
 | .ty n,u=>u=Value.type n
abbrev Vals:List V->List Value->Prop:=Paired RelV
theorem Vals.length {xs:ε}{us:ς}(r:Vals xs us):xs.length=us.length:=RY r
theorem Vals.get:∀{xs:ε} {us:ς} {i:Nat} {x:V},Vals xs us->xs[i]?==x->∃u,us[i]?==u/\RelV x u
 | _,_,_,_,.nil,e=>by simp at e
 | _,_,0,_,.cons r _,e=>by simp at e;subst e;show#[0,r]
 | _,_,i+1,x,.cons _ t,e=>by
  let(u,Y,Z):=Vals.get (i:=i) (x:=x) t (~~~e);show(u,~~~Y,Z)
theorem Vals.set (r:RelV x u):∀{xs:ε} {us:ς} (i:Nat),Vals xs us->Vals (xs.set i x) (us.set i u)
 | _,_,_,.nil=>.nil
 | _,_,0,.cons _ t=>.cons r t
 | _,_,i+1,.cons q t=>.cons q (Vals.set r i t)
def Vals.append:∀{xs ys:ε} {us ws:ς},Vals xs us->Vals ys ws->Vals (xs++ys) (us++ws):=by
 intro xs ys us ws h s;induction h with|nil=>show s|cons r t Z=>show .cons r Z
theorem Vals.take:∀{xs:ε} {us:ς} (n:Nat),Vals xs us->Vals (xs.take n) (us.take n)
 | _,_,0,_=>.nil
 | _,_,_+1,.nil=>.nil
 | _,_,n+1,.cons r t=>.cons r (Vals.take n t)
theorem Vals.drop:∀{xs:ε} {us:ς} (n:Nat),Vals xs us->Vals (xs.drop n) (us.drop n)
 | _,_,0,r=>r
 | _,_,_+1,.nil=>.nil
 | _,_,n+1,.cons _ t=>Vals.drop n t
def i7:Option V->Option Value->Prop
 | some v,some u=>RelV v u
 | none,none=>True
 | _,_=>False
def KV {κ:Type}:List (κ×V)->List (κ×Value)->Prop:=Paired λ(p:κ×V) (q:κ×Value)=>p.1=q.1/\RelV p.2 q.2
def kV:Key->V
 | .inl i=>↥i
 | .inr x=>.str x
inductive HO where
 | lst (xs:ε)
 | tup (xs:ε)
 | dK (BN:δ)|dT (BN:Ψ)
 | set (S:Int->Bool) (n:Nat)
 | ins (C X:BQ) (Z:List (Str×V))
 | own (x:BQ)
 | xd (Z:List (Str×V))
 | met (f x:BQ)
 | rng (lo Y:Int)
 | e_ (o:Obj) (u:HO)
 | mW (ps:Ζ)
 | ext (φ:Heap->Prop)
abbrev Hp:=BQ->Option HO
def upd (H:Hp)(a:BQ)(o:HO):Hp:=λb=>if b=a then some o else H b
def af :upd H a o a==o:=by unfold upd;rw[iB rfl]
def ah (h:b≠a):upd H a o b=H b:=by unfold upd;rw[iA h]
def aml {H:Hp}(h:H a==o)(h':H b==u)(d:o≠u):a≠b:=by
 intro e;subst e;rw[h] at h';show d (VE h')
def ak {H:Hp}(h:H a==o)(h':H b=none):a≠b:=by
 intro e;subst e;erw[h] at h'
section
variable (P:HV)(w:World)
def ck (H:Hp)(h:Heap)(a:BQ):HO->Prop
 | .lst xs=>xs.length<=CM/\∃(BS:ς)(n:Nat),Vals xs BS/\h.get? a==("list"^^^.seq BS.toArray n)
 | .tup xs=>xs.length<=CM/\∃BS:List Value,Vals xs BS/\IsTup h a BS.toArray
 | .dK X=>X.length<=CM/\(a⊆VO)=false/\∃T,KV X T/\h.DictOf (bM P w) a T
 | .dT X=>X.length<=CM/\(a⊆VO)=false/\∃xs:List (List Key×BQ×Value),
   Paired (λ(p:List Key×V) (q:List Key×BQ×Value)=>p.1=q.1/\H q.2.1==.tup (p.1.map kV)/\RelV p.2 q.2.2) X xs/\
   ∃o N J,h.get? a==o/\o.ExactDict/\o.data=.dict N J/\N.toList=xs.map (entryOfKey (tupleKind (bM P w)))/\(xs.map (·.1)).Nodup
 | .set S n=>h.SetOf (intKind P w) a S n
 | .ins C U Y=>H U==.own a/\Y.length<=1000/\U≠a/\h.get? a==(Vc C U)/\
   ∃Z,h.Ns1 U Z/\(∀f,i7 (Y.lookup f) (Z f))/\Uc Z (Y.map (·.1))
 | .own _=>∃o,h.get? a==o
 | .xd Y=>∃Z,h.Ns1 a Z/\∀f,i7 (Y.lookup f) (Z f)
 | .rng lo L=>∃t u v,h.get? a==("range"^^^[.int lo t,.int L u,.int 1 v])
 | .e_ o u=>h.get? a==o/\ck H h a u
 | .mW M=>h.get? a=={cls:=.none,data:=.fields M}
 | .met f x=>h.get? a==(PySem.W.methodObj ⇑f ⇑x)
 | .ext φ=>φ h/\(∃o,h.get? a==o)/\∀Q R:Heap,φ Q->(∀o,Q.get? a==o->R.get? a==o)->φ R
def lR (H:Hp)(h:Heap):Prop:=∀a o,H a==o->ck P w H h a o
end
section
variable {P:HV}{w:World}{H H':Hp}{h h':Heap}{a:BQ}{o:HO}
theorem ck.lt (x:ck P w H h a o):a<h.objs.size:=by
 cases o with
 | lst xs=>let(_,_,_,_,e):=x;show GK e
 | tup xs=>let(_,_,_,p):=x;show p.lt
 | dK Y=>let(_,_,_,_,o,_,_,e,_):=x;show GK e
 | dT Y=>let(_,_,_,_,o,_,_,e,_):=x;show GK e
 | set S n=>let(o,_,_,_,e,_):=x;show GK e
 | ins C R Z=>let(_,_,_,e,_):=x;show GK e
 | own y=>let(_,e):=x;show GK e
 | xd Z=>let(_,(_,_,_,e,_),_):=x;show GK e
 | rng lo T=>let(_,_,_,e):=x;show GK e
 | e_ U u=>let(e,_):=x;show GK e
 | mW X=>show GK (show h.get? a==_ from x)
 | met f y=>show GK (show h.get? a==_ from x)
 | ext φ=>let(_,(_,e),_):=x;show GK e
def Paired.dP :∀{X:List Y} {Z:List β},Paired F X Z->(∀a b,F a b->G a b)->Paired G X Z:=by
 intro X Z h f;induction h with|nil=>show .nil|cons r t U=>show .cons (f\r) U
def ck.pH (x:ck P w H h a o)(k:∀b u,(b=a\/H b==.own a)->h.get? b==u->h'.get? b==u)
  (I:∀b,H b==.own a->H' b==.own a) (J:∀b xs,H b==.tup xs->H' b==.tup xs):ck P w H' h' a o:=by
 induction o with
 | lst xs=>let(z,R,n,r,e):=x;show(z,R,n,r,k _ _ .V e)
 | tup xs=>let(z,R,r,Z,e,c):=x;show(z,R,r,Z,k _ _ .V e,c)
 | dK D=>let(z,y,N,r,Z,Y,X,e,c):=x;show(z,y,N,r,Z,Y,X,k _ _ .V e,c)
 | dT D=>
  let(z,y,xs,r,Z,Y,X,e,c):=x;show(z,y,xs,Paired.dP r λp q z=>(z.1,J\z.2.1,z.2.2),Z,Y,X,k _ _ .V e,c)
 | set S n=>let(Z,Y,X,t,e,c):=x;show(Z,Y,X,t,k _ _ .V e,c)
 | ins C A G=>
  let(d,z,M,e,T,(U,Y,X,E,c),r):=x;show(I _ d,z,M,k _ _ .V e,T,(U,Y,X,k _ _ (.inr d) E,c),r)
 | own y=>let(Z,e):=x;show#[Z,k _ _ .V e]
 | xd G=>let(T,(U,Y,X,e,c),r):=x;show(T,(U,Y,X,k _ _ .V e,c),r)
 | rng lo B=>let(t,u,v,e):=x;show(t,u,v,k _ _ .V e)
 | e_ Z u L=>let(e,q):=x;show#[k _ _ .V e,L q]
 | mW Q=>
  let e:h.get? a=={cls:=.none,data:=.fields Q}:=x;change h'.get? a=={cls:=.none,data:=.fields Q};show k a _ .V e
 | met f y=>
  let e:h.get? a==(PySem.W.methodObj ⇑f ⇑y):=x;change h'.get? a==(PySem.W.methodObj ⇑f ⇑y);show k a _ .V e
 | ext φ=>let(p,(o,e),st):=x;show(st _ _ p λo q=>k _ _ .V q,#[o,k _ _ .V e],st)
theorem lR.lt (x:lR P w H h)(e:H a==o):a<h.objs.size:=(x a o e).lt
def lR.fresh (x:lR P w H h)(e:h.objs.size<=a):H a=none:=by
 cases q:H a with
 | none=>rfl
 | some u=>show CC (Qi (x.lt q) e) (Sa _)
def lR.kept (x:lR P w H h)(k:∀b u,h.get? b==u->h'.get? b==u):lR P w H h':=λa o e=>
 (x a o e).pH (λb u _ q=>k b u q) (λ_ q=>q) λ_ _ q=>q
def lR.laid (x:lR P w H h)(k:∀b u,h.get? b==u->h'.get? b==u)(U:h.objs.size<=a)(Z:ck P w (upd H a o) h' a o):lR P w (upd H a o) h':=λb u e=>by
 let Y:=x.fresh U;by_cases X:b=a
 ·subst X;erw[af] at e;show Z
 ·rw[ah X] at e
  show(x b u e).pH (λc v _ q=>k c v q) (λc q=>by rwa[ah (ak q Y)]) λc xs q=>by rwa[ah (ak q Y)]
end
def Rd (H:Hp)(a:BQ)(u:HO):Prop:=H a==u\/∃o,H a==(.e_ o u)
def Rd.of (h:H a==u):Rd H a u:=.inl h
def Rd.ok (r:Rd H a u)(x:lR P w H h):ck P w H h a u:=by
 rcases r with r|⟨o,r⟩
 ·show x a u r
 ·let(_,q):=x a _ r
  show q
def Mut:Option HO->Prop
 | some (.lst _)=>True
 | some (.dK _)=>True
 | some (.dT _)=>True
 | some (.set _ _)=>True
 | some (.ins _ _ _)=>True
 | some (.ext _)=>True
 | _=>False
section
variable {P:HV}{w:World}{H:Hp}{h h':Heap}{x e:BQ}{o':HO}
def lR.write (L:lR P w H h)(Q:Mut (H x))(N:e=x\/H e==.own x)(k:∀b u,b≠e->h.get? b==u->h'.get? b==u)(S:∃u,h'.get? e==u)
  (T:ck P w (upd H x o') h' x o'):lR P w (upd H x o') h':=λb u q=>by
 let Y:∀c y,H c==.own y->c≠x:=λc y r z=>by subst z;rwa[r] at Q
 let R:∀c xs,H c==.tup xs->c≠x:=λc xs r z=>by subst z;rwa[r] at Q
 by_cases U:b=x
 ·subst U;erw[af] at q;show T
 ·rw[ah U] at q
  by_cases Z:b=e
  ·let M:H b==.own x:=by
    rcases N with z|z
    ·show CC (Z>>>z) U
    ·rwa[Z]
   erw[q] at M;let(v,J):=S;show#[v,by rwa[Z]]
  ·show(L b u q).pH (λc v X r=>k c v ?_ r) (λc r=>by rwa[ah (Y c b r)]) λc xs r=>by rwa[ah (R c xs r)]
   rcases X with rfl|X
   ·show Z
   ·rintro rfl
    rcases N with z|z
    ·show Y c b X z
    ·erw[X] at z;show U rfl
end
structure Un (fs ex:Δ)(H H':Hp)(h h':Heap):Prop where
 keep:∀b o,h.get? b==o->H b=none->b∉fs->b∉ex->h'.get? b==o
 slot:∀b o,h.get? b==o->H b=none->b∈fs->b∉ex->∃sl,h'.get? b=={o with slots:=sl}
 free:∀b o,h.get? b==o->H b=none->b∉ex->H' b=none
 there:∀b o,h.get? b==o->b∉ex->∃o',h'.get? b==o'
 mX:∀b xs,H b==.tup xs->H' b==.tup xs
 lS:∀b o u,H b==(.e_ o u)->H' b==(.e_ o u)
 lT:∀b ps,H b==.mW ps->∃more,H' b==.mW (ps++more)
section
variable {fs fs' ex Tu :Δ}{H H1 H2:Hp}{h h1 h2 h':Heap}{a x e:BQ}{o:HO}
def Un.any (u:Un fs ex H H1 h h1)(q:h.get? b==ob)(n:H b=none)(Z:b∉ex):∃X,h1.get? b=={ob with slots:=X}:=by
 by_cases Y:b∈fs
 ·show u.slot b ob q n Y Z
 ·show#[ob.slots,u.keep b ob q n Y Z]
def Un.trans (a:Un fs ex H H1 h h1)(b:Un fs ex H1 H2 h1 h2):Un fs ex H H2 h h2 where
 keep:=λc Z q n U Y=>b.keep c Z (a.keep c Z q n U Y) (a.free c Z q n Y) U Y
 slot:=λc Z q n U Y=>by
  let(M,X):=a.slot c Z q n U Y;let(T,R):=b.slot c _ X (a.free c Z q n Y) U Y;show#[T,R]
 free:=λc Z q n Y=>by
  let(S,X):=a.there c Z q Y;show b.free c S X (a.free c Z q n Y) Y
 there:=λc Z q Y=>by
  let(S,X):=a.there c Z q Y;show b.there c S X Y
 mX:=λc xs q=>b.mX c xs (a.mX c xs q)
 lS:=λc Z xs q=>b.lS c Z xs (a.lS c Z xs q)
 lT:=λc Q q=>by
  let(N,X):=a.lT c Q q;let(P,R):=b.lT c _ X;show#[N++P,![R,aoA]]
def Un.kept (k:∀b u,h.get? b==u->h'.get? b==u):Un fs ex H H h h':=
 (λb Z q _ _ _=>k b Z q,λb Z q _ _ _=>#[Z.slots,k b Z q],λ_ _ _ n _=>n,λb Z q _=>#[Z,k b Z q],λ_ _ q=>q,λ_ _ _ q=>q,λ_ Y q=>#[#[],by rw[q];simp])
def Un.refl:Un fs ex H H h h:=Un.kept λ_ _ q=>q
def Un.laid (k:∀b u,h.get? b==u->h'.get? b==u)(Y:h.objs.size<=a)(Z:H a=none):Un fs ex H (upd H a o) h h' where
 keep:=λb u q _ _ _=>k b u q
 slot:=λb u q _ _ _=>#[u.slots,k b u q]
 free:=λb u q n _=>by rwa[ah (QV (Qi (GK q) Y))]
 there:=λb u q _=>#[u,k b u q]
 mX:=λb xs q=>by rwa[ah (ak q Z)]
 lS:=λb u xs q=>by rwa[ah (ak q Z)]
 lT:=λb X q=>#[#[],by rw[ah (ak q Z),q];simp]
def Un.write (Y:Mut (H x))(Q:e=x\/H e==.own x)(k:∀b u,b≠e->h.get? b==u->h'.get? b==u)(U:∃u,h'.get? e==u):Un fs ex H (upd H x o) h h':=by
 let T:∀b,H b=none->b≠x:=λb n z=>by subst z;rwa[n] at Y
 let S:∀b,H b=none->b≠e:=λb n z=>by
  subst z
  rcases Q with r|r
  ·show T b n r
  ·erw[n] at r
 let X:∀b u,H b==u->¬ Mut (some u)->b≠x:=λb u q R z=>by subst z;rw[q] at Y;show R Y
 show(λb u q n _ _=>k b u (S b n) q,λb u q n _ _=>#[u.slots,k b u (S b n) q],λb u q n _=>by rwa[ah (T b n)],λb u q _=>?_,
  λb xs q=>by rwa[ah (X b _ q λz=>z)],λb u xs q=>by rwa[ah (X b _ q λz=>z)],λb P q=>#[#[],by rw[ah (X b _ q λz=>z),q];simp])
 by_cases Z:b=e
 ·subst Z;show U
 ·show#[u,k b u Z q]
def Un.mono (u:Un fs ex H H1 h h1)(U:∀b∈fs,b∈fs')(X:∀b∈ex,b∈Tu):Un fs' Tu H H1 h h1:=
 (λb Y q n T Z=>u.keep b Y q n (λz=>T (U b z)) λz=>Z (X b z),λ_ _ q n _ Z=>u.any q n λz=>Z (X _ z),λb Y q n Z=>u.free b Y q n λz=>Z (X b z),λb Y q Z=>u.there b Y q λz=>Z (X b z),u.mX,u.lS,u.lT)
end
def trk (h:Heap)(H:Hp):List BQ:=(KA h.objs.size).filter λa=>(H a).isSome
def BL (h:Heap)(H:Hp):Heap:=PySem.W.hideAll h (trk h H)
def ac_ (h:Heap)(H:Hp):(BL h H).objs.size=h.objs.size:=PySem.W.hideAll_size _ _
def ado (e:h.get? b==o)(n:H b=none):(BL h H).get? b==o:=
 PySem.W.hideAll_get _ e λZ=>by
  let q:(H b).isSome=true:=(ZQ.mp Z).2;rw[n] at q;simp at q
def aeu (e:(BL h H).get? b==o):h.get? b==o/\H b=none:=by
 let Z:h.get? b==o:=PySem.W.of_hideAll (trk h H) e;show#[Z,2];cases q:H b with
 | none=>rfl
 | some x=>
  let Y:b∈trk h H:=ZQ.mpr #[Rb.mpr (GK Z),by simp[q]];let z:(BL h H).get? b=none:=PySem.W.hideAll_none (trk h H) Y;erw[z] at e
def aev (g h:Heap)(L:BQ):List (BQ×Obj):=(KA h.objs.size).filterMap λa=>if a=L\/(g.get? a).isSome=true then none else (h.get? a).map λo=>(a,o)
def rest (g h:Heap)(L d:BQ):List (BQ×Obj):=(aev g h L).filter λp=>decide (p.1≠d)
structure Mod (K:Frag)(mg:ι)(gV:Heap):Prop where
 Y_:K.In gV
 glob:gV.Ns J_ mg
 blt:∃mb,gV.Ns OM mb/\∀x:Str,x≠ "__name__"->mb x=V0 x
 nolimit:gV.NoLimit
 seer:gV.NoSeer
structure Cx where
 prog:HV
 w:World
 K:Frag
 mg:Str->Option Value
 gV:Heap
 A:LA
 N:List Str
 qe:CH
 H₀:Hp
 env:Env
 outer:List Env
 stack:List Env
 ex:List BQ
 fn:Str->Bool
 calm:Bool
 pn:List (BQ×Obj)
 xe:Value->CH->Prop
def pT (l:List Env):List BQ:=l.filterMap (·.frame)
abbrev Cx.fs (X:Cx):List BQ:=pT X.outer
def Vis (Z:Scope)(x:Str):Prop:=Z.names.lookup x==.local\/Z.names.lookup x==.cell\/Z.names.lookup x==.free
def Loc (Z:Scope)(x:Str):Prop:=Z.names.lookup x==.local\/Z.names.lookup x==.cell
def Look (Z:Env)(h:Heap)(m:ι)(x:Str)(u:Value):Prop:=
 (Z.kindOf x==.local/\m x==u)\/((Z.kindOf x==.cell\/Z.kindOf x==.free)/\∃c,Z.cells.lookup x==c/\h.IsCell c (some u))
structure Cx.Ok (X:Cx):Prop where
 mod:Mod X.K X.mg X.gV
 kind:X.env.scope.kind=.function
 glob:X.env.globals=J_
 blt:X.env.builtins=OM
 above:↑(X.qe)<=X.env.locals
 inj:∀x y c,X.env.cells.lookup x==c->X.env.cells.lookup y==c->x=y
 has:∀x,(X.env.kindOf x==.cell\/X.env.kindOf x==.free)->∃c,X.env.cells.lookup x==c
 cab:∀x c,X.fn x=true->X.env.cells.lookup x==c->↑(X.qe)<=c
 hd:X.calm=true->X.A.handled=none
 frames:X.A.frames==X.stack
 stk:X.stack=X.outer\/(X.stack=X.env::X.outer/\X.env.frame==X.env.locals)
 exf:∀b∈X.ex,b≠X.env.locals/\∀x c,X.env.cells.lookup x==c->c≠b
 bs:∀b o,X.gV.get? b==o->X.qe.heap.get? b==o/\X.H₀ b=none
 X5:X.gV.objs.size<=↑(X.qe)
 QK:∀b o,X.gV.get? b==o->b∉X.ex
 Ve:∀b∈X.ex,b∉X.fs
 qh:X.qe.heap.FunFrames X.gV X.outer
 frf:∀b∈X.fs,X.H₀ b=none
structure Inv (X:Cx)(AP:ζ)(Z:List (Option V))(H:Hp)(s:CH):Prop where
 ok:X.Ok
 os:s.os=X.qe.os
 bare:WU s.gens
 gV:Un X.fs X.ex X.H₀ H X.qe.heap s.heap
 loc:∃m,s.heap.Ns X.env.locals m/\∀(i:Nat)(x:Str)(v:V),X.N[i]?==x->Z[i]?==(some v)->Vis X.env.scope x->∃u,RelV v u/\Look X.env s.heap m x u
 cell:∀x c,X.env.cells.lookup x==c->∃v,s.heap.IsCell c v
 free:H X.env.locals=none
 iG:∀x c,X.env.cells.lookup x==c->H c=none
 pin:∀p∈X.pn++AP,s.heap.get? p.1==p.2/\H p.1=none/\p.1≠X.env.locals/\p.1∉X.fs/\∀v,p.2.data≠.cell v
 bU:lR X.prog X.w H s.heap
 len:Z.length=X.N.length
section
variable {X:Cx}{AP:ζ}{Z:List (Option V)}{H H':Hp}{s:CH}{h':Heap}
def Cx.Ok.awq (Y:X.Ok)(e:X.gV.get? b==o):b∉X.fs:=λU=>by
 have:=(Y.qh.mem U).1;erw[e] at this
theorem Inv.bs (I:Inv X AP Z H s):∀b o,X.gV.get? b==o->s.heap.get? b==o/\H b=none:=λb o e=>
 #[I.gV.keep b o (I.ok.bs b o e).1 (I.ok.bs b o e).2 (I.ok.awq e) (I.ok.QK b o e),I.gV.free b o (I.ok.bs b o e).1 (I.ok.bs b o e).2 (I.ok.QK b o e)]
def Inv.bk (I:Inv X AP Z H s):∀b o,X.gV.get? b==o->s.heap.get? b==o:=λb o e=>(I.bs b o e).1
theorem Inv.mod (I:Inv X AP Z H s):Mod X.K X.mg X.gV:=I.ok.mod
def Inv.lQ (I:Inv X AP Z H s):X.K.In s.heap:=I.ok.mod.Y_.keeps I.bk
theorem Inv.nolimit (I:Inv X AP Z H s):s.heap.NoLimit:=I.ok.mod.nolimit.keeps I.bk
theorem Inv.lt (I:Inv X AP Z H s):X.env.locals<↑s:=let ⟨_,Y,_⟩:=I.loc;Y.lt
def Inv.sz (I:Inv X AP Z H s):↑(X.qe)<=↑s:=CP I.ok.above (RK I.lt)
def Inv.awr (I:Inv X AP Z H s){a:BQ}(h:↑s<=a):a∉X.fs:=λU=>by
 let(_,o,Y,_):=I.ok.qh.mem U;show CC (Qi (GK Y) (CP I.sz h)) (Sa _)
def Inv.X6 (I:Inv X AP Z H s):∀x c,X.env.cells.lookup x==c->c≠X.env.locals:=λx c e z=>by
 let(v,o,T,S):=I.cell x c e;let(m,(R,Q,P,Y,U,_),_):=I.loc;erw[z,Y] at T;erw[U] at S
theorem Inv.qh (I:Inv X AP Z H s):s.heap.FunFrames X.gV X.outer:=by
 let all:∀(l:List Env),(∀b∈pT l,b∈X.fs)->X.qe.heap.FunFrames X.gV l->s.heap.FunFrames X.gV l:=by
  intro l
  induction l with
  | nil=>intro _ _;trivial
  | cons E r R=>
   intro S M;let(J,(L,o,Y,N,P,G),Q):=M;let T:L∈X.fs:=S L (by unfold pT;rw[UT,Y];show Pz);let(D,e):=I.gV.slot L o P (I.ok.frf L T) T λz=>I.ok.Ve L z T;show(J,(L,_,Y,N,e,G),R (λb U=>S b (by unfold pT;rw[UT,Y];show OX _ U)) Q)
 show all X.outer (λ_ U=>U) I.ok.qh
theorem Inv.stack (I:Inv X AP Z H s):s.heap.FunFrames X.gV X.stack:=by
 rcases I.ok.stk with e|⟨e,U⟩
 ·rw[e];show I.qh
 ·rw[e]
  let(m,Y,_):=I.loc;show .cons (by rw[I.ok.kind];decide) U Y ?_ I.qh;show Heap.get?_none_of_le (CP I.ok.X5 I.ok.above)
def Inv.FX (I:Inv X AP Z H s):∀b∈pT X.stack,b∈X.env.locals::X.fs:=λb Y=>by
 rcases I.ok.stk with e|⟨e,U⟩
 ·rw[e] at Y;show OX _ Y
 ·rw[e] at Y
  unfold pT at Y;rwa[UT,U] at Y
def Inv.xk (I:Inv X AP Z H s):∀b∈pT X.stack,H b=none:=λb Y=>by
 rcases QQ.mp (I.FX b Y) with e|Y
 ·rw[e];show I.free
 ·let(_,o,U,_):=I.ok.qh.mem Y
  show I.gV.free b o U (I.ok.frf b Y) λz=>I.ok.Ve b z Y
def Inv.step {ch:Δ}(I:Inv X AP Z H s)
  (S:∀b∈ch,(b∈X.ex\/↑(X.qe)<=b)/\b≠X.env.locals/\(∀x c,X.env.cells.lookup x==c->c≠b)/\∀p∈X.pn++AP,p.1≠b)
  (T:∀b o,b≠X.env.locals->b∉X.fs->b∉ch->s.heap.get? b==o->H b=none->h'.get? b==o)
  (N:∀b o,b≠X.env.locals->b∈X.fs->b∉ch->s.heap.get? b==o->H b=none->∃y,h'.get? b=={o with slots:=y}) (free:∀b o,b∉ch->s.heap.get? b==o->H b=none->H' b=none)
  (M:∀b o,b∉ch->s.heap.get? b==o->∃G,h'.get? b==G)
  (mX:∀b xs,H b==.tup xs->H' b==.tup xs) (lS:∀b o u,H b==(.e_ o u)->H' b==(.e_ o u)) (lT:∀b B,H b==.mW B->∃D,H' b==.mW (B++D))
  (ns:∀m,s.heap.Ns X.env.locals m->h'.Ns X.env.locals m) (bU:lR X.prog X.w H' h') (hg:WU g'):
  Inv X AP Z H' {s with heap:=h',gens:=g',drawn:=d',toks:=t'}:=by
 let E:∀b o,X.qe.heap.get? b==o->b≠X.env.locals:=λb o e=>QV (Qi (GK e) I.ok.above)
 let Q:∀b o,X.qe.heap.get? b==o->b∉X.ex->b∉ch:=λb o e Y L=>by
  rcases (S b L).1 with z|z
  ·show Y z
  ·show CC (Qi (GK e) z) (Sa _)
 let R:∀x c,X.env.cells.lookup x==c->∀v,s.heap.IsCell c v->h'.IsCell c v:=λx c e v ⟨o,J,j⟩=>by
  let U:c∉ch:=λz=>(S c z).2.2.1 x c e rfl;by_cases hc:c∈X.fs
  ·let(y,q):=N c o (I.X6 x c e) hc U J (I.iG x c e)
   show(_,q,j)
  ·show(o,T c o (I.X6 x c e) hc U J (I.iG x c e),j)
 show(I.ok,I.os,hg,(λb o e n L Y=>?_,λb o e n L Y=>?_,λb o e n Y=>?_,λb o e Y=>?_,λb xs e=>mX b xs (I.gV.mX b xs e),λb o xs e=>lS b o xs (I.gV.lS b o xs e),λb B e=>?_),2,λx c e=>?_,2,λx c e=>?_,λp a=>?_,bU,I.len)
 ·show T b o (E b o e) L (Q b o e Y) (I.gV.keep b o e n L Y) (I.gV.free b o e n Y)
 ·let(y,P):=I.gV.slot b o e n L Y
  let(A,C):=N b _ (E b o e) L (Q b o e Y) P (I.gV.free b o e n Y);show#[A,C]
 ·let(G,P):=I.gV.there b o e Y
  show free b G (Q b o e Y) P (I.gV.free b o e n Y)
 ·let(G,P):=I.gV.there b o e Y
  show M b G (Q b o e Y) P
 ·let(m1,P):=I.gV.lT b B e
  let(m2,C):=lT b _ P;show#[m1++m2,![C,aoA]]
 ·let(m,hn,hl):=I.loc
  show(m,ns m hn,λi x v P C e3=>?_);let(u,r,l):=hl i x v P C e3;show(u,r,2)
  rcases l with l|⟨k,c,e,z⟩
  ·show .inl l
  ·show .inr (k,c,e,R x c e _ z)
 ·let(v,z):=I.cell x c e
  show#[v,R x c e v z]
 ·let(m,(o,_,_,J,_),_):=I.loc
  show free _ o (λz=>(S _ z).2.1 rfl) J I.free
 ·let(v,o,J,j):=I.cell x c e
  show free c o (λz=>(S c z).2.2.1 x c e rfl) J (I.iG x c e)
 ·let(e,n,f,g,d):=I.pin p a
  let U:p.1∉ch:=λz=>(S p.1 z).2.2.2 p a rfl;show(T p.1 p.2 f g U e n,free p.1 p.2 U e n,f,g,d)
def Inv.un (I:Inv X AP Z H s)(u:Un X.fs [] H H' s.heap h')(N:lR X.prog X.w H' h'):Inv X AP Z H' {s with heap:=h',toks:=t'}:=by
 let(m,(o,E,D,S,r),_):=id I.loc;let(L,P):=u.any S I.free gN
 show I.step (g':=s.gens) (d':=s.drawn) (ch:=[]) (λ_ z=>nomatch z) (λb o _ U _ e n=>u.keep b o e n U gN) (λb o _ U _ e n=>u.slot b o e n U gN) (λb o _ e n=>u.free b o e n gN) (λb o _ e=>u.there b o e gN) u.mX u.lS u.lT (λG Q=>by
  let(J,T,M,Y,R):=Q;erw[S] at Y
  show(_,T,M,P,R)) N I.bare
def Inv.call (I:Inv X AP Z H s)(u:Un (pT X.stack) ch H H' s.heap h')(J:lR X.prog X.w H' h')(M:WU g')
  (U:∀b∈ch,(b∈X.ex\/↑(X.qe)<=b)/\b≠X.env.locals/\(∀x c,X.env.cells.lookup x==c->c≠b)/\∀p∈X.pn++AP,p.1≠b):
  Inv X AP Z H' {s with heap:=h',gens:=g',drawn:=d',toks:=t'}:=by
 let(m,(o,B,A,Q,r),_):=id I.loc;let(E,S):=u.any Q I.free λz=>(U _ z).2.1 rfl
 show I.step (ch:=ch) U (λb o S L Y e n=>u.keep b o e n (λz=>(QQ.mp (I.FX b z)).elim S L) Y) (λb o _ _ Y e n=>u.any e n Y) (λb o Y e n=>u.free b o e n Y) (λb o Y e=>u.there b o e Y) u.mX u.lS u.lT (λC N=>by
  let(D,R,G,T,P):=N;erw[Q] at T
  show(_,R,G,S,P)) J M
def Inv.turned (I:Inv X AP Z H s)(k:∀b o,b≠it->s.heap.get? b==o->h'.get? b==o)(R:H it=none)(T:it≠X.env.locals)
  (L:it∈X.ex\/↑(X.qe)<=it) (M:∀x c,X.env.cells.lookup x==c->c≠it) (N:∀p∈X.pn++AP,p.1≠it):Inv X AP Z H {s with heap:=h',toks:=t'}:=by
 let U:∀b u,H b==u->b≠it:=λb u e z=>by erw[z,R] at e
 show I.step (g':=s.gens) (d':=s.drawn) (ch:=[it]) (λb P=>?_) (λb o _ _ Y e _=>k b o (λz=>Y (by simp[z])) e) (λb o _ _ Y e _=>#[o.slots,k b o (λz=>Y (by simp[z])) e]) (λ_ _ _ _ n=>n)
  (λb o Y e=>#[o,k b o (λz=>Y (by simp[z])) e]) (λ_ _ e=>e) (λ_ _ _ e=>e) (λb E e=>#[#[],by rw[e];simp]) (λm Q=>?_) (λb u e=>?_) I.bare
 ·let e:b=it:= ~~~P
  subst e;show(L,T,M,N)
 ·let(o,J,G,S,r):=Q
  show(o,J,G,k _ o (CV T) S,r)
 ·show(I.bU b u e).pH (λc v Y q=>k c v ?_ q) (λ_ q=>q) λ_ _ q=>q
  rcases Y with z|z
  ·rw[z];show U b u e
  ·show U c _ z
def Inv.tok (I:Inv X AP Z H s)(t:Nat):Inv X AP Z H {s with toks:=t}:=I.un (h':=s.heap) (t':=t) Un.refl I.bU
theorem Inv.kept (I:Inv X AP Z H s)(k:∀b u,s.heap.get? b==u->h'.get? b==u):Inv X AP Z H {s with heap:=h',toks:=t'}:=I.un (Un.kept k) (I.bU.kept k)
theorem Inv.laid {a:BQ}(I:Inv X AP Z H s)(k:∀b u,s.heap.get? b==u->h'.get? b==u)(U:↑s<=a)(Y:ck X.prog X.w (upd H a o) h' a o):
  Inv X AP Z (upd H a o) {s with heap:=h',toks:=t'}:=I.un (Un.laid k U (I.bU.fresh U)) (I.bU.laid k U Y)
theorem Inv.write (I:Inv X AP Z H s)(T:Mut (H x))(S:e=x\/H e==.own x)(k:∀b u,b≠e->s.heap.get? b==u->h'.get? b==u)(Y:∃u,h'.get? e==u)
  (U:ck X.prog X.w (upd H x o) h' x o):Inv X AP Z (upd H x o) {s with heap:=h',toks:=t'}:=I.un (Un.write T S k Y) (I.bU.write T S k Y U)
def Inv.Tv (I:Inv X AP Z H s)(h:∀p∈Y,s.heap.get? p.1==p.2/\H p.1=none/\p.1≠X.env.locals/\p.1∉X.fs/\∀v,p.2.data≠.cell v):Inv X Y Z H s:=
 (I.ok,I.os,I.bare,I.gV,I.loc,I.cell,I.free,I.iG,λp U=>(OB.mp U).elim (λz=>I.pin p (Vo _ z)) (h p),I.bU,I.len)
def xM {N:τ}(Y:N.Nodup){i j:Nat}(a:N[i]?==x)(b:N[j]?==x):i=j:=by
 let(R,T):=ir.mp a;let(S,U):=ir.mp b;show(List.getElem_inj Y).mp (T>>>U.symm)
def aj2 {E:γ}{Q:Ρ}(I:Inv X AP Z H s)(hN:X.N.Nodup)(g:X.N[i]?==x)(R:Loc X.env.scope x)(r:RelV v u)
  (h:∀s',Inv X AP (Z.set i (some v)) H s' ->(∃a,WV a s.heap s'.heap/\(a=X.env.locals\/X.env.cells.lookup x==a))->Q () s') (hf:X.fn x=true\/X.env.scope.names.lookup x==.local:=by first|show .inl rfl|show .inr rfl|assumption):BX M A (storeName X.env x u) Q E s:=by
 let(m,hn,hl):=id I.loc;have α':(X.env.scope.kind⊆.class || (X.env.scope.kind⊆.module && X.env.locals !=X.env.globals))=false:=by rw[I.ok.kind];rfl
 let B:i < Z.length:=by rw[I.len];show(ir.mp g).1
 let X6:=I.X6
 let U:∀{a:BQ} {h':Heap},(∃o,s.heap.get? a==o/\H a=none)->WV a s.heap h' ->lR X.prog X.w H h':=λ{a h'} ha Y b ob e=>by
  let(_,_,Oz):=ha;show(I.bU b ob e).pH (λc f S q=>(Y.2 c ?_).trans q) (λ_ q=>q) λ_ _ q=>q;rintro rfl
  rcases S with rfl|S
  ·erw[Oz] at e
  ·erw[Oz] at S
 rcases R with P|P
 ·show wpAny_storeName_local P hn (λh' EB Y=>?_) α'
  let(oL,_,_,hoL,_):=id hn;show h _ (I.ok,I.os,I.bare,(λb o e n G R=>?_,λb o e n G R=>?_,I.gV.free,λb o e R=>?_,I.gV.mX,I.gV.lS,I.gV.lT),(_,EB,λj y v' T D e3=>?_),λy c e=>?_,I.free,I.iG,λp hp=>?_,U (oL,hoL,I.free) Y,~~~I.len) (_,Y,.inl rfl)
  ·show(Y.2 b (QV (Qi (GK e) I.ok.above))).trans (I.gV.keep b o e n G R)
  ·let(sl,T):=I.gV.slot b o e n G R
   show#[sl,(Y.2 b (QV (Qi (GK e) I.ok.above))).trans T]
  ·let(o',T):=I.gV.there b o e R
   show#[o',(Y.2 b (QV (Qi (GK e) I.ok.above))).trans T]
  ·by_cases L:j=i
   ·subst L
    erw[g] at T;erw[alX B] at D;show(u,r,.inl #[P,by simp])
   ·rw[al9 (CV L)] at D
    let(u',r',q):=hl j y v' T D e3;show(u',r',2)
    rcases q with ⟨k,e⟩|⟨k,c,e,z⟩
    ·show .inl #[k,2]
     have:y≠x:=λe=>L (xM hN T (e▸g));simp[this,e]
    ·show .inr (k,c,e,z.sameBut Y (X6 y c e))
  ·let(f,z):=I.cell y c e
   show#[f,z.sameBut Y (X6 y c e)]
  ·let(e,n,ne,nf,d):=I.pin p hp
   show((Y.2 p.1 ne).trans e,n,ne,nf,d)
 ·let J:X.fn x=true:=by
   rcases hf with z|z
   ·show z
   ·erw[z] at P
  let(c,S):=I.ok.has x (.inl P);let(f,z):=I.cell x c S;show wpAny_storeName_cell I.ok.kind P S z (λh' vn Y=>?_);let(oc,C,awt):=id z;show h (s⊂h') (I.ok,I.os,I.bare,(λb o e n G R=>?_,λb o e n G R=>?_,I.gV.free,λb o e R=>?_,I.gV.mX,I.gV.lS,I.gV.lT),(m,hn.sameBut Y (CV (X6 x c S)),λj y v' T D e3=>?_),λy c' e=>?_,I.free,I.iG,λp hp=>?_,U (oc,C,I.iG x c S) Y,~~~I.len) (c,Y,.inr S)
  ·show(Y.2 b (QV (Qi (GK e) (I.ok.cab x c J S)))).trans (I.gV.keep b o e n G R)
  ·let(sl,T):=I.gV.slot b o e n G R
   show#[sl,(Y.2 b (QV (Qi (GK e) (I.ok.cab x c J S)))).trans T]
  ·let(o',T):=I.gV.there b o e R
   show#[o',(Y.2 b (QV (Qi (GK e) (I.ok.cab x c J S)))).trans T]
  ·by_cases L:j=i
   ·subst L
    erw[g] at T;erw[alX B] at D;show(u,r,.inr (.inl P,c,S,vn))
   ·rw[al9 (CV L)] at D
    let(u',r',q):=hl j y v' T D e3;show(u',r',2)
    rcases q with q|⟨k,c',e,z'⟩
    ·show .inl q
    ·show .inr (k,c',e,z'.sameBut Y ?_)
     rintro rfl;show L (xM hN T (I.ok.inj _ _ _ e S▸g))
  ·by_cases QM:c'=c
   ·subst QM;show#[_,vn]
   ·let(w2,z2):=I.cell y c' e
    show#[w2,z2.sameBut Y QM]
  ·let(e,n,ne,nf,d):=I.pin p hp
   show((Y.2 p.1 ?_).trans e,n,ne,nf,d);intro q;rw[q,C] at e;let q':oc=p.2:=VE e;show d f (by rwa[<-q'])
def m7 {E:γ}{Q:Ρ}(I:Inv X AP Z H s)(S:X.N.Nodup)(U:X.N[i]?==x)(Y:Loc X.env.scope x)(r:RelV v u)
  (h:∀s',Inv X AP (Z.set i (some v)) H s' ->Q () s') (T:X.fn x=true\/X.env.scope.names.lookup x==.local:=by first|show .inl rfl|show .inr rfl|assumption):BX M A (storeName X.env x u) Q E s:=
 aj2 I S U Y r (λs' R _=>h s' R) T
def Inv.Tw (I:Inv X AP Z H s)(T:s'.os=s.os)(u:Un (pT X.stack) ch H H' s.heap s'.heap)(R:lR X.prog X.w H' s'.heap)(S:WU s'.gens)
  (Y:∀b∈ch,(b∈X.ex\/↑(X.qe)<=b)/\b≠X.env.locals/\(∀x c,X.env.cells.lookup x==c->c≠b)/\∀p∈X.pn++AP,p.1≠b):Inv X AP Z H' s':=by
 let(h',g',d',t',U):=s';let e:U=s.os:=T;subst e;show I.call (g':=g') (t':=t') (d':=d') u R S Y
end
abbrev XK:=Value->Option BQ->Hp->Prop
abbrev St:=List (Option V)
abbrev VK:=V->Hp->Prop
abbrev _root_.Λ:=V->Option Int->Option Int->Hp->VK->Prop
abbrev _root_.Φ:=V->List V->Hp->VK->Prop
abbrev TE:=St->Hp->VK->Prop
abbrev TT:=St->Hp->(Bool->Hp->Prop)->Prop
abbrev TA:=St->Hp->(List V->Hp->Prop)->Prop
structure Ends where
 nx:St->Hp->Prop
 rt:VK
 bk:St->Hp->Prop:=λ_ _=>False
 ct:St->Hp->Prop:=λ_ _=>False
abbrev TS:=Ends->St->Hp->Prop
def EP (X:Cx)(AP:ζ)(Z:St)(Q:VK)(u:Value)(s':CH):Prop:=∃v Y,Inv X AP Z Y s'/\RelV v u/\Q v Y
def TP (X:Cx)(AP:ζ)(Z:St)(Q:Bool->Hp->Prop)(b:Bool)(s':CH):Prop:=∃Y,Inv X AP Z Y s'/\Q b Y
def pins (X:Cx)(AP:ζ)(Z:St)(Q:List V->Hp->Prop)(us:ς)(s':CH):Prop:=∃Y U,Inv X AP Z U s'/\Vals Y us/\Q Y U
def SP (X:Cx)(AP:ζ)(D:Ends)(f:Flow)(s':CH):Prop:=
 match f with
 | .next=>∃Y Z,Inv X AP Y Z s'/\D.nx Y Z
 | .brk=>∃Y Z,Inv X AP Y Z s'/\D.bk Y Z
 | .cont=>∃Y Z,Inv X AP Y Z s'/\D.ct Y Z
 | .ret u=>∃v Y Z,Inv X AP Y Z s'/\RelV v u/\D.rt v Z
def PE (X:Cx)(e:Expr)(t:TE):Prop:=
 ∀(Y:ζ)(s:CH)(Z:St)(H:Hp)(Q:VK),Inv X Y Z H s->t Z H Q->BX .q X.A (CQ e X.env) (EP X Y Z Q) X.xe s
def PT (X:Cx)(e:Expr)(t:TT):Prop:=
 ∀(Y:ζ)(s:CH)(Z:St)(H:Hp)(Q:Bool->Hp->Prop),Inv X Y Z H s->t Z H Q->BX .q X.A (isTrue e X.env (CQ e X.env)) (TP X Y Z Q) X.xe s
def PW (X:Cx)(e:Expr)(t:TT):Prop:=
 ∀(Y:Sem Value)(U:ζ)(s:CH)(Z:St)(H:Hp)(Q:Bool->Hp->Prop),Inv X U Z H s->t Z H Q->BX .q X.A (isTrue e X.env Y) (TP X U Z Q) X.xe s
def PW.pt (h:PW X e t):PT X e t:=h _
def PA (X:Cx)(T:ω)(t:TA):Prop:=
 ∀(Y:Pos)(U:ζ)(s:CH)(Z:St)(H:Hp)(Q:List V->Hp->Prop),Inv X U Z H s->t Z H Q->BX .q X.A (spliced (QS Y (CW T X.env))) (pins X U Z Q) X.xe s
def PS (X:Cx)(st:Stmt)(t:TS):Prop:=
 ∀(Y:ζ)(s:CH)(Z:St)(H:Hp)(D:Ends),Inv X Y Z H s->t D Z H->BX .q X.A (exec st X.env) (SP X Y D) X.xe s
def tf (X:Cx)(st:List Stmt)(t:TS):Prop:=
 ∀(Y:ζ)(s:CH)(Z:St)(H:Hp)(D:Ends),Inv X Y Z H s->t D Z H->BX .q X.A (execs st X.env) (SP X Y D) X.xe s
def cH {Q Z:Y->CH->Prop}{E:γ}(h:BX M A t Q E s)(X:∀a s,Q a s->Z a s):BX M A t Z E s:=Oy h X λ_ _ x=>x
section
variable {X:Cx}
inductive aii (i:Nat)(Z:St)(H:Hp)(Q:VK):Prop
|mk (v:_)(_:Z[i]?==(some v))(_:Q v H)
def tC (v:V):TE:=λ_ H Q=>Q v H
def aij {S:Pos}(D:X.N[i]?==x)(L:Vis X.env.scope x)(R:.z=false:=by decide)(M:(x⊆("__classdict__":Str))=false:=by decide):PE X (.Name x S) (aii i):=by
 intro C s Z H Q I h;let(v,e,h):=h;let(m,J,E):=I.loc;let(u,r,l):=E i x v D e L;let T:EP X C Z Q u s:=(v,H,I,r,h)
 rcases l with ⟨U,G⟩|⟨U,c,P,Y⟩
 ·show wpAny_Name (wpAny_loadName_local I.ok.kind U J G T) R
 ·rcases U with U|U
  ·show wpAny_Name (wpAny_loadName_cell I.ok.kind U P Y T) R
  ·show wpAny_Name (wpAny_loadName_free I.ok.kind U P Y T M) R
def ag :PE X (.Constant ↥i j pos) (tC ↥i):=λ_ _ _ H _ I h=>wpAny_Constant_int (↥i,H,I.tok _,#[0],h)
def OA :PE X (.Constant (.bool b) j pos) (tC (.bl b)):=λ_ _ _ H _ I h=>Constant_bool (.bl b,H,I,O,h)
def gO :PE X (.Constant .none j pos) (tC .cS):=λ_ _ _ H _ I h=>Constant_none (.cS,H,I,O,h)
def dQ :PE X (.Constant (.str x) j pos) (tC (.str x)):=λ_ _ _ H _ I h=>Calls.Constant_str (.str x,H,I.tok _,#[0],h)
def Gl (X:Cx)(x:Str):Prop:=X.env.kindOf x==.globalImplicit
def iP {E:γ}{Z:St}{Q:γ}(I:Inv X AP Z H s)(U:Gl X x)(Y:X.mg x==u)(h:Q u s)
  (T:.z=false:=by decide):BX .q X.A (CQ (.Name x pos) X.env) Q E s:=
 Calls.Name_function_global I.ok.kind U (Calls.loadGlobal_global (![I.ok.glob] (I.mod.glob.keeps I.bk)) Y h) T
def gP {E:γ}{Z:St}{Y:Pos}{Q:γ}(I:Inv X AP Z H s)(R:Gl X x)(S:X.mg x=none)(U:V0 x==u)(h:Q u s)
  (T:x≠ "__name__":=by decide) (P:.z=false:=by decide):BX .q X.A (CQ (.Name x Y) X.env) Q E s:=by
 let(L,M,N):=I.mod.blt;show Calls.Name_function_global I.ok.kind R (Calls.loadGlobal_builtin (![I.ok.glob] (I.mod.glob.keeps I.bk)) S (![I.ok.blt] (M.keeps I.bk)) ((N x T).trans U) h) P
def eJ (Y:Gl X x)(Z:X.mg x==u)(r:RelV v u)(U:.z=false:=by decide):PE X (.Name x pos) (tC v):=
 λ_ _ _ H _ I h=>iP I Y Z (v,H,I,r,h) U
def aex {Z:Pos}(S:Gl X x)(T:X.mg x=none)(Y:V0 x==u)(r:RelV v u)(U:x≠ "__name__":=by decide)(R:.z=false:=by decide):PE X (.Name x Z) (tC v):=
 λ_ _ _ H _ I h=>gP I S T Y (v,H,I,r,h) U R
variable {a b:Expr}{ta tb:TE}{pos:Pos}
def PC (X:Cx)(T:CmpOp)(a b:Expr)(t:TE):Prop:=
 ∀(Y:ζ)(s:CH)(Z:St)(H:Hp)(Q:VK),Inv X Y Z H s->t Z H Q->
  BX .q X.A (CQ a X.env) (λv S=>BX .q X.A (CQ b X.env) (λu U=>BX .q X.A (V2 T v u) (EP X Y Z Q) X.xe U) X.xe S) X.xe s
inductive tB_ (Q:(Bool->Hp->Prop))(x:V)(Z:Hp):Prop
|mk (c:_)(_:x=.bl c)(_:Q c Z)
def tB (t:TE):TT:=λZ H Q=>t Z H (tB_ Q)
def m9 (h:PC X op a b t)(Y:TN op b=false:=by first|show nobehind _ gM gM|rfl):PT X (.Compare a [op] [b] pos) (tB t):=by
 intro M s Z H Q I S;show wpAny_isTrue_Compare1 (cH (h M s Z H _ I S) λv G Y=>cH Y λu J R=>cH R λc L ⟨x,N,P,U,T⟩=>?_) Y;let(d,rfl,q):=T;cases U;show PM (N,P,q)
def qi (h:PE X e t)(R:∀Y,isTrue e X.env Y=(do let v <- Y;standAt e.pos;Zx [v] (truthy v)):=by intro _;rfl):PT X e (tB t):=by
 intro M s Z H Q I S;show isTrue_plain (cH (h M s Z H _ I S) λv L ⟨x,N,P,U,T⟩=>?_) (R _);let(d,rfl,q):=T;cases U;show PM (N,P,q)
variable {tA tB':TT}{rest:ω}
def aik (u:TT)(Z:L2.St)(Q:(Bool->Hp->Prop))(c:Bool)(Y:Hp):Prop:=if c=true then u Z Y Q else Q false Y
def awu (t u:TT):TT:=λZ H Q=>t Z H (aik u Z Q)
def amq (u:TT)(Z:L2.St)(Q:(Bool->Hp->Prop))(c:Bool)(Y:Hp):Prop:=if c=true then Q true Y else u Z Y Q
def tOr (t u:TT):TT:=λZ H Q=>t Z H (amq u Z Q)
def awv (t:TT):TT:=λZ H Q=>t Z H λc Y=>Q (!c) Y
def jS (Y:PT X a tA):PW X (.BoolOp .And [a] pos) tA:=by
 intro T U s Z H Q I h;show isTrue_and (cH (Y U s Z H Q I h) λc S e=>?_);cases c with
 | true=>show isTrue_and_nil e
 | false=>show e
def xN (Y:PT X a tA):PW X (.BoolOp .Or [a] pos) tA:=by
 intro T U s Z H Q I h;show isTrue_or (cH (Y U s Z H Q I h) λc S e=>?_);cases c with
 | false=>show isTrue_or_nil e
 | true=>show e
def m_ (M:PT X a tA)(N:PW X (.BoolOp .And (b::rest) pos) tB'):PW X (.BoolOp .And (a::b::rest) pos) (awu tA tB'):=by
 intro R S s Z H Q I h;show isTrue_and (cH (M S s Z H _ I h) λc P ⟨T,U,Y⟩=>?_);cases c with
 | true=>show N R S P Z T Q U Y
 | false=>show(T,U,Y)
def EC (M:PT X a tA)(N:PW X (.BoolOp .Or (b::rest) pos) tB'):PW X (.BoolOp .Or (a::b::rest) pos) (tOr tA tB'):=by
 intro R S s Z H Q I h;show isTrue_or (cH (M S s Z H _ I h) λc P ⟨T,U,Y⟩=>?_);cases c with
 | true=>show(T,U,Y)
 | false=>show N R S P Z T Q U Y
def ail (Y:PT X a tA):PT X (.UnaryOp .Not a pos) (awv tA):=by
 intro T s Z H Q I h;show isTrue_not (Y T s Z H (λc U=>Q (!c) U) I h)
def aey (tb:TE)(Z:L2.St)(Q:VK)(x:V)(Y:Hp):Prop:=∃c,x=.bl c/\if c=true then tb Z Y Q else Q (.bl false) Y
def amr (ta tb:TE):TE:=λZ H Q=>ta Z H (aey tb Z Q)
def aim (tb:TE)(Z:L2.St)(Q:VK)(x:V)(Y:Hp):Prop:=∃c,x=.bl c/\if c=true then Q (.bl true) Y else tb Z Y Q
def aww (ta tb:TE):TE:=λZ H Q=>ta Z H (aim tb Z Q)
def QN (h:PE X a t):PE X (.BoolOp op [a] pos) t:=λU s Z H Q I Y=>BoolOp_one (h U s Z H Q I Y)
def QO (M:PE X a ta)(N:PE X (.BoolOp .And (b::rest) pos) tb):PE X (.BoolOp .And (a::b::rest) pos) (amr ta tb):=by
 intro S s Z H Q I h;show BoolOp_and (cH (M S s Z H _ I h) λv R ⟨x,T,U,P,Y⟩=>?_);let(c,rfl,Y):=Y;cases P;show PM ?_;cases c with
 | true=>show N S R Z T Q U Y
 | false=>show(.bl false,T,U,O,Y)
def ams (M:PE X a ta)(N:PE X (.BoolOp .Or (b::rest) pos) tb):PE X (.BoolOp .Or (a::b::rest) pos) (aww ta tb):=by
 intro S s Z H Q I h;show BoolOp_or (cH (M S s Z H _ I h) λv R ⟨x,T,U,P,Y⟩=>?_);let(c,rfl,Y):=Y;cases P;show PM ?_;cases c with
 | false=>show N S R Z T Q U Y
 | true=>show(.bl true,T,U,O,Y)
def amt (ta:TE)(tb:TE)(Z:L2.St)(Q:VK)(c:Bool)(Y:Hp):Prop:=if c=true then ta Z Y Q else tb Z Y Q
def tIf (t:TT)(ta tb:TE):TE:=λZ H Q=>t Z H (amt ta tb Z Q)
def xO (P:PT X c tA)(M:PE X a ta)(N:PE X b tb):PE X (.IfExp c a b pos) (tIf tA ta tb):=by
 intro Y s Z H Q I h;show wpAny_IfExp (cH (P Y s Z H _ I h) λd U ⟨R,S,T⟩=>?_);cases d with
 | true=>show M Y U Z R Q S T
 | false=>show N Y U Z R Q S T
end
def aY (K:Frag)(H:Hp)(a:BQ)(xs:ε):Prop:=
 Rd H a (.lst xs)\/
  ∃(o:Obj)(Z:Ζ)(n:Nat),K.lookup a==o/\o.cls=.type "list"/\o.dict=none/\o.data=.seq Z n/\Z.size<=CM/\Vals xs Z.toList
def cb (K:Frag)(H:Hp)(a:BQ)(xs:ε):Prop:=
 Rd H a (.tup xs)\/
  ∃(o:Obj)(Z:Ζ)(n:Nat),K.lookup a==o/\o.cls=.type "tuple"/\o.data=.seq Z n/\Z.size<=CM/\Vals xs Z.toList
def awx:Value->Option V
 | .none=>some .cS
 | .bool b=>some (.bl b)
 | .int i _=>some ↥i
 | .str x _=>some (.str x)
 | .bytes b _=>some (.vi b)
 | .float b _=>some (.flt b)
 | .ref a=>some ⇑a
 | .type n=>some (.ty n)
 | _=>none
def RelV.abs (r:RelV x u):awx u==x:=by
 cases x with
 | cS=>cases r;rfl
 | bl _=>cases r;rfl
 | int _=>let(t,rfl):=r;rfl
 | str _=>let(t,rfl):=r;rfl
 | vi _=>let(t,rfl):=r;rfl
 | flt _=>let(t,rfl):=r;rfl
 | ref _=>cases r;rfl
 | ty _=>cases r;rfl
def RelV.inj (r:RelV x u)(q:RelV y u):x=y:=VE (r.abs.symm>>>q.abs)
theorem Vals.inj:∀{xs ys:ε} {us:ς},Vals xs us->Vals ys us->xs=ys:=by
 intro xs ys us h;induction h generalizing ys with|nil=>intro g;cases g;rfl|cons r t X=>intro g;cases g with|cons Y Z=>rw[r.inj Y,X Z]
section
variable {X:Cx}{AP:ζ}{Z:St}{H:Hp}{s:CH}{a:BQ}{xs ys:ε}
def aY.of {K:Frag}(h:H a==.lst xs):aY K H a xs:=.inl (.inl h)
def cb.of {K:Frag}(h:H a==.tup xs):cb K H a xs:=.inl (.inl h)
def Inv.list (I:Inv X AP Z H s)(h:aY X.K H a xs):∃BS:List Value,Vals xs BS/\PlainL s.heap a BS.toArray/\xs.length<=CM:=by
 rcases h with h|⟨o,BS,n,U,S,T,Y,R,r⟩
 ·let(z,BS,n,r,e):=h.ok I.bU
  show(BS,r,(_,n,e,8,O),z)
 ·show(BS.toList,r,(o,n,I.lQ a o U,S,T,~~~Y),2)
  let e:=r.length;simp only[amo] at e;omega
def Inv.tuple (I:Inv X AP Z H s)(h:cb X.K H a xs):∃BS:List Value,Vals xs BS/\IsTup s.heap a BS.toArray/\xs.length<=CM:=by
 rcases h with h|⟨o,BS,n,U,T,Y,S,r⟩
 ·let(z,BS,r,p):=h.ok I.bU
  show(BS,r,p,z)
 ·show(BS.toList,r,(o,I.lQ a o U,T,n,~~~Y),2)
  let e:=r.length;simp only[amo] at e;omega
def Inv.kK (I:Inv X AP Z H s)(h:aY X.K H a xs)(h':aY X.K H a ys):xs=ys:=by
 let(R,r,(o,n,e,_,_,d),_):=I.list h;let(U,T,(Q,P,S,_,_,Y),_):=I.list h';erw[e] at S;rw[d] at Y;injection Y with d1 _
 have:R=U:= ~~~sU au6 d1
 subst this;show r.inj T
def Inv.oH (I:Inv X AP Z H s)(h:cb X.K H a xs)(h':cb X.K H a ys):xs=ys:=by
 let(R,r,(o,e,_,n,d),_):=I.tuple h;let(U,T,(Q,S,_,P,Y),_):=I.tuple h';erw[e] at S;rw[d] at Y;injection Y with d1 _
 have:R=U:= ~~~sU au6 d1
 subst this;show r.inj T
end
abbrev Cx.tZ (X:Cx)(E:γ):Cx:={X with xe:=E}
abbrev Cx.t_ (X:Cx):Cx:=X.tZ λ_ _=>False
theorem Cx.Ok.tZ {X:Cx}(Z:X.Ok)(E:γ):(X.tZ E).Ok:=
 (Z.mod,Z.kind,Z.glob,Z.blt,Z.above,Z.inj,Z.has,Z.cab,Z.hd,Z.frames,Z.stk,Z.exf,Z.bs,Z.X5,Z.QK,Z.Ve,Z.qh,Z.frf)
def Cx.Ok.js {X:Cx}(Z:(X.tZ E).Ok):X.Ok:=
 (Z.mod,Z.kind,Z.glob,Z.blt,Z.above,Z.inj,Z.has,Z.cab,Z.hd,Z.frames,Z.stk,Z.exf,Z.bs,Z.X5,Z.QK,Z.Ve,Z.qh,Z.frf)
section
variable {X:Cx}{AP:ζ}{Z:St}{H:Hp}{s:CH}{E:γ}
theorem Inv.tZ (I:Inv X AP Z H s)(E:γ):Inv (X.tZ E) AP Z H s:=(I.ok.tZ E,I.os,I.bare,I.gV,I.loc,I.cell,I.free,I.iG,I.pin,I.bU,I.len)
theorem Inv.js (I:Inv (X.tZ E) AP Z H s):Inv X AP Z H s:=(I.ok.js,I.os,I.bare,I.gV,I.loc,I.cell,I.free,I.iG,I.pin,I.bU,I.len)
theorem SP.js (h:SP (X.tZ E) AP D f s'):SP X AP D f s':=by
 cases f with
 | next=>let(Y,U,I,q):=h;show(Y,U,I.js,q)
 | brk=>let(Y,U,I,q):=h;show(Y,U,I.js,q)
 | cont=>let(Y,U,I,q):=h;show(Y,U,I.js,q)
 | ret u=>let(v,Y,U,I,r,q):=h;show(v,Y,U,I.js,r,q)
theorem tf.t_ {st:List Stmt}(h:tf X.t_ st t):tf X st t:=λAP s Z H D I Y=>
 Oy (h AP s Z H D (I.tZ _) Y) (λ_ _ q=>q.js) λ_ _ z=>False.elim z
end
section
variable {X:Cx}{st:Stmt}{rest:List Stmt}{t u:TS}{e:Expr}{te:TE}{pos:Pos}
def ag0:TS:=λD Z H=>D.nx Z H
def DB (t u:TS):TS:=λD Z H=>t {D with nx:=u D} Z H
def aQ:tf X [] ag0:=λ_ _ Z H _ I h=>EX (Z,H,I,h)
def aa (S:PS X st t)(T:tf X rest u):tf X (st::rest) (DB t u):=by
 intro Y s Z H D I h;show Ul (cH (S Y s Z H {D with nx:=u D} I h) λf U q=>?_);cases f with
 | next=>
  let(R,P,Q,q):=q;show T Y U R P D Q q
 | ret v=>show q
 | brk=>show q
 | cont=>show q
def aj (Y:PS X st t):tf X [st] t:=by
 intro U s Z H D I h;show Ul (cH (Y U s Z H D I h) λf T q=>?_);cases f with
 | next=>show EX q
 | ret v=>show q
 | brk=>show q
 | cont=>show q
def amu:TS:=λD Z H=>D.ct Z H
def acy:PS X (.Continue pos) amu:=λ_ _ Z H _ I h=>wpAny_Continue (Z,H,I,h)
def Inv.quiet {Z:St}(I:Inv X AP Z H s):interactive X.env=false:=by simp[interactive,I.ok.kind]
def oI (D:Ends)(Z:L2.St)(U:V)(Y:Hp):Prop:=D.nx Z Y
def amv (te:TE):TS:=λD Z H=>te Z H (oI D Z)
def cn (T:PE X e te)(U:Zg e none pos.line X.env=pure false:=by rfl):PS X (.Expr e pos) (amv te):=by
 intro Q s Z H D I h;show wpAny_Expr_any (cH (T Q s Z H _ I h) λv P ⟨x,R,S,N,Y⟩=>(Z,R,S,Y)) I.quiet U
def awy (te:TE):TS:=λD Z H=>te Z H D.rt
def aC (T:PE X e te):PS X (.Return (some e) pos) (awy te):=by
 intro Q s Z H D I h;show wpAny_Return_some (cH (T Q s Z H _ I h) λv P ⟨x,R,S,Y,U⟩=>(x,Z,R,S,Y,U))
def aio (t:TS)(u:TS)(D:Ends)(Z:L2.St)(b:Bool)(Y:Hp):Prop:=if b=true then t D Z Y else u D Z Y
def awz (c:TT)(t u:TS):TS:=λD Z H=>c Z H (aio t u D Z)
def bN (Q:PT X c tc)(N:tf X a t)(P:tf X b u):PS X (.If c a b pos) (awz tc t u):=by
 intro Y s Z H D I h;show wpAny_If (cH (Q Y s Z H _ I h) λd U ⟨R,S,T⟩=>?_);cases d with
 | true=>show N Y U Z R D S T
 | false=>show P Y U Z R D S T
def aip:TS:=λ_ _ _=>False
def ig:PS X st aip:=λ_ _ _ _ _ _ h=>h.elim
end
abbrev TG:=V->St->Hp->(St->Hp->Prop)->Prop
abbrev TGs:=List V->St->Hp->(St->Hp->Prop)->Prop
def PG (X:Cx)(Y:Expr)(t:TG):Prop:=
 ∀(S:ζ)(s:CH)(Z:St)(H:Hp)(v:V)(u:Value)(Q:St->Hp->Prop),Inv X S Z H s->RelV v u->t v Z H Q->
  BX .q X.A (assign Y X.env u) (λ_ R=>∃U T,Inv X S U T R/\Q U T) X.xe s
def PGs (X:Cx)(P:ω)(t:TGs):Prop:=
 ∀(R:ζ)(s:CH)(Z:St)(H:Hp)(Y:ε)(U:ς)(Q:St->Hp->Prop),Inv X R Z H s->Vals Y U->t Y Z H Q->
  BX .q X.A (assignInOrder ((ER P X.env).map (·.2)) U) (λ_ N=>∃T S,Inv X R T S N/\Q T S) X.xe s
abbrev Za:=V->V->V->Hp->(Hp->Prop)->Prop
def amx (X:Cx)(t:Za):Prop:=
 ∀(S:ζ)(s:CH)(Z:St)(H:Hp)(o i v:V)(Y U u:Value)(Q:Hp->Prop),Inv X S Z H s->RelV o Y->RelV i U->RelV v u->t o i v H Q->
  BX .q X.A (setItem Y U u) (λ_ R=>∃T,Inv X S Z T R/\Q T) X.xe s
section
variable {X:Cx}{pos:Pos}
def dF (i:Nat):TG:=λv Z H Q=>Q (Z.set i (some v)) H
def dh (S:X.N.Nodup)(U:X.N[i]?==x)(Y:Loc X.env.scope x)(T:X.fn x=true\/X.env.scope.names.lookup x==.local:=by first|show .inl rfl|show .inr rfl|assumption):PG X (.Name x pos) (dF i):=by
 intro M s Z H v u Q I r h;show wpAny_assign_Name (m7 I S U Y r (λP R=>(_,H,R,h)) T)
def aez:TGs:=λY Z H Q=>Y=[]/\Q Z H
def ED (t:TG)(u:TGs):TGs:=λY Z H Q=>∃v r,Y=v::r/\t v Z H λU T=>u r U T Q
def cC:PGs X [] aez:=by
 intro T s Z H Y U Q I r h;let(e,h):=h;subst e;cases r;show assignInOrder_nil (Z,H,I,h)
def aK (N:PG X e t)(P:PGs X es u)
  (R:(ER (e::es) X.env).map (·.2)=assign e X.env::(ER es X.env).map (·.2):=by rfl):PGs X (e::es) (ED t u):=by
 intro Y s Z H E C Q I r h;let(v,D,M,h):=h;subst M;cases r with
 | cons r T=>
  rw[R];show assignInOrder_cons (cH (N Y s Z H _ _ _ I r h) λ_ U ⟨L,G,J,S⟩=>?_);show P Y U L G _ _ Q J T S
inductive Zb (K:Frag)(n:Nat)(t:TGs)(v:V)(Z:St)(H:Hp)(Q:(St->Hp->Prop)):Prop
|mk (a xs:_)(_:v=.ref a)(_:cb K H a xs)(_:xs.length=n)(_:t xs Z H Q)
def gy {k:Nat}(L:X.calm=true)(h:PGs X es t)
  (N:(ER es X.env).length=n:=by rfl) (E:(ER es X.env).findIdx? (·.1)=none:=by rfl):PG X (.Tuple es k pos) (Zb X.K n t):=by
 intro T s Z H v u Q I r Y;let(a,xs,G,P,M,Y):=Y;subst G;cases r;let(B,U,R,C):=I.tuple P;show assign_Tuple_tuple (I.ok.hd L) R (by simp[N,<-M,U.length]) E λJ S=>?_;let D:Inv X T Z H (s⊂J):=I.kept (t':=s.toks) λb o e=>S b o (QV (GK e)) e;show h T _ Z H xs _ Q D (~~~U) Y
def aiq (t:Za)(v:V)(Z:L2.St)(Q:(L2.St->Hp->Prop))(o:V)(i:V)(Y:Hp):Prop:=t o i v Y (Q Z)
def air (Y:TE)(t:Za)(v:V)(Z:L2.St)(Q:(L2.St->Hp->Prop))(o:V)(U:Hp):Prop:=Y Z U (aiq t v Z Q o)
def awA (Y U:TE)(t:Za):TG:=λv Z H Q=>Y Z H (air U t v Z Q)
def i8 (E:PE X o to)(D:PE X i ti)(G:amx X t)
  (C:∀v,assign (.Subscript o i pos) X.env v=(do
   let Y <- Zx [v] (CQ o X.env);let U <- Zx [v,Y] (CQ i X.env)
   standAt pos
   Zx [v,Y,U] (setItem Y U v)
   release [v,Y,U] []):=by intro _;rfl):PG X (.Subscript o i pos) (awA to ti t):=by
 intro T s Z H v u Q I r h;rw[C];show BR (VT (cH (E T s Z H _ I h) λY R ⟨x,p,z,N,J⟩=>?_));show BR (VT (cH (D T R Z p _ z J) λU S ⟨y,q,A,P,L⟩=>?_));show BR (TM (BR (VT (cH (G T S Z q x y v Y U u _ A N P r L) λ_ m ⟨w,B,M⟩=>?_))));show wpAny_release (Z,w,B,M)
def lU (g:TG)(D:Ends)(Z:L2.St)(x:V)(Y:Hp):Prop:=g x Z Y D.nx
def QP (Y:TE)(g:TG):TS:=λD Z H=>Y Z H (lU g D Z)
def gQ (N:PE X e te)(P:PG X tg g)(Q:swapsWithSole [tg] e pos.line X.env=pure false:=by rfl)(R:swappedStores [tg] e X.env=pure none:=by rfl)
  (M:(ER [tg] X.env).map (·.2)=[assign tg X.env]:=by rfl):PS X (.Assign [tg] e pos) (QP te g):=by
 intro Y s Z H D I h;show wpAny_Assign_stores (cH (N Y s Z H _ I h) λv U ⟨x,J,L,T,S⟩=>?_) Q R;rw[M];show cH (P Y U Z J x v _ L T S) λ_ G q=>q
def ais (M:X.N.Nodup)(R:X.N[i]?==x)(T:Loc X.env.scope x)(P:PE X e te)(S:Zg e (some (.Name x pos')) pos.line X.env=pure false:=by rfl)(Q:X.fn x=true\/X.env.scope.names.lookup x==.local:=by first|show .inl rfl|show .inr rfl|assumption):
  PS X (.Assign [.Name x pos'] e pos) (QP te (dF i)):=by
 intro E s Z H D I h;show wpAny_Assign_Name (cH (P E s Z H _ I h) λv B ⟨y,G,J,Y,U⟩=>?_) S;show m7 J M R T Y (λC L=>(_,G,L,U)) Q
inductive ag2 (i:Nat)(j:Nat)(D:Ends)(Z:St)(vs:ε)(Y:Hp):Prop
|mk (v w:_)(_:vs=[v,w])(_:D.nx ((Z.set i (some v)).set j (some w)) Y)
def awB (i j:Nat)(Y:TA):TS:=λD Z H=>Y Z H (ag2 i j D Z)
def ait (hc:X.calm=true)(M:X.N.Nodup)(c:X.N[i]?==x)(f:X.N[j]?==y)(R:i≠j)
  (P:X.env.scope.names.lookup x==.local) (Q:X.env.scope.names.lookup y==.local) (ha:PA X [a,b] ta)
  (k:swappedStores [.Tuple [.Name x px,.Name y py] kt pt] (.Tuple [a,b] k2 pt2) X.env=pure (some [x,y]))
  (g:swapsWithSole [.Tuple [.Name x px,.Name y py] kt pt] (.Tuple [a,b] k2 pt2) pos.line X.env=pure false:=by rfl):
  PS X (.Assign [.Tuple [.Name x px,.Name y py] kt pt] (.Tuple [a,b] k2 pt2) pos) (awB i j ta):=by
 intro G s Z H D I h;rw[exec_Assign_arm];show BR (TM ?_);rw[g];show BR (CO ?_);rw[iA gM];show BR (Tuple_ (cH (ha _ G s Z H _ I h) λE T ⟨vs,J,I1,B,S⟩=>?_));let(v,w,e1,S):=S;subst e1
 obtain ⟨U,Y,rfl,C,BM⟩:∃U Y,E=[U,Y]/\RelV v U/\RelV w Y:=by
  cases B with
  | cons p q=>
   cases q with
   | cons m u=>
    cases u;show(4,p,m)
 show Up ?_ (by change 2<=CM;decide);let I2:Inv X G Z J (T⊂T.heap.push ("tuple"^^^.seq [U,Y].toArray)):=I1.kept (t':=T.toks) λb o e=>GQ _ e;rw[k];show BR (CO ?_);change BX .q X.A (do rule "assign.swapped-stores";let items <- unpackItems (.ref ↑T) 2 none;assignInOrder [λv=>bindName X.env y v,λv=>bindName X.env x v] items.reverse;pure Flow.next) _ _ _;show BR (wpAny_rule (BR (unpackItems_tuple (items:= (List.toArray [U,Y])) (I.ok.hd hc) (IsTup.new T.heap _) λh' z =>?_)));let I3:=I2.kept (h':=h') (t':=T.toks) λb o e=>z b o (QV (GK e)) e;change BX _ _ (assignInOrder [λv=>bindName X.env y v,λv=>bindName X.env x v] [Y,U] >>=λ_=>pure Flow.next) _ _ _;show BR (assignInOrder_cons (wpAny_bindName (m7 I3 M f (.inl Q) BM (λs2 I4=>?_) (.inr Q))));show assignInOrder_cons (wpAny_bindName (m7 I4 M c (.inl P) C (λs3 L=>assignInOrder_nil (CO ?_)) (.inr P)));rw[List.set_comm\(CV R)] at L;show(_,J,L,S)
def zaf (c:TT)(R:TS):TS:=λD Z H=>∃W:Nat->St->Hp->Prop,(∃m,W m Z H)/\∀m Z H,W m Z H->
 c Z H λb T=>if b=true then ∃N:St->Hp->Prop,(∀U S,N U S ->∃Y,Y<m/\W Y U S)/\R {D with nx:=N,ct:=N,bk:=D.nx} Z T else D.nx Z T
def qY (E:PassesOwn .q X.A X.env X.xe)(i:PT X c tc)(g:tf X body tb):PS X (.While c body [] pos) (zaf tc tb):=by
 intro G s Z H D I h;let(W,(j,p),turn):=h;show wpAny_While (codeAny_whileLoop (λn k=>∃B u,Inv X G B u k/\W n B u) ?_ j (Z,H,I,p));rintro n m ⟨R,x,a,q⟩;show OZ E (cH (i G m R x _ a (turn n R x q)) λb o ⟨y,z,S⟩=>?_);cases b with
 | true=>
  let(N,C,S):=S;rw[iB rfl];show OZ E (cH (g G o R y _ z S) λf s3 T=>?_);cases f with
  | next=>
   let(Y,U,J,P):=T;let(M,L,Q):=C Y U P;show(M,L,Y,U,J,Q)
  | cont=>
   let(Y,U,J,P):=T;let(M,L,Q):=C Y U P;show(M,L,Y,U,J,Q)
  | brk=>show T
  | ret v=>show T
 | false=>
  rw[iA QW];show EX (R,y,z,S)
end
structure It where
 go:Nat->Hp->Prop
 yld:Nat->Hp->V->Hp->Prop
 stop:Nat->Hp->Prop
def ua (X:Cx)(AP:ζ)(H:Hp)(b:BQ):Prop:=
 H b=none/\b≠X.env.locals/\b∉X.fs/\(b∈X.ex\/↑(X.qe)<=b)/\(∀x c,X.env.cells.lookup x==c->c≠b)/\∀p∈X.pn++AP,p.1≠b
def Inv.vQ {Z:St}{b:BQ}(I:Inv X AP Z H s)(Y:↑s<=b)(T:H' b=none):ua X AP H' b:=by
 show(T,ZG (Qi I.lt Y),I.awr Y,.inr (CP I.sz Y),λx c e z=>?_,λp U z=>?_)
 ·let(v,q):=I.cell x c e
  show CC (Qi q.lt (by rwa[z])) (Sa _)
 ·show CC (Qi (GK (I.pin p U).1) (by rwa[z])) (Sa _)
structure Turn (P:HV)(w:World)(K:Frag)(tg:Expr)(J:It)(fp:Δ)(it:BQ)(tn:Nat->Heap->Prop):Prop where
 mem:it∈fp
 obj:∀i h,tn i h->∀b∈fp,∃o,h.get? b==o/\∀v,o.data≠.cell v
 keep:∀i h h',tn i h->(∀b∈fp,∀o,h.get? b==o->h'.get? b==o)->tn i h'
 item:∀(X:Cx),X.prog=P->X.w=w->X.K=K->X.calm=true->∀(i:Nat)(AP:ζ)(s:CH)(Z:St)(H:Hp)(E:γ),Inv X AP Z H s->(∀b∈fp,ua X AP H b)->tn i s.heap->J.go i H->
  BX (BY P w) X.A (VW ⇑it) (λr s1=>∃u,r==u/\
   BX (BY P w) X.A (agu tg ⇑it u) (λ_ s2=>∃x H',Inv X AP Z H' s2/\RelV x u/\J.yld i H x H'/\tn (i+1) s2.heap/\∀b∈fp,H' b=none) E s1) E s
 done:∀(X:Cx),X.prog=P->X.w=w->X.K=K->X.calm=true->∀(i:Nat)(AP:ζ)(s:CH)(Z:St)(H:Hp)(E:γ),Inv X AP Z H s->(∀b∈fp,ua X AP H b)->tn i s.heap->J.stop i H->
  BX (BY P w) X.A (VW ⇑it) (λr s1=>r=none/\Inv X AP Z H s1) E s
 self:∀(A:LA)(i:Nat)(s:CH)(Q:γ)(E:γ),tn i s.heap->Q ⇑it s->BX (BY P w) A (pyIter ⇑it) Q E s
abbrev TI:=St->Hp->(It->Hp->Prop)->Prop
def PIE (X:Cx)(AP:ζ)(Z:St)(N:Expr)(R:It->Hp->Prop)(Y:Value)(S:CH):Prop:=
 ∃(Q:BQ)(P:Δ)(T:Nat->Heap->Prop)(J:It)(U:Hp),Y=⇑Q/\Inv X AP Z U S/\Turn X.prog X.w X.K N J P Q T/\T 0 S.heap/\(∀b∈P,ua X AP U b)/\R J U
def PI (X:Cx)(T iter:Expr)(U:TI):Prop:=
 ∀(Y:ζ)(s:CH)(Z:St)(H:Hp)(R:It->Hp->Prop),Inv X Y Z H s->U Z H R->
  BX .q X.A (CQ iter X.env) (λv S=>BX .q X.A (pyIter v) (PIE X Y Z T R) X.xe S) X.xe s
def Zd            (Y : s.heap.get? it==o) (T : o.cls = .type n) (U : o.data = .fields vs)
    (X : ["enumerate", "zip", "dict_itemiterator", "dict_reverseitemiterator", "odict_iterator", "itertools.zip_longest", "itertools.pairwise"].contains n = false) (Z : Q () s) : BX M A (agu tg ⇑it u) Q E s := by
  unfold agu
  cases tg<;>first
    | show CO Z
    | (cases u<;>first
        | show CO Z
        | (show BR (wpAny_load Y ?_)
           rw[T, U];change BX M A (if (["enumerate", "zip", "dict_itemiterator", "dict_reverseitemiterator", "odict_iterator", "itertools.zip_longest", "itertools.pairwise"].contains n && vs[0]?⊆some (PQ _)) = true then _ else _) Q E s;rw[iA (by intro h; rw[X, at1] at h; cases h)]
           show CO Z))
def Itl (K:Frag)(a:BQ):It:=
 (λi H=>∃xs x,aY K H a xs/\xs[i]?==x,λi H x Z=>Z=H/\∀xs,aY K H a xs->xs[i]?==x,λi H=>∃xs,aY K H a xs/\xs.length<=i)
def Itr (lo:Int)(n:Nat):It:=(λi _=>i<n,λi H x Z=>Z=H/\x=.int (lo+i),λi _=>n<=i)
def acT {K:Frag}(a it:BQ):Turn P w K tg (Itl K a) [it] it (λi h=>h.IsListIter it a i) where
 mem:=by simp
 obj:=λi h st b Y=>by
  let e:b=it:= ~~~Y
  subst e;let(o,e,c,d):=st;show(o,e,λv z=>by erw[d] at z)
 keep:=λi h S st k=>st.at λo e=>k it gN o e
 item:=by
  intro X M Q L y i m s Z H E I T st N;subst M Q L;let(xs,x,U,A):=N;let(BS,R,p,f):=I.list U;let(u,hu,g):=R.get A;let(B,C,f2,D,G,J):=T it gN;show wpAny_pyNext_list_item st p.isList (x:=u) (~~~hu) λS q j=>?_;let I1:Inv X m Z H (s⊂S):=I.turned (t':=s.toks) (λb o Y e=>(j.2 b Y).trans e) B C D G J;let(o,e,c,d):=id q;show(u,O,Zd (s:=(s⊂S)) e c d gM (x,H,I1,g,#[O,λys hy=>by rwa[I.kK hy U]],q,λb Y=>(T b Y).1))
 done:=by
  intro X M Q L y i m s Z H E I T st N;subst M Q L;let(xs,U,A):=N;let(BS,R,p,f):=I.list U;let(B,C,f2,D,G,J):=T it gN;let hl:=R.length;show wpAny_pyNext_list_end (I.ok.hd y) st p.isList (by simp;omega) λS eb=>#[O,I.turned (t':=s.toks) (λb o Y e=>eb b o Y e) B C D G J]
 self:=λ_ _ _ _ _ st h=>wpAny_pyIter_listiter st h
def acJ {K:Frag}(it:BQ)(lo:Int)(n:Nat):Turn P w K tg (Itr lo n) [it] it (λi h=>IsRangeIter h it (lo+(i:Nat)*1) ((n:Int)-(i:Nat)) 1) where
 mem:=by simp
 obj:=λi h st b Y=>by
  let e:b=it:= ~~~Y
  subst e
  show(_,st,λv z=>by
   let x:Data.fields _=Data.cell v:=z
   cases x)
 keep:=λi h T st k=>k it gN _ st
 item:=by
  intro X N S M Q i y s Z H E I U st R;subst N S M;let(C,D,p,G,J,L):=U it gN;let W:=Walks.range (prog:=X.prog) (w:=X.w) (I.ok.hd Q) it lo 1 n;show W.item i s _ _ R st λv T B q A u=>?_;let(t,rfl):=q;let j:Inv X y Z H {s with heap:=T,toks:=B}:=I.turned (λb o Y e=>u b o (~~~Y) e) C D G J L;show#[0,Zd (s:={s with heap:=T,toks:=B}) (n:="range_iterator") A rfl rfl gM (.int (lo+i),H,j,#[t,2],#[8],A,λb Y=>(U b Y).1)];rw[Int.mul_one]
 done:=by
  intro X N S M Q i y s Z H E I U st R;subst N S M;let(C,D,p,G,J,L):=U it gN;show wpAny_pyNext_range_end (I.ok.hd Q) st (by have:n<=i:=R;omega) λT m=>#[O,I.turned (t':=s.toks) (λb o Y e=>m b o Y e) C D G J L]
 self:=λ_ _ _ _ _ st h=>wpAny_pyIter_rangeiter st h
section
variable {X:Cx}{tg:Expr}
inductive Zf (K:Frag)(R:(It->Hp->Prop))(x:V)(Z:Hp):Prop
|mk (a:_)(_:x=.ref a)(_:(∃xs,aY K Z a xs))(_:R (Itl K a) Z)
def amz (K:Frag)(Y:TE):TI:=λZ H R=>Y Z H (Zf K R)
def bT (P:PE X l tl):PI X tg l (amz X.K tl):=by
 intro L s Z H R I h;show cH (P L s Z H _ I h) λv Y ⟨x,M,U,T,S⟩=>?_;let(a,e,(xs,Q),q):=S;subst e;cases T;let(E,J,p,G):=U.list Q;show agj p.isList ?_;show(↑Y,[↑Y],9,M,O,U.kept (t':=Y.toks) λb o e=>GQ _ e,acT a _,(_,Py _ rfl,8),λb N=>?_,q);let e:b=↑Y:= ~~~N
 subst e;show U.vQ (CK _) (U.bU.fresh (CK _))
def adY {Z:St}{E:γ}{lo Y:Int}(I:Inv X AP Z H s)(N: -(2^62)<=lo)(P:lo<2^62)(Q: -(2^62)<=Y)(S:Y<2^62)
  (q:R (Itr lo (Y-lo).toNat) H):BX .q X.A (pyIter (.ref ↑s)) (PIE X AP Z tg R) E {s with heap:=s.heap.push ("range"^^^[.int lo t,.int Y u,.int 1 v]),toks:=tk}:=by
 show wpAny_pyIter_range (IsRange.new ..) (small_one N P Q S) ?_;let U:Inv X AP Z H {s with heap:=s.heap.push ("range"^^^[.int lo t,.int Y u,.int 1 v]),toks:=tk}:=I.kept λb o e=>GQ _ e
 show((s.heap.push ("range"^^^[.int lo t,.int Y u,.int 1 v])).objs.size,[(s.heap.push ("range"^^^[.int lo t,.int Y u,.int 1 v])).objs.size],9,H,O,
  U.kept (t':=tk) λb o e=>GQ _ e,acJ _ lo (Y-lo).toNat,2,λb T=>?_,q)
 ·let L:lo+((0:Nat):Int)*1=lo:=by simp
  let M:(((Y-lo).toNat:Nat):Int)-((0:Nat):Int)=Builtin.Range.rangeSize lo Y 1:=by rw[rangeSize_one];split<;>omega
  change IsRangeIter _ _ (lo+((0:Nat):Int)*1) ((((Y-lo).toNat:Nat):Int)-((0:Nat):Int)) 1;rw[L,M];show Py _ rfl
 ·let e:b=(s.heap.push ("range"^^^[.int lo t,.int Y u,.int 1 v])).objs.size:= ~~~T
  subst e;show U.vQ (CK _) (U.bU.fresh (CK _))
inductive Zh (R:(It->Hp->Prop))(vs:ε)(Z:Hp):Prop
|mk (j:Int)(_:vs=[.int j])(_: -(2^62)<=j)(_:j<2^62)(_:R (Itr 0 j.toNat) Z)
def amA (Y:TA):TI:=λZ H R=>Y Z H (Zh R)
def fu (N:Gl X "range")(P:X.mg "range"=none)(M:PA X [a] ta)(Q:CW [a] X.env=[(false,CQ a X.env)]:=by rfl):PI X tg (.Call (.Name "range" p) [a] [] pos) (amA ta):=by
 intro J s Z H R I h;show Call_ (gP I N P boot_range (vb (cH (M pos J s Z H _ I h) λE D ⟨G,C,L,T,Y⟩=>?_) Q rfl));let(j,e,Y,S,q):=Y;subst e;cases T with
 | cons r U=>
  cases U;let(t,rfl):=r;show call_range_1 (adY L gu gu Y S (~~~q))
def FY (J:It)(g:TG)(S:TS)(D:Ends)(Z:St)(P:Hp):Prop:=∃W:Nat->Nat->St->Hp->Prop,(∃m,W 0 m Z P)/\∀i m Z H,W i m Z H->
 (J.stop i H/\D.nx Z H)\/(J.go i H/\∃N:St->Hp->Prop,(∀T Y,N T Y ->∃U,U<m/\W (i+1) U T Y)/\∀x Y,J.yld i H x Y ->g x Z Y λR Q=>S {D with nx:=N,ct:=N,bk:=D.nx} R Q)
def aiu (g:TG)(Y:TS)(D:Ends)(Z:L2.St)(J:It)(U:Hp):Prop:=FY J g Y D Z U
def awD (Y:TI)(g:TG)(U:TS):TS:=λD Z H=>Y Z H (aiu g U D Z)
def xP (Z:Δ)(h:Heap):List (BQ×Obj):=Z.filterMap λb=>(h.get? b).map λo=>(b,o)
def lV (Z:b∈fp)(e:h.get? b==o):(b,o)∈xP fp h:=v8.mpr (b,Z,by rw[e];rfl)
def ac9 (Z:p∈xP fp h):p.1∈fp/\h.get? p.1==p.2:=by
 let(b,Y,e):=v8.mp Z;cases q:h.get? b with
 | none=>erw[q] at e
 | some o=>
  rw[q] at e;let U:(b,o)=p:=VE e;subst U;show#[Y,q]
def Inv.pinned {Z:St}(I:Inv X AP Z H s)(R:∀b∈U,ua X AP H b)(S:∀b∈U,∃o,s.heap.get? b==o/\∀v,o.data≠.cell v):Inv X (AP++xP U s.heap) Z H s:=
 I.Tv λp T=>(OB.mp T).elim (λz=>I.pin p (Vg _ z)) λz=>by
  let(Y,e):=ac9 z;let(N,P,Q,_):=R p.1 Y;let(o,M,d):=S p.1 Y;erw[e] at M;show(e,N,P,Q,d)
def Inv.nh {Z:St}(I:Inv X (AP++pl) Z H s):Inv X AP Z H s:=I.Tv λp Y=>I.pin p (Vg _ (Vo _ Y))
def bV (B:PassesOwn .q X.A X.env X.xe)(hc:X.calm=true)(hi:PI X tg iter wi)(hg:PG X tg g)(U:tf X body tb)
  (hs:∀x,vZ iter X.env x=pure x:=by intro _;rfl):PS X (.For tg iter body [] pos) (awD wi g tb):=by
 intro G s Z H D I h;show wpAny_For (cH (hi G s Z H _ I h) λv s1 h1=>cH h1 λitv s2 h2=>?_) hs;let(it,y,tn,J,H2,e,I2,T,j,f2,W,(m0,w0),turn):=h2;subst e;let Y:∀{P:Hp},(∀b∈y,P b=none)->∀b∈y,ua X G P b:=λhn b U=>#[hn b U,(f2 b U).2];show codeAny_forLoop_any (λn s'=>∃i p P,Inv X G p P s'/\tn i s'.heap/\(∀b∈y,P b=none)/\W i n p P) ?_ m0 ((0),Z,H2,I2,j,λb U=>(f2 b U).1,w0);rintro n s3 ⟨i,q,k,I3,E,z,w3⟩
 rcases turn i n q k w3 with ⟨stop,qn⟩|⟨go,N,hN,step⟩
 ·show OZ B (cH (T.done X rfl rfl rfl hc i G s3 q k X.xe I3 (Y z) E stop) λr s4 ⟨a,I4⟩=>?_)
  subst a;show EX (q,k,I4,qn)
 ·show OZ B (cH (T.item X rfl rfl rfl hc i G s3 q k X.xe I3 (Y z) E go) λr s4 ⟨u,a,h4⟩=>?_)
  subst a;show OZ B (cH h4 λ_ s5 ⟨x,H5,I5,r5,y5,L,fr5⟩=>?_);let I5':=I5.pinned (Y fr5) (T.obj\L);show OZ B (cH (hg _ s5 q H5 x u _ I5' r5 (step x H5 y5)) λ_ s6 ⟨Z6,H6,I6,q6⟩=>?_);show OZ B (cH (U _ s6 Z6 H6 _ I6 q6) λf c M=>?_)
  let again:∀{S:St} {Q:Hp},Inv X (G++xP y s5.heap) S Q c->N S Q->∃m,m<n/\∃i p P,Inv X G p P c/\tn i c.heap/\(∀b∈y,P b=none)/\W i m p P:=λ{S Q} R C=>by
   let(m',hm,w7):=hN S Q C;show(m',hm,i+1,S,Q,R.nh,T.keep _ _ _ L λb U o e=>(R.pin (b,o) (Vg _ (Vg _ (lV U e)))).1,λb U=>?_,w7);let(o,e,d):=T.obj _ _ L b U;show(R.pin (b,o) (Vg _ (Vg _ (lV U e)))).2.1
  cases f with
  | next=>let(S,Q,R,C):=M;show again R C
  | cont=>let(S,Q,R,C):=M;show again R C
  | brk=>let(S,Q,R,M):=M;show(S,Q,R.nh,M)
  | ret v=>let(x7,S,Q,R,r7,M):=M;show(x7,S,Q,R.nh,r7,M)
end
def lZ (Y:Nat->St->Hp->Prop)(T:Y 0 Z H)
  (X:∀i Z H,i<n->Y i Z H->J.go i H/\∀x H',J.yld i H x H' ->g x Z H' λS R=>tb {D with nx:=Y (i+1),ct:=Y (i+1),bk:=D.nx} S R) (U:∀Z H,Y n Z H->J.stop n H/\D.nx Z H):FY J g tb D Z H:=by
 show(λi m Z H=>m=n-i/\i<=n/\Y i Z H,(n,by simp,RQ _,T),2);rintro i m Z H ⟨rfl,Q,p⟩;by_cases c:i<n
 ·show .inr ((X i Z H c p).1,Y (i+1),λP H' z=>(n-(i+1),gu,O,c,z),(X i Z H c p).2)
 ·let e:i=n:=gu
  subst e;show .inl (U Z H p)
def dG {K:Frag}(Y:Nat->St->Hp->Prop)(R:Y 0 Z H)(X:∀i Z H,i<=xs.length->Y i Z H->aY K H a xs)
  (T:∀i x Z H,xs[i]?==x->Y i Z H->g x Z H λQ P=>tb {D with nx:=Y (i+1),ct:=Y (i+1),bk:=D.nx} Q P) (S:∀Z H,Y xs.length Z H->D.nx Z H):FY (Itl K a) g tb D Z H:=
 lZ Y R (λi Z H U p=>#[(xs,xs[i],X i Z H (RK U) p,by simp[U]),λx N y=>by let(e,y):=y;subst e;show T i x Z _ (y xs (X i Z _ (RK U) p)) p]) λZ H p=>#[(xs,X _ Z H (CK _) p,CK _),S Z H p]
def fU {lo:Int}(Y:Nat->St->Hp->Prop)(S:Y 0 Z H)
  (U:∀i Z H,i<n->Y i Z H->g ↥(lo+i) Z H λR Q=>tb {D with nx:=Y (i+1),ct:=Y (i+1),bk:=D.nx} R Q) (T:∀Z H,Y n Z H->D.nx Z H):FY (Itr lo n) g tb D Z H:=
 lZ Y S (λi Z H X p=>#[X,λx P y=>by let(e,y):=y;subst e y;show U i Z _ X p]) λZ H p=>#[CK _,T Z H p]
def ahu (T:St->Hp->Prop)(μ:St->Hp->Nat)(N:T Z H)
  (P:∀Z H,T Z H->c Z H λb X=>if b=true then tb {D with nx:=λY U=>T Y U/\μ Y U < μ Z H,ct:=λY U=>T Y U/\μ Y U < μ Z H,bk:=D.nx} Z X else D.nx Z X)
  (mono:∀Z H Q S,(∀b X,Q b X->S b X)->c Z H Q->c Z H S):zaf c tb D Z H:=by
 show(λm Z H=>m=μ Z H/\T Z H,#[0,N],2);rintro m Z H ⟨rfl,p⟩;show mono Z H _ _ (λb X q=>?_) (P Z H p);cases b with
 | true=>show(_,λY U ⟨R,l⟩=>(_,l,O,R),q)
 | false=>show q
abbrev R2:=V->V->Hp->VK->Prop
def oJ (X:Cx)(f:Value->Value->Sem Value)(r:R2):Prop:=
 ∀(Y:ζ)(s:CH)(Z:St)(H:Hp)(x y:V)(v u:Value)(Q:VK),Inv X Y Z H s->RelV x v->RelV y u->r x y H Q->
  BX .q X.A (f v u) (EP X Y Z Q) X.xe s
def UnR (X:Cx)(f:Value->Sem Value)(r:V->Hp->VK->Prop):Prop:=
 ∀(Y:ζ)(s:CH)(Z:St)(H:Hp)(x:V)(v:Value)(Q:VK),Inv X Y Z H s->RelV x v->r x H Q->
  BX .q X.A (f v) (EP X Y Z Q) X.xe s
def mL (X:Cx)(f:Value)(r:List V->Hp->VK->Prop):Prop:=
 ∀(U:ζ)(s:CH)(Z:St)(H:Hp)(xs:ε)(Y:ς)(Q:VK),Inv X U Z H s->Vals xs Y->r xs H Q->
  BX .q X.A (call f Y) (EP X U Z Q) X.xe s
def amB (r:R2)(Q:VK)(x:V)(y:V)(Z:Hp):Prop:=r x y Z Q
def amC (r:R2)(Y:TE)(Z:L2.St)(Q:VK)(x:V)(X:Hp):Prop:=Y Z X (amB r Q x)
def tOp (r:R2)(X Y:TE):TE:=λZ H Q=>X Z H (amC r Y Z Q)
def amD (r:V->Hp->VK->Prop)(Q:VK)(x:V)(Z:Hp):Prop:=r x Z Q
def tUn (r:V->Hp->VK->Prop)(Y:TE):TE:=λZ H Q=>Y Z H (amD r Q)
inductive rI (C:Int->Int->Prop)(g:Int->Int->V)(x:V)(y:V)(H:Hp)(Q:VK):Prop
|mk (i j:_)(_:x=.int i)(_:y=.int j)(_:C i j)(_:Q (g i j) H)
inductive rI0 (g:Int->Int->V)(x:V)(y:V)(H:Hp)(Q:VK):Prop
|mk (i j:_)(_:x=.int i)(_:y=.int j)(_:Q (g i j) H)
inductive rU (g:Int->V)(x:V)(H:Hp)(Q:VK):Prop
|mk (i:_)(_:x=.int i)(_:Q (g i) H)
section
variable {X:Cx}{a b c:Expr}{ta tb tc:TE}{pos:Pos}
def aiv (C:PE X a ta)(D:PE X b tb){Z:St}{R:V->V->Hp->Prop}(I:Inv X AP Z H s)
  (h:ta Z H λx T=>tb Z T λy Y=>R x y Y) {Q:γ} {f:Value->Value->Sem Value}
  (E:∀v u U x y Y,Inv X AP Z Y U->RelV x v->RelV y u->R x y Y->BX .q X.A (f v u) Q X.xe U):
  BX .q X.A (CQ a X.env) (λv G=>BX .q X.A (CQ b X.env) (λu S=>BX .q X.A (f v u) Q X.xe S) X.xe G) X.xe s:=by
 show cH (C AP s Z H _ I h) λv P ⟨x,T,z,M,J⟩=>?_;show cH (D AP P Z T _ z J) λu U ⟨y,Y,B,N,L⟩=>?_;show E v u U x y Y B M N L
def ax (S:oJ X (Vw op) r)(P:PE X a ta)(R:PE X b tb):PE X (.BinOp a op b pos) (tOp r ta tb):=by
 intro L s Z H Q I h;show wpAny_BinOp (aiv P R I h λv u Y x y M N T U q=>S L Y Z M x y v u Q N T U q)
def gw (R:UnR X (unaryOp op) r)(P:PE X a ta):PE X (.UnaryOp op a pos) (tUn r ta):=by
 intro Y s Z H Q I h;show UnaryOp_ (cH (P Y s Z H _ I h) λv U ⟨x,M,N,T,S⟩=>R Y U Z M x v Q N T S)
def opI {g:Int->Int->Int}
  (rule:∀(i j:Int)(t u:Tok)(s:CH)(Q:γ)(E:γ),C i j->Q (.int (g i j) s.toks) {s with toks:=s.toks+1}->BX .q X.A (f (.int i t) (.int j u)) Q E s):
  oJ X f (rI C λi j=>.int (g i j)):=by
 intro R s Z H x y v u Q I T U h;let(i,j,rfl,rfl,S,q):=h;let(t,rfl):=T;let(Y,rfl):=U;show rule i j t Y s _ _ S (.int (g i j),H,I.tok _,#[0],q)
def amE {g:Int->Int->Int}
  (rule:∀(i j:Int)(t u:Tok)(s:CH)(Q:γ)(E:γ),Q (.int (g i j) s.toks) {s with toks:=s.toks+1}->BX .q X.A (f (.int i t) (.int j u)) Q E s):
  oJ X f (rI0 λi j=>.int (g i j)):=by
 intro S s Z H x y v u Q I T U h;let(i,j,rfl,rfl,q):=h;let(t,rfl):=T;let(Y,rfl):=U;show rule i j t Y s _ _ (.int (g i j),H,I.tok _,#[0],q)
def aeB {g:Int->Int->Bool}
  (rule:∀(i j:Int)(t u:Tok)(s:CH)(Q:γ)(E:γ),Q (.bool (g i j)) s->BX .q X.A (f (.int i t) (.int j u)) Q E s):
  oJ X f (rI0 λi j=>.bl (g i j)):=by
 intro S s Z H x y v u Q I T U h;let(i,j,rfl,rfl,q):=h;let(t,rfl):=T;let(Y,rfl):=U;show rule i j t Y s _ _ (.bl (g i j),H,I,O,q)
def amF (i j:Int):Prop:=0<=j/\j<=1000000/\i.natAbs<2^64
def bW:oJ X (Vw .Add) (rI0 λi j=>.int (i+j)):=amE λ_ _ _ _ _ _ _ q=>add_int q
def eK:oJ X (Vw .Sub) (rI0 λi j=>.int (i-j)):=amE λ_ _ _ _ _ _ _ q=>sub_int q
def aeC:oJ X (Vw .Mod) (rI (λ_ j=>j≠0) λi j=>.int (i.fmod j)):=opI λ_ _ _ _ _ _ _ Z q=>mod_int' Z q
def zaZ:oJ X (Vw .Pow) (rI amF λi j=>.int (i^j.toNat)):=opI λ_ _ _ _ _ _ _ Z q=>pow_int_small Z.1 Z.2.1 Z.2.2 q
def unI {g:Int->Int}
  (rule:∀(i:Int)(t:Tok)(s:CH)(Q:γ)(E:γ),Q (.int (g i) s.toks) {s with toks:=s.toks+1}->BX .q X.A (f (.int i t)) Q E s):
  UnR X f (rU λi=>.int (g i)):=by
 intro U s Z H x v Q I Y h;let(i,rfl,q):=h;let(t,rfl):=Y;show rule i t s _ _ (.int (g i),H,I.tok _,#[0],q)
def dm:UnR X (unaryOp .USub) (rU λi=>.int (-i)):=unI λ_ _ _ _ _ q=>neg_int q
end
def amG:V->V->Bool
 | .cS,.cS=>true | .cS,.int _=>true | ↥_,.cS=>true | .cS,.bl _=>true | .bl _,.cS=>true | .cS,.str _=>true | .str _,.cS=>true
 | .int _,.int _=>true | .bl _,.bl _=>true | .str _,.str _=>true | .vi _,.vi _=>true
 | .int _,.str _=>true | .str _,.int _=>true | .bl _,.str _=>true | .str _,.bl _=>true
 | _,_=>false
def rEq:R2:=λx y H Q=>amG x y=true/\Q (.bl (decide (x=y))) H
def rNe:R2:=λx y H Q=>amG x y=true/\Q (.bl (!decide (x=y))) H
def ad2 :decide (V.int i=V.int j)=(i⊆j):=by
 rw[Qe];simp
def zaV :decide (V.bl i=V.bl j)=(i⊆j):=by
 rw[Qe];simp
def zav :decide (V.str i=V.str j)=(i⊆j):=by
 rw[Qe];simp
def agv :decide (V.vi i=V.vi j)=(i.toList⊆j.toList):=by
 rw[Qe];cases i;cases j;simp
section
variable {X:Cx}{a b c:Expr}{ta tb tc:TE}{pos:Pos}
def cf {Z:St}(I:Inv X AP Z H s)(q:Q (.bl k) H)(e:k=k'):EP X AP Z Q (.bool k') s:=by
 subst e;show(.bl k,H,I,O,q)
def dk:oJ X (V2 .Eq) rEq:=by
 intro R s Z H x y v u Q I S Y h;let(T,q):=h;cases x with
 | cS=>
  cases S;cases y with
  | cS=>cases Y;show PySem.EqNone.eq_none_none .X
  | bl j=>cases Y;show PySem.EqNone.eq_none_bool .X
  | int j=>let(U,rfl):=Y;show PySem.EqNone.eq_none_int .X
  | str j=>let(U,rfl):=Y;show PySem.EqNone.eq_none_str .X
  | _=>show CC (show false=true from T) QW
 | bl i=>
  cases S;cases y with
  | cS=>cases Y;show PySem.EqNone.eq_bool_none .X
  | bl j=>cases Y;show eq_bool (cf I q zaV)
  | str j=>let(U,rfl):=Y;show PySem.EqMixed.eq_bool_str .X
  | _=>show CC (show false=true from T) QW
 | int i=>
  let(t,rfl):=S;cases y with
  | cS=>cases Y;show PySem.EqNone.eq_int_none .X
  | int j=>let(U,rfl):=Y;show eq_int (cf I q ad2)
  | str j=>let(U,rfl):=Y;show PySem.EqMixed.eq_int_str .X
  | _=>show CC (show false=true from T) QW
 | str i=>
  let(t,rfl):=S;cases y with
  | cS=>cases Y;show PySem.EqNone.eq_str_none .X
  | bl j=>cases Y;show PySem.EqMixed.eq_str_bool .X
  | int j=>let(U,rfl):=Y;show PySem.EqMixed.eq_str_int .X
  | str j=>let(U,rfl):=Y;show eq_str (cf I q zav)
  | _=>show CC (show false=true from T) QW
 | vi i=>
  let(t,rfl):=S;cases y with
  | vi j=>let(U,rfl):=Y;show PySem.W.eq_bytes (cf I q agv)
  | _=>show CC (show false=true from T) QW
 | _=>cases y<;>show CC (show false=true from T) QW
def OD:oJ X (V2 .NotEq) rNe:=by
 intro R s Z H x y v u Q I S Y h;let(T,q):=h;cases x with
 | cS=>
  cases S;cases y with
  | cS=>cases Y;show PySem.EqNone.ne_none_none .X
  | bl j=>cases Y;show PySem.EqNone.ne_none_bool .X
  | int j=>let(U,rfl):=Y;show PySem.EqNone.ne_none_int .X
  | str j=>let(U,rfl):=Y;show PySem.EqNone.ne_none_str .X
  | _=>show CC (show false=true from T) QW
 | bl i=>
  cases S;cases y with
  | cS=>cases Y;show PySem.EqNone.ne_bool_none .X
  | bl j=>cases Y;show ne_bool (cf I q (sU not zaV))
  | str j=>let(U,rfl):=Y;show PySem.EqMixed.ne_bool_str .X
  | _=>show CC (show false=true from T) QW
 | int i=>
  let(t,rfl):=S;cases y with
  | cS=>cases Y;show PySem.EqNone.ne_int_none .X
  | int j=>let(U,rfl):=Y;show ne_int (cf I q (sU not ad2))
  | str j=>let(U,rfl):=Y;show PySem.EqMixed.ne_int_str .X
  | _=>show CC (show false=true from T) QW
 | str i=>
  let(t,rfl):=S;cases y with
  | cS=>cases Y;show PySem.EqNone.ne_str_none .X
  | bl j=>cases Y;show PySem.EqMixed.ne_str_bool .X
  | int j=>let(U,rfl):=Y;show PySem.EqMixed.ne_str_int .X
  | str j=>let(U,rfl):=Y;show ne_str (cf I q (sU not zav))
  | _=>show CC (show false=true from T) QW
 | vi i=>
  let(t,rfl):=S;cases y with
  | vi j=>let(U,rfl):=Y;show PySem.W.ne_bytes (cf I q (sU not agv))
  | _=>show CC (show false=true from T) QW
 | _=>cases y<;>show CC (show false=true from T) QW
def kN:oJ X (V2 .Lt) (rI0 λi j=>.bl (decide (i<j))):=aeB λ_ _ _ _ _ _ _ q=>lt_int q
def ag5:oJ X (V2 .LtE) (rI0 λi j=>.bl (decide (i<=j))):=aeB λ_ _ _ _ _ _ _ q=>le_int q
def TC:oJ X (V2 .Gt) (rI0 λi j=>.bl (decide (j<i))):=aeB λ_ _ _ _ _ _ _ q=>gt_int q
def Zk:oJ X (V2 .GtE) (rI0 λi j=>.bl (decide (j<=i))):=aeB λ_ _ _ _ _ _ _ q=>ge_int q
def qj:oJ X (V2 .Is) (λx y H Q=>y=.cS/\Q (.bl (decide (x=.cS))) H):=by
 intro T s Z H x y v u Q I Y U h;let(rfl,q):=h;cases U;show is_none_gen (cf I q ?_)
 cases x<;>first
  | (cases Y;rfl)
  | (let(t,rfl):=Y;rfl)
def ago:oJ X (V2 .IsNot) (λx y H Q=>y=.cS/\Q (.bl (!decide (x=.cS))) H):=by
 intro T s Z H x y v u Q I Y U h;let(rfl,q):=h;cases U;show isnot_none_gen (cf I q ?_)
 cases x<;>first
  | (cases Y;rfl)
  | (let(t,rfl):=Y;rfl)
def l_ (b:Expr)(h:op≠.In:=by decide)(Z:op≠.NotIn:=by decide):TN op b=false:=by
 let U:(op⊆CmpOp.In)=false:=by cases op<;>first|rfl|show CC rfl h
 let Y:(op⊆CmpOp.NotIn)=false:=by cases op<;>first|rfl|show CC rfl Z
 cases b<;>simp[TN,U,Y]
def jT (S:oJ X (V2 op) r)(N:PE X a ta)(P:PE X b tb)(R:TN op b=false):PE X (.Compare a [op] [b] pos) (tOp r ta tb):=by
 intro J s Z H Q I h;show wpAny_Compare1 (aiv N P I h λv u Y x y L M T U q=>S J Y Z L x y v u Q M T U q) R
inductive Zl (Q:(Bool->Hp->Prop))(x:V)(H':Hp):Prop
|mk (k:_)(_:x=.bl k)(_:Q k H')
def ag6 (t:TE):TT:=λZ H Q=>t Z H (Zl Q)
def oK (J:oJ X (V2 op) r)(D:PE X a ta)(E:PE X b tb)(G:TN op b=false):PT X (.Compare a [op] [b] pos) (ag6 (tOp r ta tb)):=by
 intro Y s Z H Q I h
 show wpAny_isTrue_Compare1 (cH (D Y s Z H _ I h) λv T ⟨x,p,A,P,L⟩=>cH (E Y T Z p _ A L) λu U ⟨y,q,B,R,M⟩=>
  cH (J Y U Z q x y v u _ B P R M) λc o ⟨z,w,C,S,k,e,N⟩=>?_) G
 subst e;cases S;show PM (w,C,N)
def adH (T:R2)(tc:TE)(Z:L2.St)(Q:VK)(y:V)(z:V)(Y:Hp):Prop:=∃k,z=.bl k/\(if k=true then tc Z Y λU S=>T y U S Q else Q (.bl false) Y)
def ac8 (r:R2)(Y:R2)(tc:TE)(Z:L2.St)(Q:VK)(x:V)(y:V)(U:Hp):Prop:=r x y U (adH Y tc Z Q y)
def ac5 (r:R2)(Y:R2)(tb:TE)(tc:TE)(Z:L2.St)(Q:VK)(x:V)(U:Hp):Prop:=tb Z U (ac8 r Y tc Z Q x)
def aiw (r Y:R2)(ta tb tc:TE):TE:=λZ H Q=>ta Z H (ac5 r Y tb tc Z Q)
def aiW (p:oJ X (V2 op) r)(U:oJ X (V2 op') r')(i:PE X a ta)(j:PE X b tb)(m:PE X c tc)
  (o:lastMarks [op,op'] [b,c]=false:=by with_unfolding_all rfl):PE X (.Compare a [op,op'] [b,c] pos) (aiw r r' ta tb tc):=by
 intro Y s Z H Q I h
 show Compare_chain (cH (i Y s Z H _ I h) λv E ⟨x,H1,I1,B,q⟩=>chain_link (cH (j Y E Z H1 _ I1 q) λu G ⟨y,H2,f,T,w⟩=>
  cH (p Y G Z H2 x y v u _ f B T w) λd J ⟨z,P,R,C,k,e,S⟩=>?_)) o
 subst e;cases C;show PM ?_;cases k with
 | false=>show ite_ff (.bl false,P,R,O,S)
 | true=>show ite_tt (chain_last (cH (m Y J Z P _ R S) λM L ⟨N,H4,g,D,A⟩=>U Y L Z H4 y N u M Q g T D A))
def uc:(CM:Nat)<2^63:=by rw[Uh];decide
def qk:oJ X (Vw .Add) (λx y H Q=>∃i j,x=.str i/\y=.str j/\i.length+j.length<=CM/\Q (.str (i++j)) H):=by
 intro P s Z H x y v u Q I T U h;let(i,j,rfl,rfl,S,q):=h;let(t,rfl):=T;let(Y,rfl):=U;show add_str (λY R=>(.str (i++j),H,I.tok _,#[0],q)) S
def vals1 {us:ς}(r:Vals [x] us):∃u,us=[u]/\RelV x u:=by
 cases r with
 | cons Y Z=>cases Z;show#[0,Y]
def vals2 {us:ς}(r:Vals [x,y] us):∃u Z,us=[u,Z]/\RelV x u/\RelV y Z:=by
 cases r with
 | cons S T=>
  cases T with
  | cons U Y=>cases Y;show(4,S,U)
def ahS:mL X (.builtin "abs") (λxs H Q=>∃i,xs=[↥i]/\Q ↥(if i<0 then -i else i) H):=by
 intro T s Z H xs Y Q I r h;let(i,rfl,q):=h;let(u,rfl,t,rfl):=vals1 r;show call_abs_int λu U=>(.int (if i<0 then -i else i),H,I.tok _,#[0],q)
def zab (U:X.calm=true):mL X (.builtin "min") (λxs H Q=>∃i j,xs=[↥i,↥j]/\Q ↥(if j<i then j else i) H):=by
 intro M s Z H xs S Q I r h;let(i,j,rfl,q):=h;let(u,T,rfl,(t,rfl),(P,rfl)):=vals2 r;show min_two_ints (I.ok.hd U) λN R k=>(_,H,I.kept k,2,q);by_cases Y:j<i
 ·rw[iB Y,iB Y];show#[0]
 ·rw[iA Y,iA Y];show#[0]
def abb:mL X (.type "str") (λxs H Q=>∃i,xs=[↥i]/\i.natAbs.log2<1920/\Q (.str (toString i)) H):=by
 intro T s Z H xs U Q I r h;let(i,rfl,Y,q):=h;let(u,rfl,t,rfl):=vals1 r;show PySem.P.str_of_int Y (.str _,H,I.tok _,#[0],q)
end
structure F_ (h:Heap)(x dx C:BQ)(mA:ι):Prop where
 obj:h.get? x==(Vc C dx)
 ns:h.Ns1 dx mA
 ne:dx≠x
def aj' {h:Heap}{mA:ι}(n:h.Ns1 dx mA):∃Z,h.get? dx==Z/\∀name,agz name Z==(mA name):=by
 let(o,Y,N,U,R,S,_,T):=n;show(o,U,λname=>?_);let e:=T name;unfold nsFind findBy at e;rw[<-Array.find?_toList] at e;unfold agz;rw[R];dsimp only;split
 ·rename_i y q
  rw[q] at e;show sU some e
 ·rename_i q
  rw[q] at e
  let a:Y.toList.any (·.refKey)=false:=by
   rw[List.any_eq_false];intro y X;let(z,t,P):=S y (Array.mem_toList_iff.mp X);simp[DictEntry.refKey,P]
  let Q:¬ Y.toList.any (·.refKey)=true:=![a] QW
  rw[iA Q];show sU some e
def F_.look (I:F_ h x dx C mA):∃Z,PySem.W.InstAt h x (Vc C dx) C (some Z)/\∀name,agz name Z==(mA name):=
 let ⟨Z,Y,X⟩:=aj' I.ns
 (Z,(I.obj,8,Y),X)
section
variable {prog:HV}{w:World}{A:LA}{E:γ}{s:CH}{K:Frag}{x dx C f:BQ}{mA:ι}{name:Str}{v:Value}
def get_map {Q:γ}(X:K.In s.heap)(I:F_ s.heap x dx C mA)(S:vY K C name=true)(T:Z_ K C=true)
  (R:ON K ⇑C name==none) (Y:mA name==v) (Z:PySem.W.handedIn v=true) (h:Q v {s with toks:=s.toks+1}):
  BX .s A (getAttr ⇑x name expr) Q E s:=by
 let(P,J,U):=I.look;show PySem.W.get_value X J (PySem.W.plainGet_of S).1 (PySem.W.findObj_own T R rfl ![U,Y]) Z h
def ai2 (X:K.In s.heap)(I:F_ s.heap x dx C mA)(Z:vY K C name=true)
  (R:ON K ⇑C name==(some ⇑f)) (T:OQ K ⇑f=true) (U:mA name=none) (h:Q (⇑f,[⇑x]) s):
  BX .s A (OG ⇑x name pl) Q E s:=by
 let(Y,J,S):=I.look;show PySem.W.method_fn X J (PySem.W.plainGet_of Z).1 (PySem.W.plainGet_of Z).2 R (beq_iff_eq.mp T) (by change (agz name Y).map (·.isSome)==false;rw[S,U];rfl) h
def aeD {ns:τ}{Q:Ρ}(X:K.In s.heap)(I:F_ s.heap x dx C mA)
  (L:ON K ⇑C "__setattr__"==.x) (H:P9 K C=true) (M:PySem.W.takerIn K C name==none) (G:Z_ K C=true)
  (N:Uc mA ns) (hsz:ns.length<=CM)
  (h:∀h',F_ h' x dx C (λy=>if y=name then some v else mA y)->WV dx s.heap h' ->Q () {s with heap:=h',toks:=s.toks+2}):
  BX .s A (setAttr ⇑x name v) Q E s:=by
 let(u,J,p):=I.look;show PySem.W.set_plain X J L (PySem.W.osa_open (s:={s with toks:=s.toks+1}) (r:=none) X J H M λb=>?_);let(o,D,U):=PySem.W.any_some G;let P:s.heap.get? x==(⇑C,some dx,.plain, #[]):=I.obj;show BR (CO (BR (BR (agA P (BR (PySem.W.Looks.here (s:={s with toks:=s.toks+1}) (PySem.W.looks_clsIn X D) ?_))))));rw[U];show CO (a:=some dx) (BR (CO (BR ?_)));show wpAny_nsSet1 (s:={s with toks:=s.toks+1}) I.ns λh' S R=>?_;let(q,B,z,Z,Y,T):=S.count (PySem.Within.cons name v N);show BR (wpAny_lookBehind Z (![Y] (pastItsLine_dict (CP T (by rw[VN];omega)))) ?_);show CO (h _ ((R.2 _ (CV I.ne)).trans I.obj,S,I.ne) R)
def ahq {R:Θ}{vs:ς}(X:K.In s.heap)(Y:yd K C=true)
  (U:ON K ⇑C "__init__"==(some ⇑f)) (T:PySem.W.typeIn K ⇑f==.type "function")
  (h:Ri .s (A.under (.builtin "type.__call__" #[.ref C::vs,kw])) (.call ⇑f #[.ref (↑s+1)::vs,kw]) (PySem.W.InitBack (↑s+1) R)
   (s⊂(s.heap.push Vh).push (Vc C ↑s))):
  Ri .s A (.call ⇑C #[vs,kw]) R s:=by
 let(S,g,d,t,os):=s;show PySem.W.make_core (PySem.W.makes_of X Y) (PySem.W.looks_findIn X U) (λZ=>PySem.W.bind_fn X Z T) .V h
def afn {R:Θ}(X:K.In s.heap)(Z:yd K C=true)
  (Y:ON K ⇑C "__init__"==(some (.builtin "object.__init__")))
  (U:∀self,PySem.W.Looks .s s.heap (bindSpecial (.builtin "object.__init__") self) (.builtin "object.__init__",[self]))
  (h:Ri .s (A.under (.builtin "type.__call__" #[[⇑C],[]])) (.call (.builtin "object.__init__") #[[.ref (↑s+1)],[]]) (PySem.W.InitBack (↑s+1) R)
   (s⊂(s.heap.push Vh).push (Vc C ↑s))):
  Ri .s A (.call ⇑C #[[],[]]) R s:=by
 let(T,g,d,t,os):=s;show PySem.W.make_core (PySem.W.makes_of X Z) (PySem.W.looks_findIn X Y) U (.inr #[8]) h
end
def fF (f:Str)(v:V):List (Str×V)->List (Str×V)
 | []=>[(f,v)]
 | (g,x)::r=>if g=f then (g,v)::r else (g,x)::fF f v r
theorem nu (f g:Str)(v:V):∀X:List (Str×V),(fF f v X).lookup g=if g=f then some v else X.lookup g
 | []=>by
  change VL g [(f,v)]=_;by_cases h:g=f
  ·let Z:(g⊆f)=true:=beq_iff_eq.mpr h
   simp only[VL,Z,iB h]
  ·let Z:(g⊆f)=false:=beq_eq_false_iff_ne.mpr h
   simp only[VL,Z,iA h]
 | (k,x)::r=>by
  let U:=nu f g v r;rw[show fF f v ((k,x)::r)=(if k=f then (k,v)::r else (k,x)::fF f v r) from rfl];by_cases Y:k=f
  ·rw[iB Y]
   by_cases h:g=k
   ·let Z:(g⊆k)=true:=beq_iff_eq.mpr h
    simp only[VL,Z,iB (h>>>Y)]
   ·let Z:(g⊆k)=false:=beq_eq_false_iff_ne.mpr h
    simp only[VL,Z,iA (λe:g=f=>h (e>>>Y.symm))]
  ·rw[iA Y]
   by_cases h:g=k
   ·let Z:(g⊆k)=true:=beq_iff_eq.mpr h
    simp only[VL,Z,iA (λe:g=f=>Y (h.symm>>>e))]
   ·let Z:(g⊆k)=false:=beq_eq_false_iff_ne.mpr h
    simp only[VL,Z];show U
theorem ud (f:Str)(v:V):∀Y:List (Str×V),f∈(fF f v Y).map (·.1)/\∀g,g∈Y.map (·.1)->g∈(fF f v Y).map (·.1)
 | []=>#[by simp[fF],λg h=>by simp at h]
 | (k,x)::r=>by
  let(U,X):=ud f v r;rw[show fF f v ((k,x)::r)=(if k=f then (k,v)::r else (k,x)::fF f v r) from rfl];by_cases Z:k=f
  ·rw[iB Z]
   subst Z;show#[by simp,λg h=>~~~h]
  ·rw[iA Z]
   show#[2,λg h=>?_]
   ·rw[O_]
    show OX _ U
   ·rw[O_] at h ⊢
    rcases QQ.mp h with e|e
    ·show QQ.mpr (.inl e)
    ·show OX _ (X g e)
theorem aoe (f:Str)(v:V):∀Y:List (Str×V),(fF f v Y).length<=Y.length+1
 | []=>by simp[fF]
 | (k,x)::r=>by
  let X:=aoe f v r;rw[show fF f v ((k,x)::r)=(if k=f then (k,v)::r else (k,x)::fF f v r) from rfl];by_cases Z:k=f
  ·rw[iB Z,VN,VN];omega
  ·rw[iA Z,VN,VN];omega
def i7.some_of (r:i7 (some v) o):∃u,o==u/\RelV v u:=by
 cases o with
 | none=>show(show False from r).elim
 | some u=>show(u,O,r)
def i7.none_of (r:i7 none o):o=none:=by
 cases o with
 | none=>rfl
 | some u=>show(show False from r).elim
def aif (r:RelV v u):PySem.W.handedIn u=true:=by
 cases v with
 | cS=>cases (show u=Value.none from r);rfl
 | bl b=>cases (show u=Value.bool b from r);rfl
 | int i=>let(t,e):=(show ∃t,u=Value.int i t from r);cases e;rfl
 | str x=>let(t,e):=(show ∃t,u=Value.str x t from r);cases e;rfl
 | vi b=>let(t,e):=(show ∃t,u=Value.bytes b t from r);cases e;rfl
 | flt b=>let(t,e):=(show ∃t,u=Value.float b t from r);cases e;rfl
 | ref a=>cases (show u=Value.ref a from r);rfl
 | ty n=>cases (show u=Value.type n from r);rfl
section
variable {P:HV}{w:World}{H H':Hp}{h h':Heap}{a C dx:BQ}{fs fs':List (Str×V)}
def xm (X:lR P w H h)(e:H a==.ins C dx fs):∃mA,F_ h a dx C mA/\(∀f,i7 (fs.lookup f) (mA f))/\Uc mA (fs.map (·.1))/\fs.length<=1000/\H dx==.own a:=by
 let(d,z,Y,Z,mA,n,r,q):=(show ck P w H h a (.ins C dx fs) from X a _ e);show(mA,(Z,n,Y),r,q,z,d)
end
structure EG (K:Frag)(C:BQ):Prop where
 pg:vY K C Str.empty=true
 hd:Z_ K C=true
 po:P9 K C=true
 sa:ON K ⇑C "__setattr__"==.x
def EG.get {K:Frag}(c:EG K C)(f:Str):vY K C f=true:=c.pg
def fO (K:Frag)(C:BQ)(f:Str):Prop:=ON K ⇑C f==none
def fO.amK {K:Frag}(n:fO K C f):PySem.W.takerIn K C f==none:=by
 unfold PySem.W.takerIn;rw[show ON K ⇑C f==none from n];rfl
structure Meth (K:Frag)(C:BQ)(m:Str)(f:BQ):Prop where
 at_:ON K ⇑C m==(some ⇑f)
 fn:OQ K ⇑f=true
 kp:keepIn K ⇑f=true
section
variable {X:Cx}{AP:ζ}{Z:St}{H:Hp}{s:CH}{a C dx:BQ}{fs:List (Str×V)}{f:Str}{v:V}{A:LA}{E:γ}
def ade {Q:γ}(I:Inv X AP Z H s)(e:H a==.ins C dx fs)(c:EG X.K C)(n:fO X.K C f)(l:fs.lookup f==v)
  (h:∀u s',Inv X AP Z H s' ->RelV v u->Q u s'):BX .q A (getAttr ⇑a f b) Q E s:=by
 let(T,Y,r,_,_,_):=xm I.bU e;let(u,S,U):=i7.some_of (v:=v) (o:=T f) (![<-l] (r f));show get_map I.lQ Y (c.get f) c.hd n S (aif U) (h u _ (I.tok _) U)
def qt (I:Inv X AP Z H s)(e:H a==.ins C dx fs)(c:EG X.K C)(k:Meth X.K C m g)(l:fs.lookup m=none)
  (h:Q (⇑g,[⇑a]) s):BX .q A (OG ⇑a m pl) Q E s:=by
 let(U,Y,r,_,_,_):=xm I.bU e;let T:U m=none:=i7.none_of (![<-l] (r m));show ai2 I.lQ Y (c.get m) k.at_ k.fn T h
def acC {Q:Ρ}(I:Inv X AP Z H s)(e:H a==.ins C dx fs)(c:EG X.K C)(n:fO X.K C f)(p:fs.length<1000)(B:RelV y u)
  (h:∀s',Inv X AP Z (upd H a (.ins C dx (fF f y fs))) s' ->Q () s'):BX .q A (setAttr ⇑a f u) Q E s:=by
 let(S,Y,r,T,_,N):=xm I.bU e;let P:(fs.map (·.1)).length<=CM:=by rw[CA,Uh];omega
 show aeD I.lQ Y c.sa c.po n.amK c.hd T P λG U R=>h _ ?_;let L:∃o,G.get? dx==o:=let ⟨o,_,_,D,_⟩:=U.ns;#[o,D];show I.write (x:=a) (e:=dx) (![e] True.intro) (.inr N) (λb q J z=>(R.2 b J).trans z) L ?_;show(by rwa[ah Y.ne],2,Y.ne,U.obj,_,U.ns,λg=>?_,λg M=>?_)
 ·have:=aoe f y fs;omega
 ·change i7 ((fF f y fs).lookup g) (if g=f then some u else S g)
  rw[nu];by_cases q:g=f
  ·rwa[iB q,iB q]
  ·rw[iA q,iA q];show r g
 ·by_cases q:g=f
  ·rw[q];show(ud f y fs).1
  ·show(ud f y fs).2 g (T g λz=>M ?_)
   change (if g=f then some u else S g)=none;rwa[iA q]
def Inv.made (I:Inv X AP Z H s):Inv X AP Z (upd (upd H ↑s (.own (↑s+1))) (↑s+1) (.ins C ↑s []))
  (s⊂(s.heap.push Vh).push (Vc C ↑s)):=by
 let U:(s.heap.push Vh).get? ↑s==Vh:=Py s.heap rfl
 let Q:((s.heap.push Vh).push (Vc C ↑s)).get? (↑s+1)==(Vc C ↑s):=by
  have:=Py (s.heap.push Vh) (o:=Vc C ↑s) rfl
  rwa[vd] at this
 let R:(s.heap.push Vh).Ns ↑s (λ_=>none):=(Vh, #[],_,U,O,(λe S=>CC S gN),λ_=>O);let P:=I.laid (a:=↑s) (o:=.own (↑s+1)) (h':=s.heap.push Vh) (t':=s.toks) (λb u q=>GQ _ q) (CK _) #[_,U];show P.laid (a:=↑s+1) (o:=.ins C ↑s []) (t':=s.toks) (λb u q=>GQ _ q) (U4 (vd _ _)) ?_;let Y:↑s≠↑s+1:=QV (V3 _);show(![ah Y,af],RQ _,Y,Q,λ_=>none,(Heap.Ns1.of_empty R).at λo q=>GQ _ q,λ_=>True.intro,λy T=>CC rfl T)
def GB {Q:γ}(U:WX e f env (CQ e env)=CQ e env)
  (h:BX .s A (CQ e env) (λo Y=>BX .s A (getAttr o f true) Q E Y) E s):BX .s A (CQ (.Attribute e f pos) env) Q E s:=
 Attribute_any_ h (![arm_eval_Attribute,U])
end
inductive ag7 (K:Frag)(f:Str)(Q:VK)(x:V)(Y:Hp):Prop
|mk (a C X Z v:_)(_:x=.ref a)(_:Y a==.ins C X Z)(_:EG K C)(_:fO K C f)(_:Z.lookup f==v)(_:Q v Y)
def amL (K:Frag)(Y:TE)(f:Str):TE:=λZ H Q=>Y Z H (ag7 K f Q)
inductive ag8 (K:Frag)(f:Str)(D:Ends)(Z:St)(y:V)(x:V)(U:Hp):Prop
|mk (a C X Y:_)(_:x=.ref a)(_:U a==.ins C X Y)(_:EG K C)(_:fO K C f)(_:Y.length<1000)(_:D.nx Z (upd U a (.ins C X (fF f y Y))))
def aiy (K:Frag)(Y:TE)(f:Str)(D:Ends)(Z:L2.St)(y:V)(X:Hp):Prop:=Y Z X (ag8 K f D Z y)
def awG (K:Frag)(X Y:TE)(f:Str):TS:=λD Z H=>Y Z H (aiy K X f D Z)
section
variable {X:Cx}{o e value:Expr}{f:Str}{pos pos' xQ:Pos}{ta tv:TE}
def bf (T:PE X e ta)(S:WX e f X.env (CQ e X.env)=CQ e X.env):PE X (.Attribute e f pos) (amL X.K ta f):=by
 intro J s Z H Q I h;show GB S (cH (T J s Z H _ I h) λu D ⟨x,L,M,Y,a,C,A,B,v,R,P,c,n,l,q⟩=>?_);subst R;obtain rfl:u=Value.ref a:=Y;show ade M P c n l λG E N U=>(v,L,N,U,q)
def ke (M:PE X o ta)(P:PE X value tv)(N:Zg value (some (.Attribute o f pos')) pos.line X.env=pure false):PS X (.Assign [.Attribute o f pos'] value pos) (awG X.K ta tv f):=by
 intro Y s Z H D I h;show plainObj_wpAny_Assign_Attribute (cH (P Y s Z H _ I h) λu U ⟨y,A,B,T,q⟩=>cH (M Y U Z A _ B q) λQ w ⟨x,k,E,S,a,C,m,p,L,J,c,n,l,R⟩=>?_) N;subst L;obtain rfl:Q=Value.ref a:=S;show acC E J c n l T λz G=>(Z,_,G,R)
end
structure cp (k:Nat)(A:LA):Prop where
 hd:A.handled=none
 dp:A.depth+3*k+5<wj
 un:A.units+16*k+200<V6
def cp.mono (r:cp k A)(h:j<=k):cp j A:=(r.hd,by have:=r.dp;omega,by have:=r.un;omega)
theorem cp.deeper (r:cp (k+1) A)(Z:Env):cp k (A.deeper Z):=
 (r.hd,by have:=r.dp;change A.depth+1+3*k+5<_;omega,by have:=r.un;change A.units+3+16*k+200<_;omega)
def ab8 {A:LA}{us:ς}:(A.under (.builtin "type.__call__" #[.ref C::us,kw])).depth=A.depth+1:=by
 first|rfl|simp[Around.under,Code.weight,Code.isCreation,Code.isGuard,Code.isCaller,Code.frames,Code.isFrame,guardIds]
def acM {A:LA}{us:ς}:(A.under (.builtin "type.__call__" #[.ref C::us,kw])).units=A.units+1:=by
 first|rfl|simp[Around.under,Code.cUnits,Code.frames,Code.isFrame]
def cp.make (r:cp (k+1) A)(C:BQ)(us:ς)(Z:List (Str×Value)):cp k (A.under (.builtin "type.__call__" #[.ref C::us,Z])):=
 (r.hd,by have:=r.dp;rw[ab8];omega,by have:=r.un;rw[acM];omega)
theorem cp.depth (r:cp k A):A.depth<wj:=by have:=r.dp;omega
theorem cp.units (r:cp k A):A.units+64<V6:=by have:=r.un;omega
def vR:TA:=λ_ H Q=>Q [] H
def ma (Q:(List V->Hp->Prop))(x:V)(xs:ε)(Z:Hp):Prop:=Q (x::xs) Z
def md (Y:TA)(Z:L2.St)(Q:(List V->Hp->Prop))(x:V)(X:Hp):Prop:=Y Z X (ma Q x)
def vp (X:TE)(Y:TA):TA:=λZ H Q=>X Z H (md Y Z Q)
section
variable {X:Cx}{e:Expr}{es:ω}{te:TE}{t:TA}{pos:Pos}
def ij:PA X [] vR:=λ_ _ _ _ H Q I h=>TQ ([],H,I,.nil,h)
def aes (L:PE X e te)(M:PA X es t)(N:CW (e::es) X.env=(false,CQ e X.env)::CW es X.env:=by rfl):PA X (e::es) (vp te t):=by
 intro pos Y s Z H Q I h;rw[N];change BX _ _ (spliced ((false,CQ e X.env)::QS pos (CW es X.env))) _ _ s;show EU (cH (L Y s Z H _ I h) λu U ⟨x,D,G,S,P⟩=>?_);show cH (M pos Y U Z D _ G P) λC B ⟨xs,E,J,T,R⟩=>(x::xs,E,J,.cons S T,R)
def aiz (Q:VK)(xs:ε)(Z:Hp):Prop:=xs.length<=CM/\∀p,Z p=none->Q ⇑p (upd Z p (.tup xs))
def awH (t:TA):TE:=λZ H Q=>t Z H (aiz Q)
def aiA (Q:VK)(xs:ε)(Z:Hp):Prop:=xs.length<=CM/\∀p,Z p=none->Q ⇑p (upd Z p (.lst xs))
def awI (t:TA):TE:=λZ H Q=>t Z H (aiA Q)
def aJ (h:PA X es t):PE X (.Tuple es x1 pos) (awH t):=by
 intro N s Z H Q I R;show wpAny_Tuple_spliced (cH (h pos N s Z H _ I R) λS Y ⟨xs,T,U,r,z,q⟩=>#[by rwa[<-r.length],2]);let P:T ↑Y=none:=U.bU.fresh (CK _);show(.ref ↑Y,upd T ↑Y (.tup xs),U.laid (t':=Y.toks) (λb u e=>GQ _ e) (CK _) ?_,O,q _ P);show(z,S,r,(_,Py _ rfl,7))
def bJ (h:PA X es t):PE X (.List es pos) (awI t):=by
 intro N s Z H Q I R;show wpAny_List_spliced (cH (h pos N s Z H _ I R) λS Y ⟨xs,T,U,r,z,q⟩=>#[by rwa[<-r.length],2]);let P:T ↑Y=none:=U.bU.fresh (CK _);show(.ref ↑Y,upd T ↑Y (.lst xs),U.laid (t':=Y.toks) (λb u e=>GQ _ e) (CK _) ?_,O,q _ P);show(z,S,(0),r,Py _ rfl)
end
abbrev Sp:=List V->Hp->VK->XK->Prop
abbrev qu:=List Env->Hp->CH->XK->Value->CH->Prop
structure GG (P:HV)(w:World)(K:Frag)(mg:ι)(gV:Heap)(A:LA)(outer:List Env)(s:CH)(H:Hp):Prop where
 frames:A.frames==outer
 mod:Mod K mg gV
 bs:∀b o,gV.get? b==o->s.heap.get? b==o/\H b=none
 X5:gV.objs.size<=↑s
 qh:s.heap.FunFrames gV outer
 frf:∀b∈pT outer,H b=none
 bU:lR P w H s.heap
 bare:WU s.gens
def CE (outer:List Env)(P:HV)(w:World)(H:Hp)(s:CH)(Q:VK)(u:Value)(s':CH):Prop:=
 ∃v Z,s'.os=s.os/\WU s'.gens/\Un (pT outer) [] H Z s.heap s'.heap/\lR P w Z s'.heap/\RelV v u/\Q v Z
def CR (CX:qu)(outer:List Env)(P:HV)(w:World)(H:Hp)(s:CH)(Q:VK)(E:XK)(r:Result)(s':CH):Prop:=
 match r with
 | .ok (.ret u)=>CE outer P w H s Q u s'
 | .ok _=>False
 | .error e=>CX outer H s E e s'
structure cz (P:HV)(w:World)(K:Frag)(mg:ι)(gV:Heap)(CX:qu)(k:Nat)(f:BQ)(fd:FuncData)(ps:τ)(sp:Sp):Prop where
 len:∀vs H Q E,sp vs H Q E->vs.length=ps.length
 run:∀(A:LA)(outer:List Env)(s:CH)(H:Hp)(args:Args)(us:ς)(vs:ε)(Q:VK)(E:XK),cp k A->!GG A outer s H->BindsTo s fd args (ps.zip us)->Vals vs us->sp vs H Q E->
  Ri (BY P w) A (.call ⇑f args) (CR CX outer P w H s Q E) s
theorem cz.mono {K:Frag}(F:!cz CX j f fd ps sp)(h:j<=k):
  cz P w K mg gV CX k f fd ps sp:=#[F.len,λA Z s H args X Y Q E U=>F.run A Z s H args X Y Q E (U.mono h)]
def cz.imp {K:Frag}(F:!cz CX k f fd ps sp)
  (h:∀vs H Q E,sp' vs H Q E->sp vs H Q E):!cz CX k f fd ps sp':=
 #[λvs H Q E q=>F.len vs H Q E (h _ _ _ _ q),λA Z s H args Y vs Q E T S R X U=>F.run A Z s H args Y vs Q E T S R X (h _ _ _ _ U)]
def GG.make {K:Frag}(e:!GG A outer s H)(C:BQ)(us:ς)(Z:List (Str×Value)):
  GG P w K mg gV (A.under (.builtin "type.__call__" #[.ref C::us,Z])) outer s H:=(by first|show e.frames|(simpa[Around.under,Code.envs,Code.isFrame,pushEnvs] using e.frames),e.mod,e.bs,e.X5,e.qh,e.frf,e.bU,e.bare)
section
variable {X:Cx}{AP:ζ}{Z:St}{H:Hp}{s s':CH}
def Inv.Zt (I:Inv X AP Z H s):GG X.prog X.w X.K X.mg X.gV X.A X.stack s H:=
 (I.ok.frames,I.ok.mod,I.bs,CP I.ok.X5 I.sz,I.stack,I.xk,I.bU,I.bare)
def Inv.after (I:Inv X AP Z H s)(h:CE X.stack X.prog X.w H s Q u s'):EP X AP Z Q u s':=by
 let(v,P,os,Y,T,R,r,q):=h;let(S,g,d,t,U):=s';obtain rfl:U=s.os:=os;show(v,P,I.call (h':=S) (g':=g) (d':=d) (t':=t) (ch:=[]) T R Y (λb z=>CC z gN),r,q)
end
def jU (Z:Sp)(tj:ε)(E:XK)(Q:VK)(vs:ε)(Y:Hp):Prop:=Z (vs++tj) Y Q E
def OF (Y:Sp)(tj:ε)(E:XK)(t:TA):TE:=λZ H Q=>t Z H (jU Y tj E Q)
def aeE (C:BQ)(X:Sp)(tj:ε)(E:XK)(Q:VK)(vs:ε)(Y:Hp):Prop:=∀x Z,Y x=none->Y Z=none->Z≠x->X (.ref x::(vs++tj)) (upd (upd Y Z (.own x)) x (.ins C Z [])) (λv U=>v=.cS/\Q ⇑x U) E
def ag9 (C:BQ)(Y:Sp)(tj:ε)(E:XK)(t:TA):TE:=λZ H Q=>t Z H (aeE C Y tj E Q)
def Binds (K:Frag)(Y:FuncData)(ps:τ)(ds:ς):Prop:=
 ∀(s:CH)(Z:ς),K.In s.heap->(Z++ds).length=ps.length->BindsTo s Y #[Z,[]] (ps.zip (Z++ds))
def Binds.all {K:Frag}(h:∀us:List Value,us.length=ps.length->bindArgs fd #[us,[]]=pure (ps.zip us)):Binds K fd ps []:=λs us _ Z=>by
 rw[Zu] at Z ⊢;show .of_eq (h us Z)
def Passes (CX:qu)(X:Cx)(E:XK):Prop:=∀(U:ζ)(Z:St)(H:Hp)(s:CH)(e:Value)(Y:CH),Inv X U Z H s->CX X.stack H s E e Y ->X.xe e Y
section
variable {X:Cx}{CX:qu}{k:Nat}{f C:BQ}{fd:FuncData}{ps:τ}{sp:Sp}{tj:ε}{ds:ς}{E:XK}{x m:Str}{p pos apos:Pos}{e o:Expr}{es:ω}{ta:TE}{t:TA}
def GH {Z:St}{us:ς}{vs:ε}(F:cz X.prog X.w X.K X.mg X.gV CX k f fd ps sp)(R:cp k X.A)(M:Binds X.K fd ps ds)(N:Vals tj ds)(S:Passes CX X E)
  (I:Inv X AP Z H s) (r:Vals vs us) (h:sp (vs++tj) H Q E):BX .q X.A (call ⇑f us) (EP X AP Z Q) X.xe s:=by
 let U:Vals (vs++tj) (us++ds):=r.append N;let P:(us++ds).length=ps.length:=![<-U.length] (F.len _ _ _ _ h)
 show uR (EY (F.run X.A X.stack s H #[us,[]] (us++ds) (vs++tj) Q E R I.Zt (M s us I.lQ P) U h) λr T Y=>?_);cases r with
 | error e=>show S AP Z H s e T I Y
 | ok L=>
  cases L with
  | ret u=>show I.after Y
  | next=>show False.elim Y
  | brk=>show False.elim Y
  | cont=>show False.elim Y
def aeF (F:cz X.prog X.w X.K X.mg X.gV CX k f fd ps sp)(R:cp k X.A)(M:Gl X x)(P:X.mg x==⇑f)(N:keepIn X.K ⇑f=true)(G:Binds X.K fd ps ds)(J:Vals tj ds)(S:Passes CX X E)
  (D:PA X (e::es) t) (U:.z=false:=by decide) (L:CW (e::es) X.env=(false,CQ e X.env)::CW es X.env:=by rfl) (T:(QS pos (CW es X.env)).any (·.1)=false:=by rfl):
  PE X .W (OF sp tj E t):=by
 intro B s Z H Q I h;show se (iP I M P ?_ U);show PX (h₀:=X.gV) I.ok.mod.Y_ N (cH (D pos B s Z H _ I h) λy u ⟨z,j,Y,r,q⟩=>#[Y.lQ,2]) L T;show GH F R G J S Y r q
structure Mk (K:Frag)(C f:BQ):Prop where
 makes:yd K C=true
 init:ON K ⇑C "__init__"==(some ⇑f)
 fn:OQ K ⇑f=true
 kp:keepIn K ⇑C=true
def ags {Z:St}{us:ς}{vs:ε}(M:Mk X.K C f)(F:cz X.prog X.w X.K X.mg X.gV CX k f fd ps sp)(G:cp (k+1) X.A)(z:Binds X.K fd ps ds)(B:Vals tj ds)
  (J:Passes CX X E) (I:Inv X AP Z H s) (r:Vals vs us)
  (h:∀x U,H x=none->H U=none->U≠x->sp (.ref x::(vs++tj)) (upd (upd H U (.own x)) x (.ins C U [])) (λv j=>v=.cS/\Q ⇑x j) E):
  BX .q X.A (call ⇑C us) (EP X AP Z Q) X.xe s:=by
 let R:=h (↑s+1) ↑s (I.bU.fresh (zg _)) (I.bU.fresh (CK _)) (QV (V3 _));let T:=Inv.made (C:=C) I;let S:Vals (V.ref (↑s+1)::(vs++tj)) (Value.ref (↑s+1)::(us++ds)):=.cons rfl (r.append B)
 let D:(Value.ref (↑s+1)::us++ds).length=ps.length:=by
  let e:=S.length;rw[F.len _ _ _ _ R] at e;show e.symm
 show uR (ahq (f:=f) I.lQ M.makes M.init (beq_iff_eq.mp M.fn) (EY (F.run _ X.stack _ _ #[Value.ref (↑s+1)::us,[]] (Value.ref (↑s+1)::(us++ds)) _ _ E (G.make C us [])
  (T.Zt.make C us []) (z _ (Value.ref (↑s+1)::us) T.lQ D) S R) λr P Y =>?_))
 cases r with
 | error e=>show J AP Z _ _ e P T Y
 | ok y=>
  cases y with
  | ret u=>
   let(v,i,q,N,ev,L):=T.after Y;subst ev;show#[N,(V.ref (↑s+1),i,q,O,L)]
  | next=>show False.elim Y
  | brk=>show False.elim Y
  | cont=>show False.elim Y
def aep (M:Mk X.K C f)(F:cz X.prog X.w X.K X.mg X.gV CX k f fd ps sp)(R:cp (k+1) X.A)(N:Gl X x)(P:X.mg x==⇑C)(G:Binds X.K fd ps ds)(J:Vals tj ds)(S:Passes CX X E)
  (D:PA X (e::es) t) (U:.z=false:=by decide) (L:CW (e::es) X.env=(false,CQ e X.env)::CW es X.env:=by rfl) (T:(QS pos (CW es X.env)).any (·.1)=false:=by rfl):
  PE X .W (ag9 C sp tj E t):=by
 intro B s Z H Q I h;show se (iP I N P ?_ U);show PX (h₀:=X.gV) I.ok.mod.Y_ M.kp (cH (D pos B s Z H _ I h) λy u ⟨z,j,Y,r,q⟩=>#[Y.lQ,2]) L T;show ags M F R G J S Y r q
def ahk (M:Mk X.K C f)(F:cz X.prog X.w X.K X.mg X.gV CX k f fd ps sp)(T:cp (k+1) X.A)(R:Gl X x)(S:X.mg x==⇑C)(N:Binds X.K fd ps ds)(P:Vals tj ds)(U:Passes CX X E)
  (Y:.z=false:=by decide):PE X (.Call (.Name x p) [] [] pos) (ag9 C sp tj E vR):=by
 intro L s Z H Q I h;show se (iP I R S ?_ Y);show PySem.W.callWith_K0 I.lQ M.kp (ags (us:=[]) M F T N P U I .nil h)
end
structure av (N P:τ)(sc:Scope):Prop where
 kind:sc.kind=.function
 co:sc.isCoroutine=false
 gen:sc.isGenerator=false
 nd:N.Nodup
 pre:N.take P.length=P
 par:∀x∈P,sc.names.lookup x==.local\/sc.names.lookup x==.cell
 aiB:∀y∈sc.names,y.2≠.free
theorem aiR {VZ:Str->Option NameKind}:∀{binds:List (Str×Value)} {m:ι},(∀v,(x,v)∉binds)->bindL VZ binds m x=m x
 | [],_,_=>rfl
 | (n,v)::r,m,h=>by
  unfold bindL;rw[aiR λw Z=>h w (OX _ Z)];split
  ·have:x≠n:=by rintro rfl;show h v Pz
   simp[this]
  ·rfl
theorem ahz {VZ:Str->Option NameKind}:∀{binds:List (Str×Value)} {m:ι},(∀v,(x,v)∉binds)->bindC VZ binds m x=m x
 | [],_,_=>rfl
 | (n,v)::r,m,h=>by
  unfold bindC;rw[ahz λw Z=>h w (OX _ Z)];split
  ·rfl
  ·have:x≠n:=by rintro rfl;show h v Pz
   simp[this]
theorem ahx {VZ:Str->Option NameKind}:∀{P:τ} {vs:ς} {i:Nat} {m:ι},P.Nodup->P[i]?==x->vs[i]?==v->VZ x==.local->
  bindL VZ (P.zip vs) m x==v
 | [],_,_,_,_,h,_,_=>by simp at h
 | _::_,[],_,_,_,_,h,_=>by simp at h
 | p::P,w::vs,0,m,X,Y,Z,U=>by
  simp at Y Z;subst Y;subst Z;change bindL VZ ((p,w)::P.zip vs) m p=_;unfold bindL;rw[aiR λv T=>(VS.mp X).1 (UN T).1,iB U];simp
 | p::P,w::vs,i+1,m,X,Y,Z,U=>by
  change bindL VZ ((p,w)::P.zip vs) m x=_;unfold bindL;show ahx (i:=i) (VS.mp X).2 (~~~Y) (~~~Z) U
theorem ahH {VZ:Str->Option NameKind}:∀{P:τ} {vs:ς} {i:Nat} {m:ι},P.Nodup->P[i]?==x->vs[i]?==v->VZ x≠some .local->
  bindC VZ (P.zip vs) m x==v
 | [],_,_,_,_,h,_,_=>by simp at h
 | _::_,[],_,_,_,_,h,_=>by simp at h
 | p::P,w::vs,0,m,X,Y,Z,U=>by
  simp at Y Z;subst Y;subst Z;change bindC VZ ((p,w)::P.zip vs) m p=_;unfold bindC;rw[ahz λv T=>(VS.mp X).1 (UN T).1,iA U];simp
 | p::P,w::vs,i+1,m,X,Y,Z,U=>by
  change bindC VZ ((p,w)::P.zip vs) m x=_;unfold bindC;show ahH (i:=i) (VS.mp X).2 (~~~Y) (~~~Z) U
def start (N:τ)(vs:ε):St:=vs.map some++FZ (N.length-vs.length) none
def kO (CX:qu)(P:HV)(w:World)(K:Frag)(mg:ι)(gV:Heap)(N:τ)(Y:Str)(Z:Scope)(f:BQ)(U:Value)(A:LA)(outer:List Env)(s:CH)(H:Hp)(E:XK):Cx where
 prog:=P
 w:=w
 K:=K
 mg:=mg
 gV:=gV
 A:=A.deeper (RH Y Z ↑s f U)
 N:=N
 qe:=s
 H₀:=H
 env:=RH Y Z ↑s f U
 outer:=outer
 stack:=RH Y Z ↑s f U::outer
 ex:=[]
 calm:=true
 fn:=λ_=>true
 pn:=[]
 xe:=λe T=>BX (BY P w) (A.deeper (RH Y Z ↑s f U)) (leaving (RH Y Z ↑s f U) e) (λ_ X=>CX outer H s E e X) (λS X=>CX outer H s E S X) T
def agi {Z:Scope}(h:Z.names.lookup x==.cell):∃c,(cellsFrom n Z.names []).lookup x==c:=by
 let q:=PySem.W.cellsFrom_some Z.names n [] (.inl h);show aja.mp q
def agp {K:Frag}{us:ς}{vs:ε}
  (S:av N ps scope) (G:A.handled=none) (Y:!GG A outer s H) (o:vs.length=ps.length) (r:Vals vs us)
  (x:InCallC s ↑s (bindL (RH qual scope ↑s f cd).kindOf (ps.zip us) λ_=>none) (cellsFrom (↑s+1) scope.names []) (bindC (RH qual scope ↑s f cd).kindOf (ps.zip us) λ_=>none) s1):
  Inv (kO CX P w K mg gV N qual scope f cd A outer s H E) [] .Y H s1:=by
 let C:ps.length<=N.length:=by have:=sU uz S.pre;rw[QT] at this;omega
 let(M,B,rfl,J):=x.done;let X:∀b:BQ,b∉(kO CX P w K mg gV N qual scope f cd A outer s H E).ex:=λb z=>CC (show b∈([]:List BQ) from z) gN
 show((Y.mod,S.kind,8,CK _,λy z c M Z=>?_,λy U=>?_,λy c _ h=>?_,λ_=>G,Around.frames_deeper Y.frames,.inr #[8],λb z=>CC z (X b),Y.bs,Y.X5,λb _ _=>X b,λb z=>CC z (X b),Y.qh,Y.frf),
  O,Y.bare,Un.kept J,(_,x.toInCall.ns,λi y v M Z m=>?_),λy c h=>#[_,x.cell y c h],Y.bU.fresh (CK _),λy c h=>?_,λp R=>CC (show p∈([]:List (BQ×Obj)) from R) gN,Y.bU.kept J,2)
 ·show name_of_addr x.apart (Us M) (Us Z)
 ·let U:scope.names.lookup y==.cell\/scope.names.lookup y==.free:=U
  rcases U with U|U
  ·show agi U
  ·show CC rfl (S.aiB _ (Us U))
 ·show RK (x.above y c (Us h))
 ·let Q:i<vs.length:=by
   unfold start at Z;by_cases Q:i<vs.length
   ·show Q
   ·rw[RF (~~~Q)] at Z
    rw[qM] at Z;split at Z<;>cases Z
  let D:vs[i]?==v:=by
   unfold start at Z;rw[PR (~~~Q),Wp] at Z;cases e:vs[i]? with
   | none=>erw[e] at Z
   | some a=>erw[e] at Z;rfl
  let(u,L,I):=r.get D
  let R:ps[i]?==y:=by
   rwa[<-S.pre,anx gu]
  let T:ps.Nodup:=![<-S.pre] (S.nd.sublist (List.take_sublist _ _))
  show(u,I,2)
  rcases S.par y (CU R) with k|k
  ·show .inl #[k,ahx T R L k]
  ·let(c,e):=agi (n:=↑s+1) k
   show .inr (.inl k,c,e,2);let q:=x.cell y c e;rw[ahH T R L (by change scope.names.lookup y≠_;rw[k];decide)] at q;show q
 ·show Y.bU.fresh (RK (x.above y c (Us h)))
 ·unfold start
  change _=N.length;rw[GY,CA,vT];omega
def xS {K:Frag}{j kV M m Y i oc:Value}{g od:χ}
  {qv:Ι}   (lk:K.lookup f==(oc,od,.func (fnOf name qual params body scope j kV M m g Y i),qv)) (m8:codeIn K Y qual=true) (S:av N ps scope)
  (U:∀vs H Q E,sp vs H Q E->vs.length=ps.length)
  (fg:∀(A:LA)(outer:List Env)(s:CH)(H:Hp)(vs:ε)(Q:VK)(E:XK),cp k (A.deeper (RH qual scope ↑s f Y))->sp vs H Q E->
   ∃t,tf (kO CX P w K mg gV N qual scope f Y A outer s H E) body t/\t {nx:=λ_ Z=>Q .cS Z,rt:=Q} .Y H):
  cz P w K mg gV CX (k+1) f (fnOf name qual params body scope j kV M m g Y i) ps sp:=by
 show#[U,λA outer s H args a vs Q E B R hb r z=>?_];let hl:=U _ _ _ _ z;let c:K.In s.heap:=R.mod.Y_.keeps λb o e=>(R.bs b o e).1;let C:s.heap.NoLimit:=R.mod.nolimit.keeps λb o e=>(R.bs b o e).1
 let Zv:∀y∈ps.zip a,scope.names.lookup y.1==.local\/(scope.names.lookup y.1==.cell/\((cellsFrom (↑s+1) scope.names []).lookup y.1).isSome=true):=λ⟨n,v⟩ hy=>by
  rcases S.par n (UN hy).1 with q|q
  ·show .inl q
  ·show .inr #[q,PySem.W.cellsFrom_some _ _ _ (.inl q)]
 show codeAny_call_function B.depth (c\lk) rfl S.co S.gen rfl (PySem.W.codeRec_of c m8) (hb _ _ _ _ ?_);show wpAny_newFunctionEnv_cells S.kind Zv λenv he p x=>?_;subst he;show#[C.keeps x.toInCall.keep,codeAny_func ?_];let(t,ht,hq):=fg A outer s H vs Q E (B.deeper _) z;let I:Inv (kO CX P w K mg gV N qual scope f Y A outer s H E) [] .Y H p:=agp S B.hd R hl r x;show Oy (ht [] p .Y H _ I hq) (λfl G X=>?_) λe G X=>X
 let T:∀{L :St} {Z:Hp} {v:V} {u:Value},Inv (kO CX P w K mg gV N qual scope f Y A outer s H E) [] L Z G ->RelV v u->Q v Z ->CE outer P w H s Q u G:=
  λ{L Z v u} J D q=>(v,Z,J.os,J.bare,J.gV,J.bU,D,q)
 cases fl with
 | ret u=>
  let(v,L,Z,J,D,q):=X;show T J D q
 | next=>
  let(L,Z,J,q):=X;show T (v:=V.cS) (u:=Value.none) J rfl q
 | brk=>
  let(_,_,_,q):=X;show False.elim q
 | cont=>
  let(_,_,_,q):=X;show False.elim q
section
variable {X:Cx}{x:Str}{p pos:Pos}{e:Expr}{es:ω}{t:TA}{id T:String}{r:List V->Hp->VK->Prop}
def amN (r:List V->Hp->VK->Prop)(Q:VK)(vs:ε)(Z:Hp):Prop:=r vs Z Q
def tCB (r:List V->Hp->VK->Prop)(t:TA):TE:=λZ H Q=>t Z H (amN r Q)
def aI (B:mL X (.builtin id) r)(D:Gl X x)(E:X.mg x=none)(J:V0 x==.builtin id)(A:PA X (e::es) t)(G:x≠ "__name__":=by decide)(U:.z=false:=by decide)
  (C:CW (e::es) X.env=(false,CQ e X.env)::CW es X.env:=by rfl) (R:(QS pos (CW es X.env)).any (·.1)=false:=by rfl):PE X .W (tCB r t):=by
 intro Y s Z H Q I h;show se (gP I D E J ?_ G U);show PyProof.Rows.callWith_builtin1 (cH (A pos Y s Z H _ I h) λP N ⟨S,y,z,M,L⟩=>B Y N Z y S P Q z M L) C R
def iK (B:mL X (.type T) r)(D:Gl X x)(E:X.mg x=none)(J:V0 x==.type T)(A:PA X (e::es) t)(G:x≠ "__name__":=by decide)(U:.z=false:=by decide)
  (C:CW (e::es) X.env=(false,CQ e X.env)::CW es X.env:=by rfl) (R:(QS pos (CW es X.env)).any (·.1)=false:=by rfl):PE X .W (tCB r t):=by
 intro Y s Z H Q I h;show se (gP I D E J ?_ G U);show vb (cH (A pos Y s Z H _ I h) λP N ⟨S,y,z,M,L⟩=>B Y N Z y S P Q z M L) C R
end
end L2
namespace HT
open PySem PyProof.Rows
section
variable {prog:HV}{w:World}{A:LA}{E:γ}{s:CH}
def OI (n d:Nat):Option Int->Nat
 | none=>d
 | some v=>if v<0 then (v+(n:Int)).toNat else min v.toNat n
def OJ (n d:Nat):OI n d none=d:=rfl
def xo (n d k:Nat):OI n d (some (k:Int))=min k n:=by
 change (if (k:Int)<0 then ((k:Int)+(n:Int)).toNat else min (k:Int).toNat n)=min k n;rw[iA gu,yv]
end
end HT
namespace L2
open PySem PySem.Spec PyProof.Rows
abbrev TO:=St->Hp->(Option Int->Hp->Prop)->Prop
def PO (X:Cx)(e:Option Expr)(t:TO):Prop:=
 ∀(U:ζ)(s:CH)(Z:St)(H:Hp)(Q:Option Int->Hp->Prop),Inv X U Z H s->t Z H Q->
  BX .q X.A (evalPart e X.env) (λu T=>∃o Y,Inv X U Z Y T/\IsPart u o/\Q o Y) X.xe s
def aeG:TO:=λ_ H Q=>Q none H
inductive Zw (Q:(Option Int->Hp->Prop))(x:V)(Z:Hp):Prop
|mk (i:_)(_:x=.int i)(_:Q (some i) Z)
def amO (t:TE):TO:=λZ H Q=>t Z H (Zw Q)
section
variable {X:Cx}{e:Expr}{te:TE}{lo hi:Option Expr}{tl th:TO}{pos p2:Pos}
def fV:PO X none aeG:=by
 intro Y s Z H Q I h;rw[evalPart_none];show CO (none,H,I,.none,h)
def eO (h:PE X e te):PO X (some e) (amO te):=by
 intro P s Z H Q I T;rw[evalPart_some];show cH (h P s Z H _ I T) λu N ⟨x,R,S,Y,U⟩=>?_;let(i,rfl,q):=U;let(t,rfl):=Y;show(some i,R,S,.int i t,q)
def SlR (X:Cx)(r:Λ):Prop:=
 ∀(S:ζ)(s:CH)(Z:St)(H:Hp)(x:V)(v vl Y:Value)(lo hi:Option Int)(U:BQ)(Q:VK),Inv X S Z H s->RelV x v->s.heap.IsSliceOf U vl Y .none->IsPart vl lo->IsPart Y hi->r x lo hi H Q->
  ∃T id,typeLookup (.type T) "__getitem__"=pure (some (.builtin id))/\s.TypeIs v T/\BX .q X.A (getItem v ⇑U) (EP X S Z Q) X.xe s
def amP (r:Λ)(Q:VK)(x:V)(l:Option Int)(u:Option Int)(Z:Hp):Prop:=r x l u Z Q
def amQ (r:Λ)(th:TO)(Z:L2.St)(Q:VK)(x:V)(l:Option Int)(Y:Hp):Prop:=th Z Y (amP r Q x l)
def amR (r:Λ)(tl:TO)(th:TO)(Z:L2.St)(Q:VK)(x:V)(Y:Hp):Prop:=tl Z Y (amQ r th Z Q x)
def tSl (r:Λ)(te:TE)(tl th:TO):TE:=λZ H Q=>te Z H (amR r tl th Z Q)
def dH (z:SlR X r)(o:PE X e te)(y:PO X lo tl)(C:PO X hi th):PE X (.Subscript e (.Slice lo hi none p2) pos) (tSl r te tl th):=by
 intro U s Z H Q I h;show Subscript_ (cH (o U s Z H _ I h) λv N ⟨x,c,g,M,G⟩=>?_);show wpAny_Slice (cH (y U N Z c _ g G) λvl P ⟨l,f,i,D,J⟩=>cH (C U P Z f _ i J) λS Y ⟨u,R,j,E,L⟩=>?_);rw[evalPart_none];show CO ?_;let k:Inv X U Z R (Y⊂Y.heap.push ("slice"^^^[vl,S,.none])):=j.kept (t':=Y.toks) λb a q=>GQ _ q;let(T,id,m,B,p):=z U (Y⊂Y.heap.push ("slice"^^^[vl,S,.none])) Z R x v vl S l u ↑Y Q k M (Heap.IsSliceOf.new ..) D E L;change BX .q X.A (subscriptTail e (.Slice lo hi none p2) v (.ref ↑Y)) (EP X U Z Q) X.xe (Y⊂Y.heap.push ("slice"^^^[vl,S,.none]));show tail_any (ops:=[.ref ↑Y,v]) B m p (by with_unfolding_all rfl)
def me (xs:ε)(lo hi:Option Int):List V:=(xs.drop (HT.OI xs.length 0 lo)).take (HT.OI xs.length xs.length hi-HT.OI xs.length 0 lo)
def acw (xs:ε)(lo hi:Option Int):(me xs lo hi).length<=xs.length:=by
 unfold me;rw[QT,ZX];omega
end
def TL (n:Nat)(i:Int):Option Nat:=if 0<=i then (if i<n then some i.toNat else none) else if -(n:Int)<=i then some (i+n).toNat else none
def oM {Y:Type}(xs:List Y)(i:Int):Option Y:=(TL xs.length i).bind λj=>xs[j]?
def aeo (h:TL n i==j):seqIndex? i n==j/\j<n/\ -(n:Int)<=i/\i<n:=by
 unfold TL at h;by_cases Y:0<=i
 ·rw[iB Y] at h
  by_cases Z:i<n
  ·rw[iB Z] at h
   let e:i.toNat=j:=VE h;show(![seqIndex_of Y Z,e],gu,gu,Z)
  ·erw[iA Z] at h
 ·rw[iA Y] at h
  by_cases Z: -(n:Int)<=i
  ·rw[iB Z] at h
   let e:(i+n).toNat=j:=VE h;show(![seqIndex_neg gu Z,e],gu,Z,gu)
  ·erw[iA Z] at h
def GJ {v:Y}(h:oM xs i==v):∃j,seqIndex? i xs.length==j/\xs[j]?==v/\j<xs.length/\ -(xs.length:Int)<=i/\i<xs.length:=by
 unfold oM at h;cases e:TL xs.length i with
 | none=>erw[e] at h
 | some j=>
  rw[e] at h;let(T,U,X,Z):=aeo e;show(j,T,h,U,X,Z)
def b9 {j:Nat}{v:Y}(h:xs[j]?==v):oM xs (j:Int)==v:=by
 let Z:j<xs.length:=(ir.mp h).1
 let e:TL xs.length (j:Int)==j:=by
  unfold TL;rw[iB gu,iB gu];simp
 unfold oM;rwa[e]
def agh (xs:List Y)(v:Y):oM (xs++[v]) (-1)==v:=by
 let Z:(xs++[v]).length=xs.length+1:=by simp
 let e:TL (xs++[v]).length (-1)==xs.length:=by
  unfold TL;rw[Z,iA gM,iB gu];congr 1;omega
 unfold oM;rw[e];change (xs++[v])[xs.length]?==v;simp
def aen (b:Expr):Prop:=∀o i,subscripted b false o i=operate [o,i] (getItem o i)
def IxR (X:Cx)(r:R2):Prop:=
 ∀(U Y:Expr)(T:ζ)(s:CH)(Z:St)(H:Hp)(x y:V)(v u:Value)(Q:VK),Inv X T Z H s->RelV x v->RelV y u->r x y H Q->
  subscripted Y false v u=operate [v,u] (getItem v u)->BX .q X.A (subscriptTail U Y v u) (EP X T Z Q) X.xe s
def MtR (X:Cx)(id:String)(r:Φ):Prop:=
 ∀(U:ζ)(s:CH)(Z:St)(H:Hp)(x:V)(xs:ε)(v:Value)(Y:ς)(Q:VK),Inv X U Z H s->RelV x v->Vals xs Y->r x xs H Q->
  BX .q X.A (call (.builtin id) (v::Y)) (EP X U Z Q) X.xe s
section
variable {X:Cx}{a b:Expr}{ta tb:TE}{pos:Pos}
def Zy (R:IxR X r)(N:PE X a ta)(P:PE X b tb)(S:aen b):PE X (.Subscript a b pos) (tOp r ta tb):=by
 intro J s Z H Q I h;show Subscript_ (aiv N P I h λv u Y x y L M T U q=>R a b J Y Z L x y v u Q M T U q (S _ _))
inductive aeH (K:Frag)(x:V)(y:V)(H:Hp)(Q:VK):Prop
|mk (p xs i v:_)(_:x=.ref p)(_:y=.int i)(_:aY K H p xs)(_:oM xs i==v)(_:Q v H)
inductive aeI (K:Frag)(x:V)(y:V)(H:Hp)(Q:VK):Prop
|mk (p xs i v:_)(_:x=.ref p)(_:y=.int i)(_:cb K H p xs)(_:oM xs i==v)(_:Q v H)
inductive amS (x:V)(y:V)(H:Hp)(Q:VK):Prop
|mk (z i c:_)(_:x=.str z)(_:y=.int i)(_:z.length<=CM)(_:oM z.cps.toList i==c)(_:Q (.str #[(List.toArray [c])]) H)
def aG:IxR X (aeH X.K):=by
 intro T S J s Z H x y v u Q I D E h N;let(p,xs,i,z,rfl,rfl,C,A,q):=h;cases D;let(t,rfl):=E;let(g,r,R,c):=I.list C;let(j,U,k,h3,m,o):=GJ A;let(w,L,f):=r.get k;let B:=r.length;let hn:=uc;let Y:EP X J Z Q w s:=(z,H,I,f,q);by_cases M:0<=i
 ·let P:i.toNat=j:=by
   rw[seqIndex_of M o] at U;show VE U
  show item_listR R.isList M gu (by rw[P];simpa using L) Y N
 ·let P:(i+(g.toArray.size:Int)).toNat=j:=by
   rw[seqIndex_neg gu m] at U;rw[RS,<-B];show VE U
  show subscriptTail_builtinR (x:=w) R.isList.typeIs slot_list_getitem.lookup
   (wpAny_getItem_list_neg (Q:=λr G=>r=w/\EP X J Z Q r G) R.isList gu (by rw[RS]<;>omega) gu (by rw[P];simpa using L) #[O,Y]) N
def zaQ:IxR X (aeI X.K):=by
 intro Y U R s Z H x y v u Q I M N h L;let(p,xs,i,z,rfl,rfl,J,E,q):=h;cases M;let(t,rfl):=N;let(c,r,S,A):=I.tuple J;let(j,f,D,g,k,m):=GJ E;let(w,C,B):=r.get D;let G:=r.length;let o:=uc;let T:EP X R Z Q w s:=(z,H,I,B,q)
 show subscriptTail_builtinR (x:=w) S.typeIs slot_tuple_getitem.lookup
  (getItem_tuple (j:=j) (Q:=λr P=>r=w/\EP X R Z Q r P) S gu gu (by rwa[RS,<-G]) (~~~C) #[O,T]) L
def aiD:IxR X amS:=by
 intro Y U p s Z H x y v u Q I R S h P;let(z,i,c,rfl,rfl,B,M,q):=h;let(t,rfl):=R;let(C,rfl):=S;let(j,T,G,w,J,L):=GJ M;let N:z.cps.toList.length=z.length:=by simp[Str.length]
 rw[N] at T J L;let A:=uc
 show tail_any (typeIs_str s z t) slot_str_getitem.lookup (getItem_str (c:=c) (by
  let D:decide (i < -(2^63:Int))=false:=Sb gu;let E:decide (i≥2^63)=false:=Sb gu
  rw[D,E,auX]) (by rw[T];simpa using G) (.str #[(List.toArray [c])],H,I.tok _,#[0],q)) P
def acA (BS:ς)(n j:Nat)(u:Value):uL (·.setIfInBounds j u) ("list"^^^.seq BS.toArray n)=("list"^^^.seq (BS.set j u).toArray n):=by
 simp[uL]
theorem Inv.lst {Z:St}(I:Inv X AP Z H s)(h:H p==.lst xs):
  ∃(BS:ς)(n:Nat),Vals xs BS/\s.heap.get? p==("list"^^^.seq BS.toArray n)/\xs.length<=CM:=by
 let(z,BS,n,r,e):=I.bU p _ h;show(BS,n,r,e,z)
def Inv.aiE {Z:St}{xs ys:ε}{BS sW:ς}(I:Inv X AP Z H s)(h:H p==.lst xs)
  (T:s.heap.get? p==("list"^^^.seq BS.toArray n)) (Y:f ("list"^^^.seq BS.toArray n)=("list"^^^.seq sW.toArray n')) (r:Vals ys sW) (U:ys.length<=CM) (t:Nat):
  Inv X AP Z (upd H p (.lst ys)) {s with heap:=s.heap.update p f,toks:=t}:=by
 let e:(s.heap.update p f).get? p==("list"^^^.seq sW.toArray n'):=by
  rw[EV f T (by rw[Y]<;>rfl),Y]
 show I.write (x:=p) (e:=p) (by rw[h];trivial) .V (λb u S q=>(Vx\(CV S)).trans q) #[_,e] ?_;show(U,sW,n',r,e)
inductive ag' (o:V)(i:V)(v:V)(H:Hp)(Q:(Hp->Prop)):Prop
|mk (p xs k j:_)(_:o=.ref p)(_:i=.int k)(_:H p==.lst xs)(_:TL xs.length k==j)(_:Q (upd H p (.lst (xs.set j v))))
def set_list:amx X ag':=by
 intro B s Z H o i v A z u Q I J G L h;let(p,xs,k,j,rfl,rfl,R,E,q):=h;cases J;let(t,rfl):=G;let(M,n,r,U,y):=I.lst R;let(Y,w,C,D):=aeo E;let T:=r.length;let x:=uc
 let N:Inv X B Z (upd H p (.lst (xs.set j v))) (s⊂s.heap.update p (uL (·.setIfInBounds j u))):=
  I.aiE R U (acA M n j u) (r.set L j) (by rwa[UL]) s.toks
 by_cases P:0<=k
 ·let S:k.toNat=j:=by
   rw[seqIndex_of P D] at Y;show VE Y
  show PySem.W.ki_setAt U P gu (by rwa[RS,<-T]) (by rw[S];show(_,N,q))
 ·let S:(k+(M.toArray.size:Int)).toNat=j:=by
   rw[seqIndex_neg gu C] at Y;rw[RS,<-T];show VE Y
  show PySem.W.ki_setBack U gu (by rwa[RS,<-T]) gu (by rw[S];show(_,N,q))
def ab1 (lo Z:Option Int)(n:Nat):(v_ lo Z none n).1=((HT.OI n 0 lo:Nat):Int)/\(v_ lo Z none n).2.1=((HT.OI n n Z:Nat):Int)/\(v_ lo Z none n).2.2=1:=by
 show(2,2,O)
 ·cases lo with
  | none=>simp[v_,HT.OI]
  | some i=>
   simp only[v_,HT.OI,apL,show(1:Int) > 0 by decide,if_true];by_cases h:i<0
   ·simp only[h,if_true]<;>omega
   ·simp only[h,if_false]<;>omega
 ·cases Z with
  | none=>simp[v_,HT.OI]
  | some i=>
   simp only[v_,HT.OI,apL,show(1:Int) > 0 by decide,if_true];by_cases h:i<0
   ·simp only[h,if_true]<;>omega
   ·simp only[h,if_false]<;>omega
def kvs (BS:ς)(lo Z:Option Int):slicePick BS.toArray lo Z none=((BS.drop (HT.OI BS.length 0 lo)).take (HT.OI BS.length BS.length Z-HT.OI BS.length 0 lo)).toArray:=by
 let(T,U,Y):=ab1 lo Z BS.toArray.size;unfold slicePick;rw[T,U,Y];simp only[sliceRange_one,pick_run,RS]<;>rfl
inductive amT (K:Frag)(x:V)(lo:Option Int)(Z:Option Int)(H:Hp)(Q:VK):Prop
|mk (a xs:_)(_:x=.ref a)(_:aY K H a xs)(_:∀p,H p=none->Q (.ref p) (upd H p (.lst (me xs lo Z))))
def fW:SlR X (amT X.K):=by
 intro C s Z H x v vl J lo U G Q I S L P R h;let(a,xs,rfl,M,q):=h;cases S;let(D,r,T,N):=I.list M;let Y:=r.length;show("list",_,slot_list_getitem.lookup,T.isList.typeIs,wpAny_getItem_list_slice T.isList L P R .none gN ?_ (by rw[RS]<;>omega));rw[kvs,<-Y];show(.ref ↑s,_,I.laid (t':=s.toks) (o:=.lst (me xs lo U)) (λb E q=>GQ _ q) (CK _) ?_,O,q _ (I.bU.fresh (CK _)));show(CP (acw xs lo U) N,_,(0),(r.drop (HT.OI xs.length 0 lo)).take (HT.OI xs.length xs.length U-HT.OI xs.length 0 lo),Py _ rfl)
def jt:V->Bool
 | .cS=>true
 | .bl _=>true
 | .int _=>true
 | .str _=>true
 | _=>false
def xr:V->V->Bool
 | .cS,.cS=>true
 | .bl a,.bl b=>a⊆b
 | .bl a,.int b=>(if a then 1 else 0)⊆b
 | .int a,.bl b=>a⊆(if b then 1 else 0)
 | .int a,.int b=>a⊆b
 | .str a,.str b=>a⊆b
 | _,_=>false
def zaz (U:RelV y u)(Z:RelV x v)(S:jt y=true)(T:jt x=true):SeqAt.EqAt A s u v (xr y x):=by
 cases y with
 | cS=>
  cases U;cases x with
  | cS=>cases Z;show SeqAt.EqAt.same _
  | bl b=>cases Z;show SeqAt.EqAt.none_bool b
  | int b=>let(t,rfl):=Z;show SeqAt.EqAt.none_int b t
  | str b=>let(t,rfl):=Z;show SeqAt.EqAt.none_str b t
  | _=>show CC (show false=true from T) QW
 | bl a=>
  cases U;cases x with
  | cS=>cases Z;show SeqAt.EqAt.bool_none a
  | bl b=>cases Z;show SeqAt.EqAt.bool_bool a b
  | int b=>let(t,rfl):=Z;show SeqAt.EqAt.bool_int a b t
  | str b=>let(t,rfl):=Z;show SeqAt.EqAt.bool_str a b t
  | _=>show CC (show false=true from T) QW
 | int a=>
  let(Y,rfl):=U;cases x with
  | cS=>cases Z;show SeqAt.EqAt.int_none a Y
  | bl b=>cases Z;show SeqAt.EqAt.int_bool a Y b
  | int b=>let(t,rfl):=Z;show SeqAt.EqAt.int_int a Y b t
  | str b=>let(t,rfl):=Z;show SeqAt.EqAt.int_str a Y b t
  | _=>show CC (show false=true from T) QW
 | str a=>
  let(Y,rfl):=U;cases x with
  | cS=>cases Z;show SeqAt.EqAt.str_none a Y
  | bl b=>cases Z;show SeqAt.EqAt.str_bool a Y b
  | int b=>let(t,rfl):=Z;show SeqAt.EqAt.str_int a Y b t
  | str b=>let(t,rfl):=Z;show SeqAt.EqAt.str_str a Y b t
  | _=>show CC (show false=true from T) QW
 | _=>show CC (show false=true from S) QW
def ZC (x:V)(u:Value):Bool:=match u with
 | .none=>xr .cS x
 | .bool b=>xr (.bl b) x
 | .int i _=>xr ↥i x
 | .str z _=>xr (.str z) x
 | _=>false
def QX (r:RelV y u)(f:jt y=true):ZC x u=xr y x:=by
 cases y with
 | cS=>cases r;rfl
 | bl b=>cases r;rfl
 | int i=>let(t,rfl):=r;rfl
 | str z=>let(t,rfl):=r;rfl
 | _=>show CC (show false=true from f) QW
def adU :∀{xs:ε} {us:ς},Vals xs us->xs.all jt=true->us.any (ZC x)=xs.any λy=>xr y x:=by
 intro xs us h;induction h with|nil=>intro _;rfl|cons r t Z=>intro f;rw[vt,EK] at f;rw[Pu,Pu,QX r f.1,Z f.2]
def xT (U:RelV x v)(S:jt x=true):∀{xs:ε} {us:ς},Vals xs us->xs.all jt=true->∀u∈us,SeqAt.EqAt A s u v (ZC x u):=by
 intro xs us h;induction h with
 | nil=>intro _ u Z;cases Z
 | cons r t T=>
  intro f Y Z;rw[vt,EK] at f
  rcases QQ.mp Z with rfl|Z
  ·rw[QX r f.1];show zaz r U f.1 S
  ·show T f.2 Y Z
def ZD (x:V)(xs:ε):Bool:=xs.any λy=>xr y x
inductive rIn (K:Frag)(neg:Bool)(x:V)(y:V)(H:Hp)(Q:VK):Prop
|mk (p xs:_)(_:y=.ref p)(_:(aY K H p xs\/cb K H p xs))(_:jt x=true)(_:xs.all jt=true)(_:Q (.bl (if neg then !ZD x xs else ZD x xs)) H)
def ja:oJ X (V2 .NotIn) (rIn X.K true):=by
 intro J s Z H x y v u Q I P M h;let(p,xs,rfl,Y,N,T,q):=h;cases M
 rcases Y with Y|Y
 ·let(U,r,S,L):=I.list Y
  show SeqAt.notIn_listAt (ZC x) S.isList (λw R=>xT P N r T w (~~~R)) (.bl _,H,I,O,2);rwa[show U.toArray.any (ZC x)=U.any (ZC x) by simp,adU r T]
 ·let(U,r,S,L):=I.tuple Y
  show SeqAt.notIn_tupleAt (ZC x) S (λw R=>xT P N r T w (~~~R)) (.bl _,H,I,O,2);rwa[show U.toArray.any (ZC x)=U.any (ZC x) by simp,adU r T]
def ay:mL X (.builtin "len") (λxs H Q=>∃p ys,xs=[⇑p]/\(aY X.K H p ys\/cb X.K H p ys)/\Q ↥ys.length H):=by
 intro J s Z H xs M Q I r h;let(p,ys,rfl,U,q):=h;let(u,rfl,R):=vals1 r;cases R;let L:=uc
 rcases U with U|U
 ·let(N,T,S,P):=I.list U
  let Y:=T.length;show Calls.call_len_list S.isList (by simp only[RS]<;>omega) (↥ys.length,H,I.tok _,#[s.toks+1,![RS,Y]],q)
 ·let(N,T,S,P):=I.tuple U
  let Y:=T.length;show len_tuple S (by simp only[RS]<;>omega) (↥ys.length,H,I.tok _,#[s.toks+1,![RS,Y]],q)
def tyV (K:Frag)(T:String)(x:V)(H:Hp):Prop:=match x with
 | .str _=>T="str"
 | .int _=>T="int"
 | .ref p=>(T="list"/\∃xs,aY K H p xs)\/(T="tuple"/\∃o,K.lookup p==o/\o.cls=.type "tuple"/\o.dict=none)\/
   (T="dict"/\((∃Z,H p==.dK Z)\/∃Z,H p==.dT Z))\/(T="set"/\∃S n,H p==.set S n)
 | _=>False
def zaw {Z:St}(I:Inv X AP Z H s)(r:RelV x v)(ty:tyV X.K T x H):
  s.TypeIs v T/\∀a,v=⇑a->∃N,s.heap.get? a==N/\N.dict=none:=by
 cases x with
 | str z=>
  let(t,rfl):=r;cases (show T="str" from ty);show#[typeIs_str s z t,λ_ e=>nomatch e]
 | int i=>
  let(t,rfl):=r;cases (show T="int" from ty);show#[typeIs_int s i t,λ_ e=>nomatch e]
 | ref p=>
  cases r
  rcases ty with ⟨rfl,xs,M⟩|⟨rfl,o,Y,L,R⟩|⟨rfl,Y⟩|⟨rfl,S,n,Y⟩
  ·let(G,_,P,_):=I.list M
   show#[P.isList.typeIs,λa e=>?_];cases e;let(o,n,e,c,R,_):=P;show(o,e,R)
  ·show#[(o,I.lQ p o Y,L),λa e=>?_]
   cases e;show(o,I.lQ _ o Y,R)
  ·let z:∃o,s.heap.get? p==o/\o.ExactDict:=by
    rcases Y with ⟨J,Y⟩|⟨J,Y⟩
    ·let(_,_,_,_,o,_,_,e,U,_):=I.bU p _ Y
     show(o,e,U)
    ·let(_,_,_,_,o,_,_,e,U,_):=I.bU p _ Y
     show(o,e,U)
   let(o,e,U):=z;show#[(o,e,U.1),λa Q=>?_];cases Q;show(o,e,U.2.1)
  ·let(o,_,_,_,e,U,_):=I.bU p _ Y
   show#[(o,e,U.1),λa Q=>?_];cases Q;show(o,e,U.2.1)
 | _=>show False.elim ty
def amU (r:Φ)(Q:VK)(x:V)(xs:ε)(Z:Hp):Prop:=r x xs Z Q
def amV (K:Frag)(T:String)(r:Φ)(t:TA)(Z:L2.St)(Q:VK)(x:V)(Y:Hp):Prop:=tyV K T x Y/\t Z Y (amU r Q x)
def tBM (K:Frag)(T:String)(r:Φ)(Y:TE)(t:TA):TE:=λZ H Q=>Y Z H (amV K T r t Z Q)
variable {o e:Expr}{es:ω}{to:TE}{t:TA}{name:Str}{apos dS:Pos}{T id:String}{r:Φ}
def nE (y:PlainAttrs T)(Y:Slot T name id)(U:typeOf (.builtin id)=pure (.type "method_descriptor"))(p:MtR X id r)(q:PE X o to)(m:PA X (e::es) t)
  (w:WX o name X.env (CQ o X.env)=CQ o X.env:=by rfl)
  (S:((QS dS (CW (e::es) X.env)).all (λx=> !x.1) && (EL dS (ES [] X.env)).all (λx=>x.1.isSome)
   && decide ((e::es).length+([]:List Keyword).length+(if ([]:List Keyword).isEmpty then 0 else 1)<30))=true:=by rfl)
  (B:(apos.endLine⊆dS.line)=true:=by rfl) (u:CW (e::es) X.env=(false,CQ e X.env)::CW es X.env:=by rfl) (R:(QS dS (CW es X.env)).any (·.1)=false:=by rfl):
  PE X (.Call (.Attribute o name apos) (e::es) [] dS) (tBM X.K T r to t):=by
 intro P s Z H Q I h;show wpAny_Call_method_late w S B rfl (cH (q P s Z H _ I h) λv D ⟨x,f,L,N,ty,z⟩=>?_);let(j,k):=zaw L N ty;show(T,id,y,Y,U,j,k,2);let M:=m dS P D Z f _ L z;rw[u] at M ⊢;show TY (by change (false || (QS dS (CW es X.env)).any (·.1))=false;rw[R]<;>rfl) (Calls.evalArgs_plain ?_);show cH M λG E ⟨J,g,i,C,A⟩=>p P E Z g x J v G Q i N C A
end
def MtM (X:Cx)(id:String)(r:Φ):Prop:=
 ∀(U:ζ)(s:CH)(Z:St)(H:Hp)(x:V)(xs:ε)(v:Value)(Y:ς)(Q:VK),Inv X U Z H s->RelV x v->Vals xs Y->r x xs H Q->
  BX .q X.A (call (.builtin id) (v::Y)) (EP X U Z Q) X.xe s
def Vals.one:∀{x:V} {us:ς},Vals [x] us->∃u,us=[u]/\RelV x u:=by
 intro x us h;cases h with|cons r t=>cases t;show#[0,r]
theorem Vals.rep {xs:ε}{us:ς}(h:Vals xs us):∀k:Nat,Vals (FZ k xs).flatten (FZ k us).flatten
 | 0=>.nil
 | k+1=>by
  rw[Qh,Qh,yo,yo];show Vals.append h (Vals.rep h k)
theorem foldl_rep (BS:ς):∀(k:Nat)(Z:ς),
  auJ (λX Y=>X++Y) Z.toArray (FZ k BS.toArray)=(Z++(FZ k BS).flatten).toArray
 | 0,Z=>by simp
 | k+1,Z=>by
  let e:Z.toArray++BS.toArray=(Z++BS).toArray:=by simp
  let U:(Z++BS)++(FZ k BS).flatten=Z++(FZ (k+1) BS).flatten:=by
   rw[Qh,yo,EJ]
  rw[<-U,<-foldl_rep BS k (Z++BS),<-e,Qh,List.foldl_cons]
section
variable {X:Cx}{AP:ζ}{Z:St}{H:Hp}{s:CH}{l b:BQ}{xs ys zs:ε}
def Inv.aiG {BS sW:ς}(I:Inv X AP Z H s)(Q:H l==.lst xs)
  (e:s.heap.get? l==("list"^^^.seq BS.toArray n)) (S:f BS.toArray=sW.toArray) (U:Vals ys sW) (Y:ys.length<=CM):
  Inv X AP Z (upd H l (.lst ys)) {s with heap:=s.heap.update l (uL f),toks:=t'}:=by
 let q:=PySem.IsL.update e f;rw[S] at q;show I.write (x:=l) (e:=l) (![Q] trivial) .V (λP u R T=>(Vx s.heap (uL f) (CV R)).trans T) #[_,q] ?_;show(Y,sW,_,U,q)
def Inv.aiH {BS:ς}(I:Inv X AP Z H s)(Y:Vals ys BS)(hz:ys.length<=CM):
  Inv X AP Z (upd H ↑s (.lst ys)) {s with heap:=s.heap.push ("list"^^^.seq BS.toArray),toks:=t'}:=
 I.laid (λ_ _ q=>GQ _ q) (CK _) (hz,BS,(0),Y,Py _ rfl)
theorem Inv.fresh (I:Inv X AP Z H s):H ↑s=none:=I.bU.fresh (CK _)
def Inv.uf (I:Inv X AP Z H s)(Y:H l==.lst xs):xs.length<=CM/\∃(BS:ς)(n:Nat),Vals xs BS/\xs.length=BS.length/\s.heap.get? l==("list"^^^.seq BS.toArray n):=by
 let(z,BS,n,r,e):=I.bU l _ Y;show(z,BS,n,r,r.length,e)
def xU (h:n<=CM):T_ n=false:=by
 unfold T_;show Sb gu
end
section
variable {X:Cx}
inductive TR (x:V)(vs:ε)(H:Hp)(Q:VK):Prop
|mk (l xs y:_)(_:x=.ref l)(_:vs=[y])(_:H l==.lst xs)(_:xs.length<CM)(_:Q .cS (upd H l (.lst (xs++[y]))))
def g6:MtM X "list.append" TR:=by
 intro J s Z H x P v N Q I T S h;let(l,xs,y,rfl,rfl,Y,M,q):=h;cases T;let(u,rfl,R):=S.one;let(z,U,n,r,L,e):=I.uf Y;show OH F.slot_list_append (_,e,O) F.entry_list_append (F.args_list_append_2 _ _) (PySem.list_append l U.toArray n u (by rw[RS];omega)) #[e,2];show(.cS,_,I.aiG (sW:=U++[u]) Y e gN (r.append (.cons R .nil)) ?_,O,q);rw[GY,al6];omega
inductive TU (x:V)(vs:ε)(H:Hp)(Q:VK):Prop
|mk (l b xs zs:_)(_:x=.ref l)(_:vs=[.ref b])(_:H l==.lst xs)(_:H b==.lst zs)(_:xs.length+zs.length<=CM)(_:Q .cS (upd H l (.lst (xs++zs))))
def agY:MtM X "list.extend" TU:=by
 intro o s Z H x B v A Q I R P h;let(l,b,xs,D,rfl,rfl,S,J,y,q):=h;cases R;let(u,rfl,N):=P.one;cases N;let(z,Y,n,r,w,e):=I.uf S;let(C,U,L,M,p,G):=I.uf J;let T:Y.toArray.size+U.toArray.size<=CM:=by rw[RS,RS];omega
 let E:¬ (!Y.toArray.isEmpty && T_ (Y.toArray.size+U.toArray.size))=true:=by
  rw[xU T,US];show QW
 show OH F.slot_list_extend (_,e,O) F.entry_list_extend (F.args_list_extend_2 _ _)
  (AutoSeq1.list_extend_list_list_0 l Y.toArray n b U.toArray L E (by rw[RS];omega) gu) (e,G,2)
 show(.cS,_,I.aiG (sW:=Y++U) S e gN (r.append M) ?_,O,q);rw[GY];omega
inductive amW (x:V)(y:V)(H:Hp)(Q:VK):Prop
|mk (l b xs zs:_)(_:x=.ref l)(_:y=.ref b)(_:H l==.lst xs)(_:H b==.lst zs)(_:xs.length+zs.length<=CM)(_:∀p,H p=none->Q (.ref p) (upd H p (.lst (xs++zs))))
def gS:oJ X (Vw .Add) amW:=by
 intro w s Z H x y v u Q I S T h;let(l,b,xs,G,rfl,rfl,N,M,C,q):=h;cases S;cases T;let(z,U,n,r,B,e):=I.uf N;let(E,Y,D,R,A,J):=I.uf M;show PySem.P.add_list e J ?_ (by rw[RS,RS];omega);let L:U.toArray++Y.toArray=(U++Y).toArray:=by simp
 rw[L];show(⇑_,_,I.aiH (t':=s.toks) (r.append R) (by rw[GY];omega),O,q _ I.fresh)
inductive amX (x:V)(y:V)(H:Hp)(Q:VK):Prop
|mk (l k xs:_)(_:x=.ref l)(_:y=.int k)(_:H l==.lst xs)(_: -(2^63)<=k)(_:k<2^63)(_:xs.length*k.toNat<=CM)(_:∀p,H p=none->Q (.ref p) (upd H p (.lst (FZ k.toNat xs).flatten)))
def len_rep {Y:Type}(xs:List Y)(k:Nat):(FZ k xs).flatten.length=k*xs.length:=by
 induction k with
 | zero=>simp
 | succ k Z=>rw[Qh,yo,GY,Z,Nat.succ_mul,vx]
def ug:oJ X (Vw .Mult) amX:=by
 intro i s Z H x y v u Q I E G h;let(l,k,xs,rfl,rfl,C,A,B,j,q):=h;cases E;let(t,rfl):=G;let(z,Y,n,r,D,e):=I.uf C;let S:Y.toArray.size*k.toNat<=CM:=by rwa[RS,<-D]
 let L:¬ Y.toArray.size*k.toNat > (2^63-1) / 8:=by
  have:(CM:Nat)<=(2^63-1) / 8:=gM
  omega
 let M:¬ (!Builtin.List.listFitsIndex k)=true:=by
  rw[fitsIndex_both A B];show QW
 let p:¬ T_ (Y.toArray.size*k.toNat)=true:=by
  rw[xU S];show QW
 let N:auJ (λP R=>P++R) #[] (FZ (if Y.toArray.isEmpty=true then 0 else k.toNat) Y.toArray)=(FZ k.toNat Y).flatten.toArray:=by
  let w:∀m:Nat,auJ (λP R=>P++R) #[] (FZ m Y.toArray)=(FZ m Y).flatten.toArray:=λm=>by
   have:=foldl_rep Y m [];rwa[anV] at this
  rw[w];cases Y with
  | nil=>simp
  | cons a o=>rw[iA gN]
 show wpAny_binaryOp_repeat_ref (T:="list") (U:="int") gM (_,e,O) (λJ=>typeIs_int J k t) noFill_list_mul F.fills_int_mul F.slot_int_rmul repeat_list F.slot_int_index.lookup
  (OH F.slot_int_rmul (typeIs_int s k t) F.entry_int_rmul (F.args_int_rmul_2 _ _) (int___rmul___int_list k t l Y.toArray n)
   (e,O,(_,e,O),OH F.slot_list_mul (_,e,O) F.entry_list_mul (F.args_list_mul_2 _ _) (AutoListH.list___mul___list_int_3 l Y.toArray n k t M L p) #[e,2]))
 rw[N];show(⇑_,_,I.aiH (t':=s.toks) (r.rep k.toNat) (by rwa[len_rep,zw]),O,q _ I.fresh)
end
end L2
namespace Att
open PySem PySem.W PySem.Calls PyProof.Rows
def afR :∀(ns:ρ)(vs:ς),WellAll P h vs (ns.map WData.int)->IntsAre vs ns:=by
 intro ns
 induction ns with
 | nil=>
  intro vs w;erw[FN] at w;show .nil
 | cons n ns Z=>
  intro vs w;rw[O_] at w;cases w with
  | cons a b=>
   cases a;show .cons _ _ (Z _ b)
def Vk {l:OpenLaw}(I:l.most==n){Z:ς}
  (X:l.row.toRowW.claim.pre args=true) (T:WellAll P h Z args):
  ∃a vs ns,Z=[Value.ref a]/\args=[WData.list (ns.map WData.int)]/\h.get? a==("list"^^^.seq vs.toArray)/\IntsAre vs ns/\ns.length<=n:=by
 let S:WShape.hasAll [] args [.list .int]=true:=(pre_splitW X).1;let Q:l.pre.holds [] {args:=args}=true:=(pre_splitW X).2;let(d,r,rfl,E,G):=hasAllW_cons S;obtain rfl:=hasAllW_nil G;let(xs,rfl,H):=hasW_list E;let(ns,rfl):=items_int H
 let Y:ns.length<=n:=by
  unfold OpenLaw.pre at Q
  let R:(WTm.not (.lt (.lit ↥(n:Int)) (.len (.arg 0)))).holds [] {args:=[.list (ns.map .int)]}=true:=by
   let R:=(holds_andW Q).1;rwa[I] at R
  let U:=condW_of R (w_not (w_lt w_lit (w_len_list (w_arg rfl))));rw[CA] at U;show anB λq=>?_;let L:(n:Int)<((ns.length:Nat):Int):=gu
  first
   | (rw[Qd L] at U;show CC U gM)
   | (simp at U;omega)
 cases T with
 | cons M N=>
  cases N;cases M with
  | list J D=>show(9,ns,8,J,afR ns _ D,Y)
def Vl (l:OpenLaw)(args:List WData):l.row.toRowW.claim.post args (.bool true) args=true:=
 postW_of (r:=l.row.toRowW) (X:=(true⊆true))
  (show WShape.has [] (.bool true) .bool=true by first|rfl|decide|simp[WShape.has,WShape.arms,WShape.armsAll])
  (show(WTm.eq .res (.lit (.bool true))).value [] {args:=args,res:=some (.bool true),after:=args}==.bool (true⊆true) from w_eq_bool (w_res rfl) w_lit) rfl
end Att
namespace L2
open PySem PySem.Spec PyProof.Rows
def Vm:∀{vs:ς} {ns:ρ},IntsAre vs ns->Vals (ns.map V.int) vs:=by
 intro vs ns h;induction h with|nil=>show .nil|cons n t h Z=>show .cons #[t,O] Z
abbrev KOf {K:Frag}{h:Heap}(_:K.In h):Frag:=K
def inClass (s:Stmt)(j:Nat):Stmt:=match s with
 | .ClassDef _ _ _ Z _ _ _ _ _ _ _=>Z.getD j (.Pass ((0),(0),(0),(0)))
 | _=>.Pass ((0),(0),(0),(0))
def au (s:Stmt):Arguments:=match s with
 | .FunctionDef _ a _ _ _ _ _ _ _ _=>a
 | _=>{posonlyargs:=[],args:=[],vararg:=none,kwonlyargs:=[],kw_defaults:=[],kwarg:=none,defaults:=[]}
def ao (s:Stmt):List Stmt:=match s with
 | .FunctionDef _ _ b _ _ _ _ _ _ _=>b
 | _=>[]
def ae (s:Stmt):Scope:=match s with
 | .FunctionDef _ _ _ _ _ _ Z _ _ _=>Z
 | _=>{kind:=.function,names:=[],isGenerator:=false,isCoroutine:=false}
abbrev CX0:qu:=λ_ _ _ _ _ _=>False
abbrev E0:XK:=λ_ _ _=>False
structure oN (K:Frag)(x qual:Str)(st:Stmt)(f:BQ)(fd:FuncData):Prop where
 ex:∃(oc:Value)(od:χ)(kV doc pm:Value)(an:χ)(bx ct:Value)(qv:Ι),
  fd=fnOf x qual (au st) (ao st) (ae st) .none kV doc pm an bx ct/\K.lookup f==(oc,od,.func fd,qv)/\codeIn K bx qual=true
 kp:keepIn K ⇑f=true
section
variable {P:HV}{w:World}{K:Frag}{mg:ι}{gV:Heap}
def oN.binds {st:Stmt}(F:oN K x qual st f fd)
  (h:∀(kV Z Y:Value)(T:χ)(U X:Value)(us:ς),us.length=ps.length->bindArgs (fnOf x qual (au st) (ao st) (ae st) .none kV Z Y T U X) #[us,[]]=pure (ps.zip us)):Binds K fd ps []:=by
 let(Q,R,kV,Z,Y,T,U,X,S,rfl,lk,N):=F.ex;show .all (h kV Z Y T U X)
def cF {st:Stmt}{R T:χ}{S:Ι}{kV Z X Y U:Value}(l:K.lookup f==(oc,R,.func (fnOf x qual (au st) (ao st) (ae st) .none kV Z X T Y U),S))
  (c:codeIn K Y qual=true) (k:keepIn K ⇑f=true):oN K x qual st f (fnOf x qual (au st) (ao st) (ae st) .none kV Z X T Y U):=#[(oc,R,kV,Z,X,T,Y,U,S,O,l,c),k]
end
def cD (Z:cp k A):A.units+1<V6:=K' (Nat.add_le_add_left (by decide:1<=64) _) Z.units
section
variable {X:Cx}
def pv (i:Nat){Z:Pos}(S:X.N[i]?==x:=by rfl)(U:Vis X.env.scope x:=by first|show V1 rfl|show ze (V1 rfl)|show ze (ze rfl))(T:.z=false:=by decide)
  (Y:(x⊆("__classdict__":Str))=false:=by decide):PE X (.Name x Z) (aii i):=aij S U T Y
end
def nF {A B:Prop}(h:B):if false=true then A else B:=by
 rwa[iA QW]
def pJ {A B:Prop}(h:A):if true=true then A else B:=by
 rwa[iB rfl]
def bH {c A B:Prop}[Decidable c](Y:c->A)(Z:¬ c->B):if c then A else B:=by
 by_cases h:c
 ·rw[iB h]
  show Y h
 ·rw[iA h]
  show Z h
def aq (H H':Hp):Prop:=∀b o,H b==o->H' b==o
def aq.refl (H:Hp):aq H H:=λ_ _ h=>h
def aq.trans (a:aq H H1)(b:aq H1 H2):aq H H2:=λc o h=>b c o (a c o h)
def aq.free (e:aq H H')(h:H' l=avh):H l=avh:=by
 cases q:H l with
 | none=>rfl
 | some o=>
  erw[e l o q] at h
def aq.seq {K:Frag}(e:aq H H')(h:aY K H a xs):aY K H' a xs:=by
 rcases h with (h|⟨o,h⟩)|h
 ·show .inl (.inl (e\h))
 ·show .inl (.inr #[o,e\h])
 ·show .inr h
end L2
namespace Ty
def gz (t b:Int):Int:=(Po t b:Nat)
def sg (t b:Int):Int:=if b<0 then -gz t b else gz t b
def low (t b:Int):Int×Int:=(t.fdiv (sg t b),b.fdiv (sg t b))
def agg (a b:Int):Po b (a.fmod b)=Po a b:=by
 rw[aoL,Int.gcd_sub_mul_left_right,Int.gcd_comm]
def ag4 {a b:Int}(h:b≠0):(a.fmod b).natAbs<b.natAbs:=by
 rcases am8 b 0 with q|q|q
 ·let X:(-a).fmod (-b)= -(a.fmod b):=by
   rw[aoL,aoL,Int.neg_fdiv_neg,aqD];omega
  let Y:=ajZ (-a) (show 0 < -b by omega);let Z:=amI (-a) (show 0 < -b by omega);omega
 ·show CC q h
 ·let Y:=ajZ a q
  let Z:=amI a q;omega
def GN (h:b≠0):0<gz t b:=by
 have:=aqG.mpr (ze h:t≠0\/b≠0);change (0:Int)<((Po t b:Nat):Int);omega
def amY (h:b≠0):(gz t b).natAbs<=b.natAbs:=by
 let Z:Po t b ∣ b.natAbs:=ako.mpr (Qj t b);let Y:=Nat.le_of_dvd gu Z;change ((Po t b:Nat):Int).natAbs<=_;omega
def xV (h:b≠0):sg t b≠0:=by
 have:=GN (t:=t) h;unfold sg;split<;>omega
def aiI :(sg t b).natAbs=(gz t b).natAbs:=by
 unfold sg;split
 ·show vP _
 ·rfl
def ab4 (t b:Int):sg t b ∣ t:=by
 unfold sg gz;split
 ·show Int.neg_dvd.mpr (Qg t b)
 ·show Qg t b
def aao (t b:Int):sg t b ∣ b:=by
 unfold sg gz;split
 ·show Int.neg_dvd.mpr (Qj t b)
 ·show Qj t b
def dI {a g:Int}(h:g≠0)(d:g ∣ a):a=g*a.fdiv g:=by
 let(c,Z):=d;have:=ak_ h Z;rwa[this]
def xt (h:b≠0):t=sg t b*(low t b).1:=dI (xV h) (ab4 t b)
def q_ (h:b≠0):b=sg t b*(low t b).2:=dI (xV h) (aao t b)
def oO (h:b≠0):0<(low t b).2:=by
 let e:=q_ (t:=t) h;let g:=GN (t:=t) h
 rcases am8 (low t b).2 0 with q|q|q
 ·exfalso
  by_cases c:b<0
  ·let s:sg t b= -gz t b:=by unfold sg;rw[iB c]
   rw[s] at e;have:=Int.mul_pos_of_neg_of_neg (show -gz t b<0 by omega) q;omega
  ·let s:sg t b=gz t b:=by unfold sg;rw[iA c]
   rw[s] at e;have:=alI g q;omega
 ·exfalso
  rw[q,FJ] at e;show h e
 ·show q
def af0 (h:b≠0):(low t b).1*b=t*(low t b).2:=by
 let Y:=xt (t:=t) h;let Z:=q_ (t:=t) h
 calc (low t b).1*b=(low t b).1*(sg t b*(low t b).2):=by rw[<-Z]
  _=sg t b*(low t b).1*(low t b).2:=by rw[<-v5,VY (low t b).1]
  _=t*(low t b).2:= ![<-Y]
def rf (h:b≠0):Po (low t b).1 (low t b).2=1:=by
 let X:=xt (t:=t) h;let Y:=q_ (t:=t) h
 let k:Po t b=(sg t b).natAbs*Po (low t b).1 (low t b).2:=by
  let q:=apS (sg t b) (low t b).1 (low t b).2;rwa[<-X,<-Y] at q
 let g:(sg t b).natAbs=Po t b:=by
  rw[aiI];rfl
 let p:=aqG.mpr (ze h:t≠0\/b≠0);rw[g] at k;let Z:Po t b*1=Po t b*Po (low t b).1 (low t b).2:=by rwa[UA]
 show(am4 p Z).symm
def gC {g a:Int}(h:g≠0):a.natAbs<=(g*a).natAbs:=by
 rw[EH];have:1<=g.natAbs:=gu
 have:=EM a.natAbs this;omega
def ju (h:b≠0):(low t b).1.natAbs<=t.natAbs:=by
 let e:=xt (t:=t) h;have:=gC (g:=sg t b) (a:=(low t b).1) (xV h);rwa[<-e] at this
def jv (h:b≠0):(low t b).2.natAbs<=b.natAbs:=by
 let e:=q_ (t:=t) h;have:=gC (g:=sg t b) (a:=(low t b).2) (xV h);rwa[<-e] at this
def zat (Y:g≠0)(X:t=g*x)(Z:b=g*y)(U:0<y)(S:Po x y=1):low t b=(x,y):=by
 let T:b≠0:=by
  rw[Z];show aqH Y gu
 let R:Po t b=g.natAbs:=by
  rw[X,Z,apS,S,UA]
 let s:sg t b=g:=by
  unfold sg gz;rw[R];by_cases c:g<0
  ·have:b<0:=![Z] (Int.mul_neg_of_neg_of_pos c U)
   rw[iB this];omega
  ·have:¬ b<0:=by
    have:=Pw (show 0<=g by omega) (show 0<=y by omega);omega
   rw[iA this];omega
 unfold low;rw[s];rw[ak_ Y X,ak_ Y Z]
def af_ (Z:0<y)(h:Po x y=1):low x y=(x,y):=zat (g:=1) gM gu gu Z h
def ael (Z:k≠0)(h:b≠0):low (k*t) (k*b)=low t b:=by
 show zat (g:=k*sg t b) (aqH Z (xV h)) ?_ ?_ (oO h) (rf h)
 ·rw[v5]
  show sU (k*·) (xt h)
 ·rw[v5]
  show sU (k*·) (q_ h)
def bars (Y:b≠0)(Z:c≠0)(h:t*c=u*b):low t b=low u c:=by
 rw[<-ael (t:=t) (b:=b) Z Y,<-ael (t:=u) (b:=c) Y Z];rw[VY c t,h,VY u b,VY c b]
end Ty
set_option maxHeartbeats 4000000
namespace Ty
open PySem PySem.Spec PyProof.Rows L2
open Builtin.Int (intBits)
section
variable {X:Cx}
def xX (i j:Int):Prop:=intBits i<=33554432/\intBits j<=33554432
def bQ:oJ X (Vw .Mult) (rI xX λi j=>.int (i*j)):=
 opI λ_ _ _ _ _ _ _ Z q=>mul_int q (IntMulOk.of_le Z.1 Z.2 gM)
end
inductive Da where
 | v (x:V)
 | t (ds:List Da)
 | l (ds:List Da)
mutual
def Is (K:Frag)(H:Hp):Da->V->Prop
 | .v x,u=>u=x/\jt x=true
 | .t ds,u=>∃p xs,u=⇑p/\cb K H p xs/\mY K H ds xs
 | .l ds,u=>∃p xs,u=⇑p/\aY K H p xs/\mY K H ds xs
def mY (K:Frag)(H:Hp):List Da->List V->Prop
 | [],[]=>True
 | d::ds,x::xs=>Is K H d x/\mY K H ds xs
 | _,_=>False
end
mutual
def qw:Da->Da->Bool
 | .v x,.v y=>xr x y
 | .t ds,.t Z=>g7 ds Z
 | .l ds,.l Z=>g7 ds Z
 | _,_=>false
def g7:List Da->List Da->Bool
 | [],[]=>true
 | d::ds,e::Z=>qw d e && g7 ds Z
 | _,_=>false
end
mutual
def alike:Da->Da->Bool
 | .v _,.v _=>true
 | .t ds,.t Z=>ik ds Z
 | .l ds,.l Z=>ik ds Z
 | _,_=>false
def ik:List Da->List Da->Bool
 | d::ds,e::Z=>alike d e && ik ds Z
 | _,_=>true
end
mutual
def dep:Da->Nat
 | .v _=>0
 | .t ds=>uh ds+1
 | .l ds=>uh ds+1
def uh:List Da->Nat
 | []=>0
 | d::ds=>max (dep d) (uh ds)
end
theorem mY.length {K:Frag}:∀{ds:List Da} {xs:ε},mY K H ds xs->ds.length=xs.length
 | [],[],_=>rfl
 | _::_,_::_,h=>sU (·+1) (mY.length (by unfold mY at h;show h.2))
 | [],_::_,h=>by unfold mY at h;show h.elim
 | _::_,[],h=>by unfold mY at h;show h.elim
def nG (ds Z:List Da)(j:Nat):Bool:=match ds[j]?,Z[j]? with
 | some d,some e=>qw d e
 | _,_=>true
theorem fQ:∀ds Z:List Da,g7 ds Z=((KA (min ds.length Z.length)).all (nG ds Z) && ds.length⊆Z.length)
 | [],[]=>rfl
 | [],_::_=>by simp[g7]
 | _::_,[]=>by simp[g7]
 | d::ds,e::Z=>by
  let X:=fQ ds Z;let r:min (d::ds).length (e::Z).length=min ds.length Z.length+1:=by simp[Nat.succ_min_succ]
  rw[r,anO,vt,List.all_map];let T:nG (d::ds) (e::Z) 0=qw d e:=rfl
  let U:(nG (d::ds) (e::Z) ∘ Nat.succ)=nG ds Z:=by
   funext j;rfl
  let Y:((d::ds).length⊆(e::Z).length)=(ds.length⊆Z.length):=by simp
  rw[T,U,Y,Bool.and_assoc,<-X];rfl
section
variable {X:Cx}{AP:ζ}{Z:L2.St}{H:Hp}{s:CH}
def ahK (h:jt x=true):xr x x=true:=by
 cases x<;>first|rfl|(simp[xr];done)|(cases h;done)
mutual
theorem GP (I:Inv X AP Z H s):∀(d e:Da)(x:V),Is X.K H d x->Is X.K H e x->alike d e=true->qw d e=true
 | .v a,.v b,x,U,Y,_=>by
  unfold Is at U Y;let(rfl,f):=U;let(rfl,_):=Y;unfold qw;show ahK f
 | .t M,.t P,x,U,Y,a=>by
  unfold Is at U Y;let(p,xs,rfl,S,Q):=U;let(J,L,N,T,R):=Y;cases N;cases I.oH S T;unfold qw;unfold alike at a;show xY I M P xs Q R a
 | .l M,.l P,x,U,Y,a=>by
  unfold Is at U Y;let(p,xs,rfl,S,Q):=U;let(J,L,N,T,R):=Y;cases N;cases I.kK S T;unfold qw;unfold alike at a;show xY I M P xs Q R a
 | .v _,.t _,_,_,_,a=>by unfold alike at a;cases a
 | .v _,.l _,_,_,_,a=>by unfold alike at a;cases a
 | .t _,.v _,_,_,_,a=>by unfold alike at a;cases a
 | .t _,.l _,_,_,_,a=>by unfold alike at a;cases a
 | .l _,.v _,_,_,_,a=>by unfold alike at a;cases a
 | .l _,.t _,_,_,_,a=>by unfold alike at a;cases a
theorem xY (I:Inv X AP Z H s):∀(ds T:List Da)(xs:ε),mY X.K H ds xs->mY X.K H T xs->ik ds T=true->g7 ds T=true
 | [],[],_,_,_,_=>by unfold g7;rfl
 | d::ds,e::T,x::xs,Y,U,a=>by
  unfold mY at Y U;unfold ik at a;rw[EK] at a;unfold g7;rw[GP I d e x Y.1 U.1 a.1,xY I ds T xs Y.2 U.2 a.2];rfl
 | [],_::_,[],_,U,_=>by unfold mY at U;show U.elim
 | [],_::_,_::_,Y,_,_=>by unfold mY at Y;show Y.elim
 | _::_,[],[],Y,_,_=>by unfold mY at Y;show Y.elim
 | _::_,[],_::_,_,U,_=>by unfold mY at U;show U.elim
 | _::_,_::_,[],Y,_,_=>by unfold mY at Y;show Y.elim
end
def in1_units (A:LA):A.in1.units=A.units+1:=rfl
mutual
theorem adR (I:Inv X AP Z H s):∀(d e:Da)(x y:V)(u w:Value)(A:LA),Is X.K H d x->Is X.K H e y->alike d e=true->RelV x u->RelV y w->A.units+dep d<V6->SeqAt.EqAt A s u w (qw d e)
 | .v a,.v b,x,y,u,w,A,U,Y,_,J,L,_=>by
  unfold Is at U Y;let(rfl,f1):=U;let(rfl,f2):=Y;unfold qw;show zaz J L f1 f2
 | .t M,.t N,x,y,u,w,A,U,Y,a,J,L,C=>by
  have i :=U;let T:=Y;unfold Is at U Y;let(p,xs,rfl,k,P):=U;let(g,o,rfl,m,Q):=Y;cases J;cases L;by_cases e:p=g
  ·subst e
   rw[GP I _ _ _ i T a];show .same _
  ·show .of_refs e ?_
   let(q,R,D,_):=I.tuple k;let(B,S,E,_):=I.tuple m;unfold qw;rw[fQ,P.length,Q.length,R.length,S.length]
   let z:=SeqAt.RcAt.tuples (A:=A) (e:=nG M N) D E (by unfold dep at C;omega) λj c f=>by
    unfold dep at C;unfold alike at a;show jw I M N xs o q B A.in1 P Q a R S (by rw[in1_units];omega) j (~~~c) (~~~f)
   simpa using z
 | .l M,.l N,x,y,u,w,A,U,Y,a,J,L,C=>by
  have i :=U;let T:=Y;unfold Is at U Y;let(p,xs,rfl,k,P):=U;let(g,o,rfl,m,Q):=Y;cases J;cases L;by_cases e:p=g
  ·subst e
   rw[GP I _ _ _ i T a];show .same _
  ·show .of_refs e ?_
   let(q,R,D,_):=I.list k;let(B,S,E,_):=I.list m;unfold qw;unfold dep at C;unfold alike at a;by_cases G:q.length=B.length
   ·rw[fQ,P.length,Q.length,R.length,S.length]
    let z:=SeqAt.RcAt.lists (A:=A) (e:=nG M N) D.isList E.isList (~~~G) gu λj c f=>
     jw I M N xs o q B A.in1 P Q a R S (by rw[in1_units];omega) j (~~~c) (~~~f)
    rw[G,aoN,beq_self_eq_true,aoz];rwa[RS,G] at z
   ·let ne:g7 M N=false:=by
     rw[fQ,P.length,Q.length,R.length,S.length,beq_eq_false_iff_ne.mpr G,US]
    rw[ne];show SeqAt.RcAt.lists_lengths D.isList E.isList (~~~G) gu
 | .v _,.t _,_,_,_,_,_,_,_,a,_,_,_=>by unfold alike at a;cases a
 | .v _,.l _,_,_,_,_,_,_,_,a,_,_,_=>by unfold alike at a;cases a
 | .t _,.v _,_,_,_,_,_,_,_,a,_,_,_=>by unfold alike at a;cases a
 | .t _,.l _,_,_,_,_,_,_,_,a,_,_,_=>by unfold alike at a;cases a
 | .l _,.v _,_,_,_,_,_,_,_,a,_,_,_=>by unfold alike at a;cases a
 | .l _,.t _,_,_,_,_,_,_,_,a,_,_,_=>by unfold alike at a;cases a
theorem jw (I:Inv X AP Z H s):∀(ds T:List Da)(xs ys:ε)(us ws:ς)(A:LA),mY X.K H ds xs->mY X.K H T ys->ik ds T=true->Vals xs us->Vals ys ws->A.units+uh ds<V6->
  ∀(j:Nat)(R:j<us.length)(S:j<ws.length),SeqAt.EqAt A s us[j] ws[j] (nG ds T j)
 | d::ds,e::T,xs,ys,us,ws,A,k1,k2,a,U,Y,N,j,R,S=>by
  cases xs with
  | nil=>unfold mY at k1;show k1.elim
  | cons x xs=>
   cases ys with
   | nil=>unfold mY at k2;show k2.elim
   | cons y ys=>
    cases U with
    | cons P U=>
     cases Y with
     | cons Q Y=>
      unfold mY at k1 k2;unfold ik at a;rw[EK] at a;unfold uh at N;cases j with
      | zero=>show adR I d e x y _ _ A k1.1 k2.1 a.1 P Q gu
      | succ j=>show jw I ds T xs ys _ _ A k1.2 k2.2 a.2 U Y gu j (~~~R) (~~~S)
 | [],_,xs,_,us,_,_,k1,_,_,U,_,_,_,R,_=>by
  cases xs with
  | nil=>
   cases U;show CC R (VA _)
  | cons x xs=>unfold mY at k1;show k1.elim
 | _::_,[],_,ys,_,ws,_,_,k2,_,_,Y,_,_,_,S=>by
  cases ys with
  | nil=>
   cases Y;show CC S (VA _)
  | cons y ys=>unfold mY at k2;show k2.elim
end
end
section
variable {X:Cx}
inductive ZH (K:Frag)(x:V)(y:V)(H:Hp)(Q:VK):Prop
|mk (ds Z:_)(_:((Is K H (.t ds) x/\Is K H (.t Z) y)\/(Is K H (.l ds) x/\Is K H (.l Z) y)))(_:ik ds Z=true)(_:uh ds<=60)(_:Q (.bl (g7 ds Z)) H)
inductive ZI (K:Frag)(x:V)(y:V)(H:Hp)(Q:VK):Prop
|mk (ds Z:_)(_:((Is K H (.t ds) x/\Is K H (.t Z) y)\/(Is K H (.l ds) x/\Is K H (.l Z) y)))(_:ik ds Z=true)(_:uh ds<=60)(_:Q (.bl (!g7 ds Z)) H)
def adJ (b:X.A.units+64<V6):oJ X (V2 .Eq) (ZH X.K):=by
 intro AP s Z H x y v u Q I g i h;let(U,Y,h,a,hd,q):=h
 rcases h with ⟨M,N⟩|⟨M,N⟩
 ·unfold Is at M N
  let(p,xs,rfl,o,P):=M;let(f,C,rfl,B,R):=N;cases g;cases i;let(D,S,G,_):=I.tuple o;let(E,T,J,_):=I.tuple B
  let z:=SeqAt.RcAt.tuples (A:=X.A) (e:=nG U Y) G J gu λj k m=>
   jw I U Y xs C D E X.A.in1 P R a S T (by rw[in1_units];omega) j (~~~k) (~~~m)
  show z X.prog X.w X.xe _ (.bl _,H,I,O,2);let e:=fQ U Y;rw[P.length,R.length,S.length,T.length] at e;simpa[e] using q
 ·unfold Is at M N
  let(p,xs,rfl,o,P):=M;let(f,C,rfl,B,R):=N;cases g;cases i;let(D,S,G,_):=I.list o;let(E,T,J,_):=I.list B;let e:=fQ U Y;rw[P.length,R.length,S.length,T.length] at e;by_cases L:D.length=E.length
  ·let z:=SeqAt.RcAt.lists (A:=X.A) (e:=nG U Y) G.isList J.isList (~~~L) gu λj k m=>
    jw I U Y xs C D E X.A.in1 P R a S T (by rw[in1_units];omega) j (~~~k) (~~~m)
   show z X.prog X.w X.xe _ (.bl _,H,I,O,2);rw[L,aoN,beq_self_eq_true,aoz] at e;simpa[e,L] using q
  ·let c:g7 U Y=false:=by rw[e,beq_eq_false_iff_ne.mpr L,US]
   rw[c] at q;show SeqAt.RcAt.lists_lengths G.isList J.isList (~~~L) gu X.prog X.w X.xe _ (.bl _,H,I,O,q)
def aeK (b:X.A.units+64<V6):oJ X (V2 .NotEq) (ZI X.K):=by
 intro AP s Z H x y v u Q I g i h;let(U,Y,h,a,hd,q):=h
 rcases h with ⟨M,N⟩|⟨M,N⟩
 ·unfold Is at M N
  let(p,xs,rfl,o,P):=M;let(f,C,rfl,B,R):=N;cases g;cases i;let(D,S,G,_):=I.tuple o;let(E,T,J,_):=I.tuple B
  let z:=SeqAt.RcNeAt.tuples (A:=X.A) (e:=nG U Y) G J gu λj k m=>
   jw I U Y xs C D E X.A.in1 P R a S T (by rw[in1_units];omega) j (~~~k) (~~~m)
  show z X.prog X.w X.xe _ (.bl _,H,I,O,2);let e:=fQ U Y;rw[P.length,R.length,S.length,T.length] at e;simpa[e] using q
 ·unfold Is at M N
  let(p,xs,rfl,o,P):=M;let(f,C,rfl,B,R):=N;cases g;cases i;let(D,S,G,_):=I.list o;let(E,T,J,_):=I.list B;let e:=fQ U Y;rw[P.length,R.length,S.length,T.length] at e;by_cases L:D.length=E.length
  ·let z:=SeqAt.RcNeAt.lists (A:=X.A) (e:=nG U Y) G.isList J.isList (~~~L) gu λj k m=>
    jw I U Y xs C D E X.A.in1 P R a S T (by rw[in1_units];omega) j (~~~k) (~~~m)
   show z X.prog X.w X.xe _ (.bl _,H,I,O,2);rw[L,aoN,beq_self_eq_true,aoz] at e;simpa[e,L] using q
  ·let c:g7 U Y=false:=by rw[e,beq_eq_false_iff_ne.mpr L,US]
   rw[c] at q;show SeqAt.RcNeAt.lists_lengths G.isList J.isList (~~~L) gu X.prog X.w X.xe _ (.bl _,H,I,O,q)
def amZ:V->Value
 | .ty n=>.type n
 | .ref a=>⇑a
 | _=>.none
def aha:V->Bool
 | .ty _=>true
 | .ref _=>true
 | _=>false
def aeL (h:aha c=true)(r:RelV c u):u=amZ c:=by
 cases c<;>first|show r|(cases h;done)
end
def cu:V0 "len"==.builtin "len":=d_k
def ahb:V0 "abs"==.builtin "abs":=d_k
def dJ:V0 "isinstance"==.builtin "isinstance":=d_k
def am0:V0 "str"==.type "str":=d_k
def nH:V0 "list"==.type "list":=d_k
def abU:V0 "ValueError"==.type "ValueError":=d_k
def am1 {Z:Pos}(S:Gl X x)(T:X.mg x=none)(Y:V0 x==.type n)(U:x≠ "__name__":=by decide)(R:.z=false:=by decide):PE X (.Name x Z) (tC (.ty n)):=aex (v:=.ty n) S T Y rfl U R
def aiJ (_ j:Int):Prop:=j≠0
def nz (h:j≠0):aiJ i j:=h
def iQ :oJ X (Vw .Mod) (rI aiJ λi j=>.int (i.fmod j)):=aeC
end Ty
namespace TyAtt
open PySem PySem.W PySem.Calls PyProof.Rows
open Builtin.Int (intBits)
def aeW {ns:ρ}(h:(WData.list (ns.map WData.int)).layable=true)(X:n∈ns):intBits n<=1048576:=by
 let(_,_,Y):=layableW_iff.mp h
 let a:∀(l:ρ),n∈l->intBits n<=WData.weightAll (l.map WData.int):=by
  intro l
  induction l with
  | nil=>intro q;cases q
  | cons y r Z=>
   intro q;rw[O_];unfold WData.weightAll
   rcases QQ.mp q with z|z
   ·subst z
    have:intBits n<=WData.weight ↥n:=by
     unfold WData.weight;show CK _
    omega
   ·have:=Z z
    omega
 let b:=a ns X;unfold WData.weight at Y;omega
def OP {l:OpenLaw}{Y:τ}
  (u:l.most==n) (H:d.params.defaults=[])
  (call:∀(w:World)(N Z:CH)(mg L:ι)(R:BQ)(o:Obj)(M P U:Value)(a:BQ)(vs:ς)(ns:ρ),
   Ground q Y [] XP w N mg L Z.heap->YP w Z.heap->
   Z.heap.get? R==o->o.data=.func (docDef d.name d.params d.body d.scope M P U)->Z.heap.CodeRec P d.name->mg d.name==⇑R->
   Z.heap.get? a==("list"^^^.seq vs.toArray)->IntsAre vs ns->ns.length<=n->(∀i∈ns,intBits i<=1048576)->Z.gens= #[]->
   Ri (BY l.prog w) callerA (.call ⇑R #[[⇑a],[]]) (λr Q=>r=.ok (.ret (.bool true))/\OldK Z.heap Q.heap/\Q.os=Z.os/\WU Q.gens) Z):
  WalkO q Y XP YP l.row.toRowW d [] (λf vs=>PySem.call f vs):=by
 intro w N Z mg L G α R o M P U dV kV x g A B I j args C as D S z J m;obtain rfl:dV=.none:=Dflts.none B H;obtain rfl:kV=.none:=Dflts.noKw B;let(a,vs,ns,rfl,rfl,E,X,T):=Att.Vk u D J;let c:∀i∈ns,intBits i<=1048576:=λi k=>aeW (layW_cons S).1 k;show enter_call (EY (call w N Z mg L R o M P U a vs ns G α x (fd_plain g) A I E X T c j) λr Q y=>?_);let(rfl,h2,h3,b):=y;show(.inl (.bool true,.bool true,[],O,λ_=>O,.bool true,Att.Vl l _,λ_=>#[List.Pairwise.nil,λ_ p=>(nomatch p)]),h2,h3,b)
end TyAtt
namespace Ty
open PySem PySem.Spec PyProof.Rows L2
open Builtin.Int (intBits)
structure Fn (P:HV)(w:World)(K:Frag)(mg:ι)(gV:Heap)(CX:qu)(k:Nat)(x:Str)(ps:τ)(sp:Sp):Prop where
 ex:∃(f:BQ)(fd:FuncData),!cz CX k f fd ps sp/\Binds K fd ps []/\mg x==⇑f/\keepIn K ⇑f=true
structure Def (K:Frag)(mg:ι)(x:Str)(st:Stmt)(ps:τ):Prop where
 ex:∃(f:BQ)(dV oc:Value)(od:χ)(kV doc pm:Value)(an:χ)(bx ct:Value)(qv:Ι),
  K.lookup f==(oc,od,.func (fnOf x x (au st) (ao st) (ae st) dV kV doc pm an bx ct),qv)/\codeIn K bx x=true/\keepIn K ⇑f=true/\
  Binds K (fnOf x x (au st) (ao st) (ae st) dV kV doc pm an bx ct) ps []/\mg x==⇑f
def Def.of {K:Frag}{st:Stmt}(F:oN K x x st f fd)(b:Binds K fd ps [])(m:mg x==⇑f):Def K mg x st ps:=by
 let(T,U,kV,Z,X,P,Q,R,Y,rfl,lk,S):=F.ex;show(f,.none,T,U,kV,Z,X,P,Q,R,Y,lk,S,F.kp,b,m)
section
variable {P:HV}{w:World}{K:Frag}{mg:ι}{gV:Heap}{CX:qu}
def Def.ok {st:Stmt}(D:Def K mg x st ps)(S:av N ps (ae st))(Y:∀vs H Q E,sp vs H Q E->vs.length=ps.length)
  (M:∀(f:BQ)(Z:Value)(A:LA)(outer:List Env)(s:CH)(H:Hp)(vs:ε)(Q:VK)(E:XK),cp k (A.deeper (RH x (ae st) ↑s f Z))->sp vs H Q E->
   ∃t,tf (kO CX P w K mg gV N x (ae st) f Z A outer s H E).t_ (ao st) t/\t {nx:=λ_ J=>Q .cS J,rt:=Q} .Y H):!Fn CX (k+1) x ps sp:=by
 let(f,z,B,C,kV,L,G,u,Z,y,I,lk,U,T,b,m):=D.ex;show(f,_,xS lk U S Y λA outer s H vs Q E R X=>?_,b,m,T);let(t,h,q):=M f Z A outer s H vs Q E R X;show(t,h.t_,q)
def _root_.L2.oN.okG {st:Stmt}(F:oN K x x st f fd)(S:av N ps (ae st))(Y:∀vs H Q E,sp vs H Q E->vs.length=ps.length)
  (R:∀(Z:Value)(A:LA)(outer:List Env)(s:CH)(H:Hp)(vs:ε)(Q:VK)(E:XK),cp k (A.deeper (RH x (ae st) ↑s f Z))->sp vs H Q E->
   ∃t,tf (kO CX P w K mg gV N x (ae st) f Z A outer s H E).t_ (ao st) t/\t {nx:=λ_ L=>Q .cS L,rt:=Q} .Y H):!cz CX (k+1) f fd ps sp:=by
 let(D,G,kV,M,I,B,Z,C,J,rfl,lk,U):=F.ex;show xS lk U S Y λA outer s H vs Q E T X=>?_;let(t,h,q):=R Z A outer s H vs Q E T X;show(t,h.t_,q)
def xZ (CX:qu):Prop:=∀Z H s e Y,CX Z H s E0 e Y ->False
def nI {X:Cx}(h:xZ CX):Passes CX X.t_ E0:=λ_ _ _ _ _ _ _ q=>(h _ _ _ _ _ q).elim
section
variable {X:Cx}{k:Nat}{ps:τ}{sp:Sp}{E:XK}{x:Str}{p pos:Pos}{e:Expr}{es:ω}{t:TA}
def cW (F:Fn X.prog X.w X.K X.mg X.gV CX k x ps sp)(S:cp k X.A)(T:Passes CX X E)(N:PA X (e::es) t)(R:Gl X x:=by rfl)(Z:.z=false:=by decide)
  (Q:CW (e::es) X.env=(false,CQ e X.env)::CW es X.env:=by rfl) (Y:(QS pos (CW es X.env)).any (·.1)=false:=by rfl):PE X .W (OF sp [] E t):=by
 let(f,M,G,b,m,U):=F.ex;show aeF G S R m U b .nil T N Z Q Y
end
end
end Ty
namespace Ty
open PySem PySem.Spec PyProof.Rows
def rg (o:Obj):Option Value:=match o.data with
 | .fields Z=>Z[2]?
 | _=>none
def aeg {vs:Ζ}(h:o.data=.fields vs):rg o=vs[2]? :=by unfold rg;rw[h]
def KD (h h':Heap):Prop:=∀b o,h.get? b==o->∃Z,h'.get? b==Z/\Z.dict=o.dict/\rg Z=rg o
def KD.refl :KD h h:=λb o e=>(o,e,8)
theorem KD.trans (a:KD h1 h2)(b:KD h2 h3):KD h1 h3:=λc o e=>by
 let(Y,U,S,Q):=a c o e;let(Z,X,T,R):=b c Y U;show(Z,X,T>>>S,R>>>Q)
def KD.keeps (k:∀b o,h.get? b==o->h'.get? b==o):KD h h':=λb o e=>(o,k b o e,8)
def aeb {h:Heap}(e:h.get? a==o):o.isFreed=false:=by
 unfold Heap.get? at e;split at e
 ·cases e
 ·rename_i o' hn
  unfold Obj.isFreed;split
  ·rename_i c d sl
   show CC e (hn c d sl)
  ·rfl
theorem KD.update (Z:∀o,(f o).dict=o.dict/\(f o).isFreed=o.isFreed/\rg (f o)=rg o):KD h (h.update a f):=λb o e=>by
 by_cases c:b=a
 ·subst c
  show(f o,EV f e ((Z o).2.1.trans (aeb e)),(Z o).1,(Z o).2.2)
 ·show(o,(Vx h f (λz=>c z.symm)).trans e,8)
def Kp {Y:Type}:Sem Y->Prop
 | .pure _=>True
 | .raise _=>True
 | .unsupported _=>True
 | .finish _=>True
 | .rule _ k=>Kp (k ())
 | .at _ k=>Kp (k ())
 | .load _ _ k=>∀o,Kp (k o)
 | .update _ _ f k=>(∀o,(f o).dict=o.dict/\(f o).isFreed=o.isFreed/\rg (f o)=rg o)/\Kp (k ())
 | .alloc _ k=>∀a,Kp (k a)
 | .loadIfAlive _ k=>∀o,Kp (k o)
 | .point _ k=>Kp (k ())
 | .fresh k=>∀t,Kp (k t)
 | .ask k=>∀t,Kp (k t)
 | .handled _ k=>∀t,Kp (k t)
 | .stack k=>∀t,Kp (k t)
 | .thread k=>∀t,Kp (k t)
 | _=>False
theorem Kp.bind :∀{m:Sem Y} {f:Y->Sem β},Kp m->(∀a,Kp (f a))->Kp (m.bind f):=by
 intro m f
 induction m with
 | pure a=>show λ_ h=>h a
 | raise e=>show λ_ _=>trivial
 | unsupported w=>show λ_ _=>trivial
 | finish e=>show λ_ _=>trivial
 | rule t k Z=>show λh X=>Z () h X
 | «at» p k Z=>show λh X=>Z () h X
 | load a p k Z=>show λh X o=>Z o (h o) X
 | update a p g k Z=>show λh X=>#[h.1,Z () h.2 X]
 | alloc o k Z=>show λh X a=>Z a (h a) X
 | loadIfAlive a k Z=>show λh X o=>Z o (h o) X
 | point l k Z=>show λh X=>Z () h X
 | fresh k Z=>show λh X o=>Z o (h o) X
 | ask k Z=>show λh X o=>Z o (h o) X
 | handled o k Z=>show λh X o=>Z o (h o) X
 | stack k Z=>show λh X o=>Z o (h o) X
 | thread k Z=>show λh X o=>Z o (h o) X
 | _=>show λh=>h.elim
theorem Kp.wp :∀{t:Sem Y} {P:Y->Pos->CH->Prop} {E:Value->Pos->CH->Prop} {p:Pos} {s:CH} {T:Heap},Kp t->KD T s.heap->Sem.wp M Γ t P E p s->Sem.wp M Γ t (λa S s'=>P a S s'/\KD T s'.heap) E p s:=by
 intro t
 induction t with
 | pure a=>show λ_ X h=>#[h,X]
 | raise e=>show λ_ _ h=>h
 | unsupported w=>show λ_ _ h=>h
 | finish e=>show λ_ _ h=>h
 | rule t k U=>show λZ X h=>U () Z X h
 | «at» p k U=>show λZ X h=>U () Z X h
 | load a p k U=>show λZ X h=>by let(o,e,h):=h;show(o,e,U o (Z o) X h)
 | update a p g k U=>show λZ X h=>#[h.1,U () Z.2 (X>>>(KD.update Z.1)) h.2]
 | alloc o k U=>show λZ X h=>U _ (Z _) (X>>>(KD.keeps λb o e=>GQ _ e)) h
 | loadIfAlive a k U=>show λZ X h=>U _ (Z _) X h
 | point l k U=>show λZ X h=>U () Z X h
 | fresh k U=>show λZ X h=>U _ (Z _) X h
 | ask k U=>show λZ X h=>U _ (Z _) X h
 | handled o k U=>show λZ X h=>U _ (Z _) X h
 | stack k U=>show λZ X h=>U _ (Z _) X h
 | thread k U=>show λZ X h=>U _ (Z _) X h
 | _=>show λZ=>Z.elim
def Kp.any {Q:Y->CH->Prop}{E:γ}(k:Kp t)(h:BX M A t Q E s):BX M A t (λa s'=>Q a s'/\KD s.heap s'.heap) E s:=
 λΓ p Z=>Kp.wp k KD.refl (h Γ p Z)
def dO :Kp (pure a:Sem Y):=trivial
def pU :Kp (unsupported w:Sem Y):=trivial
def b_ {f:Y->Sem β}(h:Kp m)(Z:∀a,Kp (f a)):Kp (m >>=f):=Kp.bind h Z
def mf {Y:Type}{c:Prop}[Decidable c]{a b:Sem Y}(X:Kp a)(Z:Kp b):Kp (if c then a else b):=by
 split
 ·show X
 ·show Z
def GU :Kp (load a):=λ_=>trivial
def x6:Kp stack:=λ_=>trivial
def jV (Z:i≠2:=by decide):Kp (setField e i x):=by
 unfold setField;split
 ·unfold updateField
  show b_ GU λo=>?_;split
  ·show mf #[λo=>?_,trivial] pU
   unfold P_;split
   ·show#[8,Array.getElem?_setIfInBounds_ne (CV (CV Z))]
   ·show#[8,O]
  ·show pU
 ·show pU
def rh :Kp (field e i):=by
 unfold field;show b_ ?_ λZ=>?_
 ·unfold fieldsOf
  split
  ·show b_ GU λo=>?_
   split
   ·show dO
   ·show pU
  ·show pU
 ·split
  ·show dO
  ·show pU
def mh {f:χ}:Kp (setFlight e f):=by
 unfold setFlight;show b_ rh λZ=>mf jV dO
def adm :Kp (behindIsImport env outer):=by
 unfold behindIsImport;show mf dO (mf dO (b_ rh λ_=>dO))
def aa_ :Kp (keptBack env b outer):=by
 unfold keptBack;split
 ·show mf dO (b_ ?_ λ_=>dO)
  unfold underTheClaimsCaller;show b_ x6 λ_=>dO
 ·show dO
theorem zaH:∀l:List Env,Kp (readyFrames l)
 | []=>trivial
 | env::outer=>by
  rw[readyFrames.eq_2];split
  ·show b_ GU λo=>mf dO (b_ adm λ_=>b_ aa_ λ_=>b_ #[λo=>(O,2,O),trivial] λ_=>zaH outer)
   let(c,d,dt,Z):=o;cases dt<;>rfl
  ·show pU
def anA :Kp (PySem.frameOf env):=by
 unfold PySem.frameOf;show b_ ?_ λl=>b_ ?_ λo=>?_
 ·unfold frameEnvs
  show b_ x6 λ_=>dO
 ·unfold frameObject
  split
  ·show dO
  ·show b_ (zaH _) λ_=>dO
 ·split
  ·show dO
  ·show pU
def zaK :Kp (entryPlaceOf f b):=by
 unfold entryPlaceOf;show b_ x6 λa=>?_;dsimp only;split<;>show dO
def anz {l:ς}:Kp (EntryCells.newEntry a b c d e l):=by
 unfold EntryCells.newEntry newFields newObj;dsimp only;show mf (b_ pU λ_=>?_) ?_
 ·show λ_=>trivial
 ·show λ_=>trivial
def zaC :Kp (noteFrame e env):=by
 unfold noteFrame;split
 ·show b_ rh λhead=>mf (b_ rh λx=>mf dO (b_ jV λ_=>?_)) ?_
  ·show b_ anA λ_=>b_ zaK λ_=>b_ anz λ_=>jV
  ·show b_ anA λ_=>b_ zaK λ_=>b_ anz λ_=>jV
 ·show pU
def amm :Kp (leaving env e):=by
 unfold leaving;show b_ zaC λ_=>mh
end Ty
namespace Ty
open PySem PySem.Spec PyProof.Rows L2
def Un.shrink (u:Un fs' ex H H' h h')(X:∀b o,h.get? b==o->b∈fs' ->b∈fs):Un fs ex H H' h h':=
 (λb o e n Y Z=>u.keep b o e n (λz=>Y (X b o e z)) Z,λb o e n Y Z=>u.any e n Z,u.free,u.there,u.mX,u.lS,u.lT)
def GV (u:Un (pT l) [] H H' h h1)(I:B.StaysIn h1)(M:B.StaysIn h2)(N:∀b o,h.get? b==o->b∉pT l->∃Y,B.get? b==Y)
  (L:h1.FunFrames B l) (P:h1.UpToSlots h2):Un (pT l) [] H H' h h2:=by
 let S:∀b o,h.get? b==o->H b=none->b∉pT l->B.get? b==o:=λb o e n Z=>by
  let(Y,U):=N b o e Z;let z:=u.keep b o e n Z gN;erw[I b Y U] at z;show U
 show(λb o e n Z _=>M b o (S b o e n Z),λb o e n Z _=>?_,λb o e n _=>u.free b o e n gN,λb o e _=>?_,u.mX,u.lS,u.lT)
 ·let(G,J):=u.any e n gN
  let(_,Y,Q,T):=L.mem Z;erw[J] at Q;let(X,R):=P b _ J T;show#[X,R]
 ·by_cases Z:b∈pT l
  ·let(_,Y,Q,T):=L.mem Z
   let(X,R):=P b _ Q T;show#[_,R]
  ·let(Y,U):=N b o e Z
   show#[Y,M b Y U]
def yb {X Y B:Heap}(R:lR P w H' X)(S:B.StaysIn X)(T:B.StaysIn Y)(Z:∀b u,H' b==u->∃o,B.get? b==o):lR P w H' Y:=λb u e=>
 (R b u e).pH (λc v Q q=>by
  obtain ⟨o,U⟩:∃o,B.get? c==o:=by
   rcases Q with z|z
   ·rw[z]
    show Z b u e
   ·show Z c _ z
  erw[S c o U] at q
  show T c _ U) (λ_ q=>q) λ_ _ q=>q
def obj_some (x:ck P w H h a o):∃Z,h.get? a==Z:=by
 cases o with
 | lst xs=>let(_,_,_,_,e):=x;show#[_,e]
 | tup xs=>let(_,_,_,Z,e,_):=x;show#[Z,e]
 | dK U=>let(_,_,_,_,Z,_,_,e,_):=x;show#[Z,e]
 | dT U=>let(_,_,_,_,Z,_,_,e,_):=x;show#[Z,e]
 | set S n=>let(Z,_,_,_,e,_):=x;show#[Z,e]
 | ins C Q X=>let(_,_,_,e,_):=x;show#[_,e]
 | own y=>show(show ∃o,h.get? a==o from x)
 | xd X=>let(_,(Y,_,_,e,_),_):=x;show#[Y,e]
 | rng lo R=>let(_,_,_,e):=x;show#[_,e]
 | e_ Z u=>show#[Z,x.1]
 | mW T=>show#[_,x]
 | met f y=>show#[_,x]
 | ext φ=>show x.2.1
def DictAt (h:Heap)(a:BQ)(Z:χ):Prop:=∃o,h.get? a==o/\o.dict=Z/\rg o==.none
def DictAt.kd (d:DictAt h a dx)(k:KD h h'):DictAt h' a dx:=by
 let(o,e,d,c):=d;let(Z,Y,X,U):=k a o e;show(Z,Y,X>>>d,U>>>c)
def aR (P:HV)(w:World):qu:=λZ H s E e Y=>∃(a:BQ)(cls S:Value)(U:χ)(X:Hp)(B:Heap),
 e=⇑a/\Heap.FlyingW B Z a cls S Y.heap/\DictAt Y.heap a U/\Un (pT Z) [] H X s.heap Y.heap/\lR P w X Y.heap/\Y.os=s.os/\WU Y.gens/\
 (∀b o,s.heap.get? b==o->b∉pT Z->∃T,B.get? b==T)/\(∀b u,X b==u->∃o,B.get? b==o)/\E cls U X
def aR.BP :xZ (aR P w):=λ_ _ _ _ _ h=>by let(_,_,_,_,_,_,_,_,_,_,_,_,_,_,_,z):=h;show z
section
variable {P:HV}{w:World}{K:Frag}{mg:ι}{gV:Heap}{N:τ}{qual:Str}{scope:Scope}{f:BQ}{bx:Value}{A:LA}{outer:List Env}{s0:CH}{H0:Hp}{E:XK}
abbrev nK (P:HV)(w:World)(K:Frag)(mg:ι)(gV:Heap)(N:τ)(qual:Str)(scope:Scope)(f:BQ)(bx:Value)(A:LA)(outer:List Env)(s0:CH)(H0:Hp)(E:XK):Cx:=kO (aR P w) P w K mg gV N qual scope f bx A outer s0 H0 E
def zar {Z:L2.St}{s s':CH}(I:Inv .r AP Z H s)
  (S:Heap.FlyingW B outer a cls a0 h2) (k:DictAt h2 a dx) (p:s'.heap.FunFrames B (!nK N qual scope f bx A outer s0 H0 E).stack) (st:B.StaysIn s'.heap)
  (G:Un (pT (!nK N qual scope f bx A outer s0 H0 E).stack) [] H H' s.heap s'.heap) (C:lR P w H' s'.heap) (os:s'.os=s.os) (X:WU s'.gens)
  (M:∀b o,s.heap.get? b==o->b∉pT (!nK N qual scope f bx A outer s0 H0 E).stack->∃T,B.get? b==T) (Q:∀b u,H' b==u->∃o,B.get? b==o) (J:s'.heap.UpToSlots h2) (q:E cls dx H'):
  aR P w outer H0 s0 E ⇑a {s' with heap:=h2}:=by
 let L:∀b o,s0.heap.get? b==o->b∈pT (!nK N qual scope f bx A outer s0 H0 E).stack->b∈pT outer:=λb o e Y=>by
  rcases QQ.mp (I.FX b Y) with z|z
  ·subst z
   show CC (Qi (GK e) I.ok.above) (Sa _)
  ·show z
 let U:=GV G st S.1 M p J
 let D:Un (pT (!nK N qual scope f bx A outer s0 H0 E).stack) [] H0 H s0.heap s.heap:=I.gV.mono (λb Y=>by
  let(R,x,y):=v8.mp Y
  show v8.mpr (R,OX _ x,y)) λ_ z=>z
 show(a,cls,a0,dx,H',B,O,S,k,Un.shrink (D>>>U) L,yb C st S.1 Q,os>>>I.os,X,λb o e Y=>?_,Q,q);let(T,m):=I.gV.there b o e (λz=>(nomatch (show b∈([]:List BQ) from z)));show M b T m λz=>Y (L b o e z)
def rm:Passes (aR P w) .r E:=λm Z H s e S I q=>by
 let(a,cls,u,p,o,B,rfl,R,x,L,D,os,U,G,J,y):=q;change BX (BY P w) (A.deeper (RH qual scope ↑s0 f bx)) (leaving (RH qual scope ↑s0 f bx) ⇑a) _ _ S;show Oy (Kp.any amm (wpAny_leaves_onW (outer:=outer) (Q:=λ_ M=>∃X,M=(S⊂X)/\B.FlyingW outer a cls u X/\S.heap.UpToSlots X) (E:=λ_ _=>False) I.ok.frames rfl R λX Y T=>(X,O,Y,T))) (λ_ M z=>?_) λ_ _ z=>z.elim;let((X,rfl,Y,T),C):=z;show zar I Y (x.kd C) R.2.2.1 R.1 L D os U G J T y
end
section
variable {X:Cx}{AP:ζ}{Z:L2.St}{H H':Hp}{s:CH}
def xu {E:γ}{Q:Ρ}(I:Inv X AP Z H s)(hN:X.N.Nodup)(u:X.N[i]?==x)(hk:X.env.scope.names.lookup x==.local)
  (h:∀s',Inv X AP (Z.set i none) H s' ->Q () s'):BX M A (do bindName X.env x .none;unbindBehindTheSuite X.env x pos) Q E s:=by
 let(m,B,hl):=id I.loc;have α':(X.env.scope.kind⊆.class || (X.env.scope.kind⊆.module && X.env.locals !=X.env.globals))=false:=by rw[I.ok.kind];rfl
 let P:i < Z.length:=by rw[I.len];show(ir.mp u).1
 let g:=I.X6;show wpAny_nameGoes_keeps hk B α' λh' v0 EB U=>?_;let(oL,_,_,hoL,_):=id B
 let Y:lR X.prog X.w H h':=λb ob e=>by
  show(I.bU b ob e).pH (λc D L q=>(U.2 c ?_).trans q) (λ_ q=>q) λ_ _ q=>q;rintro rfl;let f:=I.free
  rcases L with rfl|L
  ·erw[f] at e
  ·erw[f] at L
 show h _ (I.ok,I.os,I.bare,(λb o e n J S=>?_,λb o e n J S=>?_,I.gV.free,λb o e S=>?_,I.gV.mX,I.gV.lS,I.gV.lT),(_,EB,λj y a T G e3=>?_),λy c e=>?_,I.free,I.iG,λp hp=>?_,Y,~~~I.len)
 ·show(U.2 b (QV (Qi (GK e) I.ok.above))).trans (I.gV.keep b o e n J S)
 ·let(sl,T):=I.gV.slot b o e n J S
  show#[sl,(U.2 b (QV (Qi (GK e) I.ok.above))).trans T]
 ·let(o',T):=I.gV.there b o e S
  show#[o',(U.2 b (QV (Qi (GK e) I.ok.above))).trans T]
 ·by_cases R:j=i
  ·subst R
   erw[alX P] at G
  ·rw[al9 (CV R)] at G
   let(u',r',q):=hl j y a T G e3;show(u',r',2)
   rcases q with ⟨k,e⟩|⟨k,c,e,z⟩
   ·show .inl #[k,2]
    have:y≠x:=λe=>R (xM hN T (e▸u));simp[this,e]
   ·show .inr (k,c,e,z.sameBut U (g y c e))
 ·let(D,z):=I.cell y c e
  show#[D,z.sameBut U (g y c e)]
 ·let(e,n,C,nf,d):=I.pin p hp
  show((U.2 p.1 C).trans e,n,C,nf,d)
abbrev hnd (X:Cx)(a:BQ):Cx:={X with A:=X.A.mark (some ⇑a),calm:=false,xe:=λ_ _=>False}
def aiL (Y:X.Ok):(hnd X a).Ok:=
 (Y.mod,Y.kind,Y.glob,Y.blt,Y.above,Y.inj,Y.has,Y.cab,λz=>(nomatch z),Y.frames,Y.stk,Y.exf,Y.bs,Y.X5,Y.QK,Y.Ve,Y.qh,Y.frf)
def zap (I:Inv X AP Z H s):Inv (hnd X a) AP Z H s:=(aiL I.ok,I.os,I.bare,I.gV,I.loc,I.cell,I.free,I.iG,I.pin,I.bU,I.len)
def GX (Y:X.Ok)(I:Inv (hnd X a) AP Z H s):Inv X AP Z H s:=(Y,I.os,I.bare,I.gV,I.loc,I.cell,I.free,I.iG,I.pin,I.bU,I.len)
def am3 (I:Inv X AP Z H s)(fresh:∀Y,X.qe.heap.get? a≠some Y)(P:∀p∈X.pn++AP,p.1≠a)(M:a≠X.env.locals)(L:∀x c,X.env.cells.lookup x==c->c≠a)(N:H a=none)
  (S:ck X.prog X.w (upd H a o) s.heap a o):Inv X AP Z (upd H a o) s:=by
 let U:∀b u,H b==u->b≠a:=λb u e z=>by erw[z,N] at e
 show(I.ok,I.os,I.bare,(I.gV.keep,I.gV.slot,λb Y e n Q=>?_,I.gV.there,λb xs e=>?_,λb Y u e=>?_,λb R e=>?_),I.loc,I.cell,2,λx c e=>?_,λp h=>?_,λb u e=>?_,I.len)
 ·rw[ah (λz=>fresh Y (by rwa[<-z]))]
  show I.gV.free b Y e n Q
 ·let q:=I.gV.mX b xs e
  rwa[ah (U\q)]
 ·let q:=I.gV.lS b Y u e
  rwa[ah (U\q)]
 ·let(T,q):=I.gV.lT b R e
  show#[T,by rwa[ah (U\q)]]
 ·rw[ah (CV M)]
  show I.free
 ·rw[ah (L x c e)]
  show I.iG x c e
 ·let(e,n,r):=I.pin p h
  show(e,by rwa[ah (P p h)],r)
 ·by_cases z:b=a
  ·subst z
   erw[af] at e;show S
  ·rw[ah z] at e
   show(I.bU b u e).pH (λ_ _ _ q=>q) (λc q=>by rwa[ah (U\q)]) λc xs q=>by rwa[ah (U\q)]
def iC (cls:Value)(a:BQ)(U:χ):HO:=.ext λh=>∃o Y,h.get? a==o/\o.cls=cls/\o.data=.fields Y/\o.dict=U/\Y[2]?==.none
def aeM {Y:χ}{o:Obj}{vs:Ζ}(e:h.get? a==o)(Q:o.cls=cls)(R:o.data=.fields vs)(S:o.dict=Y)(N:vs[2]?==.none):ck P w H h a (iC cls a Y):=
 ((o,vs,e,Q,R,S,N),#[o,e],λ_ _ ⟨U,T,q,c,d,x,y⟩ k=>(U,T,k _ q,c,d,x,y))
structure Ld (X:Cx)(AP:ζ)(Z:L2.St)(H:Hp)(a:BQ)(cls:Value)(dx:χ)(s:CH):Prop where
 ex:∃(H0:Hp)(s0:CH)(a0:Value)(B:Heap),Inv X AP Z H0 s0/\Heap.FlyingW B X.stack a cls a0 s.heap/\DictAt s.heap a dx/\Un (pT X.stack) [] H0 H s0.heap s.heap/\lR X.prog X.w H s.heap/\s.os=s0.os/\WU s.gens/\
  (∀b o,s0.heap.get? b==o->b∉pT X.stack->∃o',B.get? b==o')/\(∀b u,H b==u->∃o,B.get? b==o)
def Ld.inv (L:Ld X AP Z H a cls dx s):Inv X AP Z H s:=by
 let(J,Q,M,B,I,P,N,U,T,os,Y,R,S):=L.ex;show I.Tw (ch:=[]) os U T Y λb z=>CC z gN
def Ld.free (L:Ld X AP Z H a cls dx s):H a=none:=by
 let(J,Q,M,B,I,T,N,S,P,os,Y,R,U):=L.ex;cases q:H a with
 | none=>rfl
 | some u=>
  let(o,e):=U a u q;erw[T.2.1] at e
abbrev TH:=Value->Option BQ->Ends->L2.St->Hp->Prop
def PH (X:Cx)(U:List ExceptHandler)(t:TH):Prop:=
 ∀(AP:ζ)(s:CH)(Z:L2.St)(H:Hp)(a:BQ)(cls:Value)(Y:χ)(D:Ends),Ld X AP Z H a cls Y s->t cls Y D Z H->BX .q X.A (handleBy ⇑a X.env U) (SP X AP D) X.xe s
def aiM:PH X [] (λ_ _ _ _ _=>False):=λ_ _ _ _ _ _ _ _ _ h=>h.elim
structure Vq (X:Cx)(c:Str)(cv:Value):Prop where
 ld:∀(a:BQ)(AP:ζ)(s:CH)(Z:L2.St)(H:Hp)(np:Pos)(Q:γ)(E:γ),Inv (hnd X a) AP Z H s->Q cv s->BX .q (X.A.mark (some ⇑a)) (CQ (.Name c np) X.env) Q E s
def Vq.own (Y:X.mg c==⇑C)(U:Gl X c:=by rfl)(T:(c⊆("__debug__":Str))=false:=by decide):Vq X c ⇑C:=
 #[λa AP s Z H S Q E I h=>iP (X:=hnd X a) I U Y h T]
def tAs (i:Nat)(cv:Value)(K:Frag)(S:TS)(R:TH):TH:=λcls T D Z H=>∃b,Vs K cls cv==b/\
 if b=true then ∀a,H a=none->S {nx:=λY U=>D.nx (Y.set i none) U,rt:=D.rt,bk:=λY U=>D.bk (Y.set i none) U,ct:=λY U=>D.ct (Y.set i none) U} (Z.set i (some ⇑a)) (upd H a (iC cls a T)) else R cls T D Z H
def ZL {rest:List ExceptHandler}(hc:Vq X c cv)(C:X.N.Nodup)(G:X.N[i]?==n)(P:X.env.scope.names.lookup n==.local)
  (ht:∀a,tf (hnd X a) (b₀::ahc) ts) (hr:PH X rest tr) (hex:X.ex=[]:=by rfl):PH X (.ExceptHandler (some (.Name c np)) (some n) (b₀::ahc) pos::rest) (tAs i cv X.K ts tr):=by
 intro AP s Z H a cls dx D L h;let(b,hb,h):=h;let I:=L.inv;show wpAny_handleBy_cons (codeAny_handlers_test (hc.ld a AP s Z H np _ _ (zap I) ?_)) (by intro q;cases q);let(H0,s0,a0,B,R,M,da,un,ok,os,y,th,tr'):=L.ex;let(ob,hob,α'):=M.there
 let LT:PySem.W.Looks .q s.heap (typeOf ⇑a) cls:=by
  subst α';show(PySem.W.Looks.ld hob).andThen .now
 show(PySem.W.exm_one I.lQ LT hb).here ?_;cases b with
 | false=>
  rw[iA QW] at h;show hr AP s Z H a cls dx D L h
 | true=>
  rw[iB rfl] at h;show codeAny_handlers_suite_as ?_;show Oy (Kp.any mh (lands_againW (Q:=λ_ s6=>∃T,s6=(s⊂T)/\B.FlyingW X.stack a cls a0 T/\s.heap.UpToSlots T) (E:=λ_ _=>False) M λT Y up=>(T,O,Y,up))) (λ_ s6 z=>?_) λ_ _ z=>z.elim;let((T,rfl,Y,up),kd):=z;let da6:DictAt T a dx:=da.kd kd;let un6:=GV un M.1 Y.1 th M.2.2.1 up;let ok6:=yb ok M.1 Y.1 tr';let I6:Inv X AP Z H (s⊂T):=R.Tw (ch:=[]) os un6 ok6 y λb z=>CC z gN;let fr:=L.free;let(oe,ws,U,awW,j,_):=Y.first
  obtain ⟨awX,awY⟩:oe.dict=dx/\ws[2]?==.none:=by
   let(g,A,d',c'):=da6;erw[U] at A;show#[d',(aeg j).symm.trans c']
  let ne:∀b u,H b==u->b≠a:=λb u e z=>by erw[z,fr] at e
  let k:∀o,s0.heap.get? a≠some o:=λo e=>by
   by_cases hb:a∈pT X.stack
   ·let(_,g,A,nf):=Y.2.2.1.mem hb
    erw[U] at A;show nf _ j
   ·let(g,eB):=th a o e hb
    erw[M.2.1] at eB
  let I7:Inv X AP Z (upd H a (iC cls a dx)) (s⊂T):=by
   show am3 I6 (λo e=>?_) (λp hp z=>?_) (λz=>?_) (λx c e z=>?_) fr (aeM U awW j awX awY)
   ·let(g,A):=R.gV.there a o e (by rw[hex];simp)
    show k g A
   ·let q:=(R.pin p hp).1
    rw[z] at q;show k _ q
   ·let(m,(oL,es,ep,ho,hd,_),_):=I6.loc
    erw[<-z,show((s⊂T):CH).heap.get? a==oe from U] at ho;erw[j] at hd
   ·let(v,(oc,ho,hd)):=I6.cell x c e
    erw[z,show((s⊂T):CH).heap.get? a==oe from U] at ho;erw[j] at hd
  show m7 I7 C G (.inl P) (v:=⇑a) (u:=⇑a) rfl (λs8 I8=>?_) (.inr P);show Oy (ht a AP s8 _ _ _ (zap I8) (h a fr)) (λf s9 q=>?_) λ_ _ z=>z.elim;cases f with
  | next=>
   let(Z2,H2,J,q):=q;show xu (GX R.ok J) C G P λs' S=>(_,_,S,q)
  | brk=>
   let(Z2,H2,J,q):=q;show xu (GX R.ok J) C G P λs' S=>(_,_,S,q)
  | cont=>
   let(Z2,H2,J,q):=q;show xu (GX R.ok J) C G P λs' S=>(_,_,S,q)
  | ret u=>
   let(v,Z2,H2,J,r,q):=q;show xu (GX R.ok J) C G P λs' S=>(v,_,_,S,r,q)
def XP (X:Cx)(AP:ζ)(Z:L2.St)(E:XK)(e:Value)(s':CH):Prop:=∃H s,Inv X AP Z H s/\aR X.prog X.w X.stack H s E e s'
abbrev TEx:=L2.St->Hp->VK->XK->Prop
abbrev TSx:=Ends->(L2.St->XK)->L2.St->Hp->Prop
def PEx (X:Cx)(e:Expr)(t:TEx):Prop:=
 ∀(AP:ζ)(s:CH)(Z:L2.St)(H:Hp)(Q:VK)(E:XK),Inv X AP Z H s->t Z H Q E->BX .q X.A (CQ e X.env) (EP X AP Z Q) (XP X AP Z E) s
def PSx (X:Cx)(st:Stmt)(t:TSx):Prop:=
 ∀(AP:ζ)(s:CH)(Z:L2.St)(H:Hp)(D:Ends)(E:L2.St->XK),Inv X AP Z H s->t D E Z H->BX .q X.A (exec st X.env) (SP X AP D) (λe U=>∃Y,XP X AP Y (E Y) e U) s
def ahd {p Y:Pos}{T:ω}(F:Fn X.prog X.w X.K X.mg X.gV (aR X.prog X.w) k x ps sp)(y:cp k X.A)(i:PA X.t_ (e::T) t)(o:Gl X x:=by rfl)(D:.z=false:=by decide)
  (j:CW (e::T) X.env=(false,CQ e X.env)::CW T X.env:=by rfl) (C:(QS Y (CW T X.env)).any (·.1)=false:=by rfl):
  PEx X (.Call (.Name x p) (e::T) [] Y) (λZ H Q E=>t Z H λM S=>sp M S Q E):=by
 intro AP s Z H Q E I h;let(f,fd,G,b,m,B):=F.ex;show se (iP I o m ?_ D);show PX (h₀:=X.gV) I.ok.mod.Y_ B (Oy (i Y AP s Z H _ (I.tZ _) h) (λR P ⟨M,S,J,r,q⟩=>#[J.lQ,2]) λ_ _ z=>z.elim) j C;let N:Inv X AP Z S P:=J.js;let a:R.length=ps.length:=![<-r.length] (G.len _ _ _ _ q)
 let L:=b P R N.lQ (by rwa[Zu]);rw[Zu] at L;show uR (EY (G.run X.A X.stack P S #[R,[]] R M Q E y N.Zt L r q) λr c U=>?_);cases r with
 | error e=>show(S,P,N,U)
 | ok g=>
  cases g with
  | ret u=>show N.after U
  | next=>show False.elim U
  | brk=>show False.elim U
  | cont=>show False.elim U
def ads (S:PEx X e te)(T:Zg e none pos.line X.env=pure false:=by rfl):PSx X (.Expr e pos) (λD E Z H=>te Z H (λ_ Y=>D.nx Z Y) (E Z)):=by
 intro AP s Z H D E I h;show wpAny_Expr_any (Oy (S AP s Z H _ _ I h) (λv Q z=>?_) λe P z=>#[Z,z]) I.quiet T;let(y,Y,R,N,U):=z;show(Z,Y,R,U)
def aiN {st:Stmt}(U:X.stack=X.env::X.outer/\X.env.frame==X.env.locals)(hb:PSx X st tb)(hh:PH X (h₀::hs) th):
  PS X (.Try [st] (h₀::hs) [] [] pos) (λD Z H=>tb D (λm cls C H'=>th cls C D m H') Z H):=by
 intro AP s Z H D I h;show wpAny_Try_except (Ul (Oy (hb AP s Z H D _ I h) (λf N q=>?_) λe N z=>?_))
 ·cases f with
  | next=>show EX (EX q)
  | ret v=>show q
  | brk=>show q
  | cont=>show q
 ·let(m,H0,b,I0,a,cls,p,C,H',B,rfl,G,da,c,ok,os,J,M,k,hE):=z
  let L:=G;rw[U.1] at L;let w:X.A.frames==(X.env::X.outer):=![<-U.1] I.ok.frames
  show Oy (Kp.any zaC (wpAny_looks_onW (Q:=λ_ i=>∃S,i=(N⊂S)/\B.HeldW (X.env::X.outer) a cls p X.env.locals S/\N.heap.UpToSlots S) (E:=λ_ _=>False) w U.2 L λS o P=>(S,O,o,P))) (λ_ i z=>?_) λ_ _ z=>z.elim;let((S,rfl,o,P),x):=z;show Oy (Kp.any mh (wpAny_landsW (s:=(N⊂S)) (Q:=λ_ j=>∃T,j=(N⊂T)/\B.FlyingW (X.env::X.outer) a cls p T/\S.UpToSlots T) (E:=λ_ _=>False) o λT Y R=>(T,O,Y,R))) (λ_ j z=>?_) λ_ _ z=>z.elim;let((T,rfl,Y,R),y):=z;let u:DictAt T a C:=(da.kd x).kd y;rw[<-U.1] at Y;let g:=P>>>R;show hh AP (N⊂T) m H' a cls C D (H0,b,p,B,I0,Y,u,GV c G.1 Y.1 M G.2.2.1 g,yb ok G.1 Y.1 k,os,J,M,k) hE
end
end Ty
namespace ou
open PySem PySem.W PySem.Calls PyProof.Rows Builtin Builtin.ObjectAttr Builtin.Getset_descriptor
structure kR (K:Frag)(C:BQ):Prop where
 ga:findIn K ⇑C "__getattribute__"==(some .S)
 gt:findIn K ⇑C "__getattr__"==none
 cl:findIn K ⇑C "__class__"==(some (.builtin "object.__class__"))
 mo:mroIn K C (.type "object")==true
 mb:mroIn K C (.type "BaseException")==true
 is:(clsIn K C).isSome=true
section
variable {prog:HV}{w:World}{A:LA}{E:γ}{K:Frag}{h:Heap}{g:Array GenState}{d:Drawn}{t:Nat}{os:OsState}{a C:BQ}{o:Obj}
def jd (Z:h.get? a==o)(Y:o.cls=⇑C):Looks M h (typeOf ⇑a) ⇑C:=by
 subst_vars
 rw[<-Y];show(Looks.ld Z).andThen .now
def abR {R:Θ}(X:K.In h)(F:kR K C)(Z:h.get? a==o)(U:o.cls=⇑C)
  (Y:R (.ok (.ret ⇑C)) (h,g,d,t,os)):Ri .s A (.call (.builtin "getset_descriptor.__get__") #[[.builtin "object.__class__",⇑a,tp],[]]) R (h,g,d,t,os):=by
 let S:=jd (M:=BY prog w) Z U;let T:=looks_mroIn (M:=BY prog w) X F.mo;show TX KF.slot_gs.plain KF.entry_gs (KF.slot_gs.check _ _ _ _ _ _ _ _ KF.type_class (KF.args_gs _ _ _) ?_);unfold Builtin.«getset_descriptor.__get__» descrGet;rw[dga_obj];show BR (CO ?_);unfold descrGetter descrCheckInstance descrNameAndClass TB;simp only[KF.owner_class]
 repeat lk
 show#[Code.quiet_builtin _ d_k,codeAny_builtin KF.entry_class ?_];unfold Builtin.«object.__class__» shownTypeOf
 repeat lk
 show Y
def zaB {Q:Ρ}(X:K.In h)(F:kR K C)(Y:h.get? a==o)(S:o.cls=⇑C)
  (U:Q () (h,g,d,t,os)):BX M A (agq "BaseException.__getattribute__" #[[⇑a,ahe],[]]) Q E (h,g,d,t,os):=by
 let T:builtinKind "BaseException.__getattribute__"==.slot:=d_k
 let Z:splitId "BaseException.__getattribute__"==("BaseException","__getattribute__"):=d_k
 let R:=PySem.F.args_bexc_ga ⇑a ahe;let N:=jd (M:=M) Y S;let P:=looks_mroIn (M:=M) X F.mb;simp only[agq,T,Z];show BR ?_
 ·unfold TB
  repeat (first|lk|wp_step)
  show U
def afQ (X:K.In h)(F:kR K C)(Z:h.get? a==o)(Y:o.cls=⇑C)
  (R:Q (.done (.ret ⇑C)) (h,g,d,t,os)):BX .s A (Builtin.«object.__getattribute__» #[[⇑a,.str "__class__" tk],[]]) Q E (h,g,d,t,os):=by
 let S:=jd (M:=BY prog w) Z Y;let T:=looks_findIn (M:=BY prog w) X F.cl;let U:((h,g,d,t,os):CH).TypeIs (.builtin "object.__class__") "getset_descriptor":=PySem.F.typeOf_object_class;let L:=PySem.F.typeOf_object_class;let N:=PySem.F.slot_gs_get.lookup;let P:=PySem.F.slot_gs_set.lookup
 repeat (any_goals (first|assumption|with_reducible show T.at ?_|with_reducible show S.at ?_|(with_reducible show Um Z ?_;rw[Y])|wp_step))
 show abR X F Z Y ?_
 repeat (any_goals (first|assumption|wp_step))
def adB {R:Θ}(X:K.In h)(F:kR K C)(Z:h.get? a==o)(Y:o.cls=⇑C)
  (U:R (.ok (.ret ⇑C)) (h,g,d,t,os)):Ri .s A (.call .S #[[⇑a,.str "__class__" tk],[]]) R (h,g,d,t,os):=
 TX PySem.F.attr_ValueError.ga.plain PySem.F.entry_bexc_ga (zaB X F Z Y (afQ X F Z Y U))
def aa6 {Q:γ}(X:K.In h)(F:kR K C)(Z:h.get? a==o)(Y:o.cls=⇑C)
  (P:Q ⇑C (h,g,d,t,os)):BX .s A (getAttrBy ⇑a (.str "__class__" tk) false) Q E (h,g,d,t,os):=by
 let R:=jd (M:=BY prog w) Z Y;let S:=looks_findIn (M:=BY prog w) X F.ga;let L2:=looks_findIn (M:=BY prog w) X F.gt;let N:=PySem.F.attr_ValueError.ga.bind ⇑a;let T:(Value.builtin "BaseException.__getattribute__"⊆Value.builtin "object.__getattribute__")=false:=d_k
 let U:(onTheHeap (Value.ref C) && Value.builtin "BaseException.__getattribute__"⊆Value.builtin "object.__getattribute__")=false:=by rw[T];rfl
 repeat (any_goals (first|assumption|with_reducible show S.at ?_|with_reducible show L2.at ?_|with_reducible show R.at ?_|(with_reducible show Um Z ?_;rw[Y])|wp_step))
 show adB X F Z Y ?_
 repeat (any_goals (first|assumption|wp_step))
def zax {Q:Ξ}(X:K.In h)(F:kR K C)(Z:h.get? a==o)(Y:o.cls=⇑C)
  (U:Q (some ⇑C) (h,g,d,t+1,os)):BX .s A (getAttr? ⇑a "__class__") Q E (h,g,d,t,os):=by
 unfold getAttr? getAttrBy?
 repeat (any_goals (first|assumption|with_reducible apply aa6 X F Z Y|wp_step))
end
def ExcAt (a C:BQ)(h:Heap):Prop:=∃o Z,h.get? a==o/\o.cls=⇑C/\o.data=.fields Z
def ZO {K:Frag}(F:kR K C):KitX K ⇑a ⇑C (ExcAt a C) where
 ty:=λM h _ ⟨o,S,Z,U,_⟩=>jd Z U
 it:=λM h X _=>by
  let q:=F.is;unfold clsIn at q;split at q
  ·rename_i c' d' cd' sl' ho
   intro G J I N k q;unfold isType loadHead;show BR (agA (k\(X _ _ ho)) (CO q))
  ·cases q
 ne:=λh R L H n P X Y=>by
  let q:=F.is;show WR.mpr λz=>?_;let e:C=R:=Value.ref.inj (beq_iff_eq.mp z);subst e;unfold clsIn at q;split at q
  ·rename_i c' d' cd' sl' ho
   let z:=(X\ho).symm.trans Y;cases z
  ·cases q
 ca:=λ{T w A E Q s} X p k=>by
  let(h,g,d,t,os):=s;let(o,S,Z,U,_):=p;show zax X F Z U k
end ou
namespace Ty
open PySem PySem.Spec PyProof.Rows L2
section
variable {X:Cx}
inductive ahf (K:Frag)(xs:ε)(H:Hp)(Q:VK):Prop
|mk (a C c b Z:_)(_:xs=[.ref a,c])(_:aha c=true)(_:H a==(iC (.ref C) a Z))(_:ou.kR K C)(_:QU K (.ref C) (amZ c)==b)(_:Q (.bl b) H)
def g8 {K:Frag}(J:X.K=K):mL X (.builtin "isinstance") (ahf K):=by
 subst J;intro D s Z H xs E Q I r h;let(a,C,c,b,G,rfl,M,L,F,e,q):=h;let(u,w,rfl,S,T):=vals2 r;obtain rfl:=aeL M T;cases S;let((o,Y,N,P,R,_),_):=(show ck X.prog X.w H s.heap a (iC ⇑C a G) from I.bU a _ L);show PySem.W.kia_one (ou.ZO F) I.lQ (o,Y,N,P,R) e (λz=>nomatch z) λU=>(.bl b,H,I.tok U,O,q)
def qz (Y:Gl X x)(Z:X.mg x==⇑C)(U:.z=false:=by decide):PE X (.Name x pos) (tC ⇑C):=eJ (v:=⇑C) Y Z rfl U
def adk :∀{xs:ε} {us:ς},Vals xs us->xs.all jt=true->us.countP (ZC x)=xs.countP λy=>xr y x:=by
 intro xs us h;induction h with|nil=>intro _;rfl|cons r t Z=>intro f;rw[vt,EK] at f;rw[ap0,ap0,QX r f.1,Z f.2]
inductive ZP (K:Frag)(x:V)(vs:ε)(H:Hp)(Q:VK):Prop
|mk (l xs y:_)(_:x=.ref l)(_:vs=[y])(_:aY K H l xs)(_:jt y=true)(_:xs.all jt=true)(_:Q ↥(xs.countP (λz=>xr z y):Nat) H)
def ag1:MtR X "list.count" (ZP X.K):=by
 intro w s Z H x B v A Q I M L h;let(l,xs,y,rfl,rfl,E,D,P,q):=h;cases M;let(u,rfl,J):=L.one;let(Y,r,G,U):=I.list E;let((cls,C,data,N),T,R,n,S):=id G.isList;simp only at R S;subst R S;show OH PySem.F.slot_list_count (_,T,O) PySem.F.entry_list_count (PySem.F.args_list_count_2 _ _) (SeqAt.list_countAt l Y.toArray n C N u (ZC y)) (T,λz U=>xT J D r P z (~~~U),2);show(.int (xs.countP (λz=>xr z y):Nat),H,I.tok _,#[s.toks,2],q);rw[show Y.toArray.toList=Y from rfl,adk r P]
end
structure mN (k:Nat)(A:LA):Prop where
 dp:A.depth+3*k+5<wj
 un:A.units+16*k+200<V6
theorem mN.deeper (r:mN (k+1) A)(Z:Env):mN k (A.deeper Z):=
 #[by have:=r.dp;change A.depth+1+3*k+5<_;omega,by have:=r.un;change A.units+3+16*k+200<_;omega]
theorem mN.mark (r:cp k A)(e:Option Value):mN k (A.mark e):=#[r.dp,r.un]
structure ahg (P:HV)(w:World)(K:Frag)(mg:ι)(gV:Heap)(k:Nat)(f:BQ)(fd:FuncData)(ps:τ)(sp:Sp):Prop where
 len:∀vs H Q E,sp vs H Q E->vs.length=ps.length
 run:∀(A:LA)(outer:List Env)(s:CH)(H:Hp)(args:Args)(us:ς)(vs:ε)(Q:VK),mN k A->!GG A outer s H->BindsTo s fd args (ps.zip us)->Vals vs us->sp vs H Q E0->
  Ri (BY P w) A (.call ⇑f args) (CR CX0 outer P w H s Q E0) s
def cxh (P:HV)(w:World)(K:Frag)(mg:ι)(gV:Heap)(N:τ)(Y:Str)(Z:Scope)(f:BQ)(X:Value)(A:LA)(outer:List Env)(s:CH)(H:Hp):Cx:=
 {kO CX0 P w K mg gV N Y Z f X A outer s H E0 with calm:=false,xe:=λ_ _=>False}
def aiP {K:Frag}{g kV M j Y c oc:Value}{a od:χ}
  {qv:Ι}   (lk:K.lookup f==(oc,od,.func (fnOf name qual params body scope g kV M j a Y c),qv)) (m8:codeIn K Y qual=true) (S:av N ps scope)
  (T:∀vs H Q E,sp vs H Q E->vs.length=ps.length)
  (fg:∀(A:LA)(outer:List Env)(s:CH)(H:Hp)(vs:ε)(Q:VK),mN k (A.deeper (RH qual scope ↑s f Y))->sp vs H Q E0->
   ∃t,tf (!cxh N qual scope f Y A outer s H) body t/\t {nx:=λ_ X=>Q .cS X,rt:=Q} .Y H):
  ahg P w K mg gV (k+1) f (fnOf name qual params body scope g kV M j a Y c) ps sp:=by
 show#[T,λA outer s H args us vs Q i Z hb r m=>?_];let hl:=T _ _ _ _ m;let KX:K.In s.heap:=Z.mod.Y_.keeps λb o e=>(Z.bs b o e).1;let p:s.heap.NoLimit:=Z.mod.nolimit.keeps λb o e=>(Z.bs b o e).1
 let Zv:∀y∈ps.zip us,scope.names.lookup y.1==.local\/(scope.names.lookup y.1==.cell/\((cellsFrom (↑s+1) scope.names []).lookup y.1).isSome=true):=λ⟨n,v⟩ hy=>by
  rcases S.par n (UN hy).1 with q|q
  ·show .inl q
  ·show .inr #[q,PySem.W.cellsFrom_some _ _ _ (.inl q)]
 show codeAny_call_function (by have:=i.dp;omega) (KX\lk) rfl S.co S.gen rfl (PySem.W.codeRec_of KX m8) (hb _ _ _ _ ?_);show wpAny_newFunctionEnv_cells S.kind Zv λenv he G x=>?_;subst he;show#[p.keeps x.toInCall.keep,codeAny_func ?_];let(t,ht,hq):=fg A outer s H vs Q (i.deeper _) m;let e1:!GG {A with handled:=none} outer s H:=(Z.frames,Z.mod,Z.bs,Z.X5,Z.qh,Z.frf,Z.bU,Z.bare);let J:Inv (kO CX0 P w K mg gV N qual scope f Y {A with handled:=none} outer s H E0) [] .Y H G:=agp S rfl e1 hl r x;let B:(!cxh N qual scope f Y A outer s H).Ok:=(J.ok.mod,J.ok.kind,J.ok.glob,J.ok.blt,J.ok.above,J.ok.inj,J.ok.has,J.ok.cab,λz=>(nomatch z),Around.frames_deeper Z.frames,J.ok.stk,J.ok.exf,J.ok.bs,J.ok.X5,J.ok.QK,J.ok.Ve,J.ok.qh,J.ok.frf);let I:Inv (!cxh N qual scope f Y A outer s H) [] .Y H G:=(B,J.os,J.bare,J.gV,J.loc,J.cell,J.free,J.iG,J.pin,J.bU,J.len);show Oy (ht [] G .Y H _ I hq) (λfl D U=>?_) λe D U=>U.elim
 let R:∀{L :L2.St} {X:Hp} {v:V} {u:Value},Inv (!cxh N qual scope f Y A outer s H) [] L X D ->RelV v u->Q v X ->CE outer P w H s Q u D:=
  λ{L X v u} J C q=>(v,X,J.os,J.bare,J.gV,J.bU,C,q)
 cases fl with
 | ret u=>
  let(v,L,X,J,C,q):=U;show R J C q
 | next=>
  let(L,X,J,q):=U;show R (v:=V.cS) (u:=Value.none) J rfl q
 | brk=>
  let(_,_,_,q):=U;show False.elim q
 | cont=>
  let(_,_,_,q):=U;show False.elim q
structure FnH (P:HV)(w:World)(K:Frag)(mg:ι)(gV:Heap)(k:Nat)(x:Str)(ps:τ)(sp:Sp):Prop where
 ex:∃(f:BQ)(fd:FuncData),ahg P w K mg gV k f fd ps sp/\Binds K fd ps []/\mg x==⇑f/\keepIn K ⇑f=true
def Def.okH {K:Frag}{st:Stmt}(D:Def K mg x st ps)(S:av N ps (ae st))(Y:∀vs H Q E,sp vs H Q E->vs.length=ps.length)
  (M:∀(f:BQ)(Z:Value)(A:LA)(outer:List Env)(s:CH)(H:Hp)(vs:ε)(Q:VK),mN k (A.deeper (RH x (ae st) ↑s f Z))->sp vs H Q E0->
   ∃t,tf (!cxh N x (ae st) f Z A outer s H) (ao st) t/\t {nx:=λ_ J=>Q .cS J,rt:=Q} .Y H):!FnH (k+1) x ps sp:=by
 let(f,z,B,C,kV,L,G,u,Z,y,I,lk,U,T,b,m):=D.ex;show(f,_,aiP lk U S Y λA outer s H vs Q R X=>M f Z A outer s H vs Q R X,b,m,T)
def Q0 {p Y:Pos}{T:ω}(F:FnH X.prog X.w X.K X.mg X.gV k x ps sp)(D:mN k X.A)(z:PA X (e::T) t)(C:Gl X x:=by rfl)(M:.z=false:=by decide)
  (B:CW (e::T) X.env=(false,CQ e X.env)::CW T X.env:=by rfl) (J:(QS Y (CW T X.env)).any (·.1)=false:=by rfl):
  PE X (.Call (.Name x p) (e::T) [] Y) (OF sp [] E0 t):=by
 intro j s Z H Q I h;let(f,c,G,b,m,E):=F.ex;show se (iP I C m ?_ M);show PX (h₀:=X.gV) I.ok.mod.Y_ E (cH (z Y j s Z H _ I h) λS P ⟨L,o,R,r,q⟩=>#[R.lQ,2]) B J;unfold jU at q;rw[Zu] at q;let g:S.length=ps.length:=![<-r.length] (G.len _ _ _ _ q)
 let N:=b P S R.lQ (by rwa[Zu]);rw[Zu] at N;show uR (EY (G.run X.A X.stack P o #[S,[]] S L Q D R.Zt N r q) λr i U=>?_);cases r with
 | error e=>show False.elim U
 | ok y=>
  cases y with
  | ret u=>show R.after U
  | next=>show False.elim U
  | brk=>show False.elim U
  | cont=>show False.elim U
def Def.okX {K:Frag}{st:Stmt}(D:Def K mg x st ps)(S:av N ps (ae st))(Y:∀vs H Q E,sp vs H Q E->vs.length=ps.length)
  (M:∀(f:BQ)(Z:Value)(A:LA)(outer:List Env)(s:CH)(H:Hp)(vs:ε)(Q:VK)(E:XK),cp k (A.deeper (RH x (ae st) ↑s f Z))->sp vs H Q E->
   ∃t,tf (!nK N x (ae st) f Z A outer s H E) (ao st) t/\t {nx:=λ_ J=>Q .cS J,rt:=Q} .Y H):!Fn (aR P w) (k+1) x ps sp:=by
 let(f,z,B,C,kV,L,G,u,Z,y,I,lk,U,T,b,m):=D.ex;show(f,_,xS lk U S Y λA outer s H vs Q E R X=>M f Z A outer s H vs Q E R X,b,m,T)
end Ty
namespace ou
open PySem PySem.W PySem.Calls PyProof.Rows Builtin Builtin.ObjectAttr Builtin.Getset_descriptor
section
variable {prog:HV}{w:World}{A:LA}{E:γ}{K:Frag}{h:Heap}{g:Array GenState}{d:Drawn}{t:Nat}{os:OsState}{a C:BQ}{o:Obj}{od:Option Obj}{name:Str}{v:Value}
def adi (X:K.In h)(I:InstAt h a o C od)(Z:findObj K C od name==.value v)
  (T:Q (.done (.ret v)) (h,g,d,t,os)):BX .s A (Builtin.«object.__getattribute__» #[[⇑a,.str name tk],[]]) Q E (h,g,d,t,os):=by
 let U:=InstAt.type (M:=BY prog w) I;let Y:=looks_find (M:=BY prog w) X I Z
 repeat (any_goals (first|assumption|with_reducible show Y.at ?_|with_reducible show U.at ?_|wp_step))
def afO {R:Θ}(X:K.In h)(F:kR K C)(I:InstAt h a o C od)(Y:findObj K C od name==.value v)
  (Z:R (.ok (.ret v)) (h,g,d,t,os)):Ri .s A (.call .S #[[⇑a,.str name tk],[]]) R (h,g,d,t,os):=
 TX PySem.F.attr_ValueError.ga.plain PySem.F.entry_bexc_ga (zaB X F I.at_ I.cls (adi X I Y Z))
def aiQ {fill Z:Bool}{Q:γ}(X:K.In h)(F:kR K C)(I:InstAt h a o C od)(N:findObj K C od name==.value v)(P:handedIn v=true)
  (G:Q v (h,g,d,t,os)):BX .s A (getAttrBy ⇑a (.str name tk) fill Z) Q E (h,g,d,t,os):=by
 let U:=I.at_;let T:=I.cls;let H:=jd (M:=BY prog w) U T;let J:=looks_findIn (M:=BY prog w) X F.ga;let L2:=looks_findIn (M:=BY prog w) X F.gt;let D:=PySem.F.attr_ValueError.ga.bind ⇑a;let L:(Value.builtin "BaseException.__getattribute__"⊆Value.builtin "object.__getattribute__")=false:=d_k
 let S:(onTheHeap (Value.ref C) && Value.builtin "BaseException.__getattribute__"⊆Value.builtin "object.__getattribute__")=false:=by rw[L];rfl
 let R:=handedOut_of P
 repeat (any_goals (first|assumption|with_reducible show J.at ?_|with_reducible show L2.at ?_|with_reducible show H.at ?_|(with_reducible show Um U ?_;rw[T])|wp_step))
 let Y:(Z && onTheHeap (Value.builtin "BaseException.__getattribute__"))=false:=by cases Z<;>rfl
 rw[Y]
 repeat (any_goals (first|assumption|wp_step))
 show afO X F I N ?_
 repeat (any_goals (first|assumption|(rw[R];show CO ?_)|wp_step))
def OT {Q:γ}(X:K.In s.heap)(F:kR K C)(I:InstAt s.heap a o C od)(U:findObj K C od name==.value v)(Y:handedIn v=true)
  (Z:Q v {s with toks:=s.toks+1}):BX .s A (getAttr ⇑a name b) Q E s:=by
 let(h,g,d,t,os):=s;unfold getAttr;show BR (wpAny_mkText ?_);show aiQ X F I U Y Z
end
end ou
namespace ou
open PySem PySem.W PySem.Calls PyProof.Rows Builtin Builtin.ObjectAttr
def am':Value->Bool
 | .ref _=>true
 | _=>false
def mi (l:ς):Bool:=l.dropWhile am'⊆[.type "ValueError",.type "Exception",.type "BaseException",.type "object"]
theorem anR :∀l:List Value,refuseLoop self ana l=refuseLoop self ana (l.dropWhile am')
 | []=>rfl
 | v::l=>by
  cases v with
  | ref a=>
   rw[refuseLoop_ref,anR l];rfl
  | _=>rfl
def abQ (h:mi l=true):refuseLoop self "__setattr__" l=pure ():=by
 rw[anR,beq_iff_eq.mp h];show PySem.F.store_ValueError.passes self
section
variable {prog:HV}{w:World}{A:LA}{E:γ}{K:Frag}{s:CH}{x C:BQ}{ox:Obj}{od:Option Obj}{name:Str}{v:Value}{cd:ClassData}
def adC {R:Θ}(X:K.In s.heap)(I:InstAt s.heap x ox C od)(F:kR K C)(L:clsIn K C==cd)(Q:mi cd.mro=true)(P:findIn K ⇑C name==none)
  (h:BX .s A.in1 (storeInOwnDict ⇑x ⇑C (.str name tk) name v false) (λY s'=>match Y with | .done f=>R (.ok f) s' | .again T=>T.quiet=true/\Ri .s A T R s') (λe s'=>R (.error e) s') s):
  Ri .s A (.call (.builtin "object.__setattr__") #[[⇑x,.str name tk,v],[]]) R s:=by
 let Z:=PySem.F.store_object;let U:=InstAt.type (M:=BY prog w) I;let sub:=U.andThen (f:=λS=>isSubtype S (.type "object")) (looks_mroIn (M:=BY prog w) X F.mo);show TX Z.slot.plain Z.entry (check_slot Z.kind Z.split sub (Z.args _ _ _) ?_);let N:Looks .s s.heap (mroOf ⇑C) cd.mro:=(looks_clsIn X L).andThen .now;let J:=looks_findIn (M:=BY prog w) X P;unfold Builtin.«object.__setattr__»;dsimp only;rw[refuse_eq];let e:=abQ (self:=⇑x) Q;show VI rfl ?_;show BR (BR (U.here (BR (N.here ?_))));rw[e];show CO ?_
 repeat (any_goals (first|assumption|with_reducible show J.at ?_|with_reducible show U.at ?_|wp_step))
def GZ {vs:Ζ}{Q:Ρ}(X:K.In s.heap)(U:s.heap.get? x==ox)(T:ox.cls=⇑C)(L:ox.data=.fields vs)(Z:ox.dict=none)(F:kR K C)
  (c:findIn K ⇑C "__setattr__"==.x) (G:clsIn K C==cd) (hh:cd.hasDict=true) (a:mi cd.mro=true) (hn:findIn K ⇑C name==none)
  (h:∀h' p,h'.get? x=={ox with dict:=some ↑s}->h'.Ns1 ↑s (λy=>if y=name then some v else none)->(∀b o,b≠x->s.heap.get? b==o->h'.get? b==o)->Q () {s with heap:=h',toks:=p}):
  BX .s A (setAttr ⇑x name v) Q E s:=by
 let I:InstAt s.heap x ox C none:=(U,T,by unfold notCls;rw[L],by rw[Z];trivial);show set_plain X I c (adC (s:={s with toks:=s.toks+1}) X I F G a hn ?_);let L2:=looks_clsIn (M:=BY prog w) X G;let(oc,k,m,J):=ox;dsimp only at T L Z;subst T L Z;unfold storeInOwnDict;show BR (CO ?_);dsimp only;show VI rfl ?_;show BR ?_;unfold ownDictForStores instanceDict;dsimp only;show BR (agA U ?_);dsimp only;show BR (L2.here (s:={s with toks:=s.toks+1}) ?_);rw[hh];show VI rfl ?_;show VI rfl ?_;show BR (wpAny_alloc ?_);let D:(s.heap.push {cls:=Value.type "dict",data:=Data.dict #[]}).get? x==(⇑C,none,.fields vs,J):=GQ _ U;show BR (wpAny_update D ?_);show CO ?_;let H:↑s≠x:=λz=>by have:=GK U;rw[<-z] at this;show Sa _ this
 let e1:(s.heap.push {cls:=Value.type "dict",data:=Data.dict #[]}).get? ↑s=={cls:=Value.type "dict",data:=Data.dict #[]}:=Py s.heap rfl;generalize N:(s.heap.push {cls:=Value.type "dict",data:=Data.dict #[]}).update x (λo=>{cls:=o.cls,dict:=some ↑s,data:=o.data,slots:=o.slots})=Y;let e2:Y.get? ↑s=={cls:=Value.type "dict",data:=Data.dict #[]}:=by rw[<-N];show(Vx\(CV H)).trans e1
 let q:Y.get? x==(⇑C,some ↑s,.fields vs,J):=![<-N] (EV _ D rfl)
 let g:∀b o,b≠x->s.heap.get? b==o->Y.get? b==o:=λb o n e=>by rw[<-N];show(Vx\(CV n)).trans (GQ _ e)
 let i:Y.Ns ↑s (λ_=>none):=(_, #[],_,e2,O,(λe he=>CC he gN),λ_=>O);let j:=Heap.Ns1.of_empty i;dsimp only;unfold storeInDict;show BR (CO (BR ?_));show wpAny_nsSet1 (s:={s with heap:=Y,toks:=s.toks+1}) j λh' B u=>?_;let(oD,esD,epD,S,R,P):=B.count (PySem.Within.cons name v (ns:=[]) (λy f=>CC rfl f));show BR (wpAny_lookBehind S (![R] (pastItsLine_dict (CP P (Nat.le_add_left 1 _)))) ?_);show CO (h h' _ ((u.2 _ (CV H)).trans q) B λb o n e=>?_);show(u.2 b (λz=>by have:=GK e;rw[z] at this;show Sa _ this)).trans (g b o n e)
def G_ {vs:Ζ}{mA:ι}{ns:τ}{Q:Ρ}(X:K.In s.heap)(L:s.heap.get? x==ox)(U:ox.cls=⇑C)(N:ox.data=.fields vs)(Z:ox.dict==Y)(a:Y≠x)(H:s.heap.Ns1 Y mA)(T:Uc mA ns)(hsz:ns.length<=CM)(F:kR K C)
  (u:findIn K ⇑C "__setattr__"==.x) (J:clsIn K C==cd) (m:cd.hasDict=true) (q:mi cd.mro=true) (p:findIn K ⇑C name==none)
  (h:∀h' D,h'.Ns1 Y (λy=>if y=name then some v else mA y)->WV Y s.heap h' ->Q () {s with heap:=h',toks:=D}):
  BX .s A (setAttr ⇑x name v) Q E s:=by
 obtain ⟨od,i⟩:∃od,s.heap.get? Y==od:=by let(o,_,_,e,_):=H;show#[o,e]
 let I:InstAt s.heap x ox C (some od):=(L,U,by unfold notCls;rw[N],by rwa[Z]);show set_plain X I u (adC (s:={s with toks:=s.toks+1}) X I F J q p ?_);let L2:=looks_clsIn (M:=BY prog w) X J;let(c,z,B,f):=ox;dsimp only at U N Z;subst U N Z;unfold storeInOwnDict;show BR (CO ?_);dsimp only;show VI rfl ?_;show BR ?_;unfold ownDictForStores instanceDict;dsimp only;show BR (agA L ?_);dsimp only;show BR (L2.here (s:={s with toks:=s.toks+1}) ?_);rw[m];show VI rfl ?_;show CO ?_;dsimp only;unfold storeInDict;show BR (CO (BR ?_));show wpAny_nsSet1 (s:={s with toks:=s.toks+1}) H λh' G g=>?_;let(b,k,j,S,R,P):=G.count (PySem.Within.cons name v T);show BR (wpAny_lookBehind S (![R] (pastItsLine_dict (CP P (by rw[VN];omega)))) ?_);show CO (h h' _ G g)
end
end ou
set_option maxHeartbeats 400000
namespace ou
open PySem PySem.W PySem.Calls PyProof.Rows Builtin
section
variable {prog:HV}{w:World}{A:LA}{K:Frag}{h:Heap}{g:Array GenState}{d:Drawn}{t:Nat}{os:OsState}{e C:BQ}{oe:Obj}{vs:Ζ}{args:ς}{E:γ}
def check_init {Q:Ρ}(X:K.In h)(S:h.get? e==oe)(T:oe.cls=⇑C)(P:mroIn K C .O==true)(N:(clsIn K C).isSome=true)
  (R:Q () (h,g,d,t,os)):BX .s A (agq "ValueError.__init__" #[.ref e::args,[]]) Q E (h,g,d,t,os):=by
 let Z:=PySem.F.excBase_ValueError;let U:=jd (M:=BY prog w) S T;let G:=looks_mroIn (M:=BY prog w) X P;let(D,L):=aja.mp N;let L2:=looks_clsIn (M:=BY prog w) X L;let H:=Z.initKind;let J:=Z.initSplit;let I:=Z.initRow;let Y:=Z.noStar;dsimp only[agq,H,J,I];show BR ?_;unfold TB;show BR (U.here (G.here ?_));show VI rfl ?_;unfold Bind.checkArgs;dsimp only;show BR ?_;unfold Bind.printed;show VI d_k ?_;unfold Bind.receiverType;show BR (VI rfl (U.here ?_));unfold typeNameWhole;show BR (BR (L2.here (CO (CO ?_))));show BR (agB Y (CO ?_));show wpAny_onRaise ?_;rw[FN,check_star_args];show CO R
def init_exc {R:Θ}(X:K.In h)(M:h.get? e==oe)(S:oe.cls=⇑C)(J:oe.data=.fields vs)(P:0<vs.size)(B:mroIn K C .O==true)(y:(clsIn K C).isSome=true)(z:args.length<=CM)
  (D:∀h' U,h'.get? e=={oe with data:=.fields U }->U.size=vs.size->U[1]?=vs[1]? ->U[2]?=vs[2]? ->(∃H,U[0]?==⇑H)->(∀b o,b≠e->h.get? b==o->h'.get? b==o)->R (.ok (.ret .none)) (h',g,d,t,os)):
  Ri .s A (.call (.builtin "ValueError.__init__") #[.ref e::args,[]]) R (h,g,d,t,os):=by
 let I:=PySem.F.excBase_ValueError;show TX I.init.plain I.initEntry (check_init X M S B y ?_);let(m,q,dt,G):=oe;dsimp only at S J;subst S J;obtain ⟨Q,N⟩:∃Q,vs[0]?==Q:=#[_,am6 P];unfold Builtin.«BaseException.__init__»;dsimp only;show VI rfl ?_;show BR (wpAny_newTuple ?_ z);let Z:(h.push {cls:=Value.type "tuple",data:=Data.seq args.toArray}).get? e==(⇑C,q,.fields vs,G):=GQ _ M;unfold Builtin.BaseException.bexcPut;show BR (BR (VP Z rfl N (BR (wpAny_setField Z rfl P ?_))));let p:=EV (P_ λx=>x.setIfInBounds 0 (Value.ref h.objs.size)) Z rfl;let Y:=D ((h.push {cls:=Value.type "tuple",data:=Data.seq args.toArray}).update e (P_ λx=>x.setIfInBounds 0 (Value.ref h.objs.size))) (vs.setIfInBounds 0 (Value.ref h.objs.size)) p gN gN gN #[h.objs.size,by simp[P]] (λb o n u=>(Vx\(CV n)).trans (GQ _ u));let done:BX .s A.in1 (ret Value.none) (λY T=>match Y with | .done f=>R (.ok f) T | .again L=>L.quiet=true/\Ri .s A L R T) (λe T=>R (.error e) T) ((h.push {cls:=Value.type "tuple",data:=Data.seq args.toArray}).update e (P_ λx=>x.setIfInBounds 0 (Value.ref h.objs.size)),g,d,t,os):=CO Y;cases Q with
 | ref a=>show wpAny_letGo done
 | _=>show CO done
end
section
variable {prog:HV}{w:World}{A:LA}{K:Frag}{h:Heap}{g:Array GenState}{d:Drawn}{t:Nat}{os:OsState}{nm q:Str}{C N f:BQ}{bs bm bmB:ς}{hdct:Bool}{sn:τ}{sub:ς}{ab:Bool}{col:Option Bool}{dd:χ}{k0 k1 k2 k3 k5:Option Value}{B newId ZS:String}{rest:ς}{E:γ}
def ip (h:Heap)(C:BQ)(rest:ς):Heap:=(h.push {cls:=Value.type "tuple",data:=Data.seq rest.toArray}).push {cls:=Value.ref C,data:=Data.fields (List.toArray [Value.ref h.objs.size,Value.none,Value.none,Value.none,Value.bool false,Value.none])}
def yf:(ip h C rest).get? (h.objs.size+1)=={cls:=Value.ref C,data:=Data.fields (List.toArray [Value.ref h.objs.size,Value.none,Value.none,Value.none,Value.bool false,Value.none])}:=
 Heap.get?_push_at (![vd]) rfl
def kg (e:h.get? b==o):(ip h C rest).get? b==o:=GQ _ (GQ _ e)
def its (F:ExcBaseFacts B newId ZS bmB)(T:OwnTail h bmB bm)(Z:h.get? C==(Zm nm q C N bs bm hdct sn sub ab col dd k0 k1 k2 k3 k5 newId))(X:K.In h)
  (I:findIn K ⇑C "__init__"==(some ⇑f)) (H:typeIn K ⇑f==.type "function") (J:rest.length<=CM)
  (L:BX .s A (call ⇑f (.ref (h.objs.size+1)::rest)) (λv s'=>v=.none/\Q (.done (.ret ⇑(h.objs.size+1))) s') E (ip h C rest,g,d,t,os)):
  BX .s A (Builtin.«type.__call__» #[.ref C::rest,[]]) Q E (h,g,d,t,os):=by
 let U:(ip h C rest).get? C==(Zm nm q C N bs bm hdct sn sub ab col dd k0 k1 k2 k3 k5 newId):=kg Z;let S:=yf (h:=h) (C:=C) (rest:=rest);let R:K.In (ip h C rest):=X.keeps λb o e=>kg e;let G:=looks_findIn (M:=BY prog w) R I;let L2:=bind_fn (M:=BY prog w) R ⇑(h.objs.size+1) H;let P:=jd (M:=BY prog w) S rfl;let Y:(Value.ref C::bm).contains (Value.ref C)=true:=by simp
 unfold Builtin.«type.__call__»;show VI rfl ?_;show BR (wpAny_mroOf_exc Z ?_);show VI rfl ?_;show BR (wpAny_madeBy_exc Z (BR (CO ?_)));show BR (VT (uR (codeAny_call_builtin_code (Code.quiet_builtin _ F.quiet) (wpAny_check_new_subT F T Z (codeAny_exc_new_subT F T Z ?_ J)))));change BX .s A _ Q E (ip h C rest,g,d,t,os);show BR ?_;unfold TB;show BR (P.here (wpAny_isSubtype_exc U ?_));rw[Y];show VI rfl ?_;show BR (VT ?_);unfold callSpecial?;show BR ?_;unfold specialOf;show BR (P.here (G.here ?_));show VT (BR (L2.here (BR (Oy L (λv s' z=>?_) λ_ _ z=>z))));let(rfl,z):=z;show CO ?_;show VI rfl ?_;show CO z
def ZT {Q:γ}(F:ExcBaseFacts B newId ZS bmB)(T:OwnTail h bmB bm)(Z:h.get? C==(Zm nm q C N bs bm hdct sn sub ab col dd k0 k1 k2 k3 k5 newId))(X:K.In h)
  (S:findIn K ⇑C "__init__"==(some ⇑f)) (R:typeIn K ⇑f==.type "function") (U:rest.length<=CM)
  (Y:BX .s (A.under (.builtin "type.__call__" #[.ref C::rest,[]])) (call ⇑f (.ref (h.objs.size+1)::rest)) (λv s'=>v=.none/\Q ⇑(h.objs.size+1) s') E (ip h C rest,g,d,t,os)):
  BX .s A (call ⇑C rest) Q E (h,g,d,t,os):=by
 let L:=tc_lookup;let M:=tc_bind (Value.ref C);let P:((h,g,d,t,os):CH).TypeIs ⇑C "type":=(Zm nm q C N bs bm hdct sn sub ab col dd k0 k1 k2 k3 k5 newId,Z,O);show uR (codeAny_of_tree ?_);show BR (wpAny_load' Z ?_);show BR (wpAny_specialOf P L (BR (wpAny_of_eq M (BR ?_))));show CO (agB rfl (CO #[O,2]));show codeAny_call_builtin_at (Code.quiet_builtin _ d_k) entry_typeCall (wpAny_check_type_call_sub Z (its F T Z X S R U ?_));show Oy Y (λv s' z=>z) λ_ _ z=>z
end
section
variable {M:Model}{A:LA}{E:γ}{env:Env}{nm q:Str}{C N:BQ}{bs bm:ς}{hdct:Bool}{sn:τ}{sub:ς}{ab:Bool}{col:Option Bool}{dd:χ}{k0 k1 k2 k3 k5:Option Value}{newId:String}{s:CH}{x:Sem Value}{Q:Flow->CH->Prop}
def Vv (L:bm.contains (.type "BaseException")=true)(I:A.handled=none)
  (h:BX M A x (λv Z=>∃e Y vs,v=⇑e/\Z.heap.get? C==(Zm nm q C N bs bm hdct sn sub ab col dd k0 k1 k2 k3 k5 newId)/\Z.heap.get? e==Y/\Y.cls=⇑C/\Y.data=.fields vs/\vs[1]?==.none/\E ⇑e Z) E s):
  BX M A (raiseStmt env (some x) none) Q E s:=by
 let U:(Value.ref C::bm).contains (.type "BaseException")=true:=by
  rw[List.contains_cons,L,Bool.or_true]
 unfold raiseStmt;show BR (Oy h (λv Z z=>?_) λ_ _ z=>z);let(e,Y,vs,rfl,S,X,T,R,G,H):=z;let(J,g,d,B,os):=Z;let(p,u,dt,y):=Y;dsimp only at T R;subst T R;let P:=jd (M:=M) X rfl;let w:(Zm nm q C N bs bm hdct sn sub ab col dd k0 k1 k2 k3 k5 newId).cls=.type "type":=rfl;show BR (CO ?_);show BR (VT ?_);unfold excFromValue isExcClass isType loadHead;show BR (BR (BR (Um X (CO (VI rfl (CO (VI rfl ?_)))))));show BR ?_;unfold TB;show BR (P.here (wpAny_isSubtype_exc S ?_));rw[U];show agB rfl (CO ?_);dsimp only;show BR ?_;show BR (Um X (CO (VI rfl ?_)));show BR ?_;unfold raisedInstance;let D:Looks M J (typeOf ⇑C) (.type "type"):=(Looks.ld S).andThen .now;show BR (P.here (BR (D.here (agB rfl (CO ?_)))));show BR ?_;unfold setFlight;show BR (VP X rfl G (VI rfl (CO ?_)));show wpAny_raiseNew_none I H
end
end ou
namespace ou
open PySem PySem.W
structure uk (K:Frag)(C:BQ)(f:Str):Prop where
 k:kR K C
 sa:findIn K ⇑C "__setattr__"==.x
 hd:hasDictIn K C=true
 ov:(clsIn K C).any (λcd=>mi cd.mro)=true
 nf:findIn K ⇑C f==none
theorem uk.cd (F:uk K C f):∃Z,clsIn K C==Z/\Z.hasDict=true/\mi Z.mro=true:=by
 let(Z,Y,U):=any_some F.ov;let(S,X,T):=any_some F.hd;erw[Y] at X;show(Z,Y,T,U)
end ou
namespace Ty
open PySem PySem.Spec PyProof.Rows L2
def kT (C a:BQ)(X:χ):HO:=.ext λh=>∃o Z Y,h.get? a==o/\o.cls=⇑C/\o.data=.fields Z/\o.dict=X/\Z[0]?==⇑Y/\Z[1]?==.none/\Z[2]?==.none
def X7 (d:BQ)(Y:List (Str×V)):HO:=.ext λh=>∃Z,h.Ns1 d Z/\∀f,i7 (Y.lookup f) (Z f)
section
variable {P:HV}{w:World}{H:Hp}{h:Heap}{C a:BQ}{dx:χ}
def HH {vs:Ζ}(e:h.get? a==o)(S:o.cls=⇑C)(T:o.data=.fields vs)(U:o.dict=dx)(N:vs[0]?==⇑tp)(Q:vs[1]?==.none)(R:vs[2]?==.none):ck P w H h a (kT C a dx):=
 ((o,vs,tp,e,S,T,U,N,Q,R),#[o,e],λ_ _ ⟨Y,X,Z,q,r⟩ k=>(Y,X,Z,k _ q,r))
def zam {mA:ι}(n:h.Ns1 a mA)(r:∀f,i7 (fs.lookup f) (mA f)):ck P w H h a (X7 a fs):=by
 let(o,_,_,e,_):=id n;show((mA,n,r),#[o,e],λN Q z k=>?_);let(Z,(U,T,S,R,Y),X):=z;show(Z,(U,T,S,k _ R,Y),X)
def adT (e:H a==o):upd H a o=H:=by
 funext b;by_cases c:b=a
 ·subst c
  rw[af,e]
 ·rw[ah c]
end
section
variable {X:Cx}
inductive ZV (K:Frag)(Q:VK)(vs:ε)(Z:Hp):Prop
|mk (a C Y rest:_)(_:vs=.ref a::rest)(_:Z a==(kT C a Y))(_:ou.kR K C)(_:Vp K C .O==true)(_:rest.length<=CM)(_:Q .cS Z)
def anb (K:Frag)(Y:TA):TE:=λZ H Q=>Y Z H (ZV K Q)
structure OU (K:Frag)(α:BQ):Prop where
 ga:PySem.W.specialIn K ⇑α "__getattribute__"==(some (.builtin "type.__getattribute__"))
 rd:PySem.W.readsIn K α (.type "type")=true
 fi:PySem.W.findCls K ⇑α (.type "type") "__init__"==.val (.builtin "ValueError.__init__")
def HS {S U Y:Pos}{T:ω}{pl:Sem Bool}(N:OU X.K α)(hm:X.mg y==⇑α)(ha:PA X (e::T) t)(hg:Gl X y:=by rfl)(m:(y⊆("__debug__":Str))=false:=by decide)
  (Vf:CW (e::T) X.env=(false,CQ e X.env)::CW T X.env:=by rfl) (j:(QS Y (CW T X.env)).any (·.1)=false:=by rfl)
  (ht:CQ (.Call (.Attribute (.Name y S) "__init__" U) (e::T) [] Y) X.env=(do
   let G <- CQ (.Name y S) X.env
   standAt U.atName
   let (f,first) <- Zx [G] (OG G "__init__" pl)
   callWith Y f first (QS Y (CW (e::T) X.env)) (EL Y (ES [] X.env))):=by rfl):
  PE X (.Call (.Attribute (.Name y S) "__init__" U) (e::T) [] Y) (anb X.K t):=by
 intro AP s Z H Q I h;show aei (pl:=pl) (iP I hg hm ?_ m) ht;show PySem.W.method_cls I.lQ N.ga (PySem.W.cls_value I.lQ N.rd N.fi rfl ?_);let I1:=I.tok (s.toks+1);show PyProof.Rows.callWith_method1 (first:=[]) (cH (ha Y AP _ Z H _ I1 h) λus J ⟨vs,p,L,r,q⟩=>?_) Vf j;let(a,C,B,rest,rfl,M,F,hv,hl,q):=q;cases r with
 | @cons _ u _ jh r1 rr=>
  cases (show u=Value.ref a from r1);let((o,k,tp,e1,D,e3,e4,e5,e6,e7),_):=(show ck X.prog X.w p J.heap a (kT C a B) from L.bU a _ M)
  let h0:0<k.size:=by
   have:=(Array.getElem?_eq_some_iff.mp e5).1;omega
  let(hp,g,d,c,os):=J;show uR (ou.init_exc L.lQ e1 D e3 h0 hv F.is (by rwa[<-rr.length]) λh' jb E k2 k3 P R k5=>?_);let(i,R):=R;let A:=L.write (x:=a) (e:=a) (o:=kT C a B) (h':=h') (t':=c) (![M] True.intro) .V (λb q hb z=>k5 b q hb z) #[_,E] (HH E D rfl e4 R (k3>>>e6) (P>>>e7));rw[adT M] at A;show(.cS,p,A,O,q)
def aeO (K:Frag)(f:Str)(D:Ends)(Z:L2.St)(y:V)(x:V)(U:Hp):Prop:=∃a C,x=⇑a/\ou.uk K C f/\((U a==(kT C a none)/\∀d,U d=none->d≠a->D.nx Z (upd (upd U d (X7 d [(f,y)])) a (kT C a (some d))))\/(∃Y T,U a==(kT C a (some Y))/\Y≠a/\U Y==(X7 Y T)/\T.length<1000/\D.nx Z (upd U Y (X7 Y (fF f y T)))))
def aeP (K:Frag)(Y:TE)(f:Str)(D:Ends)(Z:L2.St)(y:V)(U:Hp):Prop:=Y Z U (aeO K f D Z y)
def anc (K:Frag)(U Y:TE)(f:Str):TS:=λD Z H=>Y Z H (aeP K U f D Z)
def HU (ha:PE X o ta)(hv:PE X value tv)(hs:Zg value (some (.Attribute o f pos')) pos.line X.env=pure false):PS X (.Assign [.Attribute o f pos'] value pos) (anc X.K ta tv f):=by
 intro AP s Z H D I h;show plainObj_wpAny_Assign_Attribute (cH (hv AP s Z H _ I h) λu s1 ⟨y,H1,I1,ry,q⟩=>cH (ha AP s1 Z H1 _ I1 q) λov Y ⟨x,N,S,rx,a,C,ex,F,q2⟩=>?_) hs;subst ex;obtain rfl:ov=Value.ref a:=rx;let(cd,hc,hh,ho):=F.cd
 rcases q2 with ⟨ea,A⟩|⟨T,P,ea,nd,ed,hl,A⟩
 ·let((oe,ws,tp,G,L,M,e4,e5,e6,e7),_):=(show ck X.prog X.w N Y.heap a (kT C a none) from S.bU a _ ea)
  show ou.GZ S.lQ G L M e4 F.k F.sa hc hh ho F.nf λh' B Q m k3=>?_;let nl:↑Y≠a:=λz=>by have:=GK G;rw[<-z] at this;show Sa _ this
  let(R,j,i,eD,dD,rD):=id m;let nf:R.isFreed=false:=aeb eD
  let J1:Inv X AP Z (upd N ↑Y (X7 ↑Y [(f,y)])) {Y with heap:=Y.heap.push R,toks:=Y.toks}:=by
   show S.laid (t':=Y.toks) (λb u q=>GQ _ q) (CK _) (zam (mA:=λz=>if z=f then some u else none) (R,j,i,Py Y.heap nf,dD,rD) λz=>?_);change i7 (VL z [(f,y)]) (if z=f then some u else none);by_cases c:z=f
   ·let U:(z⊆f)=true:=beq_iff_eq.mpr c
    rw[iB c];simp only[VL,U];show ry
   ·let U:(z⊆f)=false:=beq_eq_false_iff_ne.mpr c
    rw[iA c];simp only[VL,U];trivial
  let g:(upd N ↑Y (X7 ↑Y [(f,y)])) a==(kT C a none):=by rwa[ah (CV nl)]
  let J2:=J1.write (x:=a) (e:=a) (o:=kT C a (some ↑Y)) (h':=h') (t':=B) (![g] True.intro) .V (λb q U z=>?_) #[_,Q] (HH Q L M rfl e5 e6 e7)
  ·show(Z,_,J2,A _ (S.bU.fresh (CK _)) nl)
  ·by_cases c:b=↑Y
   ·subst c
    let E:(Y.heap.push R).get? ↑Y==q:=z;erw[Py Y.heap nf] at E;show eD
   ·let E:Y.heap.get? b==q:=(Heap.get?_push_ne Y.heap b R c).symm.trans z
    show k3 b q U E
 ·let((oe,ws,tp,G,L,M,e4,e5,e6,e7),_):=(show ck X.prog X.w N Y.heap a (kT C a (some T)) from S.bU a _ ea)
  let((mA,n1,r1),_):=(show ck X.prog X.w N Y.heap T (X7 T P) from S.bU T _ ed)
  let wi:Uc mA (P.map (·.1)):=λz hz=>by
   cases el:P.lookup z with
   | none=>
    have:=r1 z;rw[el] at this;show CC (i7.none_of this) hz
   | some v=>
    have:∀{l:List (Str×V)},l.lookup z==v->z∈l.map (·.1):=λ{l}=>by
     induction l with
     | nil=>intro h;cases h
     | cons p l ih=>
      intro h;let(k,w):=p;by_cases c:z=k
      ·subst c
       show Pz
      ·let U:(z⊆k)=false:=beq_eq_false_iff_ne.mpr c
       simp only[VL,U] at h;show OX _ (ih h)
    show this el
  show ou.G_ S.lQ G L M e4 nd n1 wi (by rw[CA,Uh];omega) F.k F.sa hc hh ho F.nf λh' B Q m=>?_;let hd:∃o,h'.get? T==o:=by let(o,_,_,e',_):=Q;show#[o,e']
  let J:=S.write (x:=T) (e:=T) (o:=X7 T (fF f y P)) (h':=h') (t':=B) (![ed] True.intro) .V (λb q U z=>(m.2 b U).trans z) hd (zam Q λz=>?_)
  ·show(Z,_,J,A)
  ·change i7 ((fF f y P).lookup z) (if z=f then some u else mA z)
   rw[nu];by_cases c:z=f
   ·rwa[iB c,iB c]
   ·rw[iA c,iA c];show r1 z
inductive ZW (K:Frag)(f:Str)(Q:VK)(x:V)(Y:Hp):Prop
|mk (a C Z U v:_)(_:x=.ref a)(_:Y a==(iC (.ref C) a (some Z)))(_:Y Z==(X7 Z U))(_:ou.uk K C f)(_:U.lookup f==v)(_:Q v Y)
def ahh (K:Frag)(Y:TE)(f:Str):TE:=λZ H Q=>Y Z H (ZW K f Q)
def aeQ (z:PE X e ta)(y:WX e f X.env (CQ e X.env)=CQ e X.env):PE X (.Attribute e f pos) (ahh X.K ta f):=by
 intro AP s Z H Q I h;show GB y (cH (z AP s Z H _ I h) λu T ⟨x,R,U,N,a,C,Y,p,v,m,i,j,F,l,q⟩=>?_);subst m;obtain rfl:u=Value.ref a:=N;let((L,ws,e1,b,c,g,_),_):=(show ck X.prog X.w R T.heap a (iC ⇑C a (some Y)) from U.bU a _ i);let((D,E,M),_):=(show ck X.prog X.w R T.heap Y (X7 Y p) from U.bU Y _ j);let(G,A,S):=aj' E;let(u,B,P):=i7.some_of (v:=v) (o:=D f) (![<-l] (M f));let J:PySem.W.InstAt T.heap a L C (some G):=(e1,b,by unfold PySem.W.notCls;rw[c],by rwa[g]);show ou.OT U.lQ F.k J (PySem.W.findObj_own F.hd F.nf rfl ![S,B]) (aif P) (v,R,U.tok _,P,q)
end
set_option maxHeartbeats 1000000
abbrev bmV:List Value:=[Value.type "ValueError",Value.type "Exception",Value.type "BaseException",Value.type "object"]
structure Q3 (K:Frag)(C fi:BQ):Prop where
 obj:∃nm q N bs bm hdct sn sub ab col dd k0 k1 k2 k3 k5,K.lookup C==(Zm nm q C N bs bm hdct sn sub ab col dd k0 k1 k2 k3 k5 "ValueError.__new__")/\agC K bmV bm=true
 init:ON K ⇑C "__init__"==(some ⇑fi)
 fn:OQ K ⇑fi=true
 kp:keepIn K ⇑C=true
def rA (H:Hp)(e:BQ):Hp:=λb=>if b=e then none else H b
def gF (n:b≠e):rA H e b=H b:=by unfold rA;rw[iA n]
def qA :rA H e e=none:=by unfold rA;rw[iB rfl]
def aeR (Y:H e==.ext φ):Un fs ex H (rA H e) h h:=by
 let Z:∀{b:BQ} {o:HO},H b==o->(∀ψ,o≠.ext ψ)->b≠e:=λz n q=>by erw[q,Y] at z;show n _ rfl
 show(λb o q _ _ _=>q,λb o q _ _ _=>#[o.slots,q],λb o q n _=>?_,λb o q _=>#[o,q],λb xs q=>?_,λb o u q=>?_,λb X q=>?_)
 ·by_cases c:b=e
  ·rw[c,qA]
  ·rwa[gF c]
 ·rwa[gF (Z q λψ z=>nomatch z)]
 ·rwa[gF (Z q λψ z=>nomatch z)]
 ·show#[#[],by rw[gF (Z q λψ z=>nomatch z),q];simp]
def af2 (X:H e==.ext φ)(Y:lR P w H h):lR P w (rA H e) h:=λb u q=>by
 let Z:∀{c:BQ} {o:HO},H c==o->(∀ψ,o≠.ext ψ)->c≠e:=λz n q=>by erw[q,X] at z;show n _ rfl
 by_cases c:b=e
 ·rw[c,qA] at q
  cases q
 ·rw[gF c] at q
  show(Y b u q).pH (λ_ _ _ z=>z) (λc z=>by rwa[gF (Z z λψ z=>nomatch z)]) λc xs z=>by rwa[gF (Z z λψ z=>nomatch z)]
def ac2 (C:BQ)(U:Sp)(E:XK)(vs:ε)(X:Hp):Prop:=vs.length<=CM/\∀e,X e=none->U (.ref e::vs) (upd X e (kT C e none)) (λv Y=>v=.cS/\∃Z,Y e==(kT C e Z)/\E ⇑C Z (rA Y e)) E0
def aeS (C:BQ)(X:Sp)(E:XK)(Y:TA):TS:=λ_ Z H=>Y Z H (ac2 C X E)
section
variable {P:HV}{w:World}{K:Frag}{mg:ι}{gV:Heap}{N:τ}{qual:Str}{scope:Scope}{f:BQ}{bx:Value}{A:LA}{outer:List Env}{s0:CH}{H0:Hp}{E:XK}
def um {rest:ω}{np dS pos:Pos}(hX:Q3 K C fi)(F:!cz (aR P w) k fi fd ps sp)
  (hr:cp (k+1) (A.deeper (RH qual scope ↑s0 f bx))) (R:Binds K fd ps []) (hm:mg x==⇑C) (ha:PA (!nK N qual scope f bx A outer s0 H0 E).t_ (e₀::rest) ta)
  (hg:Gl .r x:=by rfl) (hd:.z=false:=by decide)
  (c:CW (e₀::rest) (!nK N qual scope f bx A outer s0 H0 E).env=(false,CQ e₀ (!nK N qual scope f bx A outer s0 H0 E).env)::CW rest (!nK N qual scope f bx A outer s0 H0 E).env:=by rfl)
  (hp:(QS dS (CW rest (!nK N qual scope f bx A outer s0 H0 E).env)).any (·.1)=false:=by rfl):
  PS .r (.Raise (some (.Call (.Name x np) (e₀::rest) [] dS)) none pos) (aeS C sp E ta):=by
 intro AP s Z H D I h;let(nm,q,Na,bs,bm,hdct,sn,sub,ab,col,dd,k0,k1,k2,k3,k5,g,i):=hX.obj;let hin:∀U∈(!nK N qual scope f bx A outer s0 H0 E).stack,∀b,U.frame==b->b∈pT (!nK N qual scope f bx A outer s0 H0 E).stack:=λU c b R=>v8.mpr (U,c,R);let FB:=PySem.F.excBase_ValueError;let kQ:bm.contains (Value.type "BaseException")=true:=(PySem.W.tail_of_in I.lQ i).hasType FB.hasBase;rw[arm_exec_Raise];show BR (TM (ou.Vv (C:=C) (nm:=nm) (q:=q) (N:=Na) (bs:=bs) (bm:=bm) (hdct:=hdct) (sn:=sn) (sub:=sub) (ab:=ab) (col:=col) (dd:=dd) (k0:=k0) (k1:=k1) (k2:=k2) (k3:=k3) (k5:=k5) (newId:="ValueError.__new__") kQ hr.hd ?_));show BR ?_;show se (iP I hg hm ?_ hd);show PX (h₀:=gV) I.ok.mod.Y_ hX.kp (Oy (ha dS AP s Z H _ (I.tZ _) h) (λX s1 ⟨vs,H1,I1,r,hl,q1⟩=>#[I1.lQ,2]) λ_ _ z=>z.elim) c hp;let J:Inv .r AP Z H1 s1:=I1.js;let(Y,g1,d1,t1,o1):=s1;let T:OwnTail Y bmV bm:=PySem.W.tail_of_in J.lQ i;let hC:Y.get? C==(Zm nm q C Na bs bm hdct sn sub ab col dd k0 k1 k2 k3 k5 "ValueError.__new__"):=J.lQ\g;let hlu:X.length<=CM:=by rwa[<-r.length]
 let hq:=q1 .J (J.bU.fresh (zg _));show ou.ZT FB T hC J.lQ hX.init (beq_iff_eq.mp hX.fn) hlu ?_;let kp:∀b o,Y.get? b==o->(ou.ip Y C X).get? b==o:=λb o e=>ou.kg e
 let I3:Inv .r AP Z (upd H1 .J (kT C .J none)) (ou.ip Y C X,g1,d1,t1,o1):=
  J.laid (t':=t1) kp (zg _) (HH ou.yf rfl rfl rfl rfl rfl rfl)
 let r2:Vals (V.ref .J::vs) (Value.ref .J::X):=.cons rfl r
 let EN:(Value.ref .J::X++[]).length=ps.length:=by
  rw[Zu,<-r2.length];show F.len _ _ _ _ hq
 let bt:=R (ou.ip Y C X,g1,d1,t1,o1) (Value.ref .J::X) I3.lQ EN;rw[Zu] at bt;show uR (EY (F.run _ (!nK N qual scope f bx A outer s0 H0 E).stack _ _ #[Value.ref .J::X,[]] (Value.ref .J::X) _ _ E0 (hr.make C X []) (I3.Zt.make C X []) bt r2 hq) λrr s' p =>?_);cases rr with
 | error e=>show(aR.BP _ _ _ _ _ p).elim
 | ok fl=>
  cases fl with
  | ret u=>
   let(v,H',m,a,S,Q4,ru,ev,dx,ee,hE):=p;subst ev;show#[ru,BR (TM (CO ?_))];let((oe,ws,tp,e1,e2,e3,e4,e5,e6,e7),_):=(show ck P w H' s'.heap .J (kT C .J dx) from Q4\ee);let I4:Inv .r AP Z H' s':=I3.Tw (ch:=[]) m S Q4 a λb z=>CC z gN;show(Y.objs.size+1,oe,ws,O,I4.lQ\g,e1,e2,e3,e6,2);change BX (BY P w) (A.deeper (RH qual scope ↑s0 f bx)) (leaving (RH qual scope ↑s0 f bx) (.ref .J)) _ _ s'
   let Vu:Y.objs.size+1∉pT (!nK N qual scope f bx A outer s0 H0 E).stack:=λz=>by
    have:=I4.xk _ z;erw[ee] at this
   let M:=PySem.W.funFrames_hide (as:=.J::pT (!nK N qual scope f bx A outer s0 H0 E).stack) I4.stack (λU c b R=>OX _ (hin U c b R));generalize hB:PySem.W.hideAll s'.heap (.J::pT (!nK N qual scope f bx A outer s0 H0 E).stack)=B at M;let st:B.StaysIn s'.heap:=λb o q=>by rw[<-hB] at q;show PySem.W.of_hideAll _ q
   let bn:B.get? .J=none:=![<-hB] (PySem.W.hideAll_none _ Pz)
   let da:DictAt s'.heap .J dx:=(oe,e1,e4,(aeg e3).trans e7);show Oy (Kp.any amm (wpAny_leaving_firstW (outer:=outer) (s:=s') (base:=B) (Q:=λ_ s3=>∃G,s3={s' with heap:=G}/\B.LeftW (RH qual scope ↑s0 f bx::outer) .J oe.cls ⇑tp s'.heap G) (E:=λ_ _=>False) I.ok.frames M rfl e1 st bn e3 e6 e5 λG lw=>(G,O,lw))) (λ_ s3 z=>?_) λ_ _ z=>z.elim;let((G,rfl,lw1,lw2,j,lw4),kd):=z;let y:Un (pT (!nK N qual scope f bx A outer s0 H0 E).stack) [] H1 (upd H1 .J (kT C .J none)) Y (ou.ip Y C X):=Un.laid kp (zg _) (J.bU.fresh (zg _));let unA:=(y>>>S).trans (aeR (e:=Y.objs.size+1) ee);rw[e2] at j;let fl:B.FlyingW outer .J ⇑C ⇑tp G:=(lw1,bn,lw2.2.2,j);show zar (s':=s') (H:=H1) (s:=(Y,g1,d1,t1,o1)) J fl (da.kd kd) M st unA (af2 ee Q4) m a (λb o L R=>?_) (λb u L=>?_) lw4 hE
   ·let(o',e'):=(y>>>S).there b o L gN
    show#[o',2];rw[<-hB];show PySem.W.hideAll_get _ e' λz=>?_
    rcases QQ.mp z with z|z
    ·have:=GK L
     rw[z] at this;show CC (Nat.lt_of_succ_lt this) (Sa _)
    ·show R z
   ·let nb:b≠Y.objs.size+1:=λz=>by erw[z,qA] at L
    rw[gF nb] at L;let(o,ho):=obj_some (Q4 b u L);show#[o,2];rw[<-hB];show PySem.W.hideAll_get _ ho λz=>?_
    rcases QQ.mp z with z|z
    ·show nb z
    ·have:=I4.xk b z
     erw[L] at this
  | next=>show False.elim p
  | brk=>show False.elim p
  | cont=>show False.elim p
end
section
variable {prog:HV}{w:World}{A:LA}{R:Θ}{s:CH}
def acd {Y:ω}(I:Nat->CH->Prop)
  (turn:∀n s,I n s->BX .s A (VW it) (λr S=>match r with
   | none=>R (.ok .next) S
   | some v=>BX .s A (agu target it v) (λ_ X =>BX .s A (assign target env v) (λ_ P=>
     BX .s A (forIn Y true λc r=>if r=true then do let U <- isTrue c env (CQ c env);pure (ForInStep.yield U) else pure (ForInStep.yield r)) (λU T=>
      if U=true then BX .s A (CQ elt env) (λx M=>
       BX .s A (call (.builtin "list.append") [acc,x]) (λ_ N=>∃m,m<n/\I m N) (λ_ _=>False) M) (λ_ _=>False) T
      else ∃m,m<n/\I m T) (λ_ _=>False) P) (λ_ _=>False) X) (λ_ _=>False) S) (λ_ _=>False) s)
  (n:Nat) (h:I n s):
  Ri .s A (.compLoop (.ListComp elt [(target,iter,Y,(0))] scope pos) 0 it acc env) R s:=by
 show codeAny_loop rfl I (λn s D=>?_) n h;change BX _ A ((compTurn (.ListComp elt [(target,iter,Y,(0))] scope pos) 0 it acc env).onRaise (λx=>do noteFrame x env;theTreesLotGoes x)) _ _ s;show wpAny_noted ?_;rw[compTurn_list];show BR (TM (BR (Oy (turn n s D) (λr S L=>?_) λ_ _ Z=>Z.elim)));cases r with
 | none=>show CO L
 | some v=>
  show BR (Oy L (λ_ X Q =>?_) λ_ _ Z=>Z.elim);show BR (Oy Q (λ_ P H=>BR (Oy H (λU T J=>?_) λ_ _ Z=>Z.elim)) λ_ _ Z=>Z.elim);cases U with
  | false=>show CO #[O,J]
  | true=>
   show BR (BR (Oy J (λx M E=>BR (Oy E (λ_ N G=>CO (CO #[O,G])) λ_ _ Z=>Z.elim)) λ_ _ Z=>Z.elim))
end
def bB (Z:Env)(fr:τ):List (Str×BQ):=fr.filterMap λn=>(Z.cells.lookup n).map λc=>(n,c)
theorem lookup_mem {Y:Type}{c:Y}:∀{l:List (Str×Y)},l.lookup x==c->(x,c)∈l
 | [],h=>by simp at h
 | (y,d)::r,h=>by
  rw[ap6] at h;cases e:x⊆y with
  | true=>
   rw[e] at h;let Z:x=y:= ~~~e
   cases h;rw[Z];show Pz
  | false=>
   rw[e] at h;show OX _ (lookup_mem h)
def zas (h:(x,c)∈bB env fr):env.cells.lookup x==c:=by
 let(n,_,e):=v8.mp h;cases q:env.cells.lookup n with
 | none=>erw[q] at e
 | some d=>
  rw[q] at e;let Z:(n,d)=(x,c):=VE e;cases Z;show q
def jk (h:(bB env fr).lookup x==c):env.cells.lookup x==c:=zas (lookup_mem h)
theorem uo (q:env.cells.lookup x==c):∀{fr:τ},x∈fr->(bB env fr).lookup x==c
 | [],h=>nomatch h
 | y::r,h=>by
  unfold bB;rw[UT];by_cases e:x=y
  ·subst e
   rw[q];simp
  ·let X:x∈r:=by
    rcases QQ.mp h with z|z
    ·show CC z e
    ·show z
   let Y:=uo q X;cases z:env.cells.lookup y with
   | none=>show Y
   | some d=>
    change VL x ((y,d)::_)=_;rw[ap6];let Z:(x⊆y)=false:= ~~~e
    rwa[Z]
def kh (Z:Env):List Str->Prop
 | []=>True
 | y::r=>(Z.kindOf y==.cell\/Z.kindOf y==.free)/\kh Z r
theorem kh.at :∀{fr:τ},kh env fr->x∈fr->env.kindOf x==.cell\/env.kindOf x==.free
 | [],_,h=>nomatch h
 | y::r,a,h=>by
  rcases QQ.mp h with z|z
  ·rw[z]
   show a.1
  ·show kh.at a.2 z
section
variable {X:Cx}
def Oq (X:Cx)(T:τ)(Z:Scope)(fn:Str->Bool)(U:List (Str×BQ))(C:BQ)(s:CH)(H:Hp)(Y:Δ):Cx:=
 {prog:=X.prog,w:=X.w,K:=X.K,mg:=X.mg,gV:=X.gV,A:=X.A,N:=T,qe:=s,H₀:=H,env:=compEnvC Z U C X.env,outer:=X.stack,stack:=X.stack,ex:=Y,fn:=fn,calm:=X.calm,pn:=[],xe:=λ_ _=>False}
abbrev xw (X:Cx)(T:τ)(Z:Scope)(U:List (Str×BQ))(C:BQ)(s:CH)(H:Hp)(Y:Δ):Cx:=Oq X T Z (λ_=>false) U C s H Y
structure aeT (X:Cx)(scope:Scope)(ow:BQ->List (Str×BQ))(fn:Str->Bool)(fr:τ)(mQ:List Nat):Prop where
 yg:T5 scope X.env=pure (bB X.env fr)
 kind:scope.kind=.function
 names:∀y∈scope.names,y.2=.local->scope.names.lookup y.1==.local
 free:∀y∈scope.names,y.2=.free->y.1∈fr
 mQ:mQ.map (λi=>X.N[i]?)=fr.map some
 out:kh X.env fr
 inn:kh (compEnvC scope [] 0 X.env) fr
 new:∀{s:CH} {Q:Env->CH->Prop} {E:γ},(∀h',h'.Ns ↑s (λ_=>none)->(∀b o,s.heap.get? b==o->h'.get? b==o)->(∀x c,(ow ↑s).lookup x==c->h'.IsCell c none)->
   Q (newEnv scope ↑s X.env.globals (ow ↑s++bB X.env fr) X.env.qual none .none (some X.env) OM) {s with heap:=h',toks:=s.toks+([]:List (Str×Value)).length})->
  BX .q X.A (newFunctionEnv scope X.env.globals (bB X.env fr) [] X.env.qual none .none (some X.env)) Q E s
 ge:∀C x c,(ow C).lookup x==c->C<c
 one:∀C x z c,(ow C).lookup x==c->(ow C).lookup z==c->x=z
 fn1:∀C x,fn x=true->(ow C).lookup x≠none
 only:∀z∈scope.names,z.2=.cell->fn z.1=true
 ny:∀C,∀x∈fr,(ow C).lookup x=none
def ET {o Z:List (Str×BQ)}(h:(o++Z).lookup x==c):o.lookup x==c\/(o.lookup x=none/\Z.lookup x==c):=by
 rw[amJ] at h;cases e:o.lookup x with
 | none=>rw[e] at h;show .inr #[O,h]
 | some d=>rw[e] at h;show .inl h
structure HW (X:Cx)(scope:Scope)(fr:τ)(mQ:List Nat):Prop where
 yg:T5 scope X.env=pure (bB X.env fr)
 cell:∀y∈scope.names,y.2≠.cell
 kind:scope.kind=.function
 names:∀y∈scope.names,y.2=.local->scope.names.lookup y.1==.local
 free:∀y∈scope.names,y.2=.free->y.1∈fr
 mQ:mQ.map (λi=>X.N[i]?)=fr.map some
 out:kh X.env fr
 inn:kh (compEnvC scope [] 0 X.env) fr
def PF (X:Cx)(Y:ω)(t:TT):Prop:=
 ∀(U:ζ)(s:CH)(Z:L2.St)(H:Hp)(Q:Bool->Hp->Prop),Inv X U Z H s->t Z H Q->
  BX .q X.A (forIn Y true λc r=>if r=true then do let T <- isTrue c X.env (CQ c X.env);pure (ForInStep.yield T) else pure (ForInStep.yield r)) (TP X U Z Q) X.xe s
def yh:TT:=λ_ H Q=>Q true H
def mj:PF X [] yh:=λ_ _ _ H _ I h=>wpAny_tests_nil (H,I,h)
def zai (h:PT X c t):PF X [c] t:=λY s Z H Q I q=>wpAny_tests_one (h Y s Z H Q I q)
def sB (k:Nat)(mQ:List Nat)(Z:L2.St):L2.St:=FZ k none++mQ.map λi=>(Z[i]?).getD none
def BU (D:BQ)(g:TG)(M:TT)(L:TE)(J:It)(I:L2.St)(G:Hp)(Q:VK):Prop:=∃W:Nat->Nat->L2.St->List V->Hp->Prop,
 (∃m,W 0 m I [] (upd G D (.lst [])))/\∀i m S Z U,W i m S Z U->(J.stop i U/\Q ⇑D U)\/(J.go i U/\∀x N,J.yld i U x N->g x S N λT H=>M T H λb P=>
  if b=true then L T P λv R=>R D==.lst Z/\Z.length<CM/\∃Y,Y<m/\W (i+1) Y T (Z++[v]) (upd R D (.lst (Z++[v]))) else ∃Y,Y<m/\W (i+1) Y T Z P)
def aeU (k:Nat)(mQ:List Nat)(g:TG)(U:TT)(T:TE)(Z:L2.St)(Q:VK)(J:It)(Y:Hp):Prop:=∀D,Y D=none->BU D g U T J (sB k mQ Z) Y Q
def vw (k:Nat)(mQ:List Nat)(Y:TI)(g:TG)(U:TT)(T:TE):TE:=λZ H Q=>Y Z H (aeU k mQ g U T Z Q)
def aiU (h:(sB k mQ Z)[i]?==(some v)):k<=i/\∃j,mQ[i-k]?==j/\Z[j]?==(some v):=by
 unfold sB at h;by_cases c:i<k
 ·rw[PR (~~~c),qM,iB c] at h
  cases h
 ·rw[RF (~~~anB c),vT,Wp] at h
  show#[anB c,2];cases e:mQ[i-k]? with
  | none=>erw[e] at h
  | some j=>
   rw[e] at h;show(j,O,2);let Y:(Z[j]?).getD none==v:=VE h;cases z:Z[j]? with
   | none=>erw[z] at Y
   | some o=>
    rw[z] at Y;show sU some Y
def amM {Z:L2.St}
    {RR:Value->BQ->Result->CH->Prop} {E:γ} (hc:X.calm=true) (B:aeT X scope ow fn fr mQ)
  (hg:∀C s H U,PG (Oq X (tn++fr) scope fn .A C s H U) target g) (ht:∀C s H U,PF (Oq X (tn++fr) scope fn .A C s H U) ifs tt) (he:∀C s H U,PE (Oq X (tn++fr) scope fn .A C s H U) elt te)
  (I2:Inv X AP Z H2 s2) (T:Turn X.prog X.w X.K target J U it tnn) (st2:tnn 0 s2.heap) (f2:∀b∈U,ua X AP H2 b) (q:∀D,H2 D=none->BU D g tt te J (sB tn.length mQ Z) H2 Q)
  (fin:∀D C H' s' m,Inv X AP Z H' s' ->s'.heap.Ns C m->ua X AP H' C->Q ⇑D H' ->RR ⇑D C (.ok .next) s'):
  BX .q X.A (newList []) (λacc s₃=>BX .q X.A (newFunctionEnv scope X.env.globals (bB X.env fr) [] X.env.qual none .none (some X.env)) (λanf s₄=>
   Ri .q X.A (.compStart .u 0 ⇑it acc {anf with scope:=relabel scope X.env}) (RR acc anf.locals) s₄) E s₃) E s2:=by
 show Up (B.new (λqg aiV hk₁ hc₁=>?_));let S:Inv X AP Z (upd H2 ↑s2 (.lst [])) (s2⊂s2.heap.push ("list"^^^.seq ([]:List Value).toArray)):=I2.aiH (t':=s2.toks) (BS:=[]) .nil (RQ _);let(W,(m0,w0),turn):=q ↑s2 (I2.bU.fresh (CK _));generalize hH3:upd H2 ↑s2 (.lst [])=P at S w0
 let f:∀b∈U,ua X AP P b:=λb Y=>by
  let(a0,a1):=f2 b Y;show#[2,a1];let(o,e,_):=T.obj _ _ st2 b Y;rwa[<-hH3,ah (QV (GK e))]
 generalize hD:↑s2=D at*;generalize hs3:((s2⊂s2.heap.push ("list"^^^.seq ([]:List Value).toArray)):CH)=R at*;let e3:R.heap=s2.heap.push ("list"^^^.seq ([]:List Value).toArray):=by rw[<-hs3]
 let st3:tnn 0 R.heap:=T.keep _ _ _ st2 λb _ o e=>![e3] (GQ _ e)
 let M:∀b o,R.heap.get? b==o->qg.get? b==o:=λb o e=>hk₁ b o e;generalize hC:↑R=C at*;let I:↑R<=C:=U4 hC;let I4:Inv X AP Z P {R with heap:=qg,toks:=R.toks+([]:List (Str×Value)).length}:=S.kept M
 let fpC:∀b∈U,b≠C:=λb Y z=>by
  let(o,e,_):=T.obj _ _ st3 b Y;show CC z (QV (Qi (GK e) I))
 let nst:∀b∈U,b∉pT X.stack:=λb Y z=>(QQ.mp (S.FX b z)).elim (f b Y).2.1 (f b Y).2.2.1
 let old:∀x c,(bB X.env fr).lookup x==c->c<C:=λx c e=>by
  let(v,ic):=S.cell x c (jk e);rw[<-hC];show ic.lt
 let aw6:∀x z c,(ow C++bB X.env fr).lookup x==c->(ow C++bB X.env fr).lookup z==c->x=z:=λx z c e1 e2=>by
  rcases ET e1 with L|⟨_,L⟩<;>rcases ET e2 with b2|⟨_,b2⟩
  ·show B.one _ _ _ _ L b2
  ·show CC (old z c b2) (Nat.lt_asymm (B.ge _ _ _ L))
  ·show CC (old x c L) (Nat.lt_asymm (B.ge _ _ _ b2))
  ·show S.ok.inj x z c (jk L) (jk b2)
 let aw7:∀x c,fn x=true->(ow C++bB X.env fr).lookup x==c->↑R<=c:=λx c G e=>by
  rcases ET e with L|⟨a1,L⟩
  ·show CP (U4 hC) (RK (B.ge _ _ _ L))
  ·show CC a1 (B.fn1 C x G)
 let nfp:∀b∈U,∀x c,(ow C++bB X.env fr).lookup x==c->c≠b:=λb Y x c e=>by
  rcases ET e with L|⟨a1,L⟩
  ·let(o,eo,_):=T.obj _ _ st3 b Y
   have:=GK eo;rw[hC] at this;show CV (QV (vv this (B.ge _ _ _ L)))
  ·show(f b Y).2.2.2.2.1 x c (jk L)
 let anh:∀{x:Str} {c:BQ},x∈fr->(bB X.env fr).lookup x==c->(ow C++bB X.env fr).lookup x==c:=λ{x c} G e=>by
  rwa[amJ,B.ny C x G]
 let TZ:(Oq X (tn++fr) scope fn .A C R P U).Ok:=by
  show(S.ok.mod,B.kind,S.ok.glob,S.ok.blt,I,aw6,λx G=>?_,aw7,S.ok.hd,S.ok.frames,.inl rfl,
   λb Y=>#[fpC b Y,λx c e=>nfp b Y x c e],S.bs,CP S.ok.X5 S.sz,λb o e Y=>?_,nst,S.stack,S.xk)
  ·let hm:∃k,(x,k)∈scope.names/\k≠.local/\(k=.cell\/k=.free):=by
    have:∃k',(relabel scope X.env).names.lookup x==k'/\(k'=.cell\/k'=.free):=by
     rcases G with z|z
     ·show(_,z,.inl rfl)
     ·show(_,z,.inr rfl)
    let(k',e',h'):=this;let((n,k),hn,en):=CS.mp (lookup_mem e');dsimp only at en;by_cases cc:(k⊆NameKind.free && X.env.scope.kind⊆.function && X.env.kindOf n⊆some .cell)=true
    ·rw[iB cc] at en
     cases en
     let kf:k=.free:=by
      rw[EK,EK] at cc;simpa using cc.1.1
     show(k,hn,(by intro z;erw[kf] at z),.inr kf)
    ·rw[iA cc] at en
     cases en;show(k',hn,λz'=>by rcases h' with y|y<;>(erw[y] at z'),h')
   let(k,hk,_,h2):=hm
   rcases h2 with z|z
   ·cases e:(ow C).lookup x with
    | none=>show CC e (B.fn1 C x (B.only _ hk z))
    | some c=>show#[c,by change VL x (ow C++_)=_;rw[amJ,e];rfl]
   ·let hf:=B.free _ hk z
    let(c,ec):=S.ok.has x (B.out.at hf);show#[c,anh hf (uo ec hf)]
  ·let(_,_,_,h1,_):=f b Y
   rcases h1 with z|z
   ·show S.ok.QK b o e z
   ·show Sa _ (Qi (Qi (GK e) S.ok.X5) z)
 let IB:Inv (Oq X (tn++fr) scope fn .A C R P U) [] (sB tn.length mQ Z) P {R with heap:=qg,toks:=R.toks+([]:List (Str×Value)).length}:=by
  show(TZ,O,S.bare,Un.kept M,(_,aiV,λi x v e1 e2 _=>?_),λx c e=>(ET e).elim (λz=>#[none,hc₁ x c z]) (λz=>I4.cell x c (jk z.2)),2,λx c e=>(ET e).elim (λz=>S.bU.fresh (CP I (RK (B.ge _ _ _ z)))) (λz=>S.iG x c (jk z.2)),λp hp=>(nomatch hp),S.bU.kept M,2)
  ·let(hk,j,ej,es):=aiU e2
   have Q6 :fr[i-tn.length]?==x:=by
    let z:(tn++fr)[i]?==x:=e1;rwa[RF hk] at z
   let G:x∈fr:=CU Q6
   let eN:X.N[j]?==x:=by
    let z:=sU (λl:List (Option Str)=>l[i-tn.length]?) B.mQ;simp only[Wp,ej,Q6,FP] at z;show VE z
   let ko:=B.out.at G;let(m,hn,hl):=I4.loc;let(u,r,lk):=hl j x v eN es (by rcases ko with z|z;show .inr (.inl z);show .inr (.inr z));show(u,r,2)
   rcases lk with ⟨k1,_⟩|⟨_,c,ec,ic⟩
   ·rcases ko with z|z<;>(erw[z] at k1)
   ·show .inr (B.inn.at G,c,anh G (uo ec G),ic)
  ·show S.bU.fresh I
  ·have:=sU uz B.mQ
   simp only[CA] at this;change (sB tn.length mQ Z).length=(tn++fr).length;unfold sB;simp[this]
 let ZZ:∀{H':Hp},(∀b∈U,H' b=none)->∀b∈U,ua (Oq X (tn++fr) scope fn .A C R P U) [] H' b:=λhn b Y=>
  (hn b Y,fpC b Y,nst b Y,.inl Y,nfp b Y,λp hp=>(nomatch hp))
 let st4:tnn 0 qg:=T.keep _ _ _ st3 λb _ o e=>M b o e
 let loop:Ri .q X.A (.compLoop .u 0 ⇑it ⇑D (compEnvC scope .A C X.env)) (RR ⇑D C) {R with heap:=qg,toks:=R.toks+([]:List (Str×Value)).length}:=by
  show acd (λn s'=>∃i Z' ys H',Inv (Oq X (tn++fr) scope fn .A C R P U) [] Z' H' s'/\tnn i s'.heap/\(∀b∈U,H' b=none)/\W i n Z' ys H') ?_ m0 ((0),_,[],P,IB,st4,λb Y=>(f b Y).1,w0);rintro n s5 ⟨i,Z5,ys,H5,I5,st5,fr5,w5⟩
  rcases turn i n Z5 ys H5 w5 with ⟨stop,qn⟩|⟨go,step⟩
  ·show Oy (T.done (Oq X (tn++fr) scope fn .A C R P U) rfl rfl rfl hc i [] s5 Z5 H5 (λ_ _=>False) I5 (ZZ fr5) st5 stop) (λr s6 ⟨hr,I6⟩=>?_) λ_ _ z=>z
   subst hr;let(m,hn,_):=I6.loc;let J6:Inv X AP Z H5 s6:=S.Tw (ch:=U) I6.os I6.gV I6.bU I6.bare λb Y=>((f b Y).2.2.2.1,(f b Y).2.1,(f b Y).2.2.2.2.1,(f b Y).2.2.2.2.2);show fin D C H5 s6 m J6 hn (S.vQ I I6.free) qn
  ·show Oy (T.item (Oq X (tn++fr) scope fn .A C R P U) rfl rfl rfl hc i [] s5 Z5 H5 (λ_ _=>False) I5 (ZZ fr5) st5 go) (λr s6 ⟨u,hr,h6⟩=>?_) λ_ _ z=>z
   subst hr;show Oy h6 (λ_ s7 ⟨x,H7,I7,r7,y7,st7,fr7⟩=>?_) λ_ _ z=>z;let I7':=I7.pinned (ZZ fr7) (T.obj\st7)
   let held:∀{Z' :L2.St} {H':Hp} {s':CH},Inv (Oq X (tn++fr) scope fn .A C R P U) ([]++xP U s7.heap) Z' H' s' ->tnn (i+1) s'.heap/\∀b∈U,H' b=none:=λ{Z' H' s'} I'=>by
    show#[T.keep _ _ _ st7 λb Y o e=>(I'.pin (b,o) (Vg _ (Vg _ (lV Y e)))).1,λb Y=>?_];let(o,e,d):=T.obj _ _ st7 b Y;show(I'.pin (b,o) (Vg _ (Vg _ (lV Y e)))).2.1
   show Oy (hg C R P U _ s7 Z5 H7 x u _ I7' r7 (step x H7 y7)) (λ_ s8 ⟨Z8,H8,I8,q8⟩=>?_) λ_ _ z=>z;show Oy (ht C R P U _ s8 Z8 H8 _ I8 q8) (λok s9 ⟨H9,I9,q9⟩=>?_) λ_ _ z=>z;cases ok with
   | false=>
    rw[iA QW] at q9;let(m',hm,w9):=q9;rw[iA QW];let(a,b):=held I9;show(m',hm,i+1,Z8,ys,H9,I9.nh,a,b,w9)
   | true=>
    rw[iB rfl] at q9;rw[iB rfl];show Oy (he C R P U _ s9 Z8 H9 _ I9 q9) (λv BV ⟨y9,Vz,I10,r10,hDD,hl,m',hm,w10⟩=>?_) λ_ _ z=>z;show Oy (g6 (X:=Oq X (tn++fr) scope fn .A C R P U) _ BV Z8 Vz ⇑D [y9] ⇑D [v] (λ_ H'=>W (i+1) m' Z8 (ys++[y9]) H') I10 rfl (.cons r10 .nil) (D,ys,y9,8,hDD,hl,w10)) (λ_ HX ⟨z,wB,I11,_,q11⟩=>?_) λ_ _ z=>z;let(a,b):=held I11;show(m',hm,i+1,Z8,ys++[y9],wB,I11.nh,a,b,q11)
 show codeAny_compStart_list loop (T.self X.A 0 _ _ _ st4 loop)
def ac0 (k:X.calm=true)(B:aeT X scope ow fn fr mQ)(y:PI X target iter wi)
  (u:∀C s H Y,PG (Oq X (tn++fr) scope fn .A C s H Y) target g) (G:∀C s H Y,PF (Oq X (tn++fr) scope fn .A C s H Y) ifs tt) (p:∀C s H Y,PE (Oq X (tn++fr) scope fn .A C s H Y) elt te)
  (E:∀x,vZ iter X.env x=pure x:=by intro _;rfl):PE X .u (vw tn.length mQ wi g tt te):=by
 intro R s Z H Q I h;rw[eval_ListComp];show wpAny_comprehension_free (use:=none) rfl E B.yg B.kind B.names (cH (y R s Z H _ I h) λv s1 f=>cH f λL s2 i=>?_);let(it,Y,P,J,H2,rfl,I2,T,U,f2,q):=i;show amM (Q:=Q) (RR:=λS C=>compPost .q X.A X.xe none (EP X R Z Q) S C) k B u G p I2 T U f2 q ?_;intro D C H' N m I' z fc M;let(g0,g1,g2,g3,a,c):=fc;show(m,z,λh' QG =>(⇑D,H',I'.turned (t':=N.toks) (λb o j e=>(QG.2 b j).trans e) g0 g1 g3 a c,O,M))
def zan {c:Pos}(hN:X.N.Nodup)(M:X.N[i]?==y)(hx:Loc X.env.scope y)
  (hc:X.calm=true) (B:aeT X scope ow fn fr mQ) (hi:PI X target iter wi)
  (hg:∀C s H Y,PG (Oq X (tn++fr) scope fn .A C s H Y) target g) (ht:∀C s H Y,PF (Oq X (tn++fr) scope fn .A C s H Y) ifs tt) (he:∀C s H Y,PE (Oq X (tn++fr) scope fn .A C s H Y) elt te)
  (P:Zg .u (some (.Name y py)) c.line X.env=pure true:=by rfl)
  (hs:∀x,vZ iter X.env x=pure x:=by intro _;rfl) (hf:X.fn y=true\/X.env.scope.names.lookup y==.local:=by first|show .inl rfl|show .inr rfl|assumption):
  PS X (.Assign [.Name y py] .u c) (QP (vw tn.length mQ wi g tt te) (dF i)):=by
 intro k s Z H D I h;rw[exec_Assign_Name_used _ _ _ _ P];show BR (TM (BR ?_));change BX _ X.A (do let _ <- comprehension .u scope X.env _ (newList []) false (CQ iter X.env) (some (assign (.Name y py) X.env))) _ _ s
 show BR (Oy (wpAny_comprehension_free (use:=some (assign (.Name y py) X.env)) (Q:=λ_ U=>SP X k D .next U) rfl hs B.yg B.kind B.names
  (cH (hi k s Z H _ I h) λv s1 h1=>cH h1 λitv s2 h2=>?_)) (λ_ U hq=>CO (CO hq)) λ_ _ e=>e)
 let(it,Y,tnn,J,H2,rfl,I2,T,S,f2,q):=h2;show amM (Q:=λv H1=>dF i v Z H1 D.nx) (RR:=λG C=>compPost .q X.A X.xe (some (assign (.Name y py) X.env)) (λ_ U=>SP X k D .next U) G C) hc B hg ht he I2 T S f2 q ?_;intro p C H' U m I' hn fc qq;let(g0,f,g2,g3,j,g5):=fc;change BX _ X.A (assign (.Name y py) X.env ⇑p) _ _ _;show wpAny_assign_Name (aj2 I' hN M hx (v:=⇑p) (u:=⇑p) rfl (λR E ⟨a,sb,ha⟩=>?_) hf)
 let L:C≠a:=by
  rcases ha with z|z
  ·rw[z]
   show f
  ·show λe=>j y a z e.symm
 show(m,hn.sameBut sb L,λh' QG =>(_,H',E.turned (t':=R.toks) (λb o hb e=>(QG.2 b hb).trans e) g0 f g3 j g5,qq))
def HW.g {mQ:List Nat}(B:HW X scope fr mQ):aeT X scope (λ_=>[]) (λ_=>false) fr mQ:=
 (B.yg,B.kind,B.names,B.free,B.mQ,B.out,B.inn,λR=>wpAny_newFunctionEnv B.cell (by intro y S;simp at S) (λU Y Z=>R U Y (λb o e=>(Z.2 b (QV (GK e))).trans (GQ _ e)) λ_ _ z=>(nomatch z)) B.kind,
  λ_ _ _ z=>(nomatch z),λ_ _ _ _ z=>(nomatch z),λ_ _ z=>(nomatch z),λz T e=>CC e (B.cell z T),λ_ _ _=>O)
def ahs (Q:X.calm=true)(B:HW X scope fr mQ)(T:PI X target iter wi)
  (S:∀C s H Z,PG .p target g) (Y:∀C s H Z,PF .p ifs tt) (R:∀C s H Z,PE .p elt te)
  (U:∀x,vZ iter X.env x=pure x:=by intro _;rfl):PE X .u (vw tn.length mQ wi g tt te):=
 ac0 Q B.g T S Y R U
def ahB {T:Pos}(G:X.N.Nodup)(U:X.N[i]?==y)(S:Loc X.env.scope y)
  (I:X.calm=true) (B:HW X scope fr mQ) (P:PI X target iter wi)
  (M:∀C s H Z,PG .p target g) (R:∀C s H Z,PF .p ifs tt) (J:∀C s H Z,PE .p elt te)
  (Y:Zg .u (some (.Name y py)) T.line X.env=pure true:=by rfl)
  (Q:∀x,vZ iter X.env x=pure x:=by intro _;rfl) (L:X.fn y=true\/X.env.scope.names.lookup y==.local:=by first|show .inl rfl|show .inr rfl|assumption):
  PS X (.Assign [.Name y py] .u T) (QP (vw tn.length mQ wi g tt te) (dF i)):=
 zan G U S I B.g P M R J Y Q L
end
section
variable {D:BQ}{te:TE}{oC:L2.St}{H1:Hp}{Q:VK}
def aiX (n:Nat)(xs:Nat->V)(Y:Nat->List V->Hp->Prop)(N:Y 0 [] (upd H1 D (.lst [])))
  (M:∀i ys H,i<n->Y i ys H->J.go i H/\∀x H',J.yld i H x H' ->H'=H/\x=xs i) (stop:∀ys H,Y n ys H->J.stop n H)
  (S:∀i ys H (R:VK),i<n->Y i ys H->H D==.lst ys->(∀v X,X D==.lst ys->ys.length<CM->Y (i+1) (ys++[v]) (upd X D (.lst (ys++[v])))->R v X)->te (some (xs i)::oC) H R)
  (P:∀ys H,Y n ys H->H D==.lst ys->Q ⇑D H):BU D (dF 0) yh te J (none::oC) H1 Q:=by
 show(λi m Z ys H=>m=n-i/\i<=n/\(∃o,Z=o::oC)/\Y i ys H/\H D==.lst ys,(n,by simp,RQ _,#[none,O],N,af),2);rintro i m Z ys H ⟨rfl,C,⟨o,rfl⟩,p,U⟩;by_cases T:i<n
 ·let(I,L):=M i ys H T p
  show .inr #[I,λx H' y=>?_];let(E,G):=L x H' y;subst E G;unfold dF yh;dsimp only;rw[iB rfl];show S i ys _ _ T p U λv X a b c=>(a,b,n-(i+1),gu,O,gu,#[0],c,af)
 ·let e:i=n:=gu
  subst e;show .inl #[stop ys H p,P ys H p U]
end
structure Mk0 (K:Frag)(C:BQ):Prop where
 makes:yd K C=true
 init:ON K ⇑C "__init__"==(some (.builtin "object.__init__"))
 kp:keepIn K ⇑C=true
def anj (C:BQ):TE:=λ_ H Q=>∀x Z,H x=none->H Z=none->Z≠x->Q ⇑x (upd (upd H Z (.own x)) x (.ins C Z []))
section
variable {X:Cx}
def aeV {Z:L2.St}(M:Mk0 X.K C)(I:Inv X AP Z H s)(h:anj C Z H Q):BX .q X.A (call ⇑C []) (EP X AP Z Q) X.xe s:=by
 let S:=h (↑s+1) ↑s (I.bU.fresh (zg _)) (I.bU.fresh (CK _)) (QV (V3 _));let P:=Inv.made (C:=C) I;have α:=PySem.W.makes_of (M:=BY X.prog X.w) I.lQ M.makes;show uR (afn I.lQ M.makes M.init (λY=>PySem.W.Looks.of_pure (PySem.W.oi_bind Y)) ?_)
 let R:((s.heap.push Vh).push (Vc C ↑s)).get? (↑s+1)==(Vc C ↑s):=by
  have:=Py (s.heap.push Vh) (o:=Vc C ↑s) rfl
  rwa[vd] at this
 let T:PySem.W.Looks .q ((s.heap.push Vh).push (Vc C ↑s)) (typeOf ⇑(↑s+1)) ⇑C:=(PySem.W.Looks.ld R).andThen .now
 let U:PySem.W.Looks .q ((s.heap.push Vh).push (Vc C ↑s)) (TB ⇑(↑s+1) (.type "object")) true:=
  T.andThen (α.top.keeps λb o e=>GQ _ (GQ _ e))
 show TX PySem.W.oi_plain PySem.W.entry_oi (@PySem.W.check_slot .q _ _ _ "object.__init__" "object" "__init__" ⇑(↑s+1) [] [] _ PySem.W.oi_kind PySem.W.oi_split U (PySem.W.oi_args ⇑(↑s+1)) ?_);rw[PySem.W.oi_run];show CO (And.intro rfl ⟨V.ref (↑s+1),_,P,rfl,S⟩)
def aiY (M:Mk0 X.K C)(T:Gl X x)(U:X.mg x==⇑C)(Y:.z=false:=by decide):PE X (.Call (.Name x p) [] [] pos) (anj C):=by
 intro S s Z H Q I h;show se (iP I T U ?_ Y);show PySem.W.callWith_K0 I.lQ M.kp (aeV M I h)
end
structure bR (P:HV)(w:World)(K:Frag)(mg:ι)(gV:Heap)(CX:qu)(k:Nat)(C:BQ)(m:Str)(ps:τ)(sp:Sp):Prop where
 ex:∃(f:BQ)(fd:FuncData),EG K C/\Meth K C m f/\cz P w K mg gV CX k f fd ps sp/\Binds K fd ps []
theorem bR.mono {K:Frag}(M:!bR CX j C m ps sp)(h:j<=k):!bR CX k C m ps sp:=by
 let(f,Z,a,b,c,d):=M.ex;show(f,Z,a,b,c.mono h,d)
section
variable {X:Cx}{CX:qu}{k:Nat}{E:XK}{m:Str}{pos apos:Pos}{e o:Expr}{es:ω}{ta:TE}{t:TA}
inductive ahl (P:HV)(w:World)(K:Frag)(mg:ι)(gV:Heap)(CX:qu)(k:Nat)(m:Str)(E:XK)(t:TA)(Z:L2.St)(Q:VK)(x:V)(T:Hp):Prop
|mk (a C S U ps Y:_)(_:x=.ref a)(_:T a==.ins C S U)(_:U.lookup m=none)(_:!bR CX k C m ps Y)(_:t Z T λvs R=>Y (x::vs) R Q E)
def aiZ (P:HV)(w:World)(K:Frag)(mg:ι)(gV:Heap)(CX:qu)(k:Nat)(m:Str)(E:XK)(ta:TE)(t:TA):TE:=λZ H Q=>ta Z H (ahl P w K mg gV CX k m E t Z Q)
def fG (L:PE X o ta)(N:cp k X.A)(R:Passes CX X E)
  (P:CQ (.Call (.Attribute o m apos) [] [] pos) X.env=(do
   let U <- CQ o X.env
   standAt apos.atName
   let (f,first) <- Zx [U] (OG U m pl)
   callWith pos f first (QS pos (CW [] X.env)) (EL pos (ES [] X.env))):=by rfl):
  PE X (.Call (.Attribute o m apos) [] [] pos) (aiZ X.prog X.w X.K X.mg X.gV CX k m E ta vR):=by
 intro B s Z H Q I h;show aei (pl:=pl) (cH (L B s Z H _ I h) λu y ⟨x,b,Y,S,a,C,g,j,p,z,G,D,l,M,q⟩=>?_) P;subst G;obtain rfl:u=Value.ref a:=S;let(f,i,c,T,F,J):=M.ex;show qt Y D c T l ?_;show PySem.W.callWith_K0 (first:=[⇑a]) Y.lQ T.kp (GH (us:=[⇑a]) (vs:=[⇑a]) (tj:=[]) F N J .nil R Y (.cons rfl .nil) q)
def d5 {pl:Sem Bool}(B:PE X o ta)(D:cp k X.A)(J:Passes CX X E)(y:PA X (e::es) t)
  (i:CW (e::es) X.env=(false,CQ e X.env)::CW es X.env:=by rfl) (P:(QS pos (CW es X.env)).any (·.1)=false:=by rfl)
  (G:CQ .P X.env=(do
   let Y <- CQ o X.env
   standAt apos.atName
   let (f,first) <- Zx [Y] (OG Y m pl)
   callWith pos f first (QS pos (CW (e::es) X.env)) (EL pos (ES [] X.env))):=by rfl):
  PE X .P (aiZ X.prog X.w X.K X.mg X.gV CX k m E ta t):=by
 intro R s Z H Q I h;show aei (pl:=pl) (cH (B R s Z H _ I h) λu N ⟨x,g,S,L,a,C,dx,fs,ps,b,p,j,l,M,q⟩=>?_) G;subst p;obtain rfl:u=Value.ref a:=L;let(f,fd,c,U,F,z):=M.ex;show qt S j c U l ?_;show PX (first:=[⇑a]) (h₀:=X.gV) I.ok.mod.Y_ U.kp (cH (y pos R N Z g _ S q) λus s2 ⟨vs,H2,T,r,q2⟩=>#[T.lQ,2]) i P;show GH (us:=.ref a::us) (vs:=.ref a::vs) (tj:=[]) F D z .nil J T (.cons rfl r) ?_;rwa[Zu]
end
def ahm (h:xZ CX)(e:X.xe=λ_ _=>False):Passes CX X E0:=λ_ _ _ _ _ _ _ q=>(h _ _ _ _ _ q).elim
section
variable {X:Cx}
inductive ank (x:V)(lo:Option Int)(Z:Option Int)(H:Hp)(Q:VK):Prop
|mk (z:_)(_:x=.str z)(_:z.length<=CM)(_:Q (.str (Txt.slice z lo Z)) H)
def ai0:SlR X ank:=by
 intro J s Z H x v vl N lo L M Q I S T P R h;let(z,rfl,U,q):=h;let(t,rfl):=S;show("str",_,F.slot_str_getitem.lookup,typeIs_str _ _ _,2);cases P<;>cases R
 ·show ad5 (l:=none) (u:=none) (st:=none) T rfl .T
 ·rename_i j uj
  show ad5 (l:=none) (u:=some (j,uj)) (st:=none) T rfl .T
 ·rename_i i ui
  show ad5 (l:=some (i,ui)) (u:=none) (st:=none) T rfl .T
 ·rename_i i ui j uj
  show ad5 (l:=some (i,ui)) (u:=some (j,uj)) (st:=none) T rfl .T
inductive ahn (x:V)(y:V)(H:Hp)(Q:VK):Prop
|mk (z n:_)(_:x=.str z)(_:y=.int n)(_:MulOk z n)(_:Q (.str (Txt.mul z n)) H)
def HY:oJ X (Vw .Mult) ahn:=by
 intro R s Z H x y v u Q I T U h;let(z,n,rfl,rfl,S,q):=h;let(t,rfl):=T;let(Y,rfl):=U;show SB.mul S λY k=>(.str _,H,I.tok k,#[Y,O],q)
end
end Ty
set_option maxHeartbeats 1000000
set_option maxHeartbeats 4000000
namespace Ty
open PySem PySem.Spec PyProof.Rows L2 PySem.NumText
def dg (m:Nat):List Nat:=(Nat.toDigits 10 m).map Char.toNat
def tx (n:Int):Str:=Rj (toString n)
def anl:Str:=Rj "/"
def nt (q:Int×Int):Str:=if q.2=1 then tx q.1 else tx q.1++anl++tx q.2
def isStar:Expr->Bool
 | .Starred .. =>true
 | _=>false
def acU {Z:ω}(h:isStar e=false):CW (e::Z) env=(false,CQ e env)::CW Z env:=by
 cases e<;>first|rfl|(cases h;done)
def Q7 (Y:PE X e te)(Z:PA X es t)(h:isStar e=false:=by rfl):PA X (e::es) (vp te t):=aes Y Z (acU h)
end Ty
namespace Ty
open PySem PySem.Spec PyProof.Rows L2
section
variable {D:BQ}{te:TE}{oC:L2.St}{H1:Hp}{Q:VK}
def aZ (D:BQ)(H H':Hp):Prop:=∀b o,b≠D->H b==o->H' b==o
def aZ.of (s:aq H H'):aZ D H H':=λb o _ e=>s b o e
theorem aZ.upd :aZ D H (upd H D o):=λb Z n e=>by rwa[ah n]
def aho {Rel:Nat->V->Hp->Prop}{H Z:Hp}(Y:∀i v H H' ys,H D==.lst ys->aZ D H H' ->Rel i v H->Rel i v H')(X:H D==.lst zs)(s:aq H Z)(r:∀j u,zs[j]?==u->Rel j u H)(q:Rel zs.length v Z):∀j u,(zs++[v])[j]?==u->Rel j u (upd Z D (.lst (zs++[v]))):=λj u e=>by
 rw[an_] at e;split at e
 ·show Y j u Z _ zs (s\X) aZ.upd (Y j u H Z zs X (aZ.of s) (r j u e))
 ·let c:j=zs.length:=by
   by_cases z:j-zs.length=0
   ·omega
   ·rw[IF (by simp;omega)] at e
    cases e
  subst c;erw[EA] at e;show Y _ _ Z _ zs (s\X) aZ.upd q
def afm (n:Nat)(xs:Nat->V)(Rel:Nat->V->Hp->Prop)(T:H1 D=none)(I:n<CM)
  (L:∀i H,i<n->aq H1 H->J.go i H/\∀x H',J.yld i H x H' ->H'=H/\x=xs i) (stop:∀H,aq H1 H->J.stop n H)
  (M:∀i v H H' ys,H D==.lst ys->aZ D H H' ->Rel i v H->Rel i v H')
  (P:∀i H (R:VK),i<n->aq H1 H->(∃ys,H D==.lst ys)->(∀v Y,aq H Y->Rel i v Y->R v Y)->te (some (xs i)::oC) H R)
  (N:∀ys H,ys.length=n->(∀i v,ys[i]?==v->Rel i v H)->aq H1 H->H D==.lst ys->Q ⇑D H):
  BU D (dF 0) yh te J (none::oC) H1 Q:=by
 show aiX n xs (λi ys H=>ys.length=i/\(∀i v,ys[i]?==v->Rel i v H)/\aq H1 H) (O,λi v e=>by simp at e,λb o e=>by rwa[ah (ak e T)]) ?_ ?_ ?_ ?_
 ·rintro i ys H U ⟨_,_,s⟩
  show L i H U s
 ·rintro ys H ⟨_,_,s⟩
  show stop H s
 ·rintro i ys H R U ⟨l,r,s⟩ Z k
  show P i H R U s #[_,Z] λv Y X S=>k v Y (X\Z) gu (by simp[l],aho M Z X r (l▸S),λb o e=>![ah (ak e T)] (X\(s _ _ e)))
 ·rintro ys H ⟨l,r,s⟩ Z
  show N ys H l r s Z
def jx {K:Frag}(Rel:Nat->V->Hp->Prop)(T:H1 D=none)(S:xs.length<CM)(Y:∀H,aq H1 H->aY K H a xs)
  (M:∀i v H H' ys,H D==.lst ys->aZ D H H' ->Rel i v H->Rel i v H')
  (P:∀i x H (R:VK),xs[i]?==x->aq H1 H->(∃ys,H D==.lst ys)->(∀v X,aq H X->Rel i v X->R v X)->te (some x::oC) H R)
  (N:∀ys H,ys.length=xs.length->(∀i v,ys[i]?==v->Rel i v H)->aq H1 H->H D==.lst ys->Q ⇑D H):
  BU D (dF 0) yh te (Itl K a) (none::oC) H1 Q:=by
 show afm xs.length (λi=>(xs[i]?).getD .cS) Rel T S (λi H Z s=>#[(xs,xs[i],Y H s,gE Z),λx H' y=>#[y.1,2]]) (λH s=>(xs,Y H s,CK _)) M (λi H R Z s L k=>?_) N
 ·rw[y.2 xs (Y H s)];rfl
 ·let e:xs[i]?==xs[i]:=gE Z
  let U:=P i _ H R e s L k;rw[<-(show(xs[i]?).getD .cS=xs[i] by rw[e];rfl)] at U;show U
def du {K:Frag}(Rel:Nat->V->Hp->Prop)(Y:H1 D=none)(X:xs.length<CM)(S:∀H,aq H1 H->aY K H a xs)
  (P:∀i v H H' ys,H D==.lst ys->aZ D H H' ->Rel i v H->Rel i v H')
  (U:∀i x H (R:VK),xs[i]?==x->aq H1 H->(∀v Z,aq H Z->Rel i v Z->R v Z)->te (some x::oC) H R)
  (T:∀ys H,ys.length=xs.length->(∀i v,ys[i]?==v->Rel i v H)->aq H1 H->H D==.lst ys->Q ⇑D H):
  BU D (dF 0) yh te (Itl K a) (none::oC) H1 Q:=
 jx Rel Y X S P (λi x H R a b _ c=>U i x H R a b c) T
end
section
variable {X:Cx}{AP:ζ}{Z:L2.St}{H:Hp}{s:CH}{h':Heap}
def Inv.rB {T:Δ}(I:Inv X AP Z H s)(k:∀b o,b∉T->s.heap.get? b==o->h'.get? b==o)(S:∀b∈T,ua X AP H b):Inv X AP Z H {s with heap:=h',toks:=t'}:=by
 let U:∀b u,H b==u->b∉T:=λb u e z=>by erw[(S b z).1] at e
 show I.step (g':=s.gens) (d':=s.drawn) (ch:=T) (λb P=>?_) (λb o _ _ Y e _=>k b o Y e) (λb o _ _ Y e _=>#[o.slots,k b o Y e]) (λ_ _ _ _ n=>n)
  (λb o Y e=>#[o,k b o Y e]) (λ_ _ e=>e) (λ_ _ _ e=>e) (λb D e=>#[#[],by rw[e];simp]) (λm Q=>?_) (λb u e=>?_) I.bare
 ·let(B,J,C,L,M,N):=S b P
  show(L,J,M,N)
 ·let(o,G,E,R,r):=Q
  show(o,G,E,k _ o (λz=>(S _ z).2.1 rfl) R,r)
 ·show(I.bU b u e).pH (λc v Y q=>k c v ?_ q) (λ_ q=>q) λ_ _ q=>q
  rcases Y with z|z
  ·rw[z];show U b u e
  ·show U c _ z
def Inv.xx {Q:Δ}{T:BQ}{xs:ε}{BS:ς}(I:Inv X AP Z H s)(k:∀b o,b∉Q->s.heap.get? b==o->h'.get? b==o)(P:∀b∈Q,ua X AP H b)(N:↑s<=T)
  (hz:xs.length<=CM) (L:Vals xs BS) (G:IsTup h' T BS.toArray):Inv X AP Z (upd H T (.tup xs)) {s with heap:=h',toks:=t'}:=by
 let S:=I.bU.fresh N;let U:∀b u,H b==u->b∉Q:=λb u e z=>by erw[(P b z).1] at e
 let J:∀b o,s.heap.get? b==o->b≠T:=λb o e=>QV (Qi (GK e) N)
 show I.step (g':=s.gens) (d':=s.drawn) (ch:=Q) (λb R=>?_) (λb o _ _ Y e _=>k b o Y e) (λb o _ _ Y e _=>#[o.slots,k b o Y e]) (λb o _ e n=>by rwa[ah (J b o e)])
  (λb o Y e=>#[o,k b o Y e]) (λb M e=>by rwa[ah (ak e S)]) (λb o u e=>by rwa[ah (ak e S)]) (λb p e=>#[#[],by rw[ah (ak e S),e];simp]) (λm D=>?_) (λb u e=>?_) I.bare
 ·let(i,y,j,A,B,C):=P b R
  show(A,y,B,C)
 ·let(o,x,w,E,r):=D
  show(o,x,w,k _ o (λz=>(P _ z).2.1 rfl) E,r)
 ·by_cases R:b=T
  ·subst R
   erw[af] at e;show(hz,BS,L,G)
  ·rw[ah R] at e
   show(I.bU b u e).pH (λc v Y q=>k c v ?_ q) (λc q=>by rwa[ah (ak q S)]) λc M q=>by rwa[ah (ak q S)]
   rcases Y with z|z
   ·rw[z];show U b u e
   ·show U c _ z
end
def Itz (K:Frag)(a b:BQ):It:=
 (λi H=>∃xs Z x y,aY K H a xs/\aY K H b Z/\xs[i]?==x/\Z[i]?==y,
  λi H v Y=>∃p x y,(∀xs,aY K H a xs->xs[i]?==x)/\(∀Z,aY K H b Z->Z[i]?==y)/\v=⇑p/\H p=none/\Y=upd H p (.tup [x,y]),
  λi H=>∃xs Z,aY K H a xs/\aY K H b Z/\(xs.length<=i\/Z.length<=i))
def zak {K:Frag}{es:ω}(a b z TI TO T U:BQ)(D:ZipApart z TI TO T U a b):
  Turn P w K (.Tuple es k pos) (Itz K a b) [z,TI,TO,T,U] z (λi h=>VG h z TI TO .none/\QZ h TI ⇑T ⇑U/\(∃x y,QZ h TO x y)/\h.IsListIter T a i/\h.IsListIter U b i) where
 mem:=by simp
 obj:=λi h st c N=>by
  let(R,S,(x,y,Q),(o1,e1,c1,d1),(o2,e2,c2,d2)):=st;have m :c=z\/c=TI\/c=TO\/c=T\/c=U:= ~~~N
  rcases m with e|e|e|e|e<;>subst e
  ·show(_,R,λv z=>by cases z)
  ·show(_,S,λv z=>by cases z)
  ·show(_,Q,λv z=>by cases z)
  ·show(_,e1,λv z=>by erw[d1] at z)
  ·show(_,e2,λv z=>by erw[d2] at z)
 keep:=λi h A st k=>by
  let(R,S,(x,y,Q),J,L):=st;show(k z gN _ R,k TI gN _ S,(x,y,k TO gN _ Q),J.at λo e=>k T gN o e,L.at λo e=>k U gN o e)
 item:=by
  intro X hP hw hK N i AP s Z H E I B st hg;subst hP hw hK;let(R,S,(x0,y0,Q),J,L):=st;let(xs,ys,x,y,C,G,ex,ey):=hg;let(BS,g,p,_):=I.list C;let(jts,BM,f,_):=I.list G;let(u,hu,ru):=g.get ex;let(v,hv,j):=BM.get ey;show wpAny_pyNext_zip_item D R S Q J L p.isList f.isList (x:=u) (y:=v) (~~~hu) (~~~hv) λA a1 a2 a3 a4 a5 a6 a7=>?_;show#[0,wpAny_letOwnedTupleGo_zip (s:=(s⊂A)) a1 λT3 b1 sb=>?_];let nz:∀c,c≠z->∀o,A.get? c==o->T3.get? c==o:=λc N o e=>(sb.2 c N).trans e
  let kk:∀b o,b∉[z,TI,TO,T,U]->s.heap.get? b==o->T3.get? b==o:=λb o M e=>by
   have Y :b≠z/\b≠TI/\b≠TO/\b≠T/\b≠U:= ~~~M
   show nz b Y.1 o (a7 b o Y.1 Y.2.2.1 Y.2.2.2.1 Y.2.2.2.2 e)
  let sz:∀c o,s.heap.get? c==o->↑s≠c:=λc o e=>ZG (GK e);let tz:↑s≠z:=sz\R;let hn:=I.bU.fresh (CK ↑s)
  let I2:Inv X AP Z (upd H ↑s (.tup [x,y])) {s with heap:=T3,toks:=s.toks}:=
   Inv.xx I kk B (CK _) (by change 2<=CM;decide) (BS:=[u,v]) (.cons ru (.cons j .nil)) (_,nz _ tz _ a5,7)
  show(.ref ↑s,_,I2,O,(↑s,x,y,λxs' q=>by rwa[I.kK q C],λys' q=>by rwa[I.kK q G],O,hn,O),(b1,nz _ D.TIz _ (a7 _ _ D.TIz D.TITO D.TIi1 D.TIi2 S),(_,_,nz _ D.TOz _ a2),a3.at λo e=>nz _ D.i1z o e,a4.at λo e=>nz _ D.i2z o e),λb M=>?_)
  let ob:∃o,s.heap.get? b==o:=by
   let(o1,e1,_):=J;let(o2,e2,_):=L;have m :b=z\/b=TI\/b=TO\/b=T\/b=U:= ~~~M
   rcases m with e|e|e|e|e<;>subst e
   ·show#[_,R]
   ·show#[_,S]
   ·show#[_,Q]
   ·show#[_,e1]
   ·show#[_,e2]
  let(o,e):=ob;rw[ah (CV (sz\e))];show(B b M).1
 done:=by
  intro X hP hw hK N i AP s Z H E I B st hg;subst hP hw hK;let(R,S,(x0,y0,Q),J,L):=st;let(xs,ys,C,G,ee):=hg;let(BS,g,p,_):=I.list C;let(jts,BM,f,_):=I.list G;let l1:=g.length;let l2:=BM.length;show wpAny_pyNext_zip_end (I.ok.hd N) D R S Q J L p.isList f.isList ?_ λA kk=>#[O,Inv.rB I (λb o M e=>?_) B]
  ·rcases ee with e|e
   ·show .inl (by simp;omega)
   ·show .inr (by simp;omega)
  ·have Y :b≠z/\b≠TI/\b≠TO/\b≠T/\b≠U:= ~~~M
   show kk b o Y.1 Y.2.2.1 Y.2.2.2.1 Y.2.2.2.2 e
 self:=λ_ _ _ _ _ st h=>Uk st.1 h
def uq {n a b:Nat}(Y:a<n)(Z:b<n):ZipApart (n+4) (n+2) (n+3) n (n+1) a b:=by
 constructor<;>(intro z;simp only[BQ] at z;omega)
def yj (h:c∈[n+4,n+2,n+3,n,n+1]):n<=c/\c≠n+5:=by
 simp only[QQ,List.not_mem_nil,or_false] at h;omega
def boot_zip:V0 "zip"==.type "zip":=d_k
section
variable {X:Cx}
inductive ahp (K:Frag)(R:(It->Hp->Prop))(vs:ε)(Z:Hp):Prop
|mk (a b:_)(_:vs=[.ref a,.ref b])(_:(∃xs,aY K Z a xs))(_:(∃ys,aY K Z b ys))(_:R (Itz K a b) Z)
def aw' (K:Frag)(Y:TA):TI:=λZ H R=>Y Z H (ahp K R)
def nN {p U:Pos}{es:ω}{k:Nat}{B:Pos}(hg:Gl X "zip")(f:X.mg "zip"=none)(ha:PA X [e1,e2] ta)(g:CW [e1,e2] X.env=[(false,CQ e1 X.env),(false,CQ e2 X.env)]:=by rfl)(C:CW [e2] X.env=[(false,CQ e2 X.env)]:=by rfl):
  PI X (.Tuple es k B) (.Call (.Name "zip" p) [e1,e2] [] U) (aw' X.K ta):=by
 intro AP s Z H R I h;show Call_ (gP I hg f boot_zip (vb (cH (ha U AP s Z H _ I h) λus Y ⟨vs,H1,S,A,y⟩=>?_) (![g,C]) (by rw[C];rfl)));let(a,b,e,(xs,j),(ys,m),q):=y;subst e;cases A with
 | cons r Q=>
  cases Q with
  | cons z Q=>
   cases Q;cases r;cases z;let(BS,rv,G,_):=S.list j;let(w,BM,T,_):=S.list m;let N:a<↑Y:=by let(o,M,_):=G.isList;show GK M
   let P:b<↑Y:=by let(o,M,_):=T.isList;show GK M
   show call_zip_2 G.isList T.isList λh' E u x J L i hk=>Uk (s:=(Y⊂h')) E ?_;show(↑Y+4,[↑Y+4,↑Y+2,↑Y+3,↑Y,↑Y+1],9,H1,O,S.kept (t':=Y.toks) hk,zak a b _ _ _ _ _ ?_,(E,u,(_,_,x),J,L),λc D=>?_,q)
   ·show uq N P
   ·show S.vQ (yj D).1 (S.bU.fresh (yj D).1)
theorem anN (ns:ρ)(Z:Nat->Int)(Y:∀i (h:i<ns.length),Z i=ns[i]):∀j,j<=ns.length->preSum Z j=(ns.take j).sum
 | 0,_=>by simp[preSum]
 | j+1,h=>by
  rw[preSum,anN ns Z Y j gu,Y j gu,List.take_succ_eq_append_getElem gu,List.sum_append];simp
inductive anp (K:Frag)(xs:ε)(H:Hp)(Q:VK):Prop
|mk (p:BQ)(ns:ρ)(_:xs=[.ref p])(_:aY K H p (ns.map V.int))(_:Q (.int ns.sum) H)
def ahi (m:X.calm=true):mL X (.builtin "sum") (anp X.K):=by
 intro c s Z H xs a Q I r h;let(p,Y,rfl,y,q):=h;let(u,rfl,D):=vals1 r;cases D;let(S,J,R,hz):=I.list y;let T:=J.length;rw[CA] at T;show call_sum_walkG (agj R.isList ?_);let g:p≠↑s:=by let(o,P,_):=R.isList;show QV (GK P)
 show(↑s,9,S.toArray.size,9,λi=>Y.getD i 0,O,Walks.list (by show I.ok.hd m) ↑s p g S.toArray,#[(_,Py _ rfl,8),R.isList.at λo e=>GQ _ e],λb k=>?_,λi v B=>?_,λj L t' w=>?_)
 ·have C :b=↑s\/b=p:= ~~~k
  rw[vd]
  rcases C with e|e
  ·rw[e];show V3 _
  ·rw[e]
   let(o,P,_):=R.isList;show EI (GK P)
 ·let U:S[i]?==v:= ~~~B
  let hi:i<S.length:=(ir.mp U).1;have M :i<Y.length:=gu
  let(u',A,E):=J.get (i:=i) (x:=.int Y[i]) (by rw[Wp,gE M];rfl);erw[U] at A;let(t,e):=E;show#[t,by rw[e];change Value.int Y[i] t=Value.int (Y.getD i 0) t;rw[GO,gE M];rfl]
 ·let e:preSum (λi=>Y.getD i 0) S.toArray.size=Y.sum:=by
   rw[anN Y _ (λi h=>by rw[GO,gE h];rfl) _ (by simp;omega),T4 (by simp;omega)]
  rw[e]
  let f:Inv X c Z H {s with heap:=j,toks:=L}:=I.kept (t':=L) λb o N=>w b o (λz=>by
   let G:b=↑s:= ~~~z
   rw[G] at N
   show CC (GK N) (Sa _)) (GQ _ N)
  show(↥Y.sum,H,f,#[0],q)
def boot_sum:V0 "sum"==.builtin "sum":=d_k
inductive σ6 (K:Frag)(xs:ε)(H:Hp)(Q:VK):Prop
|mk (p:BQ)(ys:ε)(_:xs=[.ref p])(_:aY K H p ys)(_:∀l,H l=none->Q (.ref l) (upd H l (.lst ys)))
def qB:mL X (.type "list") (σ6 X.K):=by
 intro C s Z H xs B Q I r h;let(p,T,rfl,P,q):=h;let(u,rfl,S):=vals1 r;cases S;let(D,Y,(o,n,e,c,A,d),R):=I.list P;let U:=Y.length;show call_list_seq p .V e c d (λJ G L M=>?_) (by simp;omega);let N:=I.bU.fresh (CK ↑s);let E:Inv X C Z (upd H ↑s (.lst T)) {s with heap:=J,toks:=s.toks}:=I.laid (t':=s.toks) L (CK _) (R,D,G,Y,M);show(⇑_,_,E,O,q _ N)
end
section
variable {X:Cx}{K:Frag}
def eQ (h:X.K=K):IxR X (aeI K):=by subst h;show zaQ
def rC (h:X.K=K):IxR X (aeH K):=by subst h;show aG
def mm {k:Nat}{Z:Pos}(T:X.K=K)(U:X.calm=true)(h:PGs X es t)
  (Y:(ER es X.env).length=n:=by rfl) (S:(ER es X.env).findIdx? (·.1)=none:=by rfl):PG X (.Tuple es k Z) (Zb K n t):=by subst T;show gy U h Y S
end
section
variable {D:BQ}{te:TE}{oC:L2.St}{H1:Hp}{Q:VK}
def ur {K:Frag}(Rel:Nat->V->Hp->Prop)(J:H1 D=none)(u:xs.length<CM)(k:ys.length=xs.length)(P:∀H,aq H1 H->aY K H a xs)(S:∀H,aq H1 H->aY K H b ys)
  (z:∀i v H H' ys,H D==.lst ys->aZ D H H' ->Rel i v H->Rel i v H')
  (B:∀i x y H (R:VK),xs[i]?==x->ys[i]?==y->aq H1 H->(∃ys,H D==.lst ys)->(∀v U,aq H U->Rel i v U->R v U)->te (some x::some y::oC) H R)
  (A:∀zs H,zs.length=xs.length->(∀i v,zs[i]?==v->Rel i v H)->aq H1 H->H D==.lst zs->Q ⇑D H):
  BU D (Zb K 2 (ED (dF 0) (ED (dF 1) aez))) yh te (Itz K a b) (none::none::oC) H1 Q:=by
 show(λi m Z zs H=>m=xs.length-i/\i<=xs.length/\(∃o L,Z=o::L::oC)/\(zs.length=i/\(∀i v,zs[i]?==v->Rel i v H)/\aq H1 H)/\H D==.lst zs,(xs.length,by simp,RQ _,(none,none,O),(O,λi v e=>by simp at e,λb o e=>by rwa[ah (ak e J)]),af),2);rintro i m Z zs H ⟨rfl,j,⟨o,L,rfl⟩,⟨l,r,s⟩,X⟩;by_cases w:i<xs.length
 ·let M:xs[i]?==xs[i]:=gE w
  let N:ys[i]?==(ys[i]'gu):=gE gu;show .inr #[(xs,ys,_,_,P H s,S H s,M,N),λv H' y=>?_];let(p,x,y,E,G,rfl,C,rfl):=y;let M:=E xs (P H s);let N:=G ys (S H s);let Y:aq H (upd H p (.tup [x,y])):=λb o e=>by rwa[ah (ak e C)]
  show(p,0,cb.of af,O,4,1,2);unfold yh;dsimp only;rw[iB rfl];show B i x y _ _ M N (λb o e=>Y\(s _ _ e)) #[zs,Y\X] λv U T I=>(T\(Y _ _ X),gu,xs.length-(i+1),gu,O,gu,#[4],(by simp[l],aho z X (λb o q=>T\(Y _ _ q)) r (l▸I),λb o e=>![ah (ak e J)] (T\(Y _ _ (s _ _ e)))),af)
 ·let e:i=xs.length:=gu
  subst e;show .inl #[(xs,ys,P H s,S H s,.inl (CK _)),A zs H l r s X]
def nO {K:Frag}(Rel:Nat->V->Hp->Prop)(Y:H1 D=none)(X:xs.length<CM)(U:ys.length=xs.length)(N:∀H,aq H1 H->aY K H a xs)(P:∀H,aq H1 H->aY K H b ys)
  (M:∀i v H H' ys,H D==.lst ys->aZ D H H' ->Rel i v H->Rel i v H')
  (T:∀i x y H (R:VK),xs[i]?==x->ys[i]?==y->aq H1 H->(∀v Z,aq H Z->Rel i v Z->R v Z)->te (some x::some y::oC) H R)
  (S:∀zs H,zs.length=xs.length->(∀i v,zs[i]?==v->Rel i v H)->aq H1 H->H D==.lst zs->Q ⇑D H):
  BU D (Zb K 2 (ED (dF 0) (ED (dF 1) aez))) yh te (Itz K a b) (none::none::oC) H1 Q:=
 ur Rel Y X U N P M (λi x y H R a b c _ d=>T i x y H R a b c d) S
end
open Builtin.Int (intBits)
def anq:V0 "sum"==.builtin "sum":=boot_sum
def vl (q:Int×Int):Rat:=(q.1:Rat) / (q.2:Rat)
structure Sm (T B:Nat)(q:Int×Int):Prop where
 pos:0<q.2
 low:Po q.1 q.2=1
 top:q.1.natAbs<=2^T
 bot:q.2.natAbs<=2^B
def fS {b:Int}(h:b≠0):(b:Rat)≠0:= ~~~h
def mq (h:b≠0):vl (low t b)=(t:Rat) / (b:Rat):=by
 let c:=af0 (t:=t) h;let p:=oO (t:=t) h;let Y:=fS h;let Z:=fS (b:=(low t b).2) gu;let X:((low t b).1:Rat)*b=t*(low t b).2:=by exact_mod_cast c
 unfold vl;grind
def acu {t b u c:Int}(Y:b≠0)(Z:c≠0)(h:(t:Rat) / b=(u:Rat) / c):t*c=u*b:=by
 let U:=fS Y;let X:=fS Z;have:(t:Rat)*c=u*b:=by grind
 exact_mod_cast this
def ai3 (Y:0<q.2)(Z:0<r.2)(U:Po q.1 q.2=1)(X:Po r.1 r.2=1)(h:vl q=vl r):q=r:=by
 let c:=acu (t:=q.1) (b:=q.2) (u:=r.1) (c:=r.2) gu gu h;let e:=bars (t:=q.1) (b:=q.2) (u:=r.1) (c:=r.2) gu gu c;rw[af_ Y U,af_ Z X] at e;show Pl (sU avj e) (sU avk e)
def acQ {b d:Int}(Z:d≠0)(h:d ∣ b):((b.fdiv d:Int):Rat)=(b:Rat) / d:=by
 let e:=dI Z h;let Y:=fS Z;have:(b:Rat)=d*(b.fdiv d:Int):=by exact_mod_cast e
 grind
def axa (xs ys:ρ):Int:=(Rr (λa b=>a*b) xs ys).sum
def rE (xs ys:θ):Rat:=(Rr (λa b=>vl a*vl b) xs ys).sum
def acF {xs ys:θ}:rE (x::xs) (y::ys)=vl x*vl y+rE xs ys:=by simp[rE]
def kX (Z:ρ)(qs:θ)(b:Int):Prop:=Z.length=qs.length/\∀(i:Nat)(t:Int)(q:Int×Int),Z[i]?==t->qs[i]?==q->(t:Rat)=vl q*b
def mw {a b:Int}(Y:a.natAbs<=2^m)(Z:b.natAbs<=2^n):(a*b).natAbs<=2^(m+n):=by
 rw[EH,Zq];show VF Y Z
def ai4 {a b:Int}(Y:a.natAbs<=2^m)(Z:b.natAbs<=2^m):(a+b).natAbs<=2^(m+1):=by
 have:=al1 a b;rw[v7];omega
def iW {a:Int}(h:a.natAbs<=2^m)(Z:m<=n):a.natAbs<=2^n:=CP h (Vd gM Z)
def jW (h:a.natAbs<=2^m)(Z:m<n):intBits a<=n:=intBits_le_iff.mpr (K' h (Nat.pow_lt_pow_right gM Z))
def dZ (U:a.natAbs<=2^m)(X:b.natAbs<=2^n)(Y:m<30000000)(Z:n<30000000):xX a b:=#[CP (jW U Y) gM,CP (jW X Z) gM]
def Sm.up (h:Sm T B q)(Z:T<=T')(Y:B<=B'):Sm T' B' q:=(h.pos,h.low,iW h.top Z,iW h.bot Y)
def ahR {b d:Int}(P:0<b)(X:0<d):0<b.fdiv (gz b d)*d/\b ∣ b.fdiv (gz b d)*d/\d ∣ b.fdiv (gz b d)*d/\(b.fdiv (gz b d)*d).natAbs<=b.natAbs*d.natAbs:=by
 let T:=GN (t:=b) (b:=d) gu;let R:gz b d ∣ b:=Qg ..;let S:gz b d ∣ d:=Qj ..;let Z:=dI (g:=gz b d) gu R;let Q:=dI (g:=gz b d) gu S;generalize gz b d=g at*
 let Y:0<b.fdiv g:=by
  rcases am8 (b.fdiv g) 0 with z|z|z
  ·exfalso
   have:=alI T z;omega
  ·rw[z] at Z;omega
  ·show z
 show(VR Y X,#[d.fdiv g,2],#[b.fdiv g,VY ..],2)
 ·have:b.fdiv g*d=b.fdiv g*(g*d.fdiv g):=by rw[<-Q]
  rw[this];let U:b*d.fdiv g=g*b.fdiv g*d.fdiv g:=by rw[<-Z]
  rw[U];rw[<-v5,VY (b.fdiv g) g]
 ·rw[EH]
  show EM _ (by
   have:=gC (g:=g) (a:=b.fdiv g) gu;rw[<-Z] at this
   show this)
def aeA {b:Int}(Z:0<q.2)(h:q.2 ∣ b):((q.1*b.fdiv q.2:Int):Rat)=vl q*b:=by
 let e:=acQ (b:=b) (d:=q.2) gu h;have:((q.1*b.fdiv q.2:Int):Rat)=q.1*((b.fdiv q.2:Int):Rat):=by push_cast;rfl
 rw[this,e];unfold vl;grind
def kY {b d:Int}(Z:d≠0)(h:d ∣ b):(b.fdiv d).natAbs<=b.natAbs:=by
 have:=gC (g:=d) (a:=b.fdiv d) Z;rwa[<-dI Z h] at this
end Ty
namespace L2
open PySem PySem.Spec PyProof.Rows
section
variable {κ:Type}[DecidableEq κ]
def cj (BN:List (κ×V))(k:κ):Option V:=(BN.find? λZ=>decide (Z.1=k)).map (·.2)
def putK (BN:List (κ×V))(k:κ)(v:V):List (κ×V):=
 if (BN.any λZ=>decide (Z.1=k))=true then BN.map (λZ=>if Z.1=k then (Z.1,v) else Z) else BN++[(k,v)]
def cx {k:κ}(e:p.1=k):cj (p::r) k==p.2:=by simp[cj,Qb,e]
def bX {k:κ}(e:¬ p.1=k):cj (p::r) k=cj r k:=by simp[cj,Qb,e]
theorem kZ (k:κ):∀BN:List (κ×V),(BN.any λZ=>decide (Z.1=k))=(cj BN k).isSome
 | []=>rfl
 | p::r=>by
  rw[Pu];by_cases e:p.1=k
  ·simp only[cx e,Qd e,Bool.true_or,Option.isSome_some]
  ·rw[bX e,Sb e,Bool.false_or];show kZ k r
theorem adq (k j:κ)(y:V):∀BN:List (κ×V),cj (BN.map λZ=>if Z.1=k then (Z.1,y) else Z) j=(cj BN j).map λx=>if j=k then y else x
 | []=>rfl
 | p::r=>by
  let Y:=adq k j y r;rw[O_];by_cases h:p.1=k
  ·rw[iB h]
   by_cases e:p.1=j
   ·rw[cx (p:=(p.1,y)) e,cx e,FP,iB (e.symm>>>h)]
   ·rw[bX (p:=(p.1,y)) e,bX e,Y]
  ·rw[iA h]
   by_cases e:p.1=j
   ·rw[cx (p:=p) e,cx e,FP,iA (λz=>h (e>>>z))]
   ·rw[bX (p:=p) e,bX e,Y]
theorem adz (k j:κ)(y:V):∀BN:List (κ×V),cj BN k=none->cj (BN++[(k,y)]) j=if j=k then some y else cj BN j
 | [],_=>by
  by_cases e:k=j
  ·rw[iB e.symm];show cx (p:=(k,y)) e
  ·rw[iA (λz=>e z.symm)];show bX (p:=(k,y)) e
 | p::r,Z=>by
  rw[UQ];let Y:¬ p.1=k:=λz=>by erw[cx z] at Z
  rw[bX Y] at Z;let X:=adz k j y r Z;by_cases e:p.1=j
  ·rw[cx e,cx e,iA (λz=>Y (e>>>z))]
  ·rw[bX e,bX e,X]
def yk (BN:List (κ×V))(k j:κ)(y:V):cj (putK BN k y) j=if j=k then some y else cj BN j:=by
 unfold putK;by_cases a:(BN.any λZ=>decide (Z.1=k))=true
 ·rw[iB a,adq]
  rw[kZ] at a;by_cases e:j=k
  ·let(x,Y):=aja.mp a
   rw[iB e,e,Y,FP,iB rfl]
  ·rw[iA e]
   cases cj BN j with
   | none=>rfl
   | some x=>rw[FP,iA e]
 ·rw[iA a]
  show adz k j y BN ?_;rw[kZ] at a;cases q:cj BN k with
  | none=>rfl
  | some x=>rw[q] at a;show(a rfl).elim
def g9 (BN:List (κ×V))(k:κ)(v:V):(putK BN k v).length<=BN.length+1:=by
 unfold putK;split
 ·rw[CA];omega
 ·rw[GY,VN,anX];omega
def iq {k:κ}(v:V)(h:cj BN k=none):putK BN k v=BN++[(k,v)]:=by
 unfold putK;rw[kZ,h];show iA gM
def i7.k_ {o:Β}(r:i7 o u):o.isSome=u.isSome:=by
 cases o with
 | none=>cases u with
  | none=>rfl
  | some _=>show(show False from r).elim
 | some _=>cases u with
  | none=>show(show False from r).elim
  | some _=>rfl
theorem i7.getD {o:Β}(r:i7 o u)(Z:RelV d d'):RelV (o.getD d) (u.getD d'):=by
 cases o with
 | none=>cases u with
  | none=>show Z
  | some _=>show(show False from r).elim
 | some _=>cases u with
  | none=>show(show False from r).elim
  | some _=>show r
def KV.val (r:KV BN vs)(k:κ):i7 (cj BN k) (valueAt vs k):=by
 unfold KV at r
 induction r with
 | nil=>show True.intro
 | @cons p q U Z h t T=>
  let(X,S):=h;by_cases e:p.1=k
  ·let Y:q.1=k:=X.symm>>>e
   let b:valueAt (q::Z) k==q.2:=by simp[valueAt,Qb,Y]
   rwa[cx e,b]
  ·let Y:¬ q.1=k:=λz=>e (X>>>z)
   let b:valueAt (q::Z) k=valueAt Z k:=by simp[valueAt,Qb,Y]
   rwa[bX e,b]
theorem KV.any (r:KV BN vs)(k:κ):(BN.any λZ=>decide (Z.1=k))=vs.any λZ=>decide (Z.1=k):=by
 unfold KV at r
 induction r with
 | nil=>rfl
 | cons h t Y=>rw[Pu,Pu,Y,h.1]
def KV.ai5 (r:KV BN vs)(k:κ)(X:RelV y u):
  KV (BN.map λZ=>if Z.1=k then (Z.1,y) else Z) (vs.map λZ=>if Z.1=k then (Z.1,u) else Z):=by
 unfold KV at r ⊢
 induction r with
 | nil=>show .nil
 | @cons p q R S h t U=>
  rw[O_,O_];show .cons ?_ U;let(Y,T):=h;by_cases e:p.1=k
  ·rw[iB e,iB (Y.symm>>>e)];show#[Y,X]
  ·rw[iA e,iA (λz=>e (Y>>>z))];show#[Y,T]
def KV.put (r:KV BN vs)(k:κ)(Z:RelV y u):KV (putK BN k y) (stored vs k u):=by
 unfold putK stored;rw[r.any k];by_cases e:(vs.any λY=>decide (Y.1=k))=true
 ·rw[iB e,iB e];show r.ai5 k Z
 ·rw[iA e,iA e];show TF r #[O,Z]
theorem KV.length {vs:List (κ×Value)}(r:KV BN vs):BN.length=vs.length:=RY r
end
def vy (r:RelV (kV k) u):(bM P w).is k u=true:=by
 cases k with
 | inl i=>let(t,e):=(show ∃t,u=Value.int i t from r);subst e;show zac P w i t
 | inr x=>let(t,e):=(show ∃t,u=Value.str x t from r);subst e;show acW P w x t
theorem adp :∀{ks:List Key} {us:ς},Vals (ks.map kV) us->ItemsAre (bM P w) ks us
 | [],_,r=>by erw[FN] at r;show .nil
 | k::ks,_,r=>by
  rw[O_] at r;cases r with
  | cons h t=>show .cons (vy h) (adp t)
abbrev KT (H:Hp):List (List Key×V)->List (List Key×BQ×Value)->Prop:=Paired λp q=>p.1=q.1/\H q.2.1==.tup (p.1.map kV)/\RelV p.2 q.2.2
def KT.val {BN:Ψ}{xs:Ω}(r:KT H BN xs)(k:List Key):i7 (cj BN k) ((atKey xs k).map (·.2)):=by
 induction r with
 | nil=>show True.intro
 | @cons p q U Z h t T=>
  let(X,_,S):=h;by_cases e:p.1=k
  ·let Y:q.1=k:=X.symm>>>e
   let b:atKey (q::Z) k==q.2:=by simp[atKey,Qb,Y]
   rwa[cx e,b]
  ·let Y:¬ q.1=k:=λz=>e (X>>>z)
   let b:atKey (q::Z) k=atKey Z k:=by simp[atKey,Qb,Y]
   rwa[bX e,b]
def KT.ai5 {BN:Ψ}{xs:Ω}(r:KT H BN xs)(k:List Key)(U:RelV y u):
  KT H (BN.map λY=>if Y.1=k then (Y.1,y) else Y) (xs.map (putAt k u)):=by
 induction r with
 | nil=>show .nil
 | @cons p q Q R h t T=>
  rw[O_,O_];show .cons ?_ T;let(Z,X,S):=h;unfold putAt;by_cases e:p.1=k
  ·rw[iB e,iB (Z.symm>>>e)];show(Z,X,U)
  ·rw[iA e,iA (λz=>e (Z>>>z))];show(Z,X,S)
def KT.put {BN:Ψ}{xs:Ω}(r:KT H BN xs)(k:List Key)(X:H b==.tup (k.map kV))(Z:RelV y u):
  KT H (putK BN k y) (storedH xs k b u):=by
 let e:(BN.any λY=>decide (Y.1=k))=(atKey xs k).isSome:=by
  rw[kZ,(r.val k).k_,am_]
 unfold putK storedH;rw[e];by_cases q:(atKey xs k).isSome=true
 ·rw[iB q,iB q];show r.ai5 k Z
 ·rw[iA q,iA q];show TF r (O,X,Z)
def KT.keeps {BN:Ψ}{xs:Ω}(r:KT H BN xs)(Z:∀b ys,H b==.tup ys->H' b==.tup ys):KT H' BN xs:=
 Paired.dP r λ_ _ z=>(z.1,Z\z.2.1,z.2.2)
section
variable {P:HV}{w:World}{H:Hp}{h:Heap}{a:BQ}
def ahr (Z:lR P w H h)(e:Rd H a u):ck P w H h a u:=e.ok Z
def pV (Z:lR P w H h)(e:Rd H a (.dK BN)):BN.length<=CM/\(a⊆VO)=false/\∃vs,KV BN vs/\h.DictOf (bM P w) a vs:=
 show ck P w H h a (.dK BN) from ahr Z e
def rF (Z:lR P w H h)(e:H a==.dK BN):BN.length<=CM/\(a⊆VO)=false/\∃vs,KV BN vs/\h.DictOf (bM P w) a vs:=pV Z (.inl e)
def uu (Z:lR P w H h)(e:H a==.tup (ks.map kV)):(tupleKind (bM P w)).is h ks a:=by
 let(_,T,r,o,U,X,n,Y):=(show ck P w H h a (.tup (ks.map kV)) from Z a _ e);show(o,T.toArray,n,U,X,Y,~~~adp r)
def ym (Y:lR P w H h)(e:Rd H a (.dT BN)):BN.length<=CM/\(a⊆VO)=false/\
  ∃xs,KT H BN xs/\h.DictOfH (tupleKind (bM P w)) a xs:=by
 let(z,y,xs,r,o,M,L,N,Q,R,S,T):=(show ck P w H h a (.dT BN) from ahr Y e);show(z,y,xs,r,o,M,L,N,Q,R,S,λx Z=>?_,T)
 let all:∀{l:Ψ} {m:Ω},KT H l m->∀x∈m,(tupleKind (bM P w)).is h x.1 x.2.1:=by
  intro l m q
  induction q with
  | nil=>intro x Z;show nomatch Z
  | @cons p q I J X t U=>
   intro x Z
   rcases QQ.mp Z with e|Z
   ·subst e
    show uu Y (![<-X.1] X.2.1)
   ·show U x Z
 show all r x Z
def anr (Z:lR P w H h)(e:H a==.dT BN):BN.length<=CM/\(a⊆VO)=false/\
  ∃xs,KT H BN xs/\h.DictOfH (tupleKind (bM P w)) a xs:=ym Z (.inl e)
end
def gU (H:Hp)(a:BQ)(y:V)(r:Β):Prop:=
 (∃Z k,Rd H a (.dK Z)/\y=kV k/\r=cj Z k)\/∃Z k b,Rd H a (.dT Z)/\y=⇑b/\H b==.tup (k.map kV)/\r=cj Z k
def jP (H:Hp)(a:BQ)(y v:V)(H':Hp):Prop:=
 (∃Z k,H a==.dK Z/\y=kV k/\Z.length<CM/\H'=upd H a (.dK (putK Z k v)))\/
 ∃Z k b,H a==.dT Z/\y=⇑b/\H b==.tup (k.map kV)/\Z.length<CM/\H'=upd H a (.dT (putK Z k v))
theorem gU.k {BN:δ}{k:Key}(e:H a==.dK BN):gU H a (kV k) (cj BN k):=.inl (BN,k,.inl e,8)
theorem jP.k {BN:δ}{k:Key}(e:H a==.dK BN)(Z:BN.length<CM):jP H a (kV k) v (upd H a (.dK (putK BN k v))):=.inl (BN,k,e,O,Z,O)
section
variable {X:Cx}{AP:ζ}{Z:St}{H:Hp}{s:CH}{a:BQ}{y v:V}{u r:Value}{o:Β}{A:LA}{E:γ}
def Inv.big (I:Inv X AP Z H s):VO<↑s:=by
 let h:J_<↑s:=(I.mod.glob.keeps I.bk).lt;show vv gM h
def ae6 {Q:γ}(J:A.units+1<V6)(I:Inv X AP Z H s)(g:gU H a y (some v))(M:RelV y u)(h:∀U s',Inv X AP Z H s' ->RelV v U ->Q U s'):
  BX .q A (getItem ⇑a u) Q E s:=by
 rcases g with ⟨B,k,e,R,l⟩|⟨B,k,b,e,R,C,l⟩
 ·subst R
  let(z,D,L,Y,P):=pV I.bU e;let(U,T,N):=i7.some_of (v:=v) (o:=valueAt L k) (![l] (Y.val k));show wpAny_getItem_of (vy M) P.mapOf T (h U _ (I.tok _) N)
 ·subst R
  cases (show u=Value.ref b from M);let(z,D,xs,Y,P):=ym I.bU e;let(U,T,N):=i7.some_of (v:=v) (o:=(atKey xs k).map (·.2)) (![l] (Y.val k));let(p,G,S):=OR.mp T;show wpAny_getItem_heap (Ur J) (uu I.bU C) P G ?_;rw[S];show h U _ (I.tok _) N
def axb {Q:γ}(P:A.units+1<V6)(I:Inv X AP Z H s)(g:gU H a y o)(R:RelV y u)(h:∀s',Inv X AP Z H s' ->Q (.bool o.isSome) s'):
  BX .q A (V2 .In u ⇑a) Q E s:=by
 rcases g with ⟨M,k,e,T,l⟩|⟨M,k,b,e,T,N,l⟩
 ·subst T
  let(z,U,L,Y,S):=pV I.bU e;show wpAny_in_of (vy R) U S.mapOf ?_;rw[<-(Y.val k).k_,<-l];show h _ (I.tok _)
 ·subst T
  cases (show u=Value.ref b from R);let(z,U,xs,Y,S):=ym I.bU e;show wpAny_in_heap (Ur P) (uu I.bU N) U S ?_;let q:=(Y.val k).k_;rw[am_] at q;rw[<-q,<-l];show h _ (I.tok _)
def aeY {Q:γ}(P:A.units+1<V6)(I:Inv X AP Z H s)(g:gU H a y o)(R:RelV y u)(h:∀s',Inv X AP Z H s' ->Q (.bool (!o.isSome)) s'):
  BX .q A (V2 .NotIn u ⇑a) Q E s:=by
 rcases g with ⟨M,k,e,T,l⟩|⟨M,k,b,e,T,N,l⟩
 ·subst T
  let(z,U,L,Y,S):=pV I.bU e;show wpAny_notIn_of (vy R) U S.mapOf ?_;rw[<-(Y.val k).k_,<-l];show h _ (I.tok _)
 ·subst T
  cases (show u=Value.ref b from R);let(z,U,xs,Y,S):=ym I.bU e;show wpAny_notIn_heap (Ur P) (uu I.bU N) U S ?_;let q:=(Y.val k).k_;rw[am_] at q;rw[<-q,<-l];show h _ (I.tok _)
def xy (I:Inv X AP Z H s)(U:Mut (H a))(T:WV a s.heap h')(S:∃q,h'.get? a==q)(Y:ck X.prog X.w (upd H a ob) h' a ob):
  Inv X AP Z (upd H a ob) {s with heap:=h',toks:=t'}:=
 I.write (x:=a) (e:=a) U .V (λb q R z=>(T.2 b R).trans z) S Y
def Q8 {BN:δ}(z:BN.length<=CM)(U:(a⊆VO)=false)(Y:KV BN vs)(dd:h'.DictOf (bM P w) a vs):
  ck P w H' h' a (.dK BN):=(z,U,vs,Y,dd)
def ad9 {Q:Ρ}(m:A.units+1<V6)(I:Inv X AP Z H s)(g:jP H a y v H')(D:RelV y u)(C:RelV v r)(h:∀s',Inv X AP Z H' s' ->Q () s'):
  BX .q A (setItem ⇑a u r) Q E s:=by
 rcases g with ⟨T,k,e,L,l,J⟩|⟨T,k,b,e,L,x,l,J⟩
 ·subst L J
  let(z,M,p,Y,G):=rF I.bU e;let R:p.length<=CM:=by rwa[<-Y.length]
  let N:(putK T k v).length<=CM:=by have:=g9 T k v;omega
  show wpAny_setItem_pairs (hsz:=R) (vy D) G λB U P=>h _ ?_;let j:∃q,B.get? a==q:=let ⟨q,_,_,S,_⟩:=U;#[q,S];show xy I (![e] True.intro) P j (Q8 N M (Y.put k C) U)
 ·subst L J
  cases (show u=Value.ref b from D);let(z,M,xs,Y,G):=anr I.bU e;let R:xs.length<=CM:=by rwa[<-RY Y]
  let N:(putK T k v).length<=CM:=by have:=g9 T k v;omega
  show wpAny_setItem_heap (hsz:=R) (Ur m) (uu I.bU x) G λB U P=>h _ ?_;let(q,es,ep,S,h2,h3,f,_,i):=U;show xy I (![e] True.intro) P #[q,S] (N,M,_,(Y.put k x C).keeps λc ys ec=>?_,q,es,ep,S,h2,h3,f,i);rwa[ah (aml ec e (λz=>nomatch z))]
end
section
variable {X:Cx}{AP:ζ}{Z:St}{H:Hp}{s:CH}{a:BQ}{BN:δ}{k:Key}{u:Value}{A:LA}{E:γ}
def ans {Q:γ}(I:Inv X AP Z H s)(e:Rd H a (.dK BN))(h:∀t s',Inv X AP Z H s' ->Q (.int BN.length t) s'):BX .q A (call (.builtin "len") [⇑a]) Q E s:=by
 let(z,U,S,Y,T):=pV I.bU e;show call_len_dict U T (by rw[<-Y.length];rw[Uh] at z;omega) ?_;rw[<-Y.length];show h\(I.tok _)
end
def ant (i:Expr):Prop:=∀Z Y,subscripted i false Z Y=operate [Z,Y] (getItem Z Y)
def aeZ {E:γ}{T id:String}{Q:γ}
  (L:typeLookup (.type T) "__getitem__"=pure (some (.builtin id))) (M:ant slice)
  (h:BX .s A (CQ value env) (λo S=>BX .s A (CQ slice env) (λi Y=>Y.TypeIs o T/\BX .s A (getItem o i) Q E Y) E S) E s):
  BX .s A (CQ (.Subscript value slice pos) env) Q E s:=by
 show Subscript_ (Oy h (λo S P=>Oy P (λi Y X=>?_) λ_ _ x=>x) λ_ _ x=>x);let(R,X):=X;unfold subscriptTail;show BR ?_;rw[getitemInPython_of_ne R.not_modules];show BR (wpAny_specialOf R L ?_)
 let Z:BX .s A (subscripted slice false o i) (λr U=>BX .s A (letTemporaryGo value o r >>=λ_=>pure r) Q E U) E Y:=by
  rw[M o i];show wpAny_operating (Oy X (λr U N=>BR (wpAny_letTemporaryGo (CO N))) λ_ _ x=>x)
 first
  | show CO (BR Z)
  | show BR (CO (BR Z))
  | show BR Z
def acv {Z:St}(I:Inv X AP Z H s)(g:gU H a y o):s.TypeIs ⇑a "dict":=by
 rcases g with ⟨U,k,e,_,_⟩|⟨U,k,b,e,_,_,_⟩
 ·let(_,_,T,_,Y):=pV I.bU e
  show Y.typeIs
 ·let(_,_,xs,_,Y):=ym I.bU e
  show Y.typeIs
inductive σ8 (Q:VK)(x:V)(y:V)(Z:Hp):Prop
|mk (a v:_)(_:x=.ref a)(_:gU Z a y (some v))(_:Q v Z)
def ae0 (ty:TE)(Z:L2.St)(Q:VK)(x:V)(Y:Hp):Prop:=ty Z Y (σ8 Q x)
def anu (Y ty:TE):TE:=λZ H Q=>Y Z H (ae0 ty Z Q)
inductive aht (Q:VK)(y:V)(x:V)(Z:Hp):Prop
|mk (a o:_)(_:x=.ref a)(_:gU Z a y o)(_:Q (.bl o.isSome) Z)
def ai7 (Y:TE)(Z:L2.St)(Q:VK)(y:V)(X:Hp):Prop:=Y Z X (aht Q y)
def axc (ty Y:TE):TE:=λZ H Q=>ty Z H (ai7 Y Z Q)
inductive OY (Q:VK)(y:V)(x:V)(Z:Hp):Prop
|mk (a o:_)(_:x=.ref a)(_:gU Z a y o)(_:Q (.bl (!o.isSome)) Z)
def acS (Y:TE)(Z:L2.St)(Q:VK)(y:V)(X:Hp):Prop:=Y Z X (OY Q y)
def ae1 (ty Y:TE):TE:=λZ H Q=>ty Z H (acS Y Z Q)
inductive σ9 (D:Ends)(Z:L2.St)(v:V)(x:V)(y:V)(X:Hp):Prop
|mk (a Y:_)(_:x=.ref a)(_:jP X a y v Y)(_:D.nx Z Y)
def ae2 (ty:TE)(D:Ends)(Z:L2.St)(v:V)(x:V)(Y:Hp):Prop:=ty Z Y (σ9 D Z v x)
def ae3 (Y:TE)(ty:TE)(D:Ends)(Z:L2.St)(v:V)(X:Hp):Prop:=Y Z X (ae2 ty D Z v)
def anv (X ty Y:TE):TS:=λD Z H=>Y Z H (ae3 X ty D Z)
section
variable {X:Cx}{o i e value:Expr}{pos pos' xQ:Pos}{td ty tv:TE}
def iR (M:X.A.units+1<V6)(J:PE X o td)(G:PE X i ty)(L:ant i):PE X (.Subscript o i pos) (anu td ty):=by
 intro U s Z H Q I h;show aeZ PySem.F.slot_dict_getitem.lookup L (cH (J U s Z H _ I h) λu T ⟨x,z,C,R,N⟩=>cH (G U T Z z _ C N) λk m ⟨y,B,Y,S,a,v,E,g,P⟩=>?_);subst E;obtain rfl:u=Value.ref a:=R;show#[acv Y g,ae6 M Y g S λq p D w =>(v,B,D,w,P)]
def Q9 (M:X.A.units+1<V6)(J:PE X i ty)(L:PE X o td):PC X .In i o (axc ty td):=by
 intro Y s Z H Q I h;show cH (J Y s Z H _ I h) λp U ⟨y,z,C,T,P⟩=>cH (L Y U Z z _ C P) λu q ⟨x,B,D,S,a,N,G,g,R⟩=>?_;subst G;obtain rfl:u=Value.ref a:=S;show axb M D g T λw E=>(.bl N.isSome,B,E,O,R)
def lh (M:X.A.units+1<V6)(J:PE X i ty)(L:PE X o td):PC X .NotIn i o (ae1 ty td):=by
 intro Y s Z H Q I h;show cH (J Y s Z H _ I h) λp U ⟨y,z,C,T,P⟩=>cH (L Y U Z z _ C P) λu q ⟨x,B,D,S,a,N,G,g,R⟩=>?_;subst G;obtain rfl:u=Value.ref a:=S;show aeY M D g T λw E=>(.bl (!N.isSome),B,E,O,R)
def d3 (J:X.A.units+1<V6)(E:PE X o td)(C:PE X i ty)(L:PE X value tv)(G:Zg value (some (.Subscript o i pos')) pos.line X.env=pure false):
  PS X (.Assign [.Subscript o i pos'] value pos) (anv td ty tv):=by
 intro Y s Z H D I h;show wpAny_Assign_Subscript (cH (L Y s Z H _ I h) λr T ⟨v,j,p,Q,M⟩=>cH (E Y T Z j _ p M) λu U ⟨x,k,q,R,N⟩=>cH (C Y U Z k _ q N) λb c ⟨y,H3,w,S,a,m,B,g,P⟩=>?_) G;subst B;obtain rfl:u=Value.ref a:=R;show ad9 J w g S Q λf z=>(Z,m,z,P)
end
def adS (h:Heap)(Z:VO<h.objs.size):ck P w H (h.push ("dict"^^^.dict #[])) h.objs.size (.dK []):=
 (RQ _,beq_eq_false_iff_ne.mpr (CV (QV Z)),[],.nil,Heap.DictOf.new h)
def ai8:TE:=λ_ H Q=>∀p,H p=none->Q ⇑p (upd H p (.dK []))
section
variable {X:Cx}{pos:Pos}
def fh:PE X (.Dict [] [] pos) ai8:=λY s Z H Q I h=>
 wpAny_Dict_empty (.ref ↑s,_,I.laid (a:=↑s) (o:=.dK []) (t':=s.toks) (λ_ _ q=>GQ _ q) (CK _) (adS s.heap I.big),O,h _ (I.bU.fresh (CK _)))
end
def Q_:List (TE×TE)->St->Hp->(List (V×V)->Hp->Prop)->Prop
 | [],_,H,Q=>Q [] H
 | (X,Y)::r,Z,H,Q=>X Z H λx S=>Y Z S λy T=>Q_ r Z T λps U=>Q ((x,y)::ps) U
abbrev zv1:List (V×V)->List (Value×Value)->Prop:=Paired λp q=>RelV p.1 q.1/\RelV p.2 q.2
def PPs (X:Cx)(S:Pos)(U:List (Option Expr))(Y:ω)(T:List (TE×TE)):Prop:=
 ∀(N:ζ)(s:CH)(Z:St)(H:Hp)(Q:List (V×V)->Hp->Prop),Inv X N Z H s->Q_ T Z H Q->
  BX .q X.A (evalPairs (pairTrees U Y X.env S)) (λM L=>∃R P,Inv X N Z P L/\zv1 R M/\Q R P) X.xe s
def ahA :PPs X pos [] [] []:=λY s Z H Q I h=>pairTrees_nil_walk ([],H,I,.nil,h)
def yn (D:PE X k tk)(G:PE X v tv)(E:PPs X pos ks vs trs):
  PPs X pos (some k::ks) (v::vs) ((tk,tv)::trs):=λU s Z H Q I h=>
 pairTrees_cons_walk (cH (D U s Z H _ I h) λu S ⟨x,q,A,P,L⟩=>cH (G U S Z q _ A L) λo T ⟨y,w,B,R,M⟩=>
  cH (E U T Z w _ B M) λp m ⟨J,z,C,Y,N⟩=>((x,y)::J,z,C,.cons #[P,R] Y,N))
def eU (BN Z:δ):List (Key×V):=Z.foldl (λY X=>putK Y X.1 X.2) BN
def KV.merge:∀{Z:δ} {rs:List (Key×Value)} {BN:δ} {vs:List (Key×Value)},KV Z rs->KV BN vs->KV (eU BN Z) (merged vs rs):=by
 intro Z rs BN vs r;unfold KV at r
 induction r generalizing BN vs with
 | nil=>intro q;show q
 | @cons p q T U h t X=>
  intro Y
  let e:KV (putK BN p.1 p.2) (stored vs q.1 q.2):=by
   have:=Y.put p.1 h.2;rw[<-h.1];show this
  show X e
theorem kj:∀(Z BN:δ),(eU BN Z).length<=BN.length+Z.length
 | [],BN=>by change BN.length<=BN.length+0;omega
 | p::r,BN=>by
  let X:=kj r (putK BN p.1 p.2);let Y:=g9 BN p.1 p.2;change (eU (putK BN p.1 p.2) r).length<=_;rw[VN];omega
theorem alZ :∀{BN:δ} {ws:List (Value×Value)},zv1 (BN.map λZ=>(kV Z.1,Z.2)) ws->∃rs,Carries (bM P w) ws rs/\KV BN rs
 | [],_,r=>by erw[FN] at r;show([],True.intro,.nil)
 | p::BN,_,r=>by
  rw[O_] at r;cases r with
  | @cons a b as bs h t=>
   let(rs,c,q):=alZ (P:=P) (w:=w) t;let(X,Y):=b;show((p.1,Y)::rs,(vy h.1,O,c),.cons #[O,h.2] q)
def anw (Y:List (TE×TE)):TE:=λZ H Q=>∀p,H p=none->Q_ Y Z (upd H p (.dK [])) λS T=>T p==.dK []/\∃X:List (Key×V),S=X.map (λU=>(kV U.1,U.2))/\X.length<=15/\Q ⇑p (upd T p (.dK (eU [] X)))
def agw (h:PPs X pos keys values trs)(j:keys.all (·.isSome)=true)(A:keys.length=values.length)(p:keys≠[])
  (T:keys.length<=15):PE X (.Dict keys values pos) (anw trs):=by
 intro g s Z H Q I q;let B:=I.bU.fresh (CK ↑s);let i:=I.laid (a:=↑s) (o:=.dK []) (h':=s.heap.push ("dict"^^^.dict #[])) (t':=s.toks) (λ_ _ q=>GQ _ q) (CK _) (adS s.heap I.big);show wpAny_Dict_walk (knd:=bM X.prog X.w) j A p T (cH (h g _ Z _ _ i (q _ B)) λf b ⟨ps,H2,S,U,e,R,m,lk,G⟩=>?_);subst m;let(M,c,L):=alZ (P:=X.prog) (w:=X.w) U;let(z,x,N,J,k):=rF S.bU e;cases J;show(M,c,k,λh' Y D=>(.ref ↑s,_,2,O,G))
 let E:(eU [] R).length<=CM:=by
  let u:=kj R [];rw[anX] at u;rw[Uh];omega
 let y:∃q,h'.get? ↑s==q:=let ⟨q,_,_,C,_⟩:=Y;#[q,C];show xy S (![e] True.intro) D y (Q8 E x (L.merge .nil) Y)
structure M1 (X:Cx)(o:Expr)(m:Str)(apos:Pos)(e:Expr)(dS:Pos):Prop where
 gV:WX o m X.env (CQ o X.env)=CQ o X.env
 few:((QS dS (CW [e] X.env)).all (λx=> !x.1) && (EL dS (ES [] X.env)).all (λx=>x.1.isSome)
  && decide (([e]:List Expr).length+([]:List Keyword).length+(if ([]:List Keyword).isEmpty then 0 else 1)<30))=true
 line:(apos.endLine⊆dS.line)=true
 trees:QS dS (CW [e] X.env)=[(false,CQ e X.env)]
structure M2 (X:Cx)(o:Expr)(m:Str)(apos:Pos)(e f:Expr)(dS:Pos):Prop where
 gV:WX o m X.env (CQ o X.env)=CQ o X.env
 few:((QS dS (CW [e,f] X.env)).all (λx=> !x.1) && (EL dS (ES [] X.env)).all (λx=>x.1.isSome)
  && decide (([e,f]:List Expr).length+([]:List Keyword).length+(if ([]:List Keyword).isEmpty then 0 else 1)<30))=true
 line:(apos.endLine⊆dS.line)=true
 trees:QS dS (CW [e,f] X.env)=[(false,CQ e X.env),(false,CQ f X.env)]
def IsD (H:Hp)(a:BQ):Prop:=(∃Z,Rd H a (.dK Z))\/∃Z,Rd H a (.dT Z)
def Ra {Z:St}(I:Inv X AP Z H s)(d:IsD H a):
  s.TypeIs ⇑a "dict"/\(∀b,Value.ref a=⇑b->∃Y,s.heap.get? b==Y/\Y.dict=none)/\(a⊆VO)=false:=by
 rcases d with ⟨Q,e⟩|⟨Q,e⟩
 ·let(_,T,P,_,U):=pV I.bU e
  show(U.typeIs,λb q=>?_,T);cases q;let(Y,_,_,R,S,_):=U;show(Y,R,S.2.1)
 ·let(_,T,xs,_,U):=ym I.bU e
  show(U.typeIs,λb q=>?_,T);cases q;let(Y,_,_,R,S,_):=U;show(Y,R,S.2.1)
section
variable {X:Cx}{AP:ζ}{Z:St}{H:Hp}{s:CH}{a:BQ}{y d:V}{u r:Value}{o:Β}{A:LA}{E:γ}
def ai9 {Q:γ}(M:A.units+1<V6)(I:Inv X AP Z H s)(g:gU H a y o)(P:RelV y u)(N:RelV d r)(h:∀R s',Inv X AP Z H s' ->RelV (o.getD d) R ->Q R s'):
  BX .q A (call (.builtin "dict.get") [⇑a,u,r]) Q E s:=by
 rcases g with ⟨J,k,e,S,l⟩|⟨J,k,b,e,S,L,l⟩
 ·subst S
  let(z,T,G,Y,U):=pV I.bU e;show TJ PySem.F.slot_dict_get U.typeIs PySem.F.entry_dict_get (PySem.F.args_dict_get_3 _ _ _) (meets_dict_get_default (bM X.prog X.w) a (vy P) T r) (_,U.mapOf,h _ _ (I.tok _) ?_);rw[l];show(Y.val k).getD N
 ·subst S
  cases (show u=Value.ref b from P);let(z,T,xs,Y,U):=ym I.bU e;show TJ PySem.F.slot_dict_get U.typeIs PySem.F.entry_dict_get (PySem.F.args_dict_get_3 _ _ _) (meetsH_dict_get_default (tupleKind (bM X.prog X.w)) a b T r) (Ur M,k,xs,uu I.bU L,U,h _ _ (I.tok _) ?_);rw[l];show(Y.val k).getD N
end
def adh (ty:TE)(tx:TE)(Z:L2.St)(Q:VK)(x:V)(X:Hp):Prop:=∃a,x=⇑a/\IsD X a/\ty Z X λy U=>tx Z U λz Y=>∃o,gU Y a y o/\Q (o.getD z) Y
def ai' (Y ty tx:TE):TE:=λZ H Q=>Y Z H (adh ty tx Z Q)
section
variable {X:Cx}{o e f:Expr}{apos dS:Pos}{td ty tx:TE}
def yr (D:X.A.units+1<V6)(C:PE X o td)(w:PE X e ty)(B:PE X f tx)(m:M2 X o "get" apos e f dS):PE X (.Call (.Attribute o "get" apos) [e,f] [] dS) (ai' td ty tx):=by
 intro Y s Z H Q I h;show wpAny_Call_method m.gV m.few m.line PySem.F.plainAttrs_dict PySem.F.slot_dict_get PySem.F.type_dict_get (cH (C Y s Z H _ I h) λu P ⟨x,b,U,L,a,q,d,E⟩=>?_);subst q;obtain rfl:u=Value.ref a:=L;let(S,T,_):=Ra U d;show(S,T,2);rw[m.trees]
 show TY rfl (Calls.evalArgs_plain (EU (cH (w Y P Z b _ U E) λiv R ⟨y,c,j,M,G⟩=>
  EU (cH (B Y R Z c _ j G) λfv s3 ⟨z,i,k,N,ov,g,J⟩=>TQ ?_))))
 show ai9 D k g M N λw' s4 p BM =>(_,i,p,BM,J)
end
end L2
namespace Ty
open PySem PySem.Spec PyProof.Rows L2
section
variable {X:Cx}
def ae5 {Z:L2.St}(I:Inv X AP Z H s):s.heap.NoSeer:=I.ok.mod.seer.keeps I.bk
def cp.py (r:cp k A)(h:32<=k):A.depth+Builtin.pylongFrames<wj:=by
 have:=r.dp;have:Builtin.pylongFrames=100:=rfl;omega
def gG (T:X.prog.given.tree=none)(S:X.A.depth+Builtin.pylongFrames<wj)(J:X.stack=env::l)(L:env.scope.isGenerator=false)(M:env.scope.isCoroutine=false)(N:env.builtins=OM)(P:env.globals=J_):
  oJ X (Vw .FloorDiv) (rI aiJ λi j=>.int (i.fdiv j)):=by
 intro E s Z H x y v u Q I U Y h;let(i,j,rfl,rfl,R,q):=h;let(t,rfl):=U;let(G,rfl):=Y;show floordiv_int R (↥_,H,I.tok _,#[0],q) (.inr (PylongRoom.of I.nolimit S (SeerAt.of (ae5 I) T (![I.ok.frames,J]) L M N P)))
end
section
variable {prog:HV}{w:World}{A:LA}{E:γ}{s:CH}{KK:Type}[DecidableEq KK]{knd:KeyKind prog w KK}
def ac6 (U:s.heap.DictOf knd d BN)(h:Q false s):BX .s A (Builtin.List.listLengthHint ⇑d) Q E s:=by
 unfold Builtin.List.listLengthHint;show BR (wpAny_specialOf (name:=Rj "__len__") U.typeIs F.slot_dict_len.lookup ?_);generalize Y:("dict.__len__":String)=X
 wp_delta
 rw[show splitId X==("dict","__len__") from by subst Y;decide+kernel];subst Y;show BR (wpAny_isInstance (T:="dict") (b:=true) U.typeIs (by rw[isSubtype_type];kernel_rfl) ?_);show wpAny_ite_split (λZ=>CC Z gM) (λ_=>?_);show wpAny_ite_split (λ_=>?_) (λZ=>CC d_k Z);show BR (wpAny_typeOf (T:="dict") U.typeIs ?_);show CO h
def acE {R:Θ}(hh:A.handled=none)(hd:(d⊆VO)=false)(N:s.heap.DictAt knd d BN ep)(G:BN.length<=CM)(S:BQ)(Y:Value)(c₀:Nat)(u:s.heap.get? S==("list"^^^.seq #[] c₀))
  (hR:∀a B y M,(∀b o,b≠S->s.heap.get? b==o->a.get? b==o)->a.get? S=={cls:=.type "list",dict:=none,data:=.seq y M,slots:= #[]}->
   ItemsOf (λi v=>∃k x,BN[i]?==(k,x)/\knd.is k v=true) y BN.length->R (.ok (.ret Y)) {s with heap:=a,toks:=B}):
  BX .s A.in1 (adQ ⇑S ⇑d Y)
   (λfin U=>match fin with | .done f=>R (.ok f) U | .again M=>M.quiet=true/\Ri .s A M R U) (λe U=>R (.error e) U) s:=by
 let(od,es,I,m8,jQ,hk0,hp0,hn0):=id N;let hT:s.TypeIs ⇑d "dict":=N.dictOf.typeIs
 let X:S≠d:=λe=>by
  rw[e] at u;erw[u] at I;cases jQ
 let m:d≠↑s:=QV (GK I);let P:S≠↑s:=QV (GK u)
 let g:S∉[↑s,d]:=λN=>by
  rcases QQ.mp N with z|z
  ·show P z
  ·show X (OK.mp z)
 let W:=(Walks.dictKeys (knd:=knd) (A:=A.in1) hh ↑s d m BN ep).toS;unfold adQ;show BR (wpAny_typeOf (T:="dict") hT ?_);let h1:Builtin.List.listSameRef ⇑S ⇑d=false:=by simp[Builtin.List.listSameRef,X]
 let h2:(Value.type "dict"⊆Value.type "list")=false:=gM
 let h3:(Value.type "dict"⊆Value.type "tuple")=false:=gM
 simp only[h1,h2,h3,auX,zp,if_false];show BR (wpAny_pyIter_dict hd N ?_);let Q:(s.heap.push ("dict_keyiterator"^^^[⇑d,.int 0 0,.int BN.length 0,.int ep 0])).DictAt knd d BN ep:=N.at' λo e=>GQ _ e;show BR (VT (ac6 (knd:=knd) Q.dictOf ?_));let Z:=GQ ("dict_keyiterator"^^^[⇑d,.int 0 0,.int BN.length 0,.int ep 0]) u;let J:(s.heap.push ("dict_keyiterator"^^^[⇑d,.int 0 0,.int BN.length 0,.int ep 0])).IsKeyIter ↑s d 0 BN.length ep:=(_,Py _ rfl,8)
 let L:∀(h:Heap)(c₁ B:Nat),h.IsKeyIter ↑s d 0 BN.length ep->h.DictAt knd d BN ep->(∀b o,b≠S->s.heap.get? b==o->h.get? b==o)->
   h.get? S==("list"^^^.seq #[] c₁)->Ri .s A (.builtin "list.extend.loop" #[[⇑S,.ref ↑s,Y],[]]) R {s with heap:=h,toks:=B}:=by
  intro h c₁ B q p hk Z;show codeAny_extend_loopS W G S g Y BN.length 0 _ #[] c₁ rfl (RQ _) #[q,p] Z (ItemsOf.nil _) λU y M H c nQ=>?_;rw[Moved.eq_with H];show hR U.heap U.toks y M (λb o D e=>H.heap b o (λVJ=>?_) (hk b o D e)) c nQ
  rcases QQ.mp VJ with e'|VJ
  ·show D e'
  ·show CC (GK e) (![OK.mp VJ] (Sa _))
 show wpAny_ite_split (λ_=>?_) (λ_=>CO #[plainId_quiet F.plain_extend_loop _,L _ c₀ _ J Q (λb o _ e=>GQ _ e) Z]);show BR (wpAny_rule ?_);show BR ?_;change BX _ _ (updateSeq S (·.push .none) >>=λ_=>updateSeq S (·.pop)) _ _ _;show BR (agy Z rfl ?_);let C:=EV (uL (·.push Value.none)) Z rfl;show agy (hz:=by seq_fits) C rfl ?_;let j:=EV (uL (·.pop)) C rfl;show CO #[plainId_quiet F.plain_extend_loop _,L _ _ _ (J.at λo e=>?_) (Q.at' λo e=>?_) (λb o D e=>?_) j]
 ·show(Vx\P).trans ((Vx\P).trans e)
 ·show(Vx\X).trans ((Vx\X).trans e)
 ·show(Vx\(CV D)).trans ((Vx\(CV D)).trans (GQ _ e))
def zal {R:Θ}(m:A.handled=none)(j:(d⊆VO)=false)(C:s.heap.DictAt knd d BN ep)(X:BN.length<=CM)(S:BQ)(U:s.heap.get? S==("list"^^^.seq #[]))
  (g:∀T M P Z,(∀b o,b≠S->s.heap.get? b==o->T.get? b==o)->T.get? S=={cls:=.type "list",dict:=none,data:=.seq P Z,slots:= #[]}->
   ItemsOf (λi v=>∃k x,BN[i]?==(k,x)/\knd.is k v=true) P BN.length->R (.ok (.ret .none)) {s with heap:=T,toks:=M}):
  BX .s A.in1 (Builtin.«list.__init__» #[[⇑S,⇑d],[]])
   (λD Q=>match D with | .done f=>R (.ok f) Q | .again Z=>Z.quiet=true/\Ri .s A Z R Q) (λe Q=>R (.error e) Q) s:=by
 let(c,es,J,a,z,q,y,u):=id C
 let H:S≠d:=λe=>by
  rw[e] at U;erw[U] at J;cases z
 change BX _ _ (do let L <- Builtin.List.listItems ⇑S;Builtin.List.listUpdate ⇑S (λ_=> #[]);letGo L.toList.reverse;adQ ⇑S ⇑d .none) _ _ s;show BR ?_;unfold Builtin.List.listItems;show BR (wg U rfl (CO ?_));change BX _ _ (updateSeq S (λ_=> #[]) >>=λ_=>letGo (#[]:Array Value).toList.reverse >>=λ_=>adQ ⇑S ⇑d .none) _ _ s;show BR (agy U rfl ?_);let I:=EV (uL (λ_=>(#[]:Array Value))) U rfl
 let Y:∀b o,b≠S->s.heap.get? b==o->(s.heap.update S (uL (λ_=>(#[]:Array Value)))).get? b==o:=
  λb o N e=>(Vx\(CV N)).trans e
 show BR (wpAny_letGo ?_);show acE m j (C.at' λo e=>Y d o (CV H) e) X S .none _ I λT M P Z p G B=>?_;show g T M P Z (λb o N e=>p b o N (Y b o N e)) G B
def zag {Q:γ}(I:A.handled=none)(H:(d⊆VO)=false)(L:s.heap.DictAt knd d BN ep)(Y:BN.length<=CM)
  (G:∀h' U X S,(∀b o,s.heap.get? b==o->h'.get? b==o)->
   h'.get? ↑s=={cls:=.type "list",dict:=none,data:=.seq X S,slots:= #[]}->ItemsOf (λi v=>∃k x,BN[i]?==(k,x)/\knd.is k v=true) X BN.length->Q (.ref ↑s) {s with heap:=h',toks:=U}):
  BX .s A (call (.type "list") [⇑d]) Q E s:=by
 show callType_codes (Q₁:=λZ R=>Z=.ref ↑s/\R=(s⊂s.heap.push ("list"^^^.seq #[]))) F.called_list (F.typeCall_list_1 _) F.entry_list_init
  (code_list_new _ #[8]) λZ R N=>?_
 let(rfl,rfl):=N;let P:(s.heap.push ("list"^^^.seq #[])).get? ↑s==("list"^^^.seq #[]):=Py _ rfl;show((_,P,O),F.args_list_init_2 _ _,zal (A:=A.in1) I H (L.at' λo e=>GQ _ e) Y _ P λh' U X S J T M=>?_);show#[O,G h' U X S (λb o e=>J b o (QV (GK e)) (GQ _ e)) T M]
end
theorem aV :∀{X:List Y} {Z:List β} {i:Nat} {a:Y},Paired F X Z->X[i]?==a->∃b,Z[i]?==b/\F a b
 | _,_,_,_,.nil,h=>by simp at h
 | _,_,0,_,.cons r _,h=>by
  cases h;show#[0,r]
 | _,_,i+1,_,.cons _ t,h=>by
  let(b,e,f):=aV (i:=i) t (~~~h);show(b,~~~e,f)
theorem g_ :∀{X:List Y} {Z:List β},X.length=Z.length->(∀(i:Nat)(a:Y)(b:β),X[i]?==a->Z[i]?==b->F a b)->Paired F X Z
 | [],[],_,_=>.nil
 | a::X,b::Z,h,f=>.cons (f 0 a b rfl rfl) (g_ (~~~h) λi a b T U=>f (i+1) a b (~~~T) (~~~U))
 | [],_::_,h,_=>by simp at h
 | _::_,[],h,_=>by simp at h
def HZ (h:(bM P w).is k u=true):RelV (kV k) u:=by
 rcases cV h with ⟨i,t,rfl,rfl⟩|⟨x,t,rfl,rfl⟩
 ·show#[t,O]
 ·show#[t,O]
section
variable {X:Cx}
inductive σ' (xs:ε)(H:Hp)(Q:VK):Prop
|mk (p:BQ)(BN:δ)(_:xs=[.ref p])(_:Rd H p (.dK BN))(_:∀l,H l=none->Q (.ref l) (upd H l (.lst (BN.map λZ=>kV Z.1))))
def qC (j:X.calm=true):mL X (.type "list") σ':=by
 intro AP s Z H xs us Q I r h;let(p,N,rfl,D,q):=h;let(u,rfl,L):=vals1 r;cases L;let(z,m,vs,Y,o,c,ep,B,E,G,y,C,A):=pV I.bU D;let hl:=Y.length;show zag (knd:=bM X.prog X.w) (I.ok.hd j) m (o,c,B,E,G,y,C,A) gu λf T R c' J g S=>?_;have EB :=I.bU.fresh (CK ↑s)
 let M:Vals (N.map λU=>kV U.1) R.toList:=g_ (by have:=S.1;simp;omega) λi a b P e2=>by
  rw[Wp] at P;let(U,ek,rfl):=OR.mp P;let(q',eq,e3,_):=aV Y ek;let(k,x,e4,e5):=S.2 i b (~~~e2);erw[eq] at e4;rw[e3];show HZ e5
 let I2:Inv X AP Z (upd H ↑s (.lst (N.map λU=>kV U.1))) {s with heap:=f,toks:=T}:=I.laid (t':=T) J (CK _) (by rwa[CA],R.toList,c',M,~~~g);show(⇑_,_,I2,O,q _ EB)
def Inv.freeze {Z:L2.St}(I:Inv X AP Z H s)(e:H d==.dK BN)(T:s.heap.get? d==o):Inv X AP Z (upd H d .w) s:=by
 let Y:∀b u,H b==u->b≠d->upd H d .w b==u:=λb u q n=>by rwa[ah n]
 show I.step (g':=s.gens) (t':=s.toks) (d':=s.drawn) (ch:=[]) (λ_ z=>nomatch z) (λb o _ _ _ e _=>e) (λb o _ _ _ e _=>#[o.slots,e]) (λb o _ _ n=>by rw[ah (λz=>by erw[z,e] at n)];show n) (λb o _ e=>#[o,e])
  (λb xs q=>Y b _ q λz=>by erw[z,e] at q) (λb Q u q=>Y b _ q λz=>by erw[z,e] at q) (λb R q=>#[#[],by rw[Y b _ q λz=>by erw[z,e] at q];simp]) (λm S=>S) (λb u q=>?_) I.bare
 by_cases U:b=d
 ·subst U
  erw[af] at q;show#[T,I.bU b _ e]
 ·rw[ah U] at q
  show(I.bU b u q).pH (λ_ _ _ k=>k) (λc k=>Y c _ k λz=>by erw[z,e] at k) λc xs k=>Y c _ k λz=>by erw[z,e] at k
def Itd (d:BQ)(o:Obj)(BN:δ):It:=
 (λi H=>H d==.w/\i<BN.length,
  λi H v Z=>∃p k x,BN[i]?==(k,x)/\v=⇑p/\H p=none/\Z=upd H p (.tup [kV k,x]),
  λi H=>H d==.w/\BN.length<=i)
def uv (T:lR P w H h)(e:H d==.w)(Y:o.data=.dict es0 ep):
  (d⊆VO)=false/\∃vs,KV BN vs/\h.DictAt (bM P w) d vs ep/\BN.length<=CM:=by
 let(U,z,J,vs,Z,I,G,E,N,R,S,L,Q,M):=T d _ e;erw[U] at N;erw[Y] at S;show(J,vs,Z,(o,es0,U,R,Y,L,Q,M),z)
def ajO:entryFor table "dict_itemiterator.__iter__"==Builtin.«dict_keyiterator.__iter__»:=
 entryFor_alias (id':="dict_keyiterator.__iter__") (by kernel_rfl) (by first|rfl|decide+kernel|(unfold String.splitOn;simp+decide [String.splitOnAux])) d_k (by kernel_rfl)
def acO {E:γ}{Q:γ}(st:IsItemIter s.heap it d i n ep ok ov)(h:Q ⇑it s):BX (BY P w) A (pyIter ⇑it) Q E s:=by
 let Z:s.TypeIs ⇑it "dict_itemiterator":=(_,st,O);show wpAny_pyIter_slot Z F.slot_dict_itemiterator_iter (P8 F.slot_dict_itemiterator_iter Z ajO ?_ (F.args_dict_itemiterator_iter_1 _));change BX _ _ (ret ⇑it) _ _ s;show CO (0,"dict_itemiterator",_,Z,F.slot_dict_itemiterator_next.lookup,h)
def alY {K:Frag}{es:ω}(d it:BQ)(o:Obj)(BN:δ)(j:o.data=.dict es0 ep)(Vu:it≠d):
  Turn P w K (.Tuple es k pos) (Itd d o BN) [it] it (λi h=>∃S T,IsItemIter h it d i BN.length ep S T) where
 mem:=by simp
 obj:=λi h st b U=>by
  let e:b=it:= ~~~U
  subst e;let(S,T,st):=st;show(_,st,λv z=>by cases z)
 keep:=λi h M st k=>by
  let(S,T,st):=st;show(S,T,k it gN _ st)
 item:=by
  intro X B G A N i a s Z H E I Q st C;subst B G A;let(S,T,st):=st;let(y,m):=C;let(hd,vs,Y,q,_):=uv I.bU y j;let g:BN[i]?==BN[i]:=gE m;let((k',u),ev,e1,ru):=aV Y g;let R:=Y.length;rw[R] at st;show wpAny_pyNext_items_item st q ev λJ M QR L tup sz kk=>?_;show#[0,wpAny_letOwnedTupleGo_items (s:=(s⊂M)) L λf axf sb=>?_];let D:∀c o,s.heap.get? c==o->↑s≠c:=λc o e=>ZG (GK e);let p:↑s≠it:=D\st;let nz:∀c,c≠it->∀o,M.get? c==o->f.get? c==o:=λc N o e=>(sb.2 c N).trans e;let hn:=I.bU.fresh (CK ↑s);have Q6 :BN[i].1=k':=e1
  let I2:Inv X a Z (upd H ↑s (.tup [kV BN[i].1,BN[i].2])) {s with heap:=f,toks:=s.toks}:=
   Inv.xx I (λb o U e=>nz b (~~~U) o (kk b o (~~~U) e)) Q (CK _) (by change 2<=CM;decide) (BS:=[J,u]) (.cons (![Q6] (HZ QR)) (.cons ru .nil)) (_,nz _ p _ tup,7)
  show(.ref ↑s,_,I2,O,(↑s,BN[i].1,BN[i].2,g,O,hn,O),(_,_,by rwa[R]),λb U=>?_);let x:b=it:= ~~~U
  rw[ah (![x] (CV p))];show(Q b U).1
 done:=by
  intro X B G A N i a s Z H E I Q st C;subst B G A;let(S,T,st):=st;let(y,m):=C;let(hd,vs,Y,q,_):=uv I.bU y j;let R:=Y.length;rw[R] at st;let(f0,f1,f2,f3,f4,f5):=Q it gN;show wpAny_pyNext_items_end (I.ok.hd N) st q (IF gu) λM x=>#[O,I.turned (t':=s.toks) (λb o U e=>x b o U e) f0 f1 f3 f4 f5]
 self:=λ_ _ _ _ _ st h=>by
  let(S,T,st):=st;show acO st h
inductive T6 (R:(It->Hp->Prop))(x:V)(Z:Hp):Prop
|mk (d BN:_)(_:x=.ref d)(_:Z d==.dK BN)(_:∀o,R (Itd d o BN) (upd Z d .w))
def ajc (Y:TE):TI:=λZ H R=>Y Z H (T6 R)
def ad0 {U u:Pos}{es:ω}{k:Nat}{m:Pos}(ho:PE X e te)(a:WX e "items" X.env (CQ e X.env)=CQ e X.env:=by rfl)(i:(U.endLine⊆u.line)=true:=by rfl):
  PI X (.Tuple es k m) (.Call (.Attribute e "items" U) [] [] u) (ajc te):=by
 intro p s Z H R I h;show ad6 a i (cH (ho p s Z H _ I h) λv Y ⟨x,H1,G,j,g⟩=>?_);let(d,E,rfl,e,q):=g;cases j;let(z,hd,S,Q,o,P,N,L,hx,C,hk,hp,hn):=rF G.bU e;let(B,h2):=zaw (T:="dict") G (show RelV ⇑d ⇑d from rfl) (.inr (.inr (.inl #[O,.inl #[E,e]])));let y:Y.heap.DictAt (bM X.prog X.w) d S N:=(o,P,L,hx,C,hk,hp,hn);let c:=Q.length;show("dict","dict.items",agk,agl,F.type_dict_items,B,h2,TY rfl (aeq ?_));show TJ agl B F.entry_dict_items (F.args_dict_items_1 _) (meets_dict_items (bM X.prog X.w) d hd) #[#[S,y.dictOf],2];let J:=Inv.freeze G e L;let M:(Y.heap.push .F).DictAt (bM X.prog X.w) d S N:=y.at' λo e=>GQ _ e;change BX .q X.A (pyIter (.ref ↑Y)) _ _ _;show wpAny_pyIter_items (s:=(Y⊂Y.heap.push .F)) (_,Py _ rfl,8) M ?_;let D:(Y.heap.push .F).objs.size=↑Y+1:=vd ..
 let f:(Y.heap.push .F).objs.size≠d:=by
  rw[D];show CV (QV (EI (GK L)))
 let I3:Inv X p Z (upd H1 d (.e_ o (.dK E))) (Y⊂(Y.heap.push .F).push ("dict_itemiterator"^^^[.none,.bool false,⇑d,.int 0 0,.int S.length 0,.int N 0,.none,.none])):=J.kept (t':=Y.toks) λb o e=>GQ _ (GQ _ e);show(_,[_],6,I3,alY d _ o E C f,(_,_,![c] (Py _ rfl)),λb hb=>?_,q o);let eb:b=(Y.heap.push .F).objs.size:= ~~~hb
 let le:↑Y<=b:=![eb,D] (zg _)
 show J.vQ le (J.bU.fresh le)
end
end Ty
namespace Ty
def ev:List Int->(Nat->Rat)->Rat
 | [],_=>0
 | a::r,z=>(a:Rat)*z 0+ev r (λi=>z (i+1))
theorem Rc:∀(l:ρ)(z y:Nat->Rat),ev l (λi=>z i+y i)=ev l z+ev l y
 | [],_,_=>by simp[ev];grind
 | a::r,z,y=>by
  simp only[ev];rw[Rc r (λi=>z (i+1)) (λi=>y (i+1))];grind
theorem xA:∀(l:ρ)(z:Nat->Rat),(∀j,((l.getD j 0:Int):Rat)*z j=0)->ev l z=0
 | [],_,_=>rfl
 | a::r,z,h=>by
  let Y:=h 0;let Z:=xA r (λi=>z (i+1)) (λj=>~~~h (j+1));simp only[ev];rw[Z];simp at Y;grind
theorem qD:∀(l:ρ)(z:Nat->Rat)(p:Nat),(∀j,j≠p->((l.getD j 0:Int):Rat)*z j=0)->ev l z=((l.getD p 0:Int):Rat)*z p
 | [],_,_,_=>by simp[ev]
 | a::r,z,0,h=>by
  let Z:=xA r (λi=>z (i+1)) (λj=>~~~h (j+1) gu);simp only[ev];rw[Z];simp;grind
 | a::r,z,p+1,h=>by
  let Y:=h 0 gu;let Z:=qD r (λi=>z (i+1)) p (λj X=>~~~h (j+1) gu);simp only[ev];rw[Z];simp at Y;simp;grind
theorem aaa :∀{Y Z X:ρ},Y.length=Z.length->X.length=Z.length->(∀j,s*Y.getD j 0=t*Z.getD j 0-u*X.getD j 0)->∀z:Nat->Rat,(s:Rat)*ev Y z=t*ev Z z-u*ev X z
 | [],[],[],_,_,_,z=>by simp[ev];grind
 | a::Y,b::Z,c::X,S,T,h,z=>by
  let U:=h 0;let Q:=aaa (~~~S) (~~~T) (λj=>~~~h (j+1)) (λi=>z (i+1));simp at U;let R:(s:Rat)*a=t*b-u*c:=by exact_mod_cast U
  simp only[ev];grind
 | [],_::_,_,h,_,_,_=>by simp at h
 | _::_,[],_,h,_,_,_=>by simp at h
 | _,[],_::_,_,h,_,_=>by simp at h
 | _,_::_,[],_,h,_,_=>by simp at h
def iu:List Rat->List (List Int)->Nat->Rat
 | c::y,o::os,j=>c*((o.getD j 0:Int):Rat)+iu y os j
 | _,_,_=>0
theorem zv5 (X:s≠0)(j:Nat):∀(os:η)(Y Z:Υ),Y.length=os.length->Z.length=os.length->s*iu (Rr (λa b=>(t*a-u*b) / s) Y Z) os j=t*iu Y os j-u*iu Z os j
 | [],[],[],_,_=>by simp[iu];grind
 | o::os,a::Y,b::Z,T,U=>by
  let S:=zv5 (t:=t) (u:=u) X j os Y Z (~~~T) (~~~U);simp only[anS,iu];grind
 | [],_::_,_,h,_=>by simp at h
 | [],[],_::_,_,h=>by simp at h
 | _::_,[],_,h,_=>by simp at h
 | _::_,_::_,[],_,h=>by simp at h
theorem adK (j:Nat):∀(os:η),iu (FZ os.length 0) os j=0
 | []=>rfl
 | o::os=>by
  simp only[VN,Qh,iu];rw[adK j os];grind
def uA (os:η)(l:ρ):Prop:=∃y:List Rat,y.length=os.length/\∀j,((l.getD j 0:Int):Rat)=iu y os j
theorem zao:∀{os:η} {l:ρ},l∈os->uA os l
 | o::os,l,h=>by
  rcases QQ.mp h with z|z
  ·subst z
   show(1::FZ os.length 0,by simp,λj=>?_);simp only[iu];rw[adK];grind
  ·let(y,Y,Z):=zao z
   show(0::y,by simp[Y],λj=>?_);simp only[iu];rw[<-Z j];grind
def aab (T:s≠0)(h:∀j,s*new.getD j 0=t*line.getD j 0-u*C'.getD j 0)(R:uA os line)(S:uA os C'):uA os new:=by
 let(Y,U,N):=R;let(Z,X,P):=S;have M :=fS T;show(Rr (λa b=>((t:Rat)*a-u*b) / s) Y Z,by simp[U,X],λj=>?_);let k:=zv5 (t:=(t:Rat)) (u:=(u:Rat)) M j os Y Z U X;rw[<-N j,<-P j] at k;let Q:(s:Rat)*(new.getD j 0:Int)=t*(line.getD j 0:Int)-u*(C'.getD j 0:Int):=by exact_mod_cast h j
 rw[<-Q] at k;grind
def H_ (y:Υ):Nat->Rat:=λi=>if i<y.length then y.getD i 0 else -1
theorem Rf (j:Nat)(c:Int):∀(os:η)(y:Υ),y.length=os.length->ev (os.map (λo=>o.getD j 0)++[c]) (H_ y)=iu y os j-c
 | [],[],_=>by simp[ev,H_,iu];grind
 | o::os,a::y,h=>by
  let Z:=Rf j c os y (~~~h)
  let Y:(λi=>H_ (a::y) (i+1))=H_ y:=by
   funext i;simp[H_]
  simp only[O_,UQ,ev,iu];rw[Y,Z];simp[H_];grind
 | [],_::_,h=>by simp at h
 | _::_,[],h=>by simp at h
theorem alQ (k:Rat)(j:Nat):∀(os:η)(y:Υ),iu (y.map (λa=>a*k)) os j=iu y os j*k
 | [],_=>by cases ‹List Rat› <;> simp[iu]<;>grind
 | _::_,[]=>by simp[iu]
 | o::os,a::y=>by
  simp only[O_,iu];rw[alQ k j os y];grind
structure BJ (line C' new:ρ)(c:Nat):Prop where
 len:new.length=line.length
 aac:new.getD c 0=0
 iL:∃s t u:Int,s≠0/\t≠0/\∀j,s*new.getD j 0=t*line.getD j 0-u*C'.getD j 0
def BJ.zero (h:BJ line C' new c)(X:line.getD j 0=0)(Y:C'.getD j 0=0):new.getD j 0=0:=by
 let(s,t,u,Z,_,e):=h.iL;have:=e j;rw[X,Y,FJ,FJ,Int.sub_self] at this
 rcases anY.mp this with z|z
 ·show CC z Z
 ·show z
theorem BJ.at (h:BJ line C' new c)(Y:C'.getD j 0=0)(X:line.getD j 0≠0):new.getD j 0≠0:=by
 let(s,t,u,U,Z,e):=h.iL;have:=e j;rw[Y] at this;intro z;rw[z,FJ,FJ,Int.sub_zero] at this
 rcases anY.mp this.symm with y|y
 ·show Z y
 ·show X y
def BJ.comb (h:BJ line C' new c)(X:uA os line)(Y:uA os C'):uA os new:=by
 let(s,t,u,Z,U,e):=h.iL;show aab Z e X Y
theorem BJ.ev (h:BJ line C' new c)(U:C'.length=line.length)(T:Ty.ev C' z=0):Ty.ev new z=0 ↔ Ty.ev line z=0:=by
 let(s,t,u,X,Y,e):=h.iL;let k:=aaa h.len U e z;rw[T] at k;have S :=fS X;let Z:=fS Y;constructor
 ·intro w
  rw[w] at k;grind
 ·intro w
  rw[w] at k;grind
end Ty
namespace Ty
open PySem PySem.Spec PyProof.Rows L2
def Itn (K:Frag)(a:BQ):It:=
 (λi H=>∃xs x,aY K H a xs/\xs[i]?==x,
  λi H v Z=>∃p x,(∀xs,aY K H a xs->xs[i]?==x)/\v=⇑p/\H p=none/\Z=upd H p (.tup [.int (i:Int),x]),
  λi H=>∃xs,aY K H a xs/\xs.length<=i)
def agW {K:Frag}{es:ω}(a e it:BQ)(f:e≠it):
  Turn P w K (.Tuple es k pos) (Itn K a) [e,it] e (λi h=>(∃Y,IsEnum h e it ((i:Nat):Int) Y)/\h.IsListIter it a i) where
 mem:=by simp
 obj:=λi h st c T=>by
  let((Y,U),(o1,m,c1,d1)):=st;have J :c=e\/c=it:= ~~~T
  rcases J with z|z<;>subst z
  ·show(_,U,λv z=>by cases z)
  ·show(_,m,λv z=>by erw[d1] at z)
 keep:=λi h L st k=>by
  let((Y,U),R):=st;show#[#[Y,k e gN _ U],R.at λo e=>k it gN o e]
 item:=by
  intro X A C y T i AP s Z H E I M st B;subst A C y;let((Y,U),R):=st;let(xs,x,N,ex):=B;let(BS,G,p,_):=I.list N;let(u,hu,ru):=G.get ex;show wpAny_pyNext_enum_item U R p.isList (x:=u) (~~~hu) f λL a1 a2 a3 a4 a5=>?_;show#[0,wpAny_letOwnedTupleGo_enum (s:={s with heap:=L,toks:=s.toks+1}) a1 λj b1 sb=>?_];let nz:∀c,c≠e->∀o,L.get? c==o->j.get? c==o:=λc T o q=>(sb.2 c T).trans q
  let D:∀b o,b∉[e,it]->s.heap.get? b==o->j.get? b==o:=λb o S q=>by
   have Q :b≠e/\b≠it:= ~~~S
   show nz b Q.1 o (a5 b o Q.1 Q.2 q)
  let g:∀c o,s.heap.get? c==o->↑s≠c:=λc o q=>ZG (GK q);let tz:↑s≠e:=g\U;let hn:=I.bU.fresh (CK ↑s)
  let I2:Inv X AP Z (upd H ↑s (.tup [.int (i:Int),x])) {s with heap:=j,toks:=s.toks+1}:=
   Inv.xx I D M (CK _) (by change 2<=CM;decide) (BS:=[.int i s.toks,u]) (.cons #[0] (.cons ru .nil)) (_,nz _ tz _ a3,7)
  show(.ref ↑s,_,I2,O,(↑s,x,λxs' q=>by rwa[I.kK q N],O,hn,O),#[#[_,by show b1],a2.at λo q=>nz _ (CV f) o q],λb S=>?_)
  let ob:∃o,s.heap.get? b==o:=by
   let(o1,m,_):=R;have J :b=e\/b=it:= ~~~S
   rcases J with z|z<;>subst z
   ·show#[_,U]
   ·show#[_,m]
  let(o,q):=ob;rw[ah (CV (g\q))];show(M b S).1
 done:=by
  intro X A C y T i AP s Z H E I M st B;subst A C y;let((Y,U),R):=st;let(xs,N,ee):=B;let(BS,G,p,_):=I.list N;let l1:=G.length;show wpAny_pyNext_enum_end (I.ok.hd T) U R p.isList (by simp;omega) λL D=>#[O,Inv.rB I (λb o S q=>?_) M];have Q :b≠e/\b≠it:= ~~~S
  show D b o Q.2 q
 self:=λ_ _ _ _ _ st h=>by
  let((Y,U),_):=st;show wpAny_pyIter_enum U h
def boot_enumerate:V0 "enumerate"==.type "enumerate":=d_k
section
variable {X:Cx}
inductive aad (K:Frag)(R:(It->Hp->Prop))(vs:ε)(Z:Hp):Prop
|mk (a:_)(_:vs=[.ref a])(_:(∃xs,aY K Z a xs))(_:R (Itn K a) Z)
def anD (K:Frag)(Y:TA):TI:=λZ H R=>Y Z H (aad K R)
def rG {x:ω}(C:Gl X "enumerate")(E:X.mg "enumerate"=none)(A:PA X [e1] ta)(G:CW [e1] X.env=[(false,CQ e1 X.env)]:=by rfl):
  PI X (.Tuple x k xQ) (.Call (.Name "enumerate" p) [e1] [] pos) (anD X.K ta):=by
 intro u s Z H R I h;show Call_ (gP I C E boot_enumerate (vb (cH (A pos u s Z H _ I h) λm Y ⟨o,w,U,P,N⟩=>?_) G rfl));let(a,e,(xs,L),q):=N;subst e;cases P with
 | cons r Q=>
  cases Q;cases r;let(i,j,M,_):=U.list L;show call_enumerate_list M.isList λy S z J D=>wpAny_pyIter_enum (s:=(Y⊂y)) S ?_;show(↑Y+1,[↑Y+1,↑Y],9,w,O,U.kept (t':=Y.toks) D,agW a _ _ (Nat.succ_ne_self _),#[#[_,S],z],λc B=>?_,q)
  have T :↑Y<=c:=by
   rcases QQ.mp B with e|e
   ·show RK (![e] (V3 _))
   ·show U4 (OK.mp e).symm
  show U.vQ T (U.bU.fresh T)
def any_range (bs:List Bool):(KA bs.length).any (λi=>(bs[i]?).getD true)=bs.any id:=by
 rw[Qe,UP,UP];constructor
 ·rintro ⟨i,Z,h⟩
  have Y :i<bs.length:=Rb.mp Z;rw[gE Y] at h;show(bs[i],Sk Y,h)
 ·rintro ⟨b,U,h⟩
  let(i,Z):=OV U;show(i,Rb.mpr (ir.mp Z).1,by rwa[Z])
inductive anE (K:Frag)(xs:ε)(H:Hp)(Q:VK):Prop
|mk (p:BQ)(bs:List Bool)(_:xs=[.ref p])(_:aY K H p (bs.map V.bl))(_:Q (.bl (bs.any id)) H)
def afX (z:X.calm=true):mL X (.builtin "any") (anE X.K):=by
 intro AP s Z H xs us Q I r h;let(p,Y,rfl,C,q):=h;let(u,rfl,G):=vals1 r;cases G;let(R,P,T,hz):=I.list C;show call_any_walk (agj T.isList ?_);let c:p≠↑s:=by let(o,B,_):=T.isList;show QV (GK B)
 let a:Inv X AP Z H (s⊂s.heap.push ("list_iterator"^^^[⇑p,.int 0 0])):=I.kept (t':=s.toks) λb o e=>GQ _ e;let(j,k,f2,m,w,x):=I.vQ (H':=H) (CK ↑s) (I.bU.fresh (CK _));let N:R.length=Y.length:=by rw[<-P.length,CA]
 show(↑s,9,9,_,λi=>(Y[i]?).getD true,O,Walks.list (A:=X.A.in1) (I.ok.hd z) ↑s p c R.toArray,#[(_,Py _ rfl,8),T.isList.at λo e=>GQ _ e],2,λh' L E=>?_)
 ·intro i v s' Q' E' D S
  let U:R[i]?==v:= ~~~D
  let M:i<Y.length:=by rw[<-N];show(ir.mp U).1
  let f:(Y.map V.bl)[i]?==.bl Y[i]:=by rw[Wp,gE M];rfl
  let(u,g,J):=P.get f;erw[U] at g;cases J;dsimp only at S;rw[gE M] at S;show PM S
 ·show(.bl (Y.any id),H,a.turned (t':=L) (it:=↑s) (λb o y e=>E b o (~~~y) e) j k m w x,2,q)
  change _=_;rw[<-any_range Y,RS,N]
def anF:V0 "any"==.builtin "any":=d_k
end
def nS {K:Frag}(Y:Nat->L2.St->Hp->Prop)(M:Y 0 Z H)(X:∀i Z H,i<=xs.length->Y i Z H->aY K H a xs)
  (P:∀i x Z H p,xs[i]?==x->Y i Z H->H p=none->g ⇑p Z (upd H p (.tup [.int (i:Int),x])) λL J=>tb {D with nx:=Y (i+1),ct:=Y (i+1),bk:=D.nx} L J) (N:∀Z H,Y xs.length Z H->D.nx Z H):FY (Itn K a) g tb D Z H:=
 lZ Y M (λi Z H U p=>#[(xs,_,X i Z H (RK U) p,gE U),λx I y=>by let(R,S,T,rfl,Q,rfl):=y;show P i S Z H R (T xs (X i Z H (RK U) p)) p Q]) λZ H p=>#[(xs,X _ Z H (CK _) p,CK _),N Z H p]
def uB (Y:Nat->L2.St->Hp->Prop)(M:Y 0 Z H)(X:∀i Z H,i<=BN.length->Y i Z H->H d==.w)
  (P:∀i k x Z H p,BN[i]?==(k,x)->Y i Z H->H p=none->g ⇑p Z (upd H p (.tup [kV k,x])) λL J=>tb {D with nx:=Y (i+1),ct:=Y (i+1),bk:=D.nx} L J) (N:∀Z H,Y BN.length Z H->D.nx Z H):FY (Itd d o BN) g tb D Z H:=
 lZ Y M (λi Z H U p=>#[#[X i Z H (RK U) p,U],λx I y=>by let(R,k,S,T,rfl,Q,rfl):=y;show P i k S Z H R T p Q]) λZ H p=>#[#[X _ Z H (CK _) p,CK _],N Z H p]
open Builtin.Int (intBits)
section
variable {X:Cx}
def aae (i j:Int):Prop:=intBits i+intBits j<=134217728
def xB:oJ X (Vw .Mult) (rI aae λi j=>.int (i*j)):=
 opI λ_ _ _ _ _ _ _ Z q=>mul_int q (IntMulOk.of_le (CK _) (CK _) Z)
def rH (Y:a.natAbs<=2^m)(Z:b.natAbs<=2^n)(h:m+n<=134000000):aae a b:=by
 let T:=jW Y (V3 m);let U:=jW Z (V3 n);unfold aae;omega
end
def aq.iM {K:Frag}(e:aq H H')(h:cb K H a xs):cb K H' a xs:=by
 rcases h with (h|⟨o,h⟩)|h
 ·show .inl (.inl (e\h))
 ·show .inl (.inr #[o,e\h])
 ·show .inr h
def qU (K:Frag)(H:Hp)(v:V)(q:Int×Int):Prop:=∃p,v=⇑p/\cb K H p [↥q.1,↥q.2]
def qU.iz {K:Frag}(h:qU K H v q)(s:aq H H'):qU K H' v q:=by
 let(p,e,k):=h;show(p,e,Ty.aq.iM s k)
def bY (K:Frag)(H:Hp)(us:ε)(qs:θ):Prop:=us.length=qs.length/\∀(i:Nat)(u:V)(q:Int×Int),us[i]?==u->qs[i]?==q->qU K H u q
theorem bY.iz {K:Frag}(h:bY K H us qs)(s:aq H H'):bY K H' us qs:=#[h.1,λi u q Y Z=>(h.2 i u q Y Z).iz s]
def bY.at {K:Frag}(h:bY K H us qs){i:Nat}(e:us[i]?==u):∃q,qs[i]?==q/\qU K H u q:=by
 let X:i<us.length:=(ir.mp e).1;let Y:=h.1;let Z:qs[i]?==(qs[i]'gu):=gE gu;show(_,Z,h.2 i u _ e Z)
theorem bY.set {K:Frag}(h:bY K H us qs)(n:qU K H v q):bY K H (us.set j v) (qs.set j q):=by
 show#[by simp[h.1],λi u U Z Y=>?_];rw[VC] at Z Y;by_cases c:j=i
 ·subst c
  rw[iB rfl] at Z Y;let l:=h.1;by_cases X:j<us.length
  ·rw[iB X] at Z
   rw[iB gu] at Y;cases Z;cases Y;show n
  ·rw[iA X] at Z
   cases Z
 ·rw[iA c] at Z Y
  show h.2 i u U Z Y
def ajd (K:Frag)(H:Hp)(a:BQ)(qs:θ):Prop:=∃Z,aY K H a Z/\bY K H Z qs
def sumTo:Nat->(Nat->Rat)->Rat
 | 0,_=>0
 | n+1,f=>f 0+sumTo n (λi=>f (i+1))
theorem sumTo_add:∀(n:Nat)(f g:Nat->Rat),sumTo n (λi=>f i+g i)=sumTo n f+sumTo n g
 | 0,_,_=>by simp[sumTo];grind
 | n+1,f,g=>by
  simp only[sumTo];rw[sumTo_add n (λi=>f (i+1)) (λi=>g (i+1))];grind
theorem sumTo_mul (c:Rat):∀(n:Nat)(f:Nat->Rat),sumTo n (λi=>c*f i)=c*sumTo n f
 | 0,_=>by simp[sumTo]
 | n+1,f=>by
  simp only[sumTo];rw[sumTo_mul c n (λi=>f (i+1))];grind
theorem sumTo_zero:∀(n:Nat)(f:Nat->Rat),(∀i,f i=0)->sumTo n f=0
 | 0,_,_=>rfl
 | n+1,f,h=>by
  simp only[sumTo];rw[h 0,sumTo_zero n (λi=>f (i+1)) (λi=>h (i+1))];grind
theorem jy:∀(n:Nat)(l:ρ)(z:Nat->Rat),l.length<=n->ev l z=sumTo n (λj=>((l.getD j 0:Int):Rat)*z j)
 | n,[],z,_=>by
  rw[sumTo_zero n _ (λi=>by simp)];rfl
 | 0,_::_,_,h=>by simp at h
 | n+1,a::r,z,h=>by
  simp only[ev,sumTo];rw[jy n r (λi=>z (i+1)) (~~~h)];simp
theorem adA (n:Nat)(z:Nat->Rat):∀(y:Υ)(os:η),(∀o∈os,o.length<=n)->(∀o∈os,ev o z=0)->sumTo n (λj=>iu y os j*z j)=0
 | c::y,o::os,X,Y=>by
  let U:=adA n z y os (λx Z=>X x (OX _ Z)) (λx Z=>Y x (OX _ Z));let e:=Y o Pz;rw[jy n o z (X o Pz)] at e
  let k:(λj=>iu (c::y) (o::os) j*z j)=λj=>c*(((o.getD j 0:Int):Rat)*z j)+iu y os j*z j:=by
   funext j;simp only[iu];grind
  rw[k,sumTo_add,sumTo_mul,e,U];grind
 | [],os,_,_=>sumTo_zero n _ (λj=>by cases os<;>simp[iu])
 | _::_,[],_,_=>sumTo_zero n _ (λj=>by simp[iu])
def ae8 {os:η}(h:uA os l)(Y:l.length<=n)(Z:∀o∈os,o.length<=n)(hz:∀o∈os,ev o z=0):ev l z=0:=by
 let(y,_,e):=h;rw[jy n l z Y,<-adA n z y os Z hz];congr 1;funext j;rw[e j]
def aje (e:H d==o):upd H d o=H:=by
 funext b;by_cases z:b=d
 ·subst z
  rw[af,e]
 ·rw[ah z]
section
variable {X:Cx}
def aew (R:(It->Hp->Prop))(x:V)(Y:Hp):Prop:=∃d Z,x=⇑d/\Rd Y d (.dK Z)/\∀o,R (Itd d o Z) (upd Y d (.e_ o (.dK Z)))
def ae9 (Y:TE):TI:=λZ H R=>Y Z H (aew R)
def adu {U m:Pos}{es:ω}{k:Nat}{i:Pos}(ho:PE X e te)(kQ:WX e "items" X.env (CQ e X.env)=CQ e X.env:=by rfl)(c:(U.endLine⊆m.line)=true:=by rfl):
  PI X (.Tuple es k i) (.Call (.Attribute e "items" U) [] [] m) (ae9 te):=by
 intro D s Z H R I h;show ad6 kQ c (cH (ho D s Z H _ I h) λv Y ⟨x,j,G,f,q1⟩=>?_);let(d,E,rfl,e,q):=q1;cases f;let(z,hd,S,Q,o,P,N,T,u,y,hk,hp,hn):=pV G.bU e;let L:Y.heap.DictAt (bM X.prog X.w) d S N:=(o,P,T,u,y,hk,hp,hn);let p:Y.TypeIs ⇑d "dict":=L.dictOf.typeIs
 let h2:∀a,Value.ref d=⇑a->∃B,Y.heap.get? a==B/\B.dict=none:=λa z=>by
  cases z;show(o,T,u.2.1)
 let lv:=Q.length;show("dict","dict.items",agk,agl,F.type_dict_items,p,h2,TY rfl (aeq ?_));show TJ agl p F.entry_dict_items (F.args_dict_items_1 _) (meets_dict_items (bM X.prog X.w) d hd) #[#[S,L.dictOf],2]
 let J:Inv X D Z (upd j d (.e_ o (.dK E))) Y:=by
  rcases e with e|⟨o',e⟩
  ·show Inv.freeze G e T
  ·let g:=(G.bU d _ e).1
   erw[T] at g;rwa[aje e]
 let M:(Y.heap.push .F).DictAt (bM X.prog X.w) d S N:=L.at' λo e=>GQ _ e;change BX .q X.A (pyIter (.ref ↑Y)) _ _ _;show wpAny_pyIter_items (s:=(Y⊂Y.heap.push .F)) (_,Py _ rfl,8) M ?_;let C:(Y.heap.push .F).objs.size=↑Y+1:=vd ..
 let ne:(Y.heap.push .F).objs.size≠d:=by
  rw[C];show CV (QV (EI (GK T)))
 let I3:Inv X D Z (upd j d (.e_ o (.dK E))) (Y⊂(Y.heap.push .F).push ("dict_itemiterator"^^^[.none,.bool false,⇑d,.int 0 0,.int S.length 0,.int N 0,.none,.none])):=J.kept (t':=Y.toks) λb o e=>GQ _ (GQ _ e);show(_,[_],6,I3,alY d _ o E y ne,(_,_,![lv] (Py _ rfl)),λb hb=>?_,q o);let eb:b=(Y.heap.push .F).objs.size:= ~~~hb
 let le:↑Y<=b:=![eb,C] (zg _)
 show J.vQ le (J.bU.fresh le)
end
section
variable {X:Cx}
def aaf:V0 "sorted"==.builtin "sorted":=d_k
inductive Ua (Q:VK)(vs:ε)(Z:Hp):Prop
|mk (n:Nat)(_:vs=[.int (n:Int)])(_:n<=1000)(_:∀l,Z l=none->Q (.ref l) (upd Z l (.lst ((KA n).map λ(i:Nat)=>V.int (i:Int)))))
def ajf (Y:TA):TE:=λZ H Q=>Y Z H (Ua Q)
def aag {p T S U:Pos}(g:X.calm=true)(k:Gl X "list")(m:X.mg "list"=none)(P:Gl X "range")(R:X.mg "range"=none)(f:PA X [a] ta)(u:CW [a] X.env=[(false,CQ a X.env)]:=by rfl)
  (J:CW [.Call (.Name "range" T) [a] [] U] X.env=[(false,CQ (.Call (.Name "range" T) [a] [] U) X.env)]:=by rfl):PE X (.Call (.Name "list" p) [.Call (.Name "range" T) [a] [] U] [] S) (ajf ta):=by
 intro C s Z H Q I h;show Call_ (gP I k m nH (vb ?_ J rfl));rw[J];change BX _ _ (spliced ((false,CQ (.Call (.Name "range" T) [a] [] U) X.env)::[])) _ _ s;show EU ?_;show Call_ (gP I P R boot_range (vb (cH (f U C s Z H _ I h) λus Y ⟨vs,H1,D,y,x⟩=>?_) u rfl));let(n,e,L,q):=x;subst e;cases y with
 | cons r z=>
  cases z;let(t,rfl):=r;show call_range_1 (TQ ?_);let E:Inv X C Z H1 {Y with heap:=Y.heap.push ("range"^^^[.int 0 Y.toks,.int (n:Int) t,.int 1 (Y.toks+1)]),toks:=Y.toks+1+1}:=D.kept λb o e=>GQ _ e;show call_list_range (n:=n) (D.ok.hd g) (IsRange.new ..) (small_one gM gM gu gu) (by rw[rangeSize_one];split<;>omega) (CP L gM) λh' B M c' w c N=>?_;have EB :=E.bU.fresh (CK (Y.heap.push ("range"^^^[.int 0 Y.toks,.int (n:Int) t,.int 1 (Y.toks+1)])).objs.size)
  let A:Vals ((KA n).map λ(i:Nat)=>V.int (i:Int)) M.toList:=g_ (by have:=N.1;simp;omega) λi a b G e2=>by
   rw[Wp] at G;let(j,ej,rfl):=OR.mp G;let(hj,rfl):=ir.mp ej;let(t',e4):=N.2 i b (~~~e2);rw[aoC];show#[t',by rw[e4];simp]
  let I3:=E.laid (t':=B) (o:=.lst ((KA n).map λ(i:Nat)=>V.int (i:Int))) w (CK _) (by simp;show CP L gM,M.toList,c',A,~~~c);show(⇑_,_,I3,O,q _ EB)
inductive ahv (xs:ε)(H:Hp)(Q:VK):Prop
|mk (p:BQ)(BN:δ)(_:xs=[.ref p])(_:Rd H p (.dK BN))(_:Q ↥(BN.length:Int) H)
def adI:mL X (.builtin "len") ahv:=by
 intro N s Z H xs S Q I r h;let(p,P,rfl,U,q):=h;let(u,rfl,Y):=vals1 r;cases Y;show ans I U λt R T=>(↥_,H,T,#[t,O],q)
end
section
variable {X:Cx}
def Inv.ahw {Z:L2.St}(I:Inv X AP Z H s)(e:H d==(.e_ o u))(n:∀P Y,X.H₀ d≠some (.e_ P Y))(nt:∀xs,u≠.tup xs):Inv X AP Z (upd H d u) s:=by
 let U:∀b Y,H b==Y ->b≠d->upd H d u b==Y:=λb u q n=>by rwa[ah n]
 let T:∀b,H b=none->upd H d u b=none:=λb q=>by rw[ah (λz=>by erw[z,e] at q)];show q
 show(I.ok,I.os,I.bare,(I.gV.keep,I.gV.slot,λb S q z N=>T b (I.gV.free b S q z N),I.gV.there,λb xs q=>?_,λb S Y q=>?_,λb Q q=>?_),I.loc,I.cell,T _ I.free,λx c q=>T _ (I.iG x c q),λp M=>?_,2,I.len)
 ·let z:=I.gV.mX b xs q
  show U b _ z λy=>by erw[y,e] at z
 ·let z:=I.gV.lS b S Y q
  show U b _ z λy=>by rw[y] at q;show n\q
 ·let(m,z):=I.gV.lT b Q q
  show#[m,U b _ z λy=>by erw[y,e] at z]
 ·let(G,J,L):=I.pin p M
  show(G,T _ J,L)
 ·let st:∀{b Y},ck X.prog X.w H s.heap b Y ->ck X.prog X.w (upd H d u) s.heap b Y:=λ{b Y} k=>k.pH (λ_ _ _ z=>z) (λc z=>U c _ z λy=>by erw[y,e] at z) λc xs z=>U c _ z λy=>by erw[y,e] at z
  intro b Y q;by_cases R:b=d
  ·subst R
   erw[af] at q;show st (I.bU b _ e).2
  ·rw[ah R] at q
   show st (I.bU b Y q)
def anG (H0:Hp)(t:TS):TS:=λD Z H=>t {D with nx:=λR Y=>∃d o U,Y d==(.e_ o (.dK U))/\(∀S T,H0 d≠some (.e_ S T))/\D.nx R (upd Y d (.dK U))} Z H
def xC {st:Stmt}(h:PS X st t):PS X st (anG X.H₀ t):=by
 intro T s Z H D I q;show Oy (h T s Z H _ I q) (λf S z=>?_) λ_ _ z=>z;cases f with
 | next=>
  let(Y,R,U,d,o,Q,e,n,k):=z;show(Y,_,Inv.ahw U e n (λ_ z=>nomatch z),k)
 | brk=>show z
 | cont=>show z
 | ret u=>show z
def Itk (d:BQ)(o:Obj)(BN:δ):It:=
 (λi H=>H d==.w/\i<BN.length,
  λi H v Z=>Z=H/\∃k x,BN[i]?==(k,x)/\v=kV k,
  λi H=>H d==.w/\BN.length<=i)
def adl {K:Frag}(d it:BQ)(o:Obj)(BN:δ)(m:o.data=.dict es0 ep):
  Turn P w K tg (Itk d o BN) [it] it (λi h=>h.IsKeyIter it d i BN.length ep) where
 mem:=by simp
 obj:=λi h st b U=>by
  let e:b=it:= ~~~U
  subst e;let(o,e,c,d):=st;show(o,e,λv z=>by erw[d] at z)
 keep:=λi h R st k=>st.at λo e=>k it gN o e
 item:=by
  intro X L N J j i f s Z H E I S st M;subst L N J;let(G,p):=M;let(hd,a,Y,x,_):=uv I.bU G m;let g:BN[i]?==BN[i]:=gE p;let((k',u),ev,e1,ru):=aV Y g;let T:=Y.length;rw[T] at st;let(y,A,f2,B,C,D):=S it gN;show wpAny_pyNext_dict_item st x ev λQ R QR q sb=>?_;let I1:Inv X f Z H (s⊂R):=I.turned (t':=s.toks) (λb o U e=>(sb.2 b U).trans e) y A B C D;rw[<-T] at q;let(o',e',c',d'):=id q;have Q6 :BN[i].1=k':=e1;show(Q,O,Zd (s:=(s⊂R)) e' c' d' gM (kV BN[i].1,H,I1,![Q6] (HZ QR),(O,BN[i].1,BN[i].2,g,O),q,λb U=>(S b U).1))
 done:=by
  intro X L N J j i f s Z H E I S st M;subst L N J;let(G,p):=M;let(hd,a,Y,x,_):=uv I.bU G m;let T:=Y.length;rw[T] at st;let(y,A,f2,B,C,D):=S it gN;show wpAny_pyNext_dict_end (I.ok.hd j) st x (IF gu) λR eb=>#[O,I.turned (t':=s.toks) (λb o U e=>eb b o U e) y A B C D]
 self:=λ_ _ _ _ _ st h=>wpAny_pyIter_keyiter st h
inductive aah (R:(It->Hp->Prop))(x:V)(Z:Hp):Prop
|mk (d BN:_)(_:x=.ref d)(_:Z d==.dK BN)(_:∀o,R (Itk d o BN) (upd Z d .w))
def anH (Y:TE):TI:=λZ H R=>Y Z H (aah R)
def IA (y:PE X e te):PI X tg e (anH te):=by
 intro G s Z H R I h;show cH (y G s Z H _ I h) λv Y ⟨x,f,J,E,D⟩=>?_;let(d,P,rfl,e,q):=D;cases E;let(z,m,N,U,o,T,S,L,B,M,p,A,u):=rF J.bU e;let i:Y.heap.DictAt (bM X.prog X.w) d N S:=(o,T,L,B,M,p,A,u);let C:=U.length;let Q:=Inv.freeze J e L;show wpAny_pyIter_dict m i ?_;let g:Inv X G Z (upd f d (.e_ o (.dK P))) (Y⊂Y.heap.push ("dict_keyiterator"^^^[⇑d,.int 0 0,.int N.length 0,.int S 0])):=Q.kept (t':=Y.toks) λb o e=>GQ _ e;show(↑Y,[↑Y],6,g,adl d _ o P M,(show Heap.IsKeyIter _ _ d 0 P.length S from (_,Py _ rfl,O,by rw[C];rfl)),λb k=>?_,q o);let j:b=↑Y:= ~~~k
 let le:↑Y<=b:=![j] (CK _)
 show Q.vQ le (Q.bU.fresh le)
def yy (Y:Nat->L2.St->Hp->Prop)(P:Y 0 Z H)(U:∀i Z H,i<=BN.length->Y i Z H->H d==.w)
  (R:∀i k x Z H,BN[i]?==(k,x)->Y i Z H->g (kV k) Z H λM L=>tb {D with nx:=Y (i+1),ct:=Y (i+1),bk:=D.nx} M L) (Q:∀Z H,Y BN.length Z H->D.nx Z H):FY (Itk d o BN) g tb D Z H:=
 lZ Y P (λi Z H T p=>#[#[U i Z H (RK T) p,T],λx J y=>by let(rfl,k,S,N,rfl):=y;show R i k S Z _ N p]) λZ H p=>#[#[U _ Z H (CK _) p,CK _],Q Z H p]
end
section
variable {X:Cx}
def anI (H:Hp)(u v:V):Prop:=∃a b Z,u=⇑a/\v=⇑b/\Rd H a (.dK Z)/\Rd H b (.dK Z)/\∀Y∈Z,jt Y.2=true\/∃c,Y.2=⇑c
end
structure ajg (K:Frag)(x qual:Str)(st:Stmt)(f:BQ)(fd:FuncData):Prop where
 ex:∃(dV oc:Value)(od:χ)(kV doc pm:Value)(an:χ)(bx ct:Value)(qv:Ι),
  fd=fnOf x qual (au st) (ao st) (ae st) dV kV doc pm an bx ct/\K.lookup f==(oc,od,.func fd,qv)/\codeIn K bx qual=true
 kp:keepIn K ⇑f=true
section
variable {P:HV}{w:World}{K:Frag}{mg:ι}{gV:Heap}{CX:qu}
def ae' {st:Stmt}{R T:χ}{S:Ι}{kV Z X Y U:Value}(l:K.lookup f==(oc,R,.func (fnOf x qual (au st) (ao st) (ae st) dV kV Z X T Y U),S))
  (c:codeIn K Y qual=true) (k:keepIn K ⇑f=true):ajg K x qual st f (fnOf x qual (au st) (ao st) (ae st) dV kV Z X T Y U):=#[(dV,oc,R,kV,Z,X,T,Y,U,S,O,l,c),k]
def ahU {st:Stmt}(F:oN K name qual st f fd)(S:av N ps (ae st))(Y:∀vs H Q E,sp vs H Q E->vs.length=ps.length)
  (R:∀(Z:Value)(A:LA)(outer:List Env)(s:CH)(H:Hp)(vs:ε)(Q:VK)(E:XK),cp k (A.deeper (RH qual (ae st) ↑s f Z))->sp vs H Q E->
   ∃t,tf (!nK N qual (ae st) f Z A outer s H E).t_ (ao st) t/\t {nx:=λ_ L=>Q .cS L,rt:=Q} .Y H):!cz (aR P w) (k+1) f fd ps sp:=by
 let(D,G,kV,M,I,B,Z,C,J,rfl,lk,U):=F.ex
 show xS lk U S Y λA outer s H vs Q E T X=>by
  let(t,h,q):=R Z A outer s H vs Q E T X;show(t,h.t_,q)
def aai {st:Stmt}(F:ajg K name qual st f fd)(S:av N ps (ae st))(Y:∀vs H Q E,sp vs H Q E->vs.length=ps.length)
  (R:∀(Z:Value)(A:LA)(outer:List Env)(s:CH)(H:Hp)(vs:ε)(Q:VK)(E:XK),cp k (A.deeper (RH qual (ae st) ↑s f Z))->sp vs H Q E->
   ∃t,tf (!nK N qual (ae st) f Z A outer s H E).t_ (ao st) t/\t {nx:=λ_ L=>Q .cS L,rt:=Q} .Y H):!cz (aR P w) (k+1) f fd ps sp:=by
 let(C,D,G,kV,M,I,z,Z,B,J,rfl,lk,U):=F.ex
 show xS lk U S Y λA outer s H vs Q E T X=>by
  let(t,h,q):=R Z A outer s H vs Q E T X;show(t,h.t_,q)
end
structure Rg (P:HV)(w:World)(K:Frag)(mg:ι)(gV:Heap)(CX:qu)(k:Nat)(C:BQ)(m:Str)(ps:τ)(ds:ς)(sp:Sp):Prop where
 ex:∃(f:BQ)(fd:FuncData),EG K C/\Meth K C m f/\cz P w K mg gV CX k f fd ps sp/\Binds K fd ps ds
section
variable {X:Cx}{CX:qu}{k:Nat}{E:XK}{m:Str}{pos apos:Pos}{e o:Expr}{es:ω}{ta:TE}{t:TA}
inductive aaj (P:HV)(w:World)(K:Frag)(mg:ι)(gV:Heap)(CX:qu)(k:Nat)(m:Str)(E:XK)(t:TA)(Z:L2.St)(Q:VK)(x:V)(T:Hp):Prop
|mk (a C S U ps Y:_)(_:x=.ref a)(_:T a==.ins C S U)(_:U.lookup m=none)(_:!Rg CX k C m ps [.none] Y)(_:t Z T λvs R=>Y (x::vs++[.cS]) R Q E)
def anJ (P:HV)(w:World)(K:Frag)(mg:ι)(gV:Heap)(CX:qu)(k:Nat)(m:Str)(E:XK)(ta:TE)(t:TA):TE:=λZ H Q=>ta Z H (aaj P w K mg gV CX k m E t Z Q)
def afa {pl:Sem Bool}(z:PE X o ta)(B:cp k X.A)(G:Passes CX X E)(p:PA X (e::es) t)
  (g:CW (e::es) X.env=(false,CQ e X.env)::CW es X.env:=by rfl) (P:(QS pos (CW es X.env)).any (·.1)=false:=by rfl)
  (D:CQ .P X.env=(do
   let Y <- CQ o X.env
   standAt apos.atName
   let (f,first) <- Zx [Y] (OG Y m pl)
   callWith pos f first (QS pos (CW (e::es) X.env)) (EL pos (ES [] X.env))):=by rfl):
  PE X .P (anJ X.prog X.w X.K X.mg X.gV CX k m E ta t):=by
 intro R s Z H Q I h;show aei (pl:=pl) (cH (z R s Z H _ I h) λu N ⟨x,b,S,L,a,C,dx,fs,ps,sp,j,i,l,M,q⟩=>?_) D;subst j;obtain rfl:u=Value.ref a:=L;let(f,fd,c,U,F,y):=M.ex;show qt S i c U l ?_;show PX (first:=[⇑a]) (h₀:=X.gV) I.ok.mod.Y_ U.kp (cH (p pos R N Z b _ S q) λus s2 ⟨vs,H2,T,r,J⟩=>#[T.lQ,2]) g P;show GH (us:=.ref a::us) (vs:=.ref a::vs) (tj:=[.cS]) F B y (.cons rfl .nil) G T (.cons rfl r) J
end
theorem zaS {κ:Type}[DecidableEq κ]{k:κ}{v:V}:∀{BN:List (κ×V)},cj BN k==v->(k,v)∈BN
 | p::r,h=>by
  by_cases e:p.1=k
  ·rw[cx e] at h
   cases h;subst e;show Pz ..
  ·rw[bX e] at h
   show OX _ (zaS h)
theorem fw {κ:Type}[DecidableEq κ]{k:κ}:∀{BN:List (κ×V)},k∉BN.map (·.1)->cj BN k=none
 | [],_=>rfl
 | p::r,h=>by
  rw[O_,QQ,not_or] at h;rw[bX (λe=>h.1 e.symm)];show fw h.2
theorem uC {κ:Type}[DecidableEq κ]{k:κ}:∀{BN:List (κ×V)},k∈BN.map (·.1)->∃v,cj BN k==v
 | p::r,h=>by
  by_cases e:p.1=k
  ·show#[_,cx e]
  ·rw[bX e]
   rw[O_,QQ] at h
   rcases h with h|h
   ·show CC h.symm e
   ·show uC h
def zaj {κ:Type}[DecidableEq κ]{BN:List (κ×V)}{k:κ}{v:V}(P:κ->Prop)(h:∀Z∈BN,P Z.1)(X:P k):∀Z∈putK BN k v,P Z.1:=by
 unfold putK;split
 ·intro Z m
  let(a,Y,e):=CS.mp m;have:=h a Y;by_cases z:a.1=k
  ·rw[iB z] at e;rw[<-e];show this
  ·rw[iA z] at e;rw[<-e];show this
 ·intro Z m
  rcases OB.mp m with m|m
  ·show h Z m
  ·rw[OK] at m
   rwa[m]
structure wL (K:Frag)(C:BQ):Prop where
 cls:EG K C
 pl:fO K C "pin_places"
 wy:fO K C "pin_ways"
 br:fO K C "bar_ends"
abbrev frF (Y Z pB:BQ):List (Str×V):=[("pin_places",⇑Y),("pin_ways",⇑Z),("bar_ends",⇑pB)]
abbrev Pt:=(Int×Int)×(Int×Int)
abbrev _root_.Ο:=List (Str×Pt)
abbrev iH (p:Pt):List Da:=[.t [.v ↥p.1.1,.v ↥p.1.2],.t [.v ↥p.2.1,.v ↥p.2.2]]
def bh (H H':Hp):Prop:=∀b xs,Rd H b (.tup xs)->Rd H' b (.tup xs)
def bh.of (s:aq H H'):bh H H':=λb xs e=>by
 rcases e with e|⟨o,e⟩
 ·show .inl (s\e)
 ·show .inr #[o,s\e]
def bh.trans (a:bh H H1)(b:bh H1 H2):bh H H2:=λc xs e=>b c xs (a c xs e)
def bh.dict (e:H d==.dK BN):bh H (upd H d o):=λb xs r=>by
 rcases r with r|⟨o,r⟩
 ·show .inl (by rw[ah (λz=>by erw[z,e] at r)];show r)
 ·show .inr #[o,by rw[ah (λz=>by erw[z,e] at r)];show r]
def bh.list (e:H d==.lst xs):bh H (upd H d o):=λb xs r=>by
 rcases r with r|⟨o,r⟩
 ·show .inl (by rw[ah (λz=>by erw[z,e] at r)];show r)
 ·show .inr #[o,by rw[ah (λz=>by erw[z,e] at r)];show r]
def bh.iM {K:Frag}(s:bh H H')(q:cb K H p xs):cb K H' p xs:=by
 rcases q with q|q
 ·show .inl (s\q)
 ·show .inr q
def qU.bC {K:Frag}(h:qU K H v q)(s:bh H H'):qU K H' v q:=by
 let(p,e,k):=h;show(p,e,s.iM k)
def Spot (K:Frag)(H:Hp)(v:V)(p:Pt):Prop:=∃a Y Z,v=⇑a/\cb K H a [Y,Z]/\qU K H Y p.1/\qU K H Z p.2
theorem Spot.bC {K:Frag}(h:Spot K H v p)(s:bh H H'):Spot K H' v p:=by
 let(a,Y,Z,e,T,U,X):=h;show(a,Y,Z,e,s.iM T,U.bC s,X.bC s)
def agt {K:Frag}(h:qU K H v q):Is K H (.t [.v ↥q.1,.v ↥q.2]) v:=by
 let(p,rfl,e):=h;unfold Is;show(p,0,e,2);unfold mY;show#[by unfold Is;show#[8],2];unfold mY;show#[by unfold Is;show#[8],2];unfold mY;trivial
def Spot.is {K:Frag}(h:Spot K H v p):Is K H (.t (iH p)) v:=by
 let(a,T,U,rfl,X,Y,Z):=h;unfold Is;show(a,0,X,2);unfold mY;show#[agt Y,2];unfold mY;show#[agt Z,2];unfold mY;trivial
def zaM (p q:Pt):g7 (iH p) (iH q)=decide (p=q):=by
 let e:g7 (iH p) (iH q)=((p.1.1⊆q.1.1 && (p.1.2⊆q.1.2 && true)) && ((p.2.1⊆q.2.1 && (p.2.2⊆q.2.2 && true)) && true)):=by
  dsimp only[iH,g7,qw,xr]
 rw[e];let((a,b),c,d):=p;let((R,S),T,U):=q;by_cases h:a=R <;> by_cases X:b=S <;> by_cases Y:c=T <;> by_cases Z:d=U <;> simp[h,X,Y,Z,Prod.mk.injEq]
def za3 (p q:Pt):ik (iH p) (iH q)=true:=by simp[iH,ik,alike]
def ad1 (p:Pt):uh (iH p)<=60:=by simp[iH,uh,dep]
structure jO (K:Frag)(H:Hp)(C a dx pP pW pB:BQ)(ps:Ο)(bs:Ε)(kP kW kB:δ):Prop where
 obj:H a==.ins C dx (frF pP pW pB)
 pl:H pP==.dK kP
 wy:H pW==.dK kW
 br:H pB==.dK kB
 ne1:pP≠pW
 ne2:pP≠pB
 ne3:pW≠pB
 rp:Paired (λ(p:Str×Pt) (kv:Key×V)=>kv.1=.inr p.1/\Spot K H kv.2 p.2) ps kP
 rb:Paired (λ(b:Str×Str×Str) (kv:Key×V)=>kv.1=.inr b.1/\∃p,kv.2=⇑p/\Rd H p (.tup [.str b.2.1,.str b.2.2])) bs kB
section
variable {K:Frag}{H H':Hp}{C a dx pP pW pB:BQ}{ps:Ο}{bs:Ε}{kP kW kB:δ}
def nV {R:(Str×Y)->(Key×V)->Prop}:∀{l:List (Str×Y)} {BN:δ},Paired (λb Z=>Z.1=.inr b.1/\R b Z) l BN->BN.map (·.1)=l.map (λb=>(Rq b.1:Key)):=by
 intro l BN h;induction h with|nil=>rfl|cons h t X=>rw[O_,O_,h.1,X]
def jX {l:τ}:(Rq x:Key)∈l.map (λb=>(Rq b:Key)) ↔ x∈l:=by
 constructor
 ·intro h
  let(y,Z,e):=CS.mp h;show Zp e▸Z
 ·show λh=>CS.mpr (x,h,O)
def jO.Pf (R:jO K H C a dx pP pW pB ps bs kP kW kB)(s:bh H H')(U:H' a=H a)(X:H' pP=H pP)(Y:H' pW=H pW)(Z:H' pB=H pB):jO K H' C a dx pP pW pB ps bs kP kW kB:=
 (U>>>R.obj,X>>>R.pl,Y>>>R.wy,Z>>>R.br,R.ne1,R.ne2,R.ne3,Paired.dP R.rp λ_ _ h=>#[h.1,h.2.bC s],Paired.dP R.rb λ_ _ h=>#[h.1,by let(p,e,k):=h.2;show(p,e,s\k)])
def jO.iz (R:jO K H C a dx pP pW pB ps bs kP kW kB)(s:aq H H'):jO K H' C a dx pP pW pB ps bs kP kW kB:=
 R.Pf (.of s) ((s\R.obj).trans R.obj.symm) ((s\R.pl).trans R.pl.symm) ((s\R.wy).trans R.wy.symm) ((s\R.br).trans R.br.symm)
def jO.Ud (R:jO K H C a dx pP pW pB ps bs kP kW kB):kB.map (·.1)=(bs.map (·.1)).map (λb=>(Rq b:Key)):=by
 rw[nV R.rb,Pp];rfl
def jO.Ue (R:jO K H C a dx pP pW pB ps bs kP kW kB):kP.map (·.1)=(ps.map (·.1)).map (λb=>(Rq b:Key)):=by
 rw[nV R.rp,Pp];rfl
def jO.bar (R:jO K H C a dx pP pW pB ps bs kP kW kB)(x:Str):(cj kB (.inr x)).isSome=decide (x∈bs.map (·.1)):=by
 by_cases h:x∈bs.map (·.1)
 ·let(v,e):=uC (BN:=kB) (k:=.inr x) (![R.Ud] (jX.mpr h))
  rw[e,Qd h];rfl
 ·rw[fw (![R.Ud] (λz=>h (jX.mp z))),Sb h]
  rfl
def jO.pin (R:jO K H C a dx pP pW pB ps bs kP kW kB)(x:Str):(cj kP (.inr x)).isSome=decide (x∈ps.map (·.1)):=by
 by_cases h:x∈ps.map (·.1)
 ·let(v,e):=uC (BN:=kP) (k:=.inr x) (![R.Ue] (jX.mpr h))
  rw[e,Qd h];rfl
 ·rw[fw (![R.Ue] (λz=>h (jX.mp z))),Sb h]
  rfl
def jO.ab (R:jO K H C a dx pP pW pB ps bs kP kW kB):a≠pP/\a≠pW/\a≠pB:=
 (λz=>(by have h:=R.obj;erw[z,R.pl] at h),λz=>(by have h:=R.obj;erw[z,R.wy] at h),λz=>(by have h:=R.obj;erw[z,R.br] at h))
def jO.ajh (R:jO K H C a dx pP pW pB ps bs kP kW kB)(Z:Rd H t (.tup [.str one,.str jg])):
  jO K (upd H pB (.dK (kB++[(.inr x,⇑t)]))) C a dx pP pW pB ps (bs++[(x,(one,jg))]) kP kW (kB++[(.inr x,⇑t)]):=by
 let s:bh H (upd H pB (.dK (kB++[(.inr x,⇑t)]))):=.dict R.br
 show(![ah R.ab.2.2] R.obj,![ah R.ne2] R.pl,![ah R.ne3] R.wy,af,R.ne1,R.ne2,R.ne3,Paired.dP R.rp λ_ _ h=>#[h.1,h.2.bC s],
  TF (Paired.dP R.rb λ_ _ h=>#[h.1,by let(p,e,k):=h.2;show(p,e,s\k)]) (O,t,O,s\Z))
def jY :∀{l:List Y} {m:List β},Paired R l m->Paired (λb a=>R a b) m l:=by
 intro l m h;induction h with|nil=>show .nil|cons h t Z=>show .cons h Z
def jO.aji (R:jO K H C a dx pP pW pB ps bs kP kW kB)(Z:Spot K H ⇑t p):
  jO K (upd H pP (.dK (kP++[(.inr x,⇑t)]))) C a dx pP pW pB (ps++[(x,p)]) bs (kP++[(.inr x,⇑t)]) kW kB:=by
 let s:bh H (upd H pP (.dK (kP++[(.inr x,⇑t)]))):=.dict R.pl
 show(![ah R.ab.1] R.obj,af,![ah (CV R.ne1)] R.wy,![ah (CV R.ne2)] R.br,R.ne1,R.ne2,R.ne3,
  TF (Paired.dP R.rp λ_ _ h=>#[h.1,h.2.bC s]) #[O,Z.bC s],Paired.dP R.rb λ_ _ h=>#[h.1,by let(p,e,k):=h.2;show(p,e,s\k)])
def jO.Ug (R:jO K H C a dx pP pW pB ps bs kP kW kB)(Z :δ):jO K (upd H pW (.dK Z)) C a dx pP pW pB ps bs kP Z kB:=by
 let s:bh H (upd H pW (.dK Z)):=.dict R.wy
 show(![ah R.ab.2.1] R.obj,![ah R.ne1] R.pl,af,![ah (CV R.ne3)] R.br,R.ne1,R.ne2,R.ne3,
  Paired.dP R.rp λ_ _ h=>#[h.1,h.2.bC s],Paired.dP R.rb λ_ _ h=>#[h.1,by let(p,e,k):=h.2;show(p,e,s\k)])
def oQ (xs:τ):(xs.map V.str).all jt=true:=by
 rw[List.all_map,ap8];show λ_ _=>O
theorem jz :∀(xs:τ),ZD (.str x) (xs.map V.str)=decide (x∈xs)
 | []=>rfl
 | y::ys=>by
  let Z:=jz (x:=x) ys;unfold ZD at Z ⊢;rw[O_,Pu,Z];by_cases e:y=x
  ·subst e
   simp[xr]
  ·let Y:¬ x=y:=λz=>e z.symm
   simp[xr,e,Y]
end
open Builtin.Int (intBits)
def qr (r:Rat):Int×Int:=(r.num,(r.den:Int))
def dq (r:Rat):0<(qr r).2:=by
 have:=r.den_pos;change (0:Int)<(r.den:Int);omega
def nY (r:Rat):Po (qr r).1 (qr r).2=1:=by
 have:=r.reduced;change Po r.num (r.den:Int)=1;unfold Po;simpa[Nat.Coprime] using this
def iI (r:Rat):vl (qr r)=r:=by
 change (r.num:Rat) / ((r.den:Int):Rat)=r;rw[<-aoR];show aoF r
def yz (h:0<q.2)(g:Po q.1 q.2=1):q=qr (vl q):=ai3 h (dq _) g (nY _) (iI _).symm
def gA (h:b≠0):low t b=qr ((t:Rat) / (b:Rat)):=by
 rw[<-mq h];show yz (oO h) (rf h)
def qE (h:qr a=qr b):a=b:=by
 rw[<-iI a,<-iI b,h]
def yA (i:Int):qr (i:Rat)=(i,1):=by
 let e:(i,(1:Int))=qr (vl (i,1)):=yz (by change (0:Int)<1;decide) (by change Po i 1=1;simp)
 let v:vl (i,(1:Int))=(i:Rat):=by
  unfold vl;change (i:Rat) / ((1:Int):Rat)=i;have:((1:Int):Rat)=1:=by rfl
  rw[this];grind
 rw[e,v]
def IC (r:Rat):qr (-r)=(-(qr r).1,(qr r).2):=by
 let e:((-(qr r).1,(qr r).2):Int×Int)=qr (vl (-(qr r).1,(qr r).2)):=yz (dq r) (by
  have:=nY r;change Po (-(qr r).1) (qr r).2=1;rw[Int.neg_gcd]
  show this)
 let v:vl (-(qr r).1,(qr r).2)= -r:=by
  let h:=iI r;unfold vl at h ⊢;push_cast;rw[<-h];grind
 rw[e,v]
def Ph :((qr r).2:Rat)≠0:=fS (VB (dq r))
def aal (a b:Rat):low ((qr a).1*(qr b).2+(qr b).1*(qr a).2) ((qr a).2*(qr b).2)=qr (a+b):=by
 let Y:=dq a;let Z:=dq b;rw[gA (VB (VR Y Z))];let U:=iI a;let X:=iI b;let S:=Ph (r:=a);let T:=Ph (r:=b);unfold vl at U X;congr 1;push_cast;grind
def ID (a b:Rat):low ((qr a).1*(qr b).2-(qr b).1*(qr a).2) ((qr a).2*(qr b).2)=qr (a-b):=by
 let Y:=dq a;let Z:=dq b;rw[gA (VB (VR Y Z))];let U:=iI a;let X:=iI b;let S:=Ph (r:=a);let T:=Ph (r:=b);unfold vl at U X;congr 1;push_cast;grind
def aam (a b:Rat):low ((qr a).1*(qr b).1) ((qr a).2*(qr b).2)=qr (a*b):=by
 let Y:=dq a;let Z:=dq b;rw[gA (VB (VR Y Z))];let U:=iI a;let X:=iI b;let S:=Ph (r:=a);let T:=Ph (r:=b);unfold vl at U X;congr 1;push_cast;grind
structure Sz (k:Nat)(r:Rat):Prop where
 top:intBits (qr r).1<=k
 bot:intBits (qr r).2<=k
def Sz.up (h:Sz k r)(Z:k<=l):Sz l r:=#[CP h.top Z,CP h.bot Z]
def ag_ (Y:intBits a<=k)(Z:intBits b<=k):intBits (a+b)<=k+1:=by
 rw[intBits_le_iff] at Y Z ⊢;have:=al1 a b;rw[v7];omega
def afh (Y:intBits a<=k)(Z:intBits b<=k):intBits (a-b)<=k+1:=by
 rw[intBits_le_iff] at Y Z ⊢;have:=ane a b;rw[v7];omega
def yB (Z:b≠0)(X:intBits t<=k)(Y:intBits b<=k):Sz k ((t:Rat) / (b:Rat)):=by
 rw[<-mq Z];let e:=yz (oO (t:=t) Z) (rf Z);show#[![<-e] (intBits_le_of_natAbs (ju Z) X),![<-e] (intBits_le_of_natAbs (jv Z) Y)]
def Pj (Z:b≠0)(e:low t b=qr r)(X:intBits t<=k)(Y:intBits b<=k):Sz k r:=by
 let z:=gA (t:=t) Z;rw[z] at e;have:=qE e;rw[<-this];show yB Z X Y
def Sz.add (Y:Sz k a)(Z:Sz l b):Sz (k+l+1) (a+b):=
 Pj (VB (VR (dq a) (dq b))) (aal a b) (ag_ (wc Y.top Z.bot) (![vx] (wc Z.top Y.bot))) (ao_ (wc Y.bot Z.bot))
def Sz.sub (Y:Sz k a)(Z:Sz l b):Sz (k+l+1) (a-b):=
 Pj (VB (VR (dq a) (dq b))) (ID a b) (afh (wc Y.top Z.bot) (![vx] (wc Z.top Y.bot))) (ao_ (wc Y.bot Z.bot))
def Sz.mul (Y:Sz k a)(Z:Sz l b):Sz (k+l) (a*b):=
 Pj (VB (VR (dq a) (dq b))) (aam a b) (wc Y.top Z.top) (wc Y.bot Z.bot)
def IE {i:Int}(h:i.natAbs<2^k)(Z:1<=k):Sz k (i:Rat):=by
 show#[2,2]
 ·rw[yA]
  show intBits_le_iff.mpr h
 ·rw[yA]
  show intBits_le_iff.mpr ?_;change 1<2^k;show Nat.one_lt_two_pow gu
def iE (K:Frag)(H:Hp)(v:V)(r:Rat):Prop:=qU K H v (qr r)
def gx (K:Frag)(H:Hp)(v:V)(p:Rat×Rat):Prop:=∃a Y Z,v=⇑a/\cb K H a [Y,Z]/\iE K H Y p.1/\iE K H Z p.2
section
variable {K:Frag}{H H':Hp}{v:V}{r:Rat}{p:Rat×Rat}
theorem iE.bC (h:iE K H v r)(s:bh H H'):iE K H' v r:=qU.bC h s
theorem iE.iz (h:iE K H v r)(s:aq H H'):iE K H' v r:=qU.iz h s
theorem gx.bC (h:gx K H v p)(s:bh H H'):gx K H' v p:=by
 let(a,Y,Z,e,T,U,X):=h;show(a,Y,Z,e,s.iM T,U.bC s,X.bC s)
def gx.iz (h:gx K H v p)(s:aq H H'):gx K H' v p:=h.bC (.of s)
abbrev Pk (p:Rat×Rat):Pt:=(qr p.1,qr p.2)
def gx.anK (h:gx K H v p):Spot K H v (Pk p):=h
def pM (K:Frag)(H:Hp)(us:ε)(ps:Η):Prop:=Paired (gx K H) us ps
theorem pM.bC (h:pM K H us ps)(s:bh H H'):pM K H' us ps:=Paired.dP h λ_ _ z=>z.bC s
def pM.iz (h:pM K H us ps)(s:aq H H'):pM K H' us ps:=h.bC (.of s)
end
section
variable {X:Cx}
def agH {Z:L2.St}(I:Inv X AP Z H s)(L:gx X.K H v p)(M:gx X.K H v q):p=q:=by
 let(a,D,E,rfl,S,(z,rfl,Q),A,rfl,R):=L;let(y,G,J,e,T,(B,rfl,N),C,rfl,P):=M;cases e;cases I.oH S T;let U:=I.oH Q N;let Y:=I.oH R P;simp only[List.cons.injEq,V.int.injEq,and_true] at U Y;show Pl (qE (Pl U.1 U.2)) (qE (Pl Y.1 Y.2))
def anL (K:Frag)(neg:Bool):R2:=λx y H Q=>∃p l Y Z,y=⇑l/\aY K H l Y/\gx K H x p/\pM K H Y Z/\Q (.bl (if neg then !decide (p∈Z) else decide (p∈Z))) H
def anM {Z:L2.St}{BS:ς}(I:Inv X AP Z H s)(hu:A.units+60<V6)(g:gx X.K H x p)(k:RelV x v)(o:pM X.K H us ps)(w:Vals us BS):
  ∃e:Value->Bool,(∀y,y∈BS.toArray->SeqAt.EqAt A s y v (e y))/\BS.toArray.any e=decide (p∈ps):=by
 let S:∀(j:Nat)(y:Value),BS[j]?==y->∃u q,us[j]?==u/\ps[j]?==q/\RelV u y/\gx X.K H u q:=λj y M=>by
  let(u,L,U):=aV (jY w) M;let(q,R,Y):=aV o L;show(u,q,L,R,U,Y)
 show(λy=> @decide (∃u q,RelV u y/\gx X.K H u q/\q=p) (T1 _),λy E=>?_,2)
 ·let(j,N,M):=OC.mp (~~~E:y∈BS)
  let(u,q,L,R,U,Y):=S j y (![gE N,M]);let z:=adR (A:=A) I (.t (iH (Pk q))) (.t (iH (Pk p))) u x y v Y.anK.is g.anK.is (by unfold alike;show za3 _ _) U k (by have:=ad1 (Pk q);unfold dep;simp only[iH,uh,dep] at this ⊢;omega)
  let e:qw (.t (iH (Pk q))) (.t (iH (Pk p)))= @decide (∃u q,RelV u y/\gx X.K H u q/\q=p) (T1 _):=by
   unfold qw;rw[zaM];by_cases c:q=p
   ·subst c
    rw[Qd rfl]
    symm
    show @Qd _ (T1 _) (u,q,U,Y,O)
   ·rw[Sb (λz=>c (Pl (qE (sU avj z)) (qE (sU avk z))))]
    symm
    show @Sb _ (T1 _) λ⟨m,i,T,Q,C⟩=>?_;let(a,_,_,rfl,_):=id Y;let(B,_,_,rfl,_):=id Q;let G:y=Value.ref a:=U;let J:y=Value.ref B:=T;erw[G] at J;show c ((agH I Y Q).trans C)
  rwa[e] at z
 ·rw[Qe,decide_eq_true_iff]
  simp only[List.any_toArray,UP];constructor
  ·rintro ⟨y,E,M⟩
   let(j,N,D):=OC.mp E;let(u,q,L,R,U,Y):=S j y (![gE N,D]);let(m,i,T,Q,C):= @RE _ (T1 _) M;let(a,_,_,rfl,_):=id Y;let(B,_,_,rfl,_):=id Q;let G:y=Value.ref a:=U;let J:y=Value.ref B:=T;erw[G] at J;rw[<-C,<-agH I Y Q];show CU R
  ·intro f
   let(j,N,D):=OC.mp f;let b:us.length=ps.length:=RY o;let li:us.length=BS.length:=w.length;let P:j<BS.length:=gu
   show(BS[j],Sk P,2);let(u,q,L,R,U,Y):=S j BS[j] (gE P);erw[gE N,D] at R;show @Qd _ (T1 _) (u,p,U,Y,O)
def afb (D:X.A.units+64<V6):oJ X (V2 .In) (anL X.K false):=by
 intro B s Z H x y v u Q I U Y h;let(p,l,J,G,rfl,P,R,N,q):=h;cases Y;let(C,T,S,E):=I.list P;let(e,M,L):=anM (A:=X.A.in1) I (by rw[in1_units];omega) R U N T;show SeqAt.in_listAt e S.isList M (.bl _,H,I,O,2);rwa[L]
end
def qF {R:(Str×Y)->(Key×V)->Prop}:∀{l:List (Str×Y)} {BN:δ},Paired (λb X=>X.1=.inr b.1/\R b X) l BN->(l.map (·.1)).Nodup->(x,y)∈l->∃v,cj BN (.inr x)==v/\R (x,y) (.inr x,v):=λ{l BN} p Z m=>by
 induction p with
 | nil=>cases m
 | cons h t U=>
  rw[O_,VS] at Z
  rcases QQ.mp m with e|m
  ·subst e
   show(_,cx h.1,2);let T:=h.2;rwa[<-h.1]
  ·let(v,e,r):=U Z.2 m
   show(v,2,r);rw[bX (λz=>?_)]
   ·show e
   ·rw[h.1] at z
    show Z.1 (Zp z▸CS.mpr (_,m,O))
def QH (K:Frag)(H:Hp)(X:Χ)(U:δ):Prop:=
 Paired (λ(p:Str×List (Rat×Rat)) (Y:Key×V)=>Y.1=.inr p.1/\∃l Z,Y.2=⇑l/\H l==.lst Z/\pM K H Z p.2) X U
theorem QH.iz {K:Frag}(h:QH K H pw kW)(s:aq H H'):QH K H' pw kW:=
 Paired.dP h λ_ _ z=>#[z.1,by let(l,Z,U,X,Y):=z.2;show(l,Z,U,s\X,Y.iz s)]
theorem QH.dict {K:Frag}(h:QH K H pw kW)(e:H d==.dK BN):QH K (upd H d o) pw kW:=
 Paired.dP h λ_ _ z=>#[z.1,by
  let(l,Y,U,Z,X):=z.2
  show(l,Y,U,by rw[ah (λq=>by erw[q,e] at Z)];show Z,X.bC (.dict e))]
def QH.keys {K:Frag}(h:QH K H pw kW):kW.map (·.1)=(pw.map (·.1)).map (λb=>(Rq b:Key)):=by
 rw[nV h,Pp];rfl
def jO.ends {K:Frag}(R:jO K H C a dx pP pW pB ps bs kP kW kB)(Z:(bs.map (·.1)).Nodup)(m:(x,(one,jg))∈bs):
  ∃p,cj kB (.inr x)==⇑p/\Rd H p (.tup [.str one,.str jg]):=by
 let(v,e,p,Y,r):=qF R.rb Z m;have X :v=.ref p:=Y;show(p,![e,X],r)
def jO.place {K:Frag}(R:jO K H C a dx pP pW pB ps bs kP kW kB)(Z:(ps.map (·.1)).Nodup)(m:(x,p)∈ps):
  ∃v,cj kP (.inr x)==v/\Spot K H v p:=qF R.rp Z m
structure bK where
 nm:Str
 sp:Rat×Rat
 ws:List (Rat×Rat)
abbrev _root_.Α:=List bK
structure cZ where
 nm:Str
 one:bK
 jg:bK
abbrev _root_.Μ:=List cZ
inductive BK (K:Frag)(H:Hp)(C a:BQ)(AP:Α)(BO:Μ):Prop
|mk (S X Y pB:BQ)(U Z T:δ)(_:jO K H C a S X Y pB (AP.map λp=>(p.nm,Pk p.sp)) (BO.map λb=>(b.nm,(b.one.nm,b.jg.nm))) U Z T)(_:QH K H (AP.map λp=>(p.nm,p.ws)) Z)
def BK.ex {K:Frag}(h:BK K H C a AP BO):BK K H C a AP BO:=h
structure jZ (AP:Α)(BO:Μ):Prop where
 np:(AP.map (·.nm)).Nodup
 nb:(BO.map (·.nm)).Nodup
 ends:∀b∈BO,b.one∈AP/\b.jg∈AP/\b.one.nm≠b.jg.nm
 sz:∀p∈AP,Sz 24 p.sp.1/\Sz 24 p.sp.2/\∀w∈p.ws,Sz 22 w.1/\Sz 22 w.2
 lp:AP.length<=7
 lb:BO.length<=8
 lw:∀p∈AP,p.ws.length<=2
theorem BK.iz {K:Frag}(h:BK K H C a AP BO)(s:aq H H'):BK K H' C a AP BO:=by
 let(S,Y,Z,pB,U,X,T,R,W):=h.ex;show(S,Y,Z,pB,U,X,T,R.iz s,W.iz s)
def vB (K:Frag)(H:Hp)(BN:δ)(F:ξ):Prop:=
 ∀Z,(cj BN (.inr Z)=none/\F Z=none)\/∃v p,cj BN (.inr Z)==v/\F Z==p/\gx K H v p
section
variable {K:Frag}{H H':Hp}{BN:δ}
theorem vB.iz (h:vB K H BN F)(s:aq H H'):vB K H' BN F:=λZ=>by
 rcases h Z with h|⟨v,q,U,X,Y⟩
 ·show .inl h
 ·show .inr (v,q,U,X,Y.iz s)
def vB.ajj (h:vB K H BN F)(n:gx K H v q):gx K H ((cj BN (.inr x)).getD v) ((F x).getD q):=by
 rcases h x with ⟨Y,Z⟩|⟨u,U,Y,Z,X⟩
 ·rw[Y,Z]
  show n
 ·rw[Y,Z]
  show X
end
def afc {K:Frag}(Y:Nat->L2.St->Hp->Prop)(R:Y 0 Z H)(X:∀i Z H,Y i Z H->aY K H a xs/\aY K H b ys)
  (T:∀i x y Z H p,xs[i]?==x->ys[i]?==y->Y i Z H->H p=none->g ⇑p Z (upd H p (.tup [x,y])) λN M=>tb {D with nx:=Y (i+1),ct:=Y (i+1),bk:=D.nx} N M) (S:∀Z H,Y (min xs.length ys.length) Z H->D.nx Z H):FY (Itz K a b) g tb D Z H:=
 lZ Y R (λi Z H L p=>#[(xs,ys,_,_,(X i Z H p).1,(X i Z H p).2,gE gu,gE gu),λv J y=>by let(c,x,y,P,Q,rfl,U,rfl):=y;show T i x y Z H c (P xs (X i Z H p).1) (Q ys (X i Z H p).2) p U]) λZ H p=>#[(xs,ys,(X _ Z H p).1,(X _ Z H p).2,gu),S Z H p]
def yC {Y:Type}{nm:Y->Str}{l:List Y}(S:(l.map nm).Nodup){b X:Y}(h:l[i]?==b)(m:X ∈l.take i):nm X≠nm b:=λe=>by
 let Q:=(ir.mp h).1;let(j,R,Z):=OC.mp m;rw[al2] at Z;rw[QT] at R;let T:(l.map nm)[j]?==(nm b):=by rw[Wp,gE gu,Z,<-e];rfl
 let U:(l.map nm)[i]?==(nm b):=by rw[Wp,h];rfl
 have:=(UB (by rw[CA];omega) S).mp (T>>>U.symm);omega
def take_snoc {Y:Type}{l:List Y}{b:Y}(h:l[i]?==b):l.take (i+1)=l.take i++[b]:=by rw[al3,h];rfl
def an' {κ:Type}[DecidableEq κ]:∀{BN:List (κ×V)} {t:Nat} {k:κ} {y:V},(BN.map (·.1)).Nodup->BN[t]?==(k,y)->cj BN k==y:=by
 intro BN;induction BN with
 | nil=>intro t k y _ e;simp at e
 | cons p r X=>
  intro t k y Z e;cases t with
  | zero=>cases e;show cx rfl
  | succ t=>
   rw[O_,VS] at Z;let Y:r[t]?==(k,y):=e;rw[bX (λz=>Z.1 (z▸CS.mpr (_,CU Y,O)))];show X Z.2 Y
def uD (s:aq H H')(n:H' p=none):H p=none:=by
 cases e:H p with
 | none=>rfl
 | some o=>erw[s\e] at n
abbrev jA (h:Heap)(z TI TO:BQ)(Y:Value)(Z:Bool):Prop:=
 h.get? z=={cls:=.type "zip",dict:=none,data:=.fields (List.toArray [Y,.bool Z,.bool false,⇑TI,⇑TO]),slots:= #[]}
section
variable {prog:HV}{w:World}{A:LA}{E:γ}{s:CH}
def ab6 (h:s.heap.get? a==o)(q:Q (some o) s):BX .s A (loadIfAlive a) Q E s:=λΓ p _=>by
 change Sem.wp _ _ (.loadIfAlive a .pure) _ _ _ _;rwa[Sem.wp_loadIfAlive,h]
def al_ {z TI TO T:BQ}(hz:jA s.heap z TI TO (PQ T) fb)(X:s.heap.get? T==o)
  (Y:∀h',jA h' z TI TO (PQ T) true->WV z s.heap h' ->Q false (s⊂h')):BX .s A (EZ ⇑z) Q E s:=by
 unfold EZ;show BR (VP hz rfl (x:=PQ T) rfl ?_);change BX _ _ (loadIfAlive ((T:Int)).toNat >>=_) _ _ _;show BR (ab6 (o:=o) (~~~X) ?_);dsimp only[Option.isNone_some,zp,if_false];show BR (VP hz rfl (x:=.bool fb) rfl ?_);cases fb with
 | true=>
  change BX _ _ (if (Value.bool true !=Value.bool true)=true then _ else _) _ _ _;rw[iA gM];show CO (Y s.heap hz #[O,λ_ _=>O])
 | false=>
  change BX _ _ (if (Value.bool false !=Value.bool true)=true then _ else _) _ _ _;rw[iB gM];show BR (TV hz gN λh' Z U =>CO (Y h' Z U))
def adf {z TI TO T X Y P R:BQ}{xs ys:Ζ}{Q:γ}(D:ZipApart z TI TO X Y P R)
  (hz:jA s.heap z TI TO (PQ T) fb) (q:s.heap.get? T==o) (C:QZ s.heap TI ⇑X ⇑Y)
  (k:s.heap.IsListIter X P k1) (m:s.heap.IsListIter Y R k2) (f:s.heap.IsList P xs) (b:s.heap.IsList R ys) (u:xs[k1]?==x) (B:ys[k2]?==y)
  (p:∀h',jA h' z TI TO (PQ T) true->h'.IsListIter X P (k1+1)->h'.IsListIter Y R (k2+1)->QZ h' ↑s x y->h'.objs.size=↑s+1->
   (∀c o,c≠z->c≠X->c≠Y->s.heap.get? c==o->h'.get? c==o)->Q (.ref ↑s) (s⊂h')):
  BX .s A (Builtin.«zip.__next__» #[[⇑z],[]]) (λH G=>∃v,H=.done (.ret v)/\Q v G) E s:=by
 change BX _ _ (field ⇑z 2 >>=_) _ _ _;show BR (VP hz rfl (x:=.bool false) rfl ?_);change BX _ _ (field ⇑z 3 >>=_) _ _ _;show BR (VP hz rfl (x:=⇑TI) rfl ?_);show BR (wg C rfl ?_);change BX _ _ (EZ ⇑z >>=_) _ _ _;show BR (al_ hz q λqg L U=>?_);dsimp only[zp,if_false];show BR ?_;change BX _ _ (forIn [Value.ref X,Value.ref Y].toArray _ _) _ _ _;rw[aoG];simp only[yG,yi];show BR (BR (VT ?_));change BX _ _ (Zo ⇑X >>=_) _ _ _;show BR (aec (k.extBut U.extBut D.i1z) (f.extBut U.extBut D.l1z) u λa I S=>CO ?_);show CO ?_;show BR (BR (VT ?_));change BX _ _ (Zo ⇑Y >>=_) _ _ _;show BR (aec ((m.extBut U.extBut D.i2z).extBut S.extBut D.i12.symm) ((b.extBut U.extBut D.l2z).extBut S.extBut D.l2i1) B λN J Z=>CO ?_);show CO (CO ?_);show BR (wpAny_newTuple (hsz:=(by change 2<=CM;decide)) ?_);let hsz:N.objs.size=↑s:=by rw[Z.1,S.1,U.1]
 show CO #[0,2];let M:jA N z TI TO (PQ T) true:=Z.extBut _ _ D.i2z.symm (S.extBut _ _ D.i1z.symm L);change Q ⇑N.objs.size _;rw[hsz];show p _ (GQ _ M) ((I.extBut Z.extBut D.i12).at λo e=>GQ _ e) (J.at λo e=>GQ _ e) ?_ (![vd,hsz]) λc o g i j e=>GQ _ (Z.extBut _ _ j (S.extBut _ _ i (U.extBut _ _ g e)));change (N.push _).get? _=_;rw[<-hsz];show Py _ rfl
def aap {z TI TO T X Y R S:BQ}{xs ys:Ζ}(H:A.handled=none)(D:ZipApart z TI TO X Y R S)
  (hz:jA s.heap z TI TO (PQ T) fb) (m:s.heap.get? T==o) (y:QZ s.heap TI ⇑X ⇑Y)
  (C:s.heap.IsListIter X R k1) (k:s.heap.IsListIter Y S k2) (B:s.heap.IsList R xs) (f:s.heap.IsList S ys) (g:xs[k1]?=none\/ys[k2]?=none)
  (G:∀h' e,(∀c o,c≠z->c≠X->c≠Y->s.heap.get? c==o->h'.get? c==o)->(∃o,h'.get? e==o/\o.cls=.type "StopIteration")->E ⇑e (s⊂h')):
  BX .s A (Builtin.«zip.__next__» #[[⇑z],[]]) Q E s:=by
 change BX _ _ (field ⇑z 2 >>=_) _ _ _;show BR (VP hz rfl (x:=.bool false) rfl ?_);change BX _ _ (field ⇑z 3 >>=_) _ _ _;show BR (VP hz rfl (x:=⇑TI) rfl ?_);show BR (wg y rfl ?_);change BX _ _ (EZ ⇑z >>=_) _ _ _;show BR (al_ hz m λb q Z=>?_);dsimp only[zp,if_false];show BR ?_;change BX _ _ (forIn [Value.ref X,Value.ref Y].toArray _ _) _ _ _;rw[aoG];simp only[yG,yi];show BR (BR (VT ?_));change BX _ _ (Zo ⇑X >>=_) _ _ _;cases P:xs[k1]? with
 | none=>
  show BR (wpAny_nextOf_list_end H (C.extBut Z.extBut D.i1z) (B.extBut Z.extBut D.l1z) P λI e U M=>?_);show G I e (λc o J L _ x=>U _ _ L (Z.extBut _ _ J x)) M
 | some x=>
  let p:ys[k2]?=none:=by rcases g with h|h;erw[P] at h;show h
  show BR (aec (C.extBut Z.extBut D.i1z) (B.extBut Z.extBut D.l1z) P λI j U=>CO ?_);show CO ?_;show BR (BR (VT ?_));change BX _ _ (Zo ⇑Y >>=_) _ _ _;show BR (wpAny_nextOf_list_end H ((k.extBut Z.extBut D.i2z).extBut U.extBut D.i12.symm) ((f.extBut Z.extBut D.l2z).extBut U.extBut D.l2i1) p λu e N M=>?_);show G u e (λc o J L i x=>N _ _ i (U.extBut _ _ L (Z.extBut _ _ J x))) M
def adn {z TI TO T Y Z S U:BQ}{xs ys:Ζ}{Q:Ξ}(D:ZipApart z TI TO Y Z S U)
  (hz:jA s.heap z TI TO (PQ T) fb) (M:s.heap.get? T==o) (R:QZ s.heap TI ⇑Y ⇑Z)
  (I:s.heap.IsListIter Y S k1) (J:s.heap.IsListIter Z U k2) (p:s.heap.IsList S xs) (m:s.heap.IsList U ys) (N:xs[k1]?==x) (P:ys[k2]?==y)
  (L:∀h',jA h' z TI TO (PQ T) true->h'.IsListIter Y S (k1+1)->h'.IsListIter Z U (k2+1)->QZ h' ↑s x y->h'.objs.size=↑s+1->
   (∀c o,c≠z->c≠Y->c≠Z->s.heap.get? c==o->h'.get? c==o)->Q (some (.ref ↑s)) (s⊂h')):
  BX .s A (VW ⇑z) Q E s:=by
 let X:s.TypeIs ⇑z "zip":=(_,hz,O);unfold VW
 show BR (wpAny_attempt (wpAny_callSpecial?_slot (name:=Rj "__next__") X EW
  (P8 EW X agr
   (adf D hz M R I J p m N P λh' q u B C G H=>CO (L h' q u B C G H)) (agm _))))
def ad8 {z TI TO T X Y S U:BQ}{xs ys:Ζ}{Q:Ξ}(M:A.handled=none)(D:ZipApart z TI TO X Y S U)
  (hz:jA s.heap z TI TO (PQ T) fb) (I:s.heap.get? T==o) (R:QZ s.heap TI ⇑X ⇑Y)
  (C:s.heap.IsListIter X S k1) (G:s.heap.IsListIter Y U k2) (y:s.heap.IsList S xs) (x:s.heap.IsList U ys) (B:xs[k1]?=none\/ys[k2]?=none)
  (H:∀h',(∀c o,c≠z->c≠X->c≠Y->s.heap.get? c==o->h'.get? c==o)->Q none (s⊂h')):BX .s A (VW ⇑z) Q E s:=by
 let Z:s.TypeIs ⇑z "zip":=(_,hz,O);unfold VW
 show BR (wpAny_attempt (wpAny_callSpecial?_slot (name:=Rj "__next__") Z EW
  (P8 EW Z agr (aap M D hz I R C G y x B λh' e N L=>?_) (agm _))))
 let(o,P,J):=L;show BR (wpAny_isInstance (T:="StopIteration") (b:=true) (o,P,J) isSubtype_stop ?_);show CO (H _ N)
end
def ZSt (h:Heap)(z TI TO Y Z a b S:BQ)(i:Nat):Prop:=(jA h z TI TO .none false\/∃(T:BQ)(o:Obj)(X:Bool),jA h z TI TO (PQ T) X/\h.get? T==o/\T≠z/\T≠TO/\T≠Y/\T≠Z/\T≠S)/\QZ h TI ⇑Y ⇑Z/\(∃x y,QZ h TO x y)/\h.IsListIter Y a i/\h.IsListIter Z b i
section
variable {prog:HV}{w:World}{A:LA}{E:γ}{s:CH}{z TI TO i1 i2 a b S:BQ}{i:Nat}
def ZSt.frame (st:ZSt h z TI TO i1 i2 a b S i)(k:∀c o,c≠S->h.get? c==o->h'.get? c==o)(nz:z≠S)(J:TI≠S)(L:TO≠S)(M:i1≠S)(N:i2≠S):ZSt h' z TI TO i1 i2 a b S i:=by
 let(Z,I,(x,y,P),D,G):=st;show(2,k _ _ J I,(x,y,k _ _ L P),D.at λo e=>k _ o M e,G.at λo e=>k _ o N e)
 rcases Z with Z|⟨T,o,C,Z,H,Q,R,U,X,Y⟩
 ·show .inl (k _ _ nz Z)
 ·show .inr (T,o,C,k _ _ nz Z,k _ _ Y H,Q,R,U,X,Y)
def ZSt.item {xs ys:Ζ}{Q:Ξ}(D:ZipApart z TI TO i1 i2 a b)(st:ZSt s.heap z TI TO i1 i2 a b S i)(hS:s.heap.get? S==oS)
  (QI:s.heap.IsList a xs) (EN:s.heap.IsList b ys) (g:xs[i]?==x) (j:ys[i]?==y)
  (hQ:∀h',ZSt h' z TI TO i1 i2 a b S (i+1)->QZ h' ↑s x y->(∀c o,c∉[z,TI,TO,i1,i2]->s.heap.get? c==o->h'.get? c==o)->Q (some (.ref ↑s)) (s⊂h')):
  BX .s A (VW ⇑z) Q E s:=by
 let(Y,U,(x0,y0,P),L,M):=st;let lt:∀{c o},s.heap.get? c==o->↑s≠c:=λe=>ZG (GK e);let I:∃o,s.heap.get? i1==o:=by let(o,e,_):=L;show#[o,e]
 let J:∃o,s.heap.get? i2==o:=by let(o,e,_):=M;show#[o,e]
 let(o1,I):=I;let(o2,J):=J;let X:∀{c:BQ},c∉[z,TI,TO,i1,i2]->c≠z/\c≠TI/\c≠TO/\c≠i1/\c≠i2:=λh=>~~~h
 rcases Y with Y|⟨T,o,fb,Y,f,k,t2,m,p,t5⟩
 ·show wpAny_pyNext_zip_item D Y U P L M QI EN g j λh' q a2 u B R a6 Z=>?_
  show hQ h' (.inr (_,_,false,q,R,lt Y,lt P,lt I,lt J,lt hS),Z _ _ D.TIz D.TITO D.TIi1 D.TIi2 U,(_,_,a2),u,B) R λc o N e=>?_;let(C,c2,c3,G,H):=X N;show Z c o C c3 G H e
 ·show adn D Y f U L M QI EN g j λh' q u B R a6 Z=>?_
  show hQ h' (.inr (T,o,true,q,Z _ _ k m p f,k,t2,m,p,t5),Z _ _ D.TIz D.TIi1 D.TIi2 U,(_,_,Z _ _ D.TOz D.TOi1 D.TOi2 P),u,B) R λc o N e=>?_;let(C,c2,c3,G,H):=X N;show Z c o C G H e
def ZSt.fin {xs ys:Ζ}{Q:Ξ}(L:A.handled=none)(D:ZipApart z TI TO i1 i2 a b)(st:ZSt s.heap z TI TO i1 i2 a b S i)
  (B:s.heap.IsList a xs) (y:s.heap.IsList b ys) (C:xs[i]?=none\/ys[i]?=none)
  (J:∀h',(∀c o,c∉[z,TI,TO,i1,i2]->s.heap.get? c==o->h'.get? c==o)->Q none (s⊂h')):BX .s A (VW ⇑z) Q E s:=by
 let(Y,M,(m,p,x),H,I):=st;let Z:∀{c:BQ},c∉[z,TI,TO,i1,i2]->c≠z/\c≠TI/\c≠TO/\c≠i1/\c≠i2:=λh=>~~~h
 rcases Y with Y|⟨T,o,fb,Y,u,t1,f,g,j,k⟩
 ·show wpAny_pyNext_zip_end L D Y M x H I B y C λh' X=>J h' λc o U e=>?_
  let(N,q,G,P,R):=Z U;show X c o N G P R e
 ·show ad8 L D Y u M H I B y C λh' X=>J h' λc o U e=>?_
  let(N,q,G,P,R):=Z U;show X c o N P R e
end
section
variable {X:Cx}{AP:ζ}{Z:L2.St}
def zah (h:H p=none)(o:HO):aq H (upd H p o):=λb u q=>by rwa[ah (ak q h)]
def boot_list:V0 "list"==.type "list":=d_k
end
section
variable {X:Cx}
def yD {K:Frag}(U:X.K=K)(Z:PE X e ta)(Y:WX e f X.env (CQ e X.env)=CQ e X.env):PE X (.Attribute e f pos) (ahh K ta f):=by
 subst U;show aeQ Z Y
end
def thE (H0:Hp)(E:XK):XK:=λcls Y Z=>E cls Y Z \/∃d o X,Z d==(.e_ o (.dK X))/\(∀T U,H0 d≠some (.e_ T U))/\E cls Y (upd Z d (.dK X))
def aR.afd (h:aR P w outer H s (thE H E) e s'):aR P w outer H s E e s':=by
 let(a,cls,x,C,T,B,rfl,D,A,Z,L,os,X,G,M,N):=h
 rcases N with N|⟨d,o,I,U,j,N⟩
 ·show(a,cls,x,C,T,B,O,D,A,Z,L,os,X,G,M,N)
 ·let R:∀b Y,T b==Y ->b≠d->upd T d (.dK I) b==Y:=λb u q n=>by rwa[ah n]
  show(a,cls,x,C,upd T d (.dK I),B,O,D,A,(Z.keep,Z.slot,λb J q n i=>?_,Z.there,λb xs q=>?_,λb J u q=>?_,λb p q=>?_),2,os,X,G,λb u q=>?_,N)
  ·let z:=Z.free b J q n i
   rw[ah (λy=>by erw[y,U] at z)];show z
  ·let z:=Z.mX b xs q
   show R b _ z λy=>by erw[y,U] at z
  ·let z:=Z.lS b J u q
   show R b _ z λy=>by rw[y] at q;show j\q
  ·let(m,z):=Z.lT b p q
   show#[m,R b _ z λy=>by erw[y,U] at z]
  ·let S:∀{b Y},ck P w T s'.heap b Y ->ck P w (upd T d (.dK I)) s'.heap b Y:=λ{b Y} k=>k.pH (λ_ _ _ z=>z) (λc z=>R c _ z λy=>by erw[y,U] at z) λc xs z=>R c _ z λy=>by erw[y,U] at z
   intro b Y q;by_cases Q:b=d
   ·subst Q
    erw[af] at q;show S (L b _ U).2
   ·rw[ah Q] at q
    show S (L b Y q)
  ·by_cases Q:b=d
   ·subst Q
    show M b _ U
   ·rw[ah Q] at q
    show M b u q
section
variable {P:HV}{w:World}{K:Frag}{mg:ι}{gV:Heap}
def afe (X:∀vs H Q E,sp vs H Q E->vs.length=ps.length)(h:∀vs H Q E,sp vs H Q E->sp' vs H Q (thE H E))(F:!cz (aR P w) k f fd ps sp'):!cz (aR P w) k f fd ps sp:=
 #[X,λA Z s H args U vs Q E R N M T S=>EY (F.run A Z s H args U vs Q (thE H E) R N M T (h _ _ _ _ S)) λr J Y=>by
  cases r with
  | error e=>show aR.afd Y
  | ok L=>
   cases L with
   | ret u=>show Y
   | next=>show Y
   | brk=>show Y
   | cont=>show Y]
end
def aff (l:BQ)(BS:Ζ)(n:Nat)(b:BQ)(Z:Ζ)(Q:Nat)(d:χ)(S:Ι)(P:¬(!BS.isEmpty && T_ (BS.size+Z.size))=true)(X:BS.size<=CM)(C:BS.size+Z.size<=CM+1):
  Meets (Builtin.«list.extend» #[[⇑l,⇑b],[]]) (λ_ R s=>s.heap.get? l=={cls:=.type "list",dict:=none,data:=.seq BS n,slots:= #[]}/\s.heap.get? b=={cls:=.type "tuple",dict:=d,data:=.seq Z Q,slots:=S}/\
   R (.ok (.ret Value.none)) {s with heap:=s.heap.update l (uL λx=>x++Z),toks:=s.toks}):=
 .of_wp λU w A R s h=>by
  let(L,g,D,M,os):=s;let(T,N,h):=h;let E:=AutoSeq1.idx_int;let G:=AutoSeq1.sub_tuple_tuple;let H:=AutoSeq1.sub_list_list;let I:=AutoSeq1.sub_tuple_list;let J:=AutoSeq1.sub_list_tuple;let Y:(BS++Z).size<=CM+1:=by rwa[Array.size_append]
  wp_walk using (agy T rfl (hz:=X) (_hz':=Y)),wpAny_loadPart' T,wpAny_loadPart' N
  show#[0,h]
section
variable {X:Cx}
def anP (K:Frag):V->List V->Hp->VK->Prop:=λx Y H Q=>∃l b xs Z,x=⇑l/\Y=[⇑b]/\H l==.lst xs/\cb K H b Z/\xs.length+Z.length<=1000/\Q .cS (upd H l (.lst (xs++Z)))
def afg:MtR X "list.extend" (anP X.K):=by
 intro g s Z H x o v m Q I M L h;let(l,b,xs,w,rfl,rfl,R,C,k,q):=h;cases M;let(u,rfl,J):=L.one;cases J;let(z,Y,n,r,j,e):=I.uf R;let(U,S,P,p):=I.tuple C;let i:=S.length;let A:(1000:Nat)<=CM:=gM
 let T:Y.toArray.size+U.toArray.size<=CM:=by rw[RS,RS];omega
 let y:¬ (!Y.toArray.isEmpty && T_ (Y.toArray.size+U.toArray.size))=true:=by
  rw[xU T,US];show QW
 let((c,d,dt,N),B,D,G,E):=P;obtain rfl:c=Value.type "tuple":=D;obtain rfl:dt=_:=E
 show OH F.slot_list_extend (_,e,O) F.entry_list_extend (F.args_list_extend_2 _ _)
  (aff l Y.toArray n b U.toArray G d N y (by rw[RS];omega) gu) (e,B,2)
 show(.cS,_,I.aiG (sW:=Y++U) R e gN (r.append S) ?_,O,q);rw[GY];omega
end
def aaU:typeLookup (.type "zip") "__getattr__"=pure none:=by rw[typeLookup_type,builtinLookup_eq_fast];kernel_rfl
def ag3:typeLookup (.type "zip") "keys"=pure none:=by rw[typeLookup_type,builtinLookup_eq_fast];kernel_rfl
def ac1:entryFor table "zip.__getattribute__"==Builtin.«object.__getattribute__»:=
 entryFor_alias (id':="object.__getattribute__") (by kernel_rfl) d_k d_k (by kernel_rfl)
def za2:entryFor table "dict.update.loop"==Builtin.«dict.update.loop»:=entryFor_of_tree (by kernel_rfl)
def j0:plainId "dict.update.loop"=true:=d_k
def aaq (a:BQ)(vs:Ζ)(u:Tok):
  Meets (Builtin.«object.__getattribute__» #[[⇑a,.str "keys" u],[]]) (λA R s=>s.heap.get? a=={cls:=.type "zip",dict:=none,data:=.fields vs,slots:= #[]}/\raisesAttr ⇑a "keys" A R s):=
 Meets.of_wp λY w A R s Z=>by
  let(T,g,d,X,os):=s;let(U,Z):=Z;let Q:((T,g,d,X,os):CH).TypeIs ⇑a "zip":=(_,U,O);let S:=ag3;unfold Builtin.«object.__getattribute__»
  repeat (any_goals (first|(assumption)|wp_step))
  show wpAny_raiseAttrError Z.1 Z.2 (attrMsg_fits d_k d_k)
section
variable {prog:HV}{w:World}{A:LA}{E:γ}{s:CH}
def afP {vs:Ζ}{Q:Ξ}(T:s.heap.get? z=={cls:=.type "zip",dict:=none,data:=.fields vs,slots:= #[]})(P:A.handled=none)
  (h:∀Y X,(∀b o,s.heap.get? b==o->Y.get? b==o)->Q none {s with heap:=Y,toks:=X}):BX .s A (getAttr? ⇑z "keys") Q E s:=by
 let(R,g,d,X,os):=s;let S:∀Z,((R,g,d,Z,os):CH).TypeIs ⇑z "zip":=λ_=>(_,T,O);let G:=sub_AttributeError;let H:=F.slot_zip_getattribute.lookup;let I:=F.slot_zip_getattribute.bind ⇑z;let J:=aaU;unfold getAttr? getAttrBy? getAttrBy
 repeat (any_goals (first|(assumption)|show S _|((with_reducible change BX _ _ (call (Value.builtin "zip.__getattribute__") _ _) _ _ _);show OH F.slot_zip_getattribute (S _) ac1 (F.args_zip_getattribute_2 _ _) (aaq z vs _) ⟨T,P,λY Z e U =>?_⟩)|wp_step))
 let(M,N,L):=U.there;change BX _ _ (getattributeRaised _ _ _ _ _ _ _) _ _ _;unfold getattributeRaised
 repeat (any_goals (first|(assumption)|wp_step))
 show h\U.keeps
def abW {z TI TO:BQ}{Q:γ}(C:A.in1.in1.handled=none)(hz:VG s.heap z TI TO f0)
  (H:∀(h':Heap)(P:Nat)(R:Θ),(∀b o,s.heap.get? b==o->h'.get? b==o)->h'.get? ↑s==("dict"^^^.dict #[])->
   (∀N,Q (.ref ↑s) N ->R (.ok (.ret .none)) N)->Ri .s A.in1 (.builtin "dict.update.loop" #[[.ref ↑s,⇑z,PQ 0,.none],[]]) R {s with heap:=h',toks:=P}):
  BX .s A (call (.type "dict") [⇑z]) Q E s:=by
 show callType_codes (Q₁:=λY I=>Y=.ref ↑s/\I=(s⊂s.heap.push ("dict"^^^.dict #[]))) F.kt_called_dict (F.kt_typeCall_dict_1 _) F.entry_dict_init (kt_code_dict_new _ #[8]) ?_;rintro Y I ⟨rfl,rfl⟩;let T:(s.heap.push ("dict"^^^.dict #[])).get? ↑s==("dict"^^^.dict #[]):=Py _ rfl;let L:∀b o,s.heap.get? b==o->(s.heap.push ("dict"^^^.dict #[])).get? b==o:=λb o e=>GQ _ e;generalize B:↑s=S at T H ⊢;generalize s.heap.push ("dict"^^^.dict #[])=U at T L ⊢;let Z:U.get? z=_:=L\hz;let X:Shared.TypeIs (s⊂U) ⇑S "dict":=(_,T,O);let D:Shared.TypeIs (s⊂U) ⇑z "zip":=(_,Z,O);show(X,F.args_dict_init_2 _ _,2);unfold Builtin.«dict.__init__»;show BR ?_;unfold Builtin.Dict.selfAndRest;show BR (wpAny_notOrdered_dict X ?_);show CO ?_;change BX _ _ (Builtin.Dict.updateFrom "dict.__init__" S ⇑z [] .none) _ _ _;unfold Builtin.Dict.updateFrom;show BR (wpAny_typeOf D ?_);rw[iB gM];show BR (afP (s:=(s⊂U)) Z C λh' P M=>?_);rw[iB (by rfl)];show BR (wpAny_rule ?_);let J:VG h' z TI TO f0:=M\Z;show BR (Uk (s:={s with heap:=h',toks:=P}) J ?_);show CO #[plainId_quiet j0 _,H _ _ _ (λb o e=>M\(L _ _ e)) (M\T) λN G=>#[O,G]]
end
section
variable {X:Cx}{AP:ζ}{Z:L2.St}
def acL (BN Y:δ)(U:Key×V):eU BN (Y++[U])=putK (eU BN Y) U.1 U.2:=by
 unfold eU;rw[apj];rfl
def ajk {z TI TO N P a b S:BQ}{R:Θ}{ks:List Key}(hh:A'.in1.handled=none)(D:ZipApart z TI TO N P a b)(na:a≠S)(nb:b≠S)(hk1:ks.length<=1000):
  ∀(k i:Nat)(s:CH)(H:Hp),min ks.length ys.length-i=k->i<=min ks.length ys.length->Inv X AP Z H s->(∀c∈[z,TI,TO,N,P],ua X AP H c)->ZSt s.heap z TI TO N P a b S i->
  H a==.lst (ks.map kV)->H b==.lst ys->H S==.dK (eU [] ((ks.zip ys).take i))->aZ S H0 H->
  (∀s' H',Inv X AP Z H' s' ->aZ S H0 H' ->H' S==.dK (eU [] (ks.zip ys))->R (.ok (.ret .none)) s')->
  Ri .q A' (.builtin "dict.update.loop" #[[⇑S,⇑z,PQ (i:Int),.none],[]]) R s:=by
 let aOt:(ks.zip ys).length=min ks.length ys.length:=aqI;intro k
 induction k with
 | zero=>
  intro i s H hk hi I L st A B T U f;show codeAny_builtin za2 ?_;rw[Around.under_plainId j0 _];change BX _ A'.in1 (VW ⇑z >>=_) _ _ s;let(z1,BS,n1,r1,l1,e1):=I.uf A;let(z2,j,n2,r2,l2,e2):=I.uf B;rw[CA] at l1;show BR (st.fin hh D (_,e1,7) (_,e2,7) ?_ λJ m=>?_)
  ·by_cases c:ks.length<=i
   ·show .inl (by simp;omega)
   ·show .inr (by simp;omega)
  ·rw[T4 gu] at T
   show BR (CO (CO (f _ H (Inv.rB (t':=s.toks) I m L) U T)))
 | succ k ih=>
  intro i s H hk hi I L st A B T U f;show codeAny_builtin za2 ?_;rw[Around.under_plainId j0 _];change BX _ A'.in1 (VW ⇑z >>=_) _ _ s;let(z1,BS,n1,r1,l1,e1):=I.uf A;let(z2,j,n2,r2,l2,e2):=I.uf B;let lx:i<ks.length:=gu
  let ly:i<ys.length:=gu
  let(u,hu,ru):=r1.get (i:=i) (x:=kV ks[i]) (by rw[Wp,gE lx];rfl);let(v,hv,rv):=r2.get (i:=i) (x:=ys[i]) (gE ly);let(zS0,aOu,vs0,axm,dd0):=rF I.bU T;let(oS,_,_,eS,_):=id dd0;show BR (st.item D eS (_,e1,7) (_,e2,7) (x:=u) (y:=v) (~~~hu) (~~~hv) λJ Ze ht m=>?_)
  let Y:∀c∈[z,TI,TO,N,P],c≠S:=λc C e=>by
   have:=(L c C).1;erw[e,T] at this
  let I2:Inv X AP Z H {s with heap:=J,toks:=s.toks}:=Inv.rB (t':=s.toks) I m L;let(zS,g,vs,Q,dd):=rF I2.bU T;let hT:Shared.TypeIs {s with heap:=J,toks:=s.toks} (.ref ↑s) "tuple":=(_,ht,O);show BR (VT ?_);show BR (wpAny_tryCatch ?_);unfold Builtin.Dict.pairItems;show BR (wpAny_typeOf hT ?_);rw[iB gM];show BR (wg ht rfl (CO ?_));change BX _ A'.in1 (Zx [u,v] (dictSet S u v)) _ _ _;show VT ?_;let M:vs.length<=CM:=by rwa[<-Q.length]
  show wpAny_dictSet_pairs (hsz:=M) (vy ru) dd λh2 G sb=>?_;let he:∃q,h2.get? S==q:=let ⟨q,_,_,hq,_⟩:=G;#[q,hq]
  let etk:(ks.zip ys).take (i+1)=(ks.zip ys).take i++[(ks[i],ys[i])]:=by
   rw[al3];have:(ks.zip ys)[i]?==(ks[i],ys[i]):=by rw[List.getElem?_zip_eq_some];show#[gE lx,gE ly]
   rw[this];rfl
  let E:eU [] ((ks.zip ys).take (i+1))=putK (eU [] ((ks.zip ys).take i)) ks[i] ys[i]:=by rw[etk,acL]
  let hl:(putK (eU [] ((ks.zip ys).take i)) ks[i] ys[i]).length<=CM:=by
   rw[<-E];let h1:=kj ((ks.zip ys).take (i+1)) [];rw[QT,anX] at h1;show CP (show(eU [] ((ks.zip ys).take (i+1))).length<=1000 by omega) gM
  let I3:Inv X AP Z (upd H S (.dK (putK (eU [] ((ks.zip ys).take i)) ks[i] ys[i]))) {s with heap:=h2,toks:=s.toks+1}:=xy (s:={s with heap:=J,toks:=s.toks}) (t':=s.toks+1) I2 (![T] True.intro) sb he (Q8 hl g (Q.put ks[i] rv) G);let kS:∀c o,c≠S->J.get? c==o->h2.get? c==o:=λc o n e=>(sb.2 c n).trans e;show CO #[plainId_quiet j0 _,2];let p:∀{c:BQ} {o:HO},H c==o->c≠S->(upd H S (.dK (putK (eU [] ((ks.zip ys).take i)) ks[i] ys[i]))) c==o:=λ{c o} e n=>by rwa[ah n]
  show ih (i+1) _ _ gu gu I3 (λc C=>?_) (Ze.frame kS (Y z gN) (Y TI gN) (Y TO gN) (Y N gN) (Y P gN)) (p A na) (p B nb) (![E,af]) (λc o n e=>p (U c o n e) n) f;let(f0,f1,f2,f3,f4,f5):=L c C;show(by rwa[ah (Y c C)],f1,f2,f3,f4,f5)
def aar (Q:VK)(vs:ε)(Y:Hp):Prop:=∃(a b:BQ)(U:List Key)(S:ε),vs=[⇑a,⇑b]/\Y a==.lst (U.map kV)/\Y b==.lst S/\U.length<=1000/\∀(l:BQ)(T:Hp),aq Y T ->Y l=none->T l==.dK (eU [] (U.zip S))->Q ⇑l T
def ajl (Y:TA):TE:=λZ H Q=>Y Z H (aar Q)
def boot_dict:V0 "dict"==.type "dict":=d_k
def aas {p U p' L:Pos}(hc:X.calm=true)(g:Gl X "dict")(m:X.mg "dict"=none)(hg:Gl X "zip")(hm:X.mg "zip"=none)(ha:PA X [P,T] ta)(hs:CW [P,T] X.env=[(false,CQ P X.env),(false,CQ T X.env)]:=by rfl)(BI:CW [T] X.env=[(false,CQ T X.env)]:=by rfl)
  (J:CW [(.Call (.Name "zip" p) [P,T] [] U:Expr)] X.env=[(false,CQ (.Call (.Name "zip" p) [P,T] [] U) X.env)]:=by rfl):
  PE X (.Call (.Name "dict" p') [.Call (.Name "zip" p) [P,T] [] U] [] L) (ajl ta):=by
 intro AP s Z H Q I h;show Call_ (gP I g m boot_dict (vb ?_ J rfl));rw[J];change BX _ _ (spliced ((false,CQ (.Call (.Name "zip" p) [P,T] [] U) X.env)::[])) _ _ s;show EU ?_;show Call_ (gP I hg hm boot_zip (vb (cH (ha U AP s Z H _ I h) λus Y ⟨vs,H1,N,r1,q1⟩=>?_) (![hs,BI]) (by rw[BI];rfl)));let(a,b,ks,ys,e,w,x,k,q):=q1;subst e;cases r1 with
 | cons r D=>
  cases D with
  | cons r' D=>
   cases D;cases r;cases r';let(z1,BS,n1,r1,l1,P):=N.uf w;let(z2,jts,n2,r2,l2,T):=N.uf x;let B:a<↑Y:=GK P;let C:b<↑Y:=GK T;show call_zip_2 (_,P,7) (_,T,7) λS hz i9 oP i j u hk=>TQ ?_;let E:Inv X AP Z H1 {Y with heap:=S,toks:=Y.toks}:=N.kept (t':=Y.toks) hk;let G:=E.bU.fresh (CK S.objs.size);show abW (s:=(Y⊂S)) (N.ok.hd hc) hz λh2 tk R M f hR=>?_;let lt':J_<S.objs.size:=(E.mod.glob.keeps E.bk).lt;let ns:(S.objs.size⊆VO)=false:=beq_eq_false_iff_ne.mpr (CV (QV (vv gM lt')));let I3:Inv X AP Z (upd H1 S.objs.size (.dK [])) {Y with heap:=h2,toks:=tk}:=E.laid (t':=tk) M (CK _) (RQ _,ns,[],.nil,9,_,f,#[8,O],O,λ_ he=>by simp at he,Pairs.nil,List.nodup_nil)
   let st:ZSt h2 (↑Y+4) (↑Y+2) (↑Y+3) ↑Y (↑Y+1) a b S.objs.size 0:=
    (.inl (M\hz),M\i9,(_,_,M\oP),i.at λo e=>M _ o e,j.at λo e=>M _ o e)
   let na:a≠S.objs.size:=ak w G;let nb:b≠S.objs.size:=ak x G;let Pq:=zah G (.dK []);show ajk (A':=X.A.in1) (H0:=H1) (ks:=ks) (ys:=ys) (N.ok.hd hc) ?_ na nb k (min ks.length ys.length) 0 _ _ gu (RQ _) I3 (λc' vn =>?_) st (Pq\w) (Pq\x) af (λb' o n e=>Pq\e) λs' H' I' y c=>hR s' (⇑S.objs.size,H',I',O,q _ H' (λb' o e=>y b' o (ak e G) e) G c)
   ·show uq B C
   ·let(hb,Ui):=yj vn
    show N.vQ hb ?_;rw[ah λz=>Ui (z>>>u)];show N.bU.fresh hb
end
def bY.snoc {K:Frag}(h:bY K H us qs)(n:qU K H v q):bY K H (us++[v]) (qs++[q]):=by
 show#[by simp[h.1],λi u X Z Y=>?_];let l:=h.1;by_cases c:i<us.length
 ·rw[PR c] at Z
  rw[PR gu] at Y;show h.2 i u X Z Y
 ·rw[RF gu] at Z Y
  by_cases z:i-us.length=0
  ·rw[z] at Z
   rw[show i-qs.length=0 by omega] at Y;cases Z;cases Y;show n
  ·rw[IF (by simp;omega)] at Z
   cases Z
theorem bY.bC {K:Frag}(h:bY K H us qs)(s:bh H H'):bY K H' us qs:=#[h.1,λi u q Y Z=>(h.2 i u q Y Z).bC s]
variable {X:Cx}
section
variable {X:Cx}{o e:Expr}{es:ω}{to:TE}{t:TA}{name:Str}{apos dS:Pos}{T id:String}{r:Φ}
def abX {K:Frag}(h:X.K=K):oJ X (V2 .NotIn) (rIn K true):=by subst h;show ja
end
theorem bh.ks (Z:H D==.lst ys)(ks:aZ D H H'):bh H H':=λb xs r=>by
 rcases r with r|⟨Y,r⟩
 ·show .inl (ks _ _ (λe=>by erw[e,Z] at r) r)
 ·show .inr #[Y,ks _ _ (λe=>by erw[e,Z] at r) r]
end Ty
namespace Ty
theorem ac4 {Y:Type}[DecidableEq Y]:∀{l m:List Y},l.Nodup->(∀x∈l,x∈m)->l.length<=m.length
 | [],_,_,_=>RQ _
 | x::l,m,h,k=>by
  let(T,U):=VS.mp h;let Z:=k x Pz;have:=ac4 (l:=l) (m:=m.erase x) U λy X=>(List.mem_erase_of_ne (λz:y=x=>T (by rwa[<-z]))).mpr (k y (OX _ X));rw[List.length_erase_of_mem Z] at this;let p:=List.length_pos_of_mem Z;change l.length+1<=m.length;omega
def box (B:Nat):Nat->List (List Int)
 | 0=>[[]]
 | n+1=>(box B n).flatMap λy=>(KA (B+1)).map λ(a:Nat)=>(a:Int)::y
theorem aer {Y:Type}(c:Nat):∀l:List Y,(l.map λ_=>c).sum=l.length*c
 | []=>by simp
 | _::l=>by
  rw[O_,List.sum_cons,aer c l,VN,Pn];omega
theorem IG (B:Nat):∀n,(box B n).length=(B+1)^n
 | 0=>rfl
 | n+1=>by
  let Z:=IG B n;unfold box;rw[List.length_flatMap];have:((box B n).map λy=>((KA (B+1)).map λ(a:Nat)=>(a:Int)::y).length)=(box B n).map λ_=>B+1:=UU λy _=>by rw[CA,OE]
  rw[this,aer,Z,v7]
theorem za1 (B:Nat):∀n,(box B n).Nodup
 | 0=>by simp[box]
 | n+1=>by
  let Y:=za1 B n;unfold box;unfold List.Nodup at Y ⊢;rw[List.pairwise_flatMap];show#[λy _=>?_,Y.imp λ{S T} Z x U z X e=>?_]
  ·rw[ang]
   show UO.imp λ{a b} Z e=>Z (by injection e with e _;show Int.ofNat.inj e)
  ·let(a,_,rfl):=CS.mp U
   let(b,_,rfl):=CS.mp X;injection e with _ e
   show Z e
theorem oR :∀{n:Nat} {y:ρ},y∈box B n ↔ y.length=n/\∀a∈y,0<=a/\a<=(B:Int)
 | 0,y=>by
  unfold box;rw[OK];constructor
  ·intro e
   rw[e];show#[O,λa h=>nomatch h]
  ·intro h
   show Ub.mp h.1
 | n+1,y=>by
  unfold box;rw[FQ];constructor
  ·rintro ⟨z,hz,T⟩
   let(a,U,rfl):=CS.mp T;let(Z,Y):=(oR (n:=n)).mp hz;have:=Rb.mp U;show#[by simp[Z],λb X=>?_]
   rcases QQ.mp X with e|e
   ·rw[e]
    omega
   ·show Y b e
  ·rintro ⟨Z,Y⟩
   match y,Z with
   | a::z,Z=>
    let U:=Y a Pz;show(z,(oR (n:=n)).mpr #[~~~Z,λb X=>Y b (OX _ X)],CS.mpr (a.toNat,Rb.mpr (show a.toNat<B+1 by omega),2));rw[show((a.toNat:Nat):Int)=a by omega]
def lj:List Int->List Int->Int
 | a::e,b::y=>a*b+lj e y
 | _,_=>0
theorem alK:∀(e:ρ) {y z:ρ},y.length=z.length->lj e (Rr (λa b=>a-b) y z)=lj e y-lj e z
 | [],y,z,h=>by simp[lj]
 | a::e,[],[],h=>by simp[lj]
 | a::e,b::y,c::z,h=>by
  let Z:=alK e (y:=y) (z:=z) (~~~h);rw[anS];simp only[lj];rw[Z,Int.mul_sub];omega
theorem aem :∀{e y:ρ},(∀a∈e,a.natAbs<=A)->(∀b∈y,b.natAbs<=B)->(lj e y).natAbs<=e.length*(A*B)
 | [],y,_,_=>by simp[lj]
 | a::e,[],_,_=>by simp[lj]
 | a::e,b::y,X,Y=>by
  let U:=aem (e:=e) (y:=y) (λx Z=>X x (OX _ Z)) λx Z=>Y x (OX _ Z);simp only[lj]
  let m:(a*b).natAbs<=A*B:=by
   rw[EH];show VF (X a Pz) (Y b Pz)
  let t:=al1 (a*b) (lj e y);rw[VN,Pn,vo];omega
def aat {eqs:η}(k:eqs.length<n)(f:1<=A)(J:∀e∈eqs,e.length=n/\∀a∈e,a.natAbs<=A):∃z:List Int,z.length=n/\(∃a∈z,a≠0)/\(∀a∈z,a.natAbs<=(2*n*A)^eqs.length)/\∀e∈eqs,lj e z=0:=by
 generalize H:2*n*A=C;generalize g:C^eqs.length=B
 let c1:1<=C:=by
  rw[<-H];show VF (show 1<=2*n by omega) f
 generalize I:n*(A*B)=M
 let R:¬ ∀y∈box B n,∀z∈box B n,(eqs.map λe=>lj e y+(M:Int))=(eqs.map λe=>lj e z+(M:Int))->y=z:=by
  intro inj
  let G:((box B n).map λy=>eqs.map λe=>lj e y+(M:Int)).Nodup:=by
   unfold List.Nodup;rw[ang];show List.Pairwise.imp_of_mem (λ{y z} U Q S e=>S (inj y U z Q e)) (za1 B n)
  let le:=ac4 G (m:=box (2*M) eqs.length) λx o=>by
   let(y,U,rfl):=CS.mp o;let(E,Y):=oR.mp U;show oR.mpr #[by simp,λa T=>?_];let(e,Z,rfl):=CS.mp T
   let b1:=aem (A:=A) (B:=B) (J e Z).2 (y:=y) λb j=>by
    have:=Y b j
    omega
   rw[(J e Z).1,I] at b1;omega
  rw[CA,IG,IG] at le
  let P:2*M+1<=C*(B+1):=by
   let e3:2*M=C*B:=by rw[<-I,<-H,<-x8,<-x8]
   rw[e3,aqE];omega
  let e2:(2*M+1)^eqs.length<=B*(B+1)^eqs.length:=by
   have:=amw P eqs.length;rwa[Nat.mul_pow,g] at this
  let e4:(B+1)^(eqs.length+1)<=(B+1)^n:=Vd gu k
  let e5:B*(B+1)^eqs.length<(B+1)^(eqs.length+1):=by
   rw[v7,zw ((B+1)^eqs.length)];show Nat.mul_lt_mul_of_pos_right (V3 B) (Nat.pow_pos gu)
  omega
 let(y,p):=alB.mp R;let(U,u):=al4.mp p;let(z,w):=alB.mp u;let(Q,D):=al4.mp w;let(ee,S):=al4.mp D;let(E,Y):=oR.mp U;let(lz,bz):=oR.mp Q;let N:y.length=z.length:=gu
 show(Rr (λa b=>a-b) y z,by rw[zq];omega,2,2,λe Z=>?_)
 ·apply VD
  intro h;show S (List.ext_getElem N λi h1 c=>?_);let h':∀a∈Rr (λa b=>a-b) y z,a=0:=λa T=>VD λq=>h (a,T,q)
  let m:y[i]-z[i]∈Rr (λa b=>a-b) y z:=by
   show CU (i:=i) ?_;rw[vS,gE h1,gE c]
  have:=h' _ m;omega
 ·intro a T
  let(i,X):=OV T;rw[vS] at X
  let L:i<y.length:=by
   apply VD;intro q;erw[IF gu] at X
  rw[gE L,gE (show i<z.length by omega)] at X;let ea:y[i]-z[i]=a:=VE X;let q1:=Y _ (Sk L)
  let q2:=bz _ (Sk (show i<z.length by omega));omega
 ·rw[alK e N]
  let(i,X):=OV Z;let P:=sU (λl:List Int=>l[i]?) ee;simp only[Wp,X,FP,Option.some.injEq] at P;omega
def col (l:ρ)(j:Nat):Rat:=((l.getD j 0:Int):Rat)
inductive eG (A:η):(Nat->Rat)->Prop
 | zero:eG A (λ_=>0)
 | put {f:Nat->Rat} (c:Rat) {a:ρ} (h:a∈A) (Z:eG A f):eG A (λj=>f j+c*col a j)
def eG.congr (h:eG A f)(e:∀j,f j=g j):eG A g:=(funext e:f=g)▸h
def eG.add (X:eG A f)(Y:eG A g):eG A (λj=>f j+g j):=by
 induction Y with
 | zero=>show X.congr λj=>by grind
 | put c h _ Z=>show(eG.put c h Z).congr λj=>by grind
def eG.mul (k:Rat)(Y:eG A f):eG A (λj=>k*f j):=by
 induction Y with
 | zero=>show eG.zero.congr λj=>by grind
 | put c h _ Z=>show(eG.put (k*c) h Z).congr λj=>by grind
def eG.mem (h:a∈A):eG A (col a):=(eG.put 1 h eG.zero).congr λj=>by grind
def eG.trans (Y:eG A f)(h:∀a∈A,eG B (col a)):eG B f:=by
 induction Y with
 | zero=>show eG.zero
 | put c X _ Z=>show Z.add ((h _ X).mul c)
def eG.mono (Z:eG A f)(h:∀a∈A,a∈B):eG B f:=Z.trans λa Y=>eG.mem (h a Y)
def eG.first {l:ρ}{A:η}(X:eG (l::A) f):∃a:Rat,eG A (λj=>f j-a*col l j):=by
 induction X with
 | zero=>show#[(0),eG.zero.congr λj=>by grind]
 | put c h _ Y=>
  let(a,Z):=Y
  rcases QQ.mp h with e|e
  ·subst e
   show#[a+c,Z.congr λj=>by grind]
  ·show#[a,(eG.put c e Z).congr λj=>by grind]
def eG.last (Z:eG (A++[l]) f):∃a:Rat,eG A (λj=>f j-a*col l j):=eG.first (Z.mono λa Y=>by
 rcases OB.mp Y with z|z
 ·show OX _ z
 ·rw[OK.mp z]
  show Pz)
def eG.van (Y:eG A f)(h:∀a∈A,col a c=0):f c=0:=by
 induction Y with
 | zero=>rfl
 | put k X _ Z=>
  dsimp only;rw[Z,h _ X];grind
structure X8 (nd:ν):Prop where
 nn:(nd.map (·.1)).Nodup
 here:∀x∈nd,x.2.getD x.1 0≠0
 off:∀x∈nd,∀y∈nd,x.1≠y.1->x.2.getD y.1 0=0
theorem X8.zero:∀{U:ν} {f:Nat->Rat},X8 U->eG (U.map (·.2)) f->(∀x∈U,f x.1=0)->∀j,f j=0
 | [],f,_,T,_=>λj=>by
  have:∀{g:Nat->Rat},eG [] g->g j=0:=λ{g} h=>h.van λa X=>nomatch X;show this T
 | x::r,f,P,T,Y=>by
  let(a,X):=eG.first T;let S:=VS.mp P.nn
  let v:f x.1-a*col x.2 x.1=0:=X.van (c:=x.1) λb R=>by
   let(y,Z,rfl):=CS.mp R;unfold col;rw[P.off y (OX _ Z) x Pz (λz=>S.1 (by change x.1∈_;rw[<-z];show CS.mpr (y,Z,O)))];rfl
  rw[Y x Pz] at v;let M:col x.2 x.1≠0:=fS (P.here x Pz);let Q:a=0:=by grind
  subst Q;let N:X8 r:=(S.2,λy Z=>P.here y (OX _ Z),λy Z z Y=>P.off y (OX _ Z) z (OX _ Y));show X8.zero N (X.congr (g:=f) λj=>by grind) λy Z=>Y y (OX _ Z)
def X8.one (P:X8 Z)(U:eG (Z.map (·.2)) f)(Y:x∈Z)(hz:∀y∈Z,y.1≠x.1->f y.1=0):∃a:Rat,∀j,f j=a*col x.2 j:=by
 let T:col x.2 x.1≠0:=fS (P.here x Y);show#[f x.1 / col x.2 x.1,λj=>?_];let g:eG (Z.map (·.2)) λj=>f j+ -(f x.1 / col x.2 x.1)*col x.2 j:=eG.put _ (CS.mpr (x,Y,O)) U
 have:=P.zero g (λy X=>by
  by_cases c:y.1=x.1
  ·rw[c]
   grind
  ·rw[hz y X c]
   have:col x.2 y.1=0:=by
    unfold col;rw[P.off x Y y X (CV c)];rfl
   rw[this]
   grind) j
 grind
def pZ:List Int->List (List Int)->Nat->Int
 | z::zs,a::A,j=>z*a.getD j 0+pZ zs A j
 | _,_,_=>0
theorem rJ:∀(zs:ρ)(A:η),eG A (λj=>((pZ zs A j:Int):Rat))
 | [],A=>eG.zero.congr λj=>by simp[pZ]
 | _::_,[]=>eG.zero.congr λj=>by simp[pZ]
 | z::zs,a::A=>by
  let Z:=(rJ zs A).mono (B:=a::A) λb Y=>OX _ Y;show(eG.put (z:Rat) (Pz) Z).congr λj=>?_;simp only[pZ,col];push_cast;grind
theorem IH (c:Nat):∀(zs:ρ)(A:η),lj (A.map λa=>a.getD c 0) zs=pZ zs A c
 | [],A=>by cases A<;>simp[pZ,lj]
 | _::_,[]=>by simp[pZ,lj]
 | z::zs,a::A=>by
  simp only[O_,lj,pZ];rw[IH c zs A,VY]
theorem Rk (j:Nat):∀{zs:ρ} {A:η},(∀z∈zs,z.natAbs<=σ)->(∀a∈A,(a.getD j 0).natAbs<=E)->(pZ zs A j).natAbs<=A.length*(σ*E)
 | [],A,_,_=>by simp[pZ]
 | _::_,[],_,_=>by simp[pZ]
 | z::zs,a::A,X,Y=>by
  let U:=Rk j (zs:=zs) (A:=A) (λx Z=>X x (OX _ Z)) λx Z=>Y x (OX _ Z);simp only[pZ]
  let m:(z*a.getD j 0).natAbs<=σ*E:=by
   rw[EH];show VF (X z Pz) (Y a Pz)
  let t:=al1 (z*a.getD j 0) (pZ zs A j);rw[VN,Pn,vo];omega
theorem yE (j:Nat):∀{zs:ρ} {A:η} (z:Int) (a:ρ),zs.length=A.length->pZ (zs++[z]) (A++[a]) j=pZ zs A j+z*a.getD j 0
 | [],[],z,a,_=>by simp[pZ]
 | y::zs,b::A,z,a,h=>by
  let Z:=yE j (zs:=zs) (A:=A) z a (~~~h);simp only[UQ,pZ];rw[Z];omega
def Prm (l:ρ):Prop:=∀d:Int,(∀j,d ∣ l.getD j 0)->d.natAbs=1
def aau (p:Prm l){v:Nat->Int}(T:a≠0)(h:∀j,((v j:Int):Rat)=a*col l j)(j:Nat):(l.getD j 0).natAbs<=(v j).natAbs:=by
 let e:∀j,v j*(a.den:Int)=a.num*l.getD j 0:=λj=>by
  let Z:=h j
  let Y:a=(a.num:Rat) / ((a.den:Int):Rat):=by
   rw[<-aoR];show(aoF a).symm
  let U:((a.den:Int):Rat)≠0:=fS (by have:=a.den_pos;omega);rw[Y] at Z;unfold col at Z
  let S:((v j*(a.den:Int):Int):Rat)=((a.num*l.getD j 0:Int):Rat):=by
   rw[Zs,Zs];generalize ((a.den:Int):Rat)=D at U Z;grind
  show x9.mp S
 let R:∀j,(a.den:Int) ∣ l.getD j 0:=λj=>by
  let Z:a.den ∣ a.num.natAbs*(l.getD j 0).natAbs:=by
   rw[<-EH,<-e j,EH];show#[(v j).natAbs,by rw[zw];rfl]
  let Y:=Nat.Coprime.dvd_of_dvd_mul_left (Nat.Coprime.symm a.reduced) Z;show ako.mp (~~~Y)
 let Q:a.den=1:= ~~~p _ R
 let X:=e j;rw[Q] at X;let P:a.num≠0:=λz=>T (an0.mp z);have:v j=a.num*l.getD j 0:= ~~~X
 rw[this,EH];show Nat.le_mul_of_pos_left _ gu
def aav (p:Prm l):¬ ∀j,l.getD j 0=0:=λh=>by
 have:=p 0 λj=>![h j] (Int.dvd_refl 0)
 simp at this
structure X9 (os:η)(nd:ν)(lv ps qs:η):Prop where
 po:∀p∈ps,p∈os
 qo:∀q∈qs,q∈os
 lp:ps.length=nd.length
 lq:qs.length=lv.length
 s1:∀x∈nd,eG ps (col x.2)
 s2:∀p∈ps,eG (nd.map (·.2)) (col p)
 s3:∀(i:Nat)(l q:ρ),lv[i]?==l->qs[i]?==q->eG (ps++[q]) (col l)/\eG (nd.map (·.2)++[l]) (col q)
 ind:∀zs:List Int,zs.length=ps.length->(∀j,pZ zs ps j=0)->∀a∈zs,a=0
def X9.start (os:η):X9 os [] os [] os:=by
 show(by simp,λq X=>X,8,by simp,by simp,λi l q U Y=>?_,λT h _ a Z=>?_)
 ·rw[U] at Y
  cases Y;show#[eG.mem gN,eG.mem gN]
 ·rw[Ub.mp h] at Z
  cases Z
def X8.cols (P:X8 Z)(X:eG (Z.map (·.2)) (col l))(hz:∀x∈Z,l.getD x.1 0=0):∀j,l.getD j 0=0:=λj=>by
 have:=P.zero X (λx Y=>by unfold col;rw[hz x Y];rfl) j;unfold col at this;show x9.mp (this>>>(by rfl))
def alA {A:η}(X:∀a∈A,∀j,(a.getD j 0).natAbs<=2^b):(A.map λa=>a.getD c 0).length=A.length/\∀x∈A.map (λa=>a.getD c 0),x.natAbs<=2^b:=by
 show#[by simp,λx Z=>?_];let(a,Y,rfl):=CS.mp Z;show X a Y c
def X9.left (Z:X9 os Y lv ps qs)(P:X8 Y){i b:Nat}{l:ρ}(e:lv[i]?==l)(hz:∀x∈Y,l.getD x.1 0=0)(H:∀o∈os,∀j,(o.getD j 0).natAbs<=2^b)(L:Prm l)(j:Nat):(l.getD j 0).natAbs<=(Y.length+1)*((2*(Y.length+1)*2^b)^Y.length*2^b):=by
 let hi:i<qs.length:=by
  rw[Z.lq];show(ir.mp e).1
 obtain ⟨q,D⟩:∃q,qs[i]?==q:=#[_,gE hi];let(u,w):=Z.s3 i l q e D
 let G:∀a∈ps++[q],∀j,(a.getD j 0).natAbs<=2^b:=λa X=>by
  rcases OB.mp X with z|z
  ·show H a (Z.po a z)
  ·rw[OK.mp z]
   show H q (Z.qo q (CU D))
 let I:(ps++[q]).length=Y.length+1:=by simp[Z.lp]
 let(zs,R,nz,bz,p):=aat (n:=Y.length+1) (A:=2^b) (eqs:=Y.map λx=>(ps++[q]).map λa=>a.getD x.1 0) gN (W9) λy Q=>by
  let(x,T,rfl):=CS.mp Q;rw[<-I];show alA G
 rw[CA] at bz
 let B:∀x∈Y,pZ zs (ps++[q]) x.1=0:=λx T=>by
  rw[<-IH];show p _ (CS.mpr (x,T,O))
 let k:eG (Y.map (·.2)++[l]) λj=>((pZ zs (ps++[q]) j:Int):Rat):=(rJ zs (ps++[q])).trans λa X=>by
  rcases OB.mp X with z|z
  ·show(Z.s2 a z).mono λy Q=>Vo _ Q
  ·rw[OK.mp z]
   show w
 let(a,X):=eG.last k
 let E:=P.zero X λx T=>by
  rw[B x T];unfold col;rw[hz x T];change ((0:Int):Rat)-a*((0:Int):Rat)=0;grind
 by_cases c:a=0
 ·exfalso
  subst c
  let C:∀j,pZ zs (ps++[q]) j=0:=λj=>by
   have:=E j;let h:((pZ zs (ps++[q]) j:Int):Rat)=((0:Int):Rat):=by grind
   show x9.mp h
  obtain ⟨U,z,rfl⟩:∃U z,zs=U ++[z]:=by
   rcases an2 zs with h|⟨U,z,h⟩
   ·rw[h] at R
    simp at R
   ·show(U,z,![h,an5])
  let S:U.length=ps.length:=by
   rw[Z.lp];simpa using R
  let M:∀j,pZ U ps j+z*q.getD j 0=0:=λj=>by
   rw[<-yE j z q S];show C j
  by_cases N:z=0
  ·subst N
   let(x,T,J):=nz;let all:=Z.ind U S λj=>~~~M j
   rcases OB.mp T with h|h
   ·show J (all x h)
   ·show J (OK.mp h)
  ·let g:eG ps (col q):=((rJ U ps).mul (-1 / (z:Rat))).congr λj=>by
    let m:((pZ U ps j+z*q.getD j 0:Int):Rat)=((0:Int):Rat):=by rw[M j]
    rw[aqJ,Zs] at m;let zr:(z:Rat)≠0:=fS N;unfold col;grind
   let f:eG ps (col l):=u.trans λa X=>by
    rcases OB.mp X with h|h
    ·show eG.mem h
    ·rw[OK.mp h]
     show g
   show aav L (P.cols (f>>>Z.s2) hz)
 ·let le:=aau L c (v:=λj=>pZ zs (ps++[q]) j) (λj=>by have:=E j;grind) j
  show CP le ?_;have:=Rk j (zs:=zs) (A:=ps++[q]) bz λa X=>G a X j;rwa[I] at this
def X9.need (Z:X9 os Y lv ps qs)(P:X8 Y)(S:x∈Y)(H:∀o∈os,∀j,(o.getD j 0).natAbs<=2^b)(M:Prm x.2)(j:Nat):(x.2.getD j 0).natAbs<=(Y.length+1)*((2*(Y.length+1)*2^b)^Y.length*2^b):=by
 let R:∀a∈ps,∀j,(a.getD j 0).natAbs<=2^b:=λa U=>H a (Z.po a U)
 let E:(Y.filter λy=>decide (y.1≠x.1)).length<Y.length:=by
  let G:(Y.filter λy=>decide (y.1≠x.1)).length<=Y.length:=T2 ..
  rcases Nat.lt_or_eq_of_le G with h|h
  ·show h
  ·have:=List.length_filter_eq_length_iff.mp h x S
   simp at this
 let(zs,J,nz,bz,N):=aat (n:=Y.length) (A:=2^b) (eqs:=(Y.filter λy=>decide (y.1≠x.1)).map λy=>ps.map λa=>a.getD y.1 0) (by rwa[CA]) (W9) λy X=>by
  let(z,D,rfl):=CS.mp X;rw[<-Z.lp];show alA R
 rw[CA] at bz
 let Q:∀y∈Y,y.1≠x.1->pZ zs ps y.1=0:=λy X T=>by
  rw[<-IH];show N _ (CS.mpr (y,ZQ.mpr #[X,~~~T],O))
 let I:eG (Y.map (·.2)) λj=>((pZ zs ps j:Int):Rat):=(rJ zs ps).trans Z.s2
 let(a,U):=P.one I S λy X T=>by
  rw[Q y X T];rfl
 let c:a≠0:=λz=>by
  subst z;let(y,X,L):=nz;show L (Z.ind zs (![J,Z.lp]) (λj=>?_) y X)
  let h:((pZ zs ps j:Int):Rat)=((0:Int):Rat):=by
   rw[U j];change 0*col x.2 j=0;grind
  show x9.mp h
 let le:=aau M c (v:=λj=>pZ zs ps j) U j;show CP le ?_;have:=Rk j (zs:=zs) (A:=ps) bz λa U=>R a U j;rw[Z.lp] at this;show CP this (VF gu (VF ?_ (CK _)));show CP (amw (EM _ (show 2*Y.length<=2*(Y.length+1) by omega)) _) ?_;show Vd (Nat.mul_pos gu (aq_ _)) gu
def ajm (U:s+1<=1024):(s+1)*((2*(s+1)*2^b)^s*2^b)<=2^((s+1)*(b+11)):=by
 let X:2*(s+1)*2^b<=2^(b+11):=by
  have:2*(s+1)<=2^11:=by
   change 2*(s+1)<=2048;omega
  rw[Zq,zw (2^b)];show EM _ this
 let Y:(2*(s+1)*2^b)^s<=2^((b+11)*s):=by
  rw[Nat.pow_mul];show amw X s
 let Z:s+1<=2^11:=by
  change s+1<=2048;omega
 let e:(s+1)*(b+11)=11+((b+11)*s+b):=by
  rw[Pn,vo,zw s];omega
 rw[e,Zq,Zq];show VF Z (EM _ Y)
def aek (k:BJ line C' new c)(X:eG B (col line))(Y:eG B (col C')):eG B (col new):=by
 let(s,t,u,Z,S,e):=k.iL;let T:=fS Z;show((X.mul ((t:Rat) / s)).add (Y.mul (-(u:Rat) / s))).congr λj=>?_;let U:((s*new.getD j 0:Int):Rat)=((t*line.getD j 0-u*C'.getD j 0:Int):Rat):=by rw[e j]
 rw[Zs,ar_,Zs,Zs] at U;unfold col;grind
def aee (k:BJ line C' new c)(X:eG B (col new))(Y:eG B (col C')):eG B (col line):=by
 let(s,t,u,S,Z,e):=k.iL;let T:=fS Z;show((X.mul ((s:Rat) / t)).add (Y.mul ((u:Rat) / t))).congr λj=>?_;let U:((s*new.getD j 0:Int):Rat)=((t*line.getD j 0-u*C'.getD j 0:Int):Rat):=by rw[e j]
 rw[Zs,ar_,Zs,Zs] at U;unfold col;grind
def X9.step {S N :ν}{Q Rl ps qs:η}{X:ρ}{j c:Nat}(Z:X9 os S Q ps qs)(P:X8 S)(ej:Q[j]?==X)(hz:∀x∈S,X.getD x.1 0=0)(hc:X.getD c 0≠0)
  (lL:Rl.length=(Q.eraseIdx j).length) (ML:∀(i:Nat)(x:ρ),(Q.eraseIdx j)[i]?==x->∃y,Rl[i]?==y/\BJ x X y c) (lN:N.length=S.length) (MN:∀(i:Nat)(x:ρ),(S.map (·.2))[i]?==x->∃y,(N.map (·.2))[i]?==y/\BJ x X y c):∃C D,X9 os (N ++[(c,X)]) Rl C D:=by
 let hj:j<Q.length:=(ir.mp ej).1;obtain ⟨q,eq⟩:∃q,qs[j]?==q:=#[_,gE (by rwa[Z.lq])];let(H,t2):=Z.s3 j X q ej eq;let B:X∈(N ++[(c,X)]).map (·.2):=by simp
 let R:∀x∈S.map (·.2),eG ((N ++[(c,X)]).map (·.2)) (col x):=λx m=>by
  let(i,E):=OV m;let(y,ey,k):=MN i x E;show aee k (eG.mem ?_) (eG.mem B);rw[RL];show Vo _ (CU ey)
 let g:∀y∈N.map (·.2),∃x∈S.map (·.2),BJ x X y c:=λy u=>by
  let(i,E):=OV u;let hi:=(ir.mp E).1;rw[CA] at hi;obtain ⟨x,U⟩:∃x,(S.map (·.2))[i]?==x:=#[_,gE (by rw[CA];omega)];let(y',X_,k):=MN i x U;erw[E] at X_;show(x,CU U,k)
 let up:∀{f:Nat->Rat},eG ps f->eG (ps++[q]) f:=λh=>h.mono λa Y=>Vo _ Y;show(ps++[q],qs.eraseIdx j,λp L=>?_,λp L=>Z.qo p (ajb L),by simp[Z.lp,lN],2,λx m=>?_,λp L=>?_,λi l' q' e1 J=>?_,λzs A w a Y=>?_)
 ·rcases OB.mp L with z|z
  ·show Z.po p z
  ·rw[OK.mp z]
   show Z.qo q (CU eq)
 ·rw[lL,UX,UX,Z.lq]
 ·rcases OB.mp m with z|z
  ·let(y,u,k):=g x.2 (CS.mpr (x,z,O))
   let(x0,o,rfl):=CS.mp u;show aek k (up (Z.s1 x0 o)) H
  ·rw[OK.mp z]
   show H
 ·rcases OB.mp L with z|z
  ·show(Z.s2 p z).trans R
  ·rw[OK.mp z]
   show t2.trans λa Y=>?_
   rcases OB.mp Y with h|h
   ·show R a h
   ·rw[OK.mp h]
    show eG.mem B
 ·let hi:=(ir.mp e1).1
  obtain ⟨x,U⟩:∃x,(Q.eraseIdx j)[i]?==x:=#[_,gE gu];let(y',X_,k):=ML i x U;erw[e1] at X_
  obtain ⟨G,f1,f2⟩:∃G,Q[G]?==x/\qs[G]?==q':=by
   rw[aj_] at U J;by_cases h:i<j
   ·rw[iB h] at U J
    show(_,U,J)
   ·rw[iA h] at U J
    show(_,U,J)
  let(u1,u2):=Z.s3 G x q' f1 f2;constructor
  ·show aek k (u1.mono λa Y=>?_) (H.mono λa Y=>Vo _ Y)
   rcases OB.mp Y with h|h
   ·show Vo _ (Vo _ h)
   ·show Vg _ h
  ·show u2.trans λa Y=>?_
   rcases OB.mp Y with h|h
   ·show(R a h).mono λb hb=>Vo _ hb
   ·rw[OK.mp h]
    show aee k (eG.mem gN) (eG.mem (Vo _ B))
 ·obtain ⟨T,z,rfl⟩:∃T z,zs=T ++[z]:=by
   rcases an2 zs with h|⟨T,z,h⟩
   ·rw[h] at A
    simp at A
   ·show(T,z,![h,an5])
  let M:T.length=ps.length:= ~~~A
  let sp:∀j,pZ T ps j+z*q.getD j 0=0:=λj=>by
   rw[<-yE j z q M];show w j
  let I:z=0:=by
   apply VD;intro I
   let hq:eG ps (col q):=((rJ T ps).mul (-1 / (z:Rat))).congr λj=>by
    let s':((pZ T ps j+z*q.getD j 0:Int):Rat)=((0:Int):Rat):=by rw[sp j]
    rw[aqJ,Zs] at s';let zr:(z:Rat)≠0:=fS I;unfold col;grind
   let hl:eG ps (col X):=H.trans λa Y=>by
    rcases OB.mp Y with h|h
    ·show eG.mem h
    ·rw[OK.mp h]
     show hq
   show hc (P.cols (hl>>>Z.s2) hz c)
  rcases OB.mp Y with h|h
  ·show Z.ind T M (λj=>by have:=sp j;rw[I] at this;simpa using this) a h
  ·rw[OK.mp h]
   show I
end Ty
namespace Ty
open PySem PySem.Spec PyProof.Rows L2
section
variable {prog:HV}{w:World}{A:LA}{E:γ}{s:CH}
def ab2 (d:BQ)(Z:(d⊆VO)=false):
  MeetsIn prog w (Builtin.«dict.values» #[[⇑d],[]]) (λ_ R s=>s.TypeIs ⇑d "dict"/\
   R (.ok (.ret (.ref ↑s))) (s⊂s.heap.push ("dict_values"^^^[⇑d]))):=
 .of_wp λA R s ⟨Y,h⟩=>by
  show BR ?_;unfold Builtin.Dict.noArgs;show BR (wpAny_notOrdered_dict Y ?_);change BX _ _ (pure d) _ _ s;show CO ?_;change BX _ _ (Builtin.Dict.showsAll d >>=_) _ _ s;unfold Builtin.Dict.showsAll;rw[iA (![Z] QW)];show BR (CO ?_);show BR (Up (CO #[0,h]))
end
def aaw (H0:Hp)(t:TS):TS:=λD Z H=>t {D with rt:=λv Y=>∃d o X,Y d==(.e_ o (.dT X))/\(∀T U,H0 d≠some (.e_ T U))/\D.rt v (upd Y d (.dT X))} Z H
inductive QJ {Y Z:Type}(p:Y->Z->Prop):Prop where
 | mk (U:Y)(X:Z)(h:p U X):QJ p
inductive Ex3 {X Y Z:Type}(p:X->Y->Z->Prop):Prop where
 | mk (S:X)(T:Y)(U:Z)(h:p S T U):Ex3 p
inductive Ex4 {U X Y Z:Type}(p:U->X->Y->Z->Prop):Prop where
 | mk (Q:U)(R:X)(S:Y)(T:Z)(h:p Q R S T):Ex4 p
inductive Ex5 {T U X Y Z:Type}(p:T->U->X->Y->Z->Prop):Prop where
 | mk (N:T)(P:U)(Q:X)(R:Y)(S:Z)(h:p N P Q R S):Ex5 p
inductive Ex6 {S T U X Y Z:Type}(p:S->T->U->X->Y->Z->Prop):Prop where
 | mk (L:S)(M:T)(N:U)(P:X)(Q:Y)(R:Z)(h:p L M N P Q R):Ex6 p
inductive Ex9 {P Q R S T U X Y Z:Type}(p:P->Q->R->S->T->U->X->Y->Z->Prop):Prop where
 | mk (D:P)(E:Q)(G:R)(H:S)(I:T)(J:U)(L:X)(M:Y)(N:Z)(h:p D E G H I J L M N):Ex9 p
section
variable {P:HV}{w:World}{K:Frag}{mg:ι}{gV:Heap}{CX:qu}{N ps:τ}{k:Nat}{sp:Sp}{st:Stmt}
def Def.oo (D:Def K mg x st ps)(S:av N ps (ae st))
  (U:∀{f:BQ} {Y:Value} {A:LA} {outer:List Env} {s:CH} {vs:ε} {Q:VK} {E:XK} (H:Hp),cp k (A.deeper (RH x (ae st) ↑s f Y))->sp vs H Q E->
   ∃t,tf (kO CX P w K mg gV N x (ae st) f Y A outer s H E).t_ (ao st) t/\t {nx:=λ_ T=>Q .cS T,rt:=Q} .Y H) (Z:∀vs H Q E,sp vs H Q E->vs.length=ps.length:=by intro vs H Q E h;cases h;subst_vars;rfl):!Fn CX (k+1) x ps sp:=D.ok S Z λ_ _ _ _ _ H _ _ _ X h=>U H X h
def Def.op (D:Def K mg x st ps)(S:av N ps (ae st))
  (X:∀(f:BQ)(Y:Value)(A:LA)(outer:List Env)(s:CH)(H:Hp)(vs:ε)(Q:VK)(E:XK),cp k (A.deeper (RH x (ae st) ↑s f Y))->sp vs H Q E->
   ∃t,tf (kO CX P w K mg gV N x (ae st) f Y A outer s H E).t_ (ao st) t/\t {nx:=λ_ U=>Q .cS U,rt:=Q} .Y H) (Z:∀vs H Q E,sp vs H Q E->vs.length=ps.length:=by intro vs H Q E h;cases h;subst_vars;rfl):!Fn CX (k+1) x ps sp:=D.ok S Z X
def iw (F:oN K name qual st f fd)(S:av N ps (ae st))
  (U:∀{Y:Value} {A:LA} {outer:List Env} {s:CH} {vs:ε} {Q:VK} {E:XK} (H:Hp),cp k (A.deeper (RH qual (ae st) ↑s f Y))->sp vs H Q E->
   ∃t,tf (!nK N qual (ae st) f Y A outer s H E).t_ (ao st) t/\t {nx:=λ_ T=>Q .cS T,rt:=Q} .Y H) (Z:∀vs H Q E,sp vs H Q E->vs.length=ps.length:=by intro vs H Q E h;cases h;subst_vars;rfl):!cz (aR P w) (k+1) f fd ps sp:=ahU F S Z λ_ _ _ _ H _ _ _ X h=>U H X h
def q_Y (P:HV)(w:World){X:Cx}:Passes (aR P w) X.t_ E0:=nI aR.BP
end
section
variable {X:Cx}{i:Nat}{x y:Str}{a b c d e e1 e2 e3 e4 e5 elt target iter:Expr}{es ifs:ω}{te ta tb t1 t2 t3 t4 t5:TE}{wi:TI}{g:TG}{tt:TT}{pos pos' py BW p:Pos}{scope:Scope}{tn fr:τ}{mQ:List Nat}
def aw (i:Nat)(R:X.N.Nodup)(S:PE X e te)(U:X.N[i]?==x:=by rfl)(Z:Loc X.env.scope x:=by first|show .inl rfl|show .inr rfl)(Y:Zg e (some (.Name x pos')) pos.line X.env=pure false:=by rfl)(T:X.fn x=true\/X.env.scope.names.lookup x==.local:=by first|show .inl rfl|show .inr rfl|assumption):
  PS X (.Assign [.Name x pos'] e pos) (QP te (dF i)):=ais R U Z S Y T
def cE (i:Nat)(T:X.N.Nodup)(Y:X.N[i]?==x:=by rfl)(Z:Loc X.env.scope x:=by first|show .inl rfl|show .inr rfl)(U:X.fn x=true\/X.env.scope.names.lookup x==.local:=by first|show .inl rfl|show .inr rfl|assumption):PG X (.Name x pos) (dF i):=dh T Y Z U
def bP (Y:IxR X r)(T:PE X a ta)(U:PE X b tb)(Z:aen b:=by show λ_ _=>O):PE X (.Subscript a b pos) (tOp r ta tb):=Zy Y T U Z
def bD (Z:oJ X (V2 op) r)(T:PE X a ta)(U:PE X b tb)(Y:TN op b=false:=by show l_ _):PT X (.Compare a [op] [b] pos) (ag6 (tOp r ta tb)):=oK Z T U Y
def aU (Y:PE X e1 t1)(Z:isStar e1=false:=by rfl):PA X [e1] (vp t1 vR):=Q7 Y ij Z
def aE (T:PE X e1 t1)(U:PE X e2 t2)(Y:isStar e1=false:=by rfl)(Z:isStar e2=false:=by rfl):PA X [e1,e2] (vp t1 (vp t2 vR)):=Q7 T (aU U Z) Y
def bS (R:PE X e1 t1)(S:PE X e2 t2)(T:PE X e3 t3)(U:isStar e1=false:=by rfl)(Y:isStar e2=false:=by rfl)(Z:isStar e3=false:=by rfl):PA X [e1,e2,e3] (vp t1 (vp t2 (vp t3 vR))):=Q7 R (aE S T Y Z) U
def Uo (P:T5 scope X.env=pure (bB X.env fr):=by show O)(Q:∀y∈scope.names,y.2≠.cell:=by decide+kernel)(R:scope.kind=.function:=by show O)(S:∀y∈scope.names,y.2=.local->scope.names.lookup y.1==.local:=by decide+kernel)(T:∀y∈scope.names,y.2=.free->y.1∈fr:=by decide+kernel)(U:mQ.map (λi=>X.N[i]?)=fr.map some:=by show O)
  (Y:kh X.env fr:=by repeat (first|show trivial|show#[by first|show V1 rfl|show ze rfl,2])) (Z:kh (compEnvC scope [] 0 X.env) fr:=by repeat (first|show trivial|show#[by first|show V1 rfl|show ze rfl,2])):HW X scope fr mQ:=(P,Q,R,S,T,U,Y,Z)
def uE (T:PI X target iter wi)(S:∀C s H Z,PG .p target g)(Y:∀C s H Z,PF .p ifs tt)(R:∀{C s H Z},PE .p elt te)
  (Q:X.calm=true:=by rfl) (B:HW X scope fr mQ:=by show Uo) (U:∀x,vZ iter X.env x=pure x:=by intro _;rfl):PE X .u (vw tn.length mQ wi g tt te):=ahs Q B T S Y (λ_ _ _ _=>R) U
def anW (T:(tn++fr).Nodup)(S:(tn++fr)[0]?==y)(Y:∀C s H Z,Loc (xw X (tn++fr) scope (bB X.env fr) C s H Z).env.scope y)(U:∀C s H Z,(xw X (tn++fr) scope (bB X.env fr) C s H Z).fn y=true\/(xw X (tn++fr) scope (bB X.env fr) C s H Z).env.scope.names.lookup y==.local):∀C s H Z,PG .p (.Name y py) (dF 0):=λC s H Z=>dh T S (Y C s H Z) (U C s H Z)
def ix (S:PI X (.Name y py) iter wi)(R:∀{C s H Z},PE .p elt te)
  (Q:X.calm=true:=by rfl) (B:HW X scope fr mQ:=by show Uo) (U:∀x,vZ iter X.env x=pure x:=by intro _;rfl) (P:(tn++fr).Nodup:=by decide+kernel) (N:(tn++fr)[0]?==y:=by rfl) (Y:∀C s H Z,Loc (xw X (tn++fr) scope (bB X.env fr) C s H Z).env.scope y:=by show λ_ _ _ _=>.inl rfl) (T:∀C s H Z,(xw X (tn++fr) scope (bB X.env fr) C s H Z).fn y=true\/(xw X (tn++fr) scope (bB X.env fr) C s H Z).env.scope.names.lookup y==.local:=by intro _ _ _ _;first|show .inl rfl|show .inr rfl):PE X (.ListComp elt [(.Name y py,iter,[],(0))] scope pos) (vw tn.length mQ wi (dF 0) yh te):=ahs Q B S (anW P N Y T) (λ_ _ _ _=>mj) (λ_ _ _ _=>R) U
def Rm (I:X.N.Nodup)(Q:PI X target iter wi)(P:∀C s H Z,PG .p target g)(S:∀C s H Z,PF .p ifs tt)(L:∀{C s H Z},PE .p elt te)
  (U:X.N[i]?==x:=by rfl) (T:Loc X.env.scope x:=by first|show .inl rfl|show .inr rfl) (J:X.calm=true:=by rfl) (B:HW X scope fr mQ:=by show Uo) (Y:Zg .u (some (.Name x py)) BW.line X.env=pure true:=by rfl)
  (R:∀x,vZ iter X.env x=pure x:=by intro _;rfl) (M:X.fn x=true\/X.env.scope.names.lookup x==.local:=by first|show .inl rfl|show .inr rfl|assumption):
  PS X (.Assign [.Name x py] .u BW) (QP (vw tn.length mQ wi g tt te) (dF i)):=ahB I U T J B Q P S (λ_ _ _ _=>L) Y R M
def yF (I:X.N.Nodup)(P:PI X (.Name y yp) iter wi)(L:∀{C s H Z},PE .p elt te)
  (U:X.N[i]?==x:=by rfl) (S:Loc X.env.scope x:=by first|show .inl rfl|show .inr rfl) (J:X.calm=true:=by rfl) (B:HW X scope fr mQ:=by show Uo) (Y:Zg (.ListComp elt [(.Name y yp,iter,[],(0))] scope pos) (some (.Name x py)) BW.line X.env=pure true:=by rfl)
  (R:∀x,vZ iter X.env x=pure x:=by intro _;rfl) (M:X.fn x=true\/X.env.scope.names.lookup x==.local:=by first|show .inl rfl|show .inr rfl|assumption) (T:(tn++fr).Nodup:=by decide+kernel) (G:(tn++fr)[0]?==y:=by rfl) (E:∀C s H Z,Loc (xw X (tn++fr) scope (bB X.env fr) C s H Z).env.scope y:=by show λ_ _ _ _=>.inl rfl) (Q:∀C s H Z,(xw X (tn++fr) scope (bB X.env fr) C s H Z).fn y=true\/(xw X (tn++fr) scope (bB X.env fr) C s H Z).env.scope.names.lookup y==.local:=by intro _ _ _ _;first|show .inl rfl|show .inr rfl):
  PS X (.Assign [.Name x py] (.ListComp elt [(.Name y yp,iter,[],(0))] scope pos) BW) (QP (vw tn.length mQ wi (dF 0) yh te) (dF i)):=ahB I U S J B P (anW T G E Q) (λ_ _ _ _=>mj) (λ_ _ _ _=>L) Y R M
def a9 {E:XK}(F:Fn X.prog X.w X.K X.mg X.gV (aR P w) k x ps sp)(T:cp l X.A)(N:PA X (e::es) t)(S:k<=l:=by decide)(U:Passes (aR P w) X E:=by show nI aR.BP)(R:Gl X x:=by rfl)(Z:.z=false:=by decide)
  (Q:CW (e::es) X.env=(false,CQ e X.env)::CW es X.env:=by rfl) (Y:(QS pos (CW es X.env)).any (·.1)=false:=by rfl):PE X .W (OF sp [] E t):=cW F (T.mono S) U N R Z Q Y
def vD {E:XK}(F:Fn X.prog X.w X.K X.mg X.gV (aR P w) k x ps sp)(T:cp l X.A)(N:PA X (e::es) t)(S:k<=l:=by decide)(U:Passes (aR P w) X E:=by show ahm aR.BP rfl)(R:Gl X x:=by rfl)(Z:.z=false:=by decide)
  (Q:CW (e::es) X.env=(false,CQ e X.env)::CW es X.env:=by rfl) (Y:(QS pos (CW es X.env)).any (·.1)=false:=by rfl):PE X .W (OF sp [] E t):=cW F (T.mono S) U N R Z Q Y
end
def BMain (mg:ι)(h:Heap):Prop:=∃Y Z,mg "__builtins__"==⇑Y/\Y≠OM/\h.get? Y==Z/\Z.cls=.type "module"/\Z.dict==OM/\Z.data=.plain
def restOf (h:Heap)(L:BQ):List (BQ×Obj):=(KA h.objs.size).filterMap λa=>if a=L then none else (h.get? a).map λo=>(a,o)
def qG (e:h.get? b==o)(n:b≠L):(b,o)∈restOf h L:=v8.mpr (b,Rb.mpr (GK e),by rw[iA n,e];rfl)
def IJ:Heap:={objs:= #[]}
def amb (b:BQ):IJ.get? b=none:=by
 cases h:IJ.get? b with
 | none=>rfl
 | some o=>show CC (GK h) (VA _)
def acz :News IJ L h (restOf h L):=λp Z=>by
 let(a,_,e):=v8.mp Z;by_cases z:a=L
 ·rw[iB z] at e
  cases e
 ·rw[iA z] at e
  let(o,Y,rfl):=OR.mp e;show(Y,z,amb _)
def aed {m:ι}(Z:h.Ns L m):Fr IJ L h m:=(Z,(λb o e=>by erw[amb] at e),RQ _)
def PD (q:Str)(c:BQ):HO:=.ext λh=>h.CodeRec ⇑c q
def aax (x:h.CodeRec ⇑c q):ck P w H h c (PD q c):=by
 let(Y,o,Z,t,e,g,r):=id x;cases e;show(x,#[o,g],λU X k s=>?_);let(Y,o,Z,t,e,g,r):=k;cases e;show(_,o,Z,t,O,s o g,r)
def PJ (H:Hp)(P:BQ)(Z:Pos)(q:Str):Prop:=H P==.mW #[]\/∃c,H P==.mW (List.toArray [PQ Z.line,PQ Z.col,⇑c])/\H c==(PD q c)
section
variable {X:Cx}
def Inv.anZ {Z:L2.St}(I:Inv X AP Z H s):s.heap.Ns J_ X.mg:=I.mod.glob.keeps I.bk
def aay {Z:L2.St}{Q:γ}{E:γ}
  (I:Inv X AP Z H s) (axq:defaultsOf params X.env=([],[])) (xv:T5 scope X.env=pure yg) (Uq:X.env.code=⇑cA) (hC:Tx X.K cA P=true) (hB:BMain X.mg X.gV) (U:PJ H P pos .G)
  (h:∀(f c:BQ)(pm J:Value)(H':Hp)(s':CH),Inv X AP Z H' s' ->(∀b o,b≠P->H b==o->H' b==o)->(∀b,H b=none->↑s<=b\/H' b=none)->PJ H' P pos .G->
   (∀b o,b≠P->s.heap.get? b==o->s'.heap.get? b==o)->s'.heap.get? f==(Uj "<lambda>" .G params body scope yg pm c J)->H' f=none->s'.heap.CodeRec ⇑c .G->Q ⇑f s'):
  BX .q X.A (CQ (.Lambda params body scope pos) X.env) Q E s:=by
 let B:PySem.W.CodeHd s.heap cA P:=PySem.W.codeHd_of_K I.lQ hC;let(bm,ob,b1,b2,b3,b4,b5,b6):=hB;let G:=I.bk\b3;let p:=Inv.anZ I
 let gd:∀{b:BQ} {m:ι} {S:Ζ},s.heap.Ns b m->s.heap.get? b≠some (Pa S):=λ{b m S} ⟨o,es,ep,e,d,_⟩ z=>by
  erw[e] at z;cases d
 let n1:bm≠J_:=λz=>by
  let(o,es,ep,e,d,_):=p;erw[z,e] at G;erw[d] at b6
 let T:∀S:Array Value,s.heap.get? P==(Pa S)->s.heap.BuiltinsAt X.mg P:=λS M=>by
  let n2:bm≠P:=λz=>by
   erw[z,M] at G;cases b4
  show(bm,ob,b1,b2,n1,n2,G,b4,b5,b6)
 let q:∀S,H P==.mW S->s.heap.get? P==(Pa S):=λS e=>I.bU P _ e;show PySem.W.kla_eval axq ?_
 rcases U with U|⟨c,U,hc⟩
 ·let M:=q _ U
  show PySem.W.kla_makeFunction (mg:=X.mg) xv I.ok.glob p Uq B M (by trivial) rfl (λz=>gd (z▸p) M) (T _ M) λY J L i hx N Ot j g=>?_;have x :L.get? P==(Pa .zA):= ~~~g
  let C:∀b,H b=none->b≠P:=λb n z=>by erw[z,U] at n
  let lP:P<↑s:=GK M;let cP:Y≠P:=ZG (Qi lP N);let Hc:H Y=none:=I.bU.fresh N;let sz:↑s<=L.objs.size:=CP N (RK Ot);let R:∀b o,b≠P->s.heap.get? b==o->(L.push (Uj "<lambda>" .G params body scope yg ((X.mg "__name__").getD .none) Y J)).get? b==o:=λb o n e=>GQ _ (hx b o n e)
  let D:∀b o,b≠P->H b==o->upd (upd H P (.mW .zA)) Y (PD .G Y) b==o:=λb o n e=>by
   rw[ah (λz=>by erw[z,Hc] at e),ah n];show e
  let st:∀{b u},b≠P->ck X.prog X.w H s.heap b u->ck X.prog X.w (upd (upd H P (.mW .zA)) Y (PD .G Y)) (L.push (Uj "<lambda>" .G params body scope yg ((X.mg "__name__").getD .none) Y J)) b u:=λ{b u} nb k=>k.pH (λd v hd e=>R d v (λz=>by
    rcases hd with y|y
    ·show nb (y▸z)
    ·erw[z,U] at y) e) (λd e=>D d _ (λz=>by erw[z,U] at e) e) λd xs e=>D d _ (λz=>by erw[z,U] at e) e
  let I2:Inv X AP Z (upd (upd H P (.mW .zA)) Y (PD .G Y)) {s with heap:=L.push (Uj "<lambda>" .G params body scope yg ((X.mg "__name__").getD .none) Y J),gens:=s.gens,drawn:=s.drawn,toks:=i}:=by
   show I.step (ch:=[]) (λ_ z=>nomatch z) (λb o _ _ _ e n=>R b o (C b n) e) (λb o _ _ _ e n=>#[o.slots,R b o (C b n) e]) (λb o _ e n=>?_) (λb o _ e=>?_) (λb xs e=>D b _ (λz=>by erw[z,U] at e) e) (λb o u e=>D b _ (λz=>by erw[z,U] at e) e) (λb S e=>?_) (λm hm=>?_) (λb u e=>?_) I.bare
   ·rw[ah (λz=>by rw[z] at e;show CC (GK e) (Nat.not_lt.mpr N)),ah (C b n)]
    show n
   ·by_cases z:b=P
    ·rw[z]
     show#[_,GQ _ x]
    ·show#[o,R b o z e]
   ·by_cases z:b=P
    ·subst z
     erw[U] at e;show#[.zA,by rw[ah (CV cP),af];rfl]
    ·show#[#[],by rw[D b _ z e];simp]
   ·let(o,es,ep,e,r):=hm
    show(o,es,ep,R _ _ (C _ I.free) e,r)
   ·by_cases z:b=Y
    ·subst z
     erw[af] at e;show aax (j.push _)
    ·rw[ah z] at e
     by_cases y:b=P
     ·subst y
      erw[af] at e;show(show _=_ from GQ _ x)
     ·rw[ah y] at e
      show st y (I.bU b u e)
  show h L.objs.size Y _ J _ _ I2 D (λb n=>?_) (.inr (Y,![ah (CV cP),af],af)) R (Py _ rfl) ?_ (j.push _)
  ·by_cases z:b=Y
   ·show .inl (by rwa[z])
   ·show .inr (by rwa[ah z,ah (C b n)])
  ·rw[ah (ZG Ot),ah (ZG (Qi lP sz))]
   show I.bU.fresh sz
 ·let M:=q _ U
  let j:s.heap.CodeRec ⇑c (X.env.qual++ "<lambda>"):=(I.bU c _ hc).1;show PySem.W.kla_makeFunctionHit (mg:=X.mg) (cv:=⇑c) xv I.ok.glob p Uq B M (by trivial) (by simp[codeAmong,PQ]) (T _ M) λJ L i hk a=>?_;let R:∀b o,s.heap.get? b==o->(L.push ("function"^^^.func (PySem.W.kla_fn "<lambda>" .G params body scope yg ((X.mg "__name__").getD .none) ⇑c J))).get? b==o:=λb o e=>GQ _ (hk b o e);show h L.objs.size c _ J H _ (I.kept (t':=i) R) (λb o _ e=>e) (λb n=>.inr n) (.inr (c,U,hc)) (λb o _ e=>R b o e) (Py _ rfl) (I.bU.fresh a) (j.keeps R)
end
abbrev alV (Z:Pos):Arguments:={posonlyargs:=[],args:=[{arg:="place",annotation:=none,pos:=Z}],vararg:=none,kwonlyargs:=[],kw_defaults:=[],kwarg:=none,defaults:=[]}
abbrev rK:Scope:={kind:=.function,names:=[(Rj "place",.local),(Rj "self",.free)],isGenerator:=false,isCoroutine:=false,more:=[]}
abbrev aea (fld:Str)(U X Y Z:Pos):Expr:=.Subscript (.Attribute (.Name "self" U) fld X) (.Name "place" Y) Z
section
variable {prog:HV}{w:World}{A:LA}{s:CH}{K:Frag}{f c cs a dx C ac:BQ}{q fld:Str}{ap p1 p2 p3 p4:Pos}{pm X':Value}{mA:ι}{items:ς}{i k:Nat}{tv t:Tok}{key:Int}
def ad4 {h h':Heap}{m:ι}(x:h.Ns b m)(k:∀o,h.get? b==o->h'.get? b==o):h'.Ns b m:=by
 let(o,Z,Y,e,r):=x;show(o,Z,Y,k _ e,r)
def aaz (E:s.heap.get? f==(Uj "<lambda>" q (alV ap) (aea fld p1 p2 p3 p4) rK [(Rj "self",cs)] pm c X'))(g:s.heap.CodeRec ⇑c q)(P:A.depth<wj)(Q:s.heap.NoLimit)
  (Y:s.heap.IsCell cs (some ⇑a)) (j:K.In s.heap) (Z:F_ s.heap a dx C mA) (L:EG K C) (I:fO K C fld) (D:mA fld==⇑ac) (B:s.heap.IsList ac items.toArray) (hz:items.length<=CM) (M:items[i]?==.int key t):
  BX .s A (call ⇑f [.int (i:Int) tv]) (λr s'=>∃h' J,s'={s with heap:=h',toks:=J}/\r=.int key t/\∀b o,s.heap.get? b==o->h'.get? b==o) (λ_ _=>False) s:=by
 show uR (PySem.W.kla_callFunE P E rfl rfl rfl rfl g ?_);show CO ?_
 show wpAny_newFunctionEnv (binds:=[(Rj "place",.int (i:Int) tv)]) (show ∀x∈rK.names,x.2≠.cell by decide) (λx G=>by
  rw[OK.mp G]
  rfl) (λU p T=>?_) rfl
 let X:∀b o,s.heap.get? b==o->U.get? b==o:=λb o e=>T.extBut b o (QV (GK e)) (GQ _ e);show#[Q.fresh _ T,PySem.W.kla_codeExpr ?_];have R :U.IsCell cs (some ⇑a):=let ⟨o,e,d⟩:=Y;(o,X\e,d);let N:K.In U:=λb o e=>X\(j b o e);let m:F_ U a dx C mA:=(X\Z.obj,(let ⟨o,y,u,e,r⟩:=Z.ns;(o,y,u,X\e,r)),Z.ne);let S:U.IsList ac items.toArray:=B.at λo e=>X\e;show Subscript_ ?_;show GB (by rfl) ?_;show wpAny_Name (wpAny_loadName_free rfl rfl rfl R ?_) gM;show get_map N m (L.get fld) L.hd I D (by rfl) ?_;show wpAny_Name (wpAny_loadName_local rfl rfl p rfl ?_) gM;let z:i<items.length:=(ir.mp M).1;let H:=uc;show item_listR (x:=.int key t) S gu gu (by rw[yv];simpa using M) ?_ (by with_unfolding_all rfl);show#[1,X]
end
def ajp {h:Heap}{m Z:ι}(x:h.Ns b m)(y:h.Ns b Z):m=Z:=by
 let(o,R,Q,e,d,r):=x;let(S,X,P,U,T,Y):=y;erw[e] at U;erw[d] at T;funext z;let a:=r.2;let b:=Y.2
 first
 | show(a z).symm.trans (b z)
 | show(a.2 z).symm.trans (b.2 z)
def aeh (h:env.cells.lookup (Rj "self")==c):T5 rK env=pure [(Rj "self",c)]:=by
 unfold T5;simp[cellOf,h]
def intOf:Value->Int
 | .int c _=>c
 | _=>0
section
variable {X:Cx}
def aaB (K:Frag)(P:BQ)(si:Nat)(fld:Str)(L:Pos)(Y:Str)(Z:L2.St)(Q:VK)(x:V)(U:Hp):Prop:=∃(l a C H I:BQ)(T:List Nat)(M:ρ)(J:List (Str×V))(xs:ε),
 x=⇑l/\aY K U l (T.map λ(c:Nat)=>V.int (c:Int))/\T.length<64/\Z[si]?==(some ⇑a)/\U a==.ins C H J/\EG K C/\fO K C fld/\J.lookup fld==⇑I/\aY K U I xs/\M.length=T.length/\
 (∀(i c:Nat)(k:Int),T[i]?==c->M[i]?==k->xs[c]?==↥k)/\PJ U P L (Y++ "<lambda>")/\
 ∀(N:BQ)(R:θ)(S:Hp),(∀b o,b≠P->U b==o->S b==o)->PJ S P L (Y++ "<lambda>")->U N=none->R.Perm (M.zip (T.map λ(c:Nat)=>(c:Int)))->R.Pairwise (λp q=>p.1<=q.1)->S N==.lst (R.map λp=>V.int p.2)->Q ⇑N S
def ajq (K:Frag)(P:BQ)(si:Nat)(fld:Str)(T:Pos)(Y:Str)(U:TE):TE:=λZ H Q=>U Z H (aaB K P si fld T Y Z Q)
def aaC {si:Nat}{fld:Str}{p pos kp lp ap p1 p2 p3 p4:Pos}(hg:Gl X "sorted")(hm:X.mg "sorted"=none)(he:PE X e te)(hN:X.N[si]?=="self")(hk:X.env.kindOf "self"==.cell)(hv:Vis X.env.scope "self")(Uq:X.env.code=⇑cA)(hC:Tx X.K cA P=true)(hB:BMain X.mg X.gV)(aaA:X.A.in1.in1.depth<wj)
  (hs:CW [e] X.env=[(false,CQ e X.env)]:=by rfl) (hbk:∀x:Sem Value,QS pos [(false,x)]=[(false,x)]:=by intro _;rfl):
  PE X (.Call (.Name "sorted" p) [e] [(some "key",.Lambda (alV ap) (aea fld p1 p2 p3 p4) rK lp,kp)] pos) (ajq X.K P si fld lp X.env.qual te):=by
 intro AP s Z H Q I h;show se (gP I hg hm aaf ?_);show callWith_kw ?_ (![hs] (hbk _)) (by rw[hs,hbk];rfl) rfl rfl;show cH (aes he ij (by rw[hs];rfl) pos AP s Z H (λvs H1=>match vs with|[x]=>aaB X.K P si fld lp X.env.qual Z Q x H1|_=>False) I h) λus s1 ⟨vs,H1,I1,r1,q1⟩=>?_;cases r1 with
 | nil=>show q1.elim
 | cons rx rr=>
  cases rr with
  | cons _ _=>show q1.elim
  | nil=>
  let(l,a,C,dx,ac,g,ks,fs,xs,rfl,hl,h64,an4,ha,cl,na,hf,hac,hlen,QR,hT,q):=q1;cases rx;let(m,hn,axr):=I1.loc;let(u,ru,lk):=axr si _ _ hN an4 hv;cases ru
  obtain ⟨cc,QM,hcell⟩:∃c,X.env.cells.lookup (Rj "self")==c/\s1.heap.IsCell c (some ⇑a):=by
   rcases lk with ⟨k1,_⟩|⟨_,z⟩
   ·rw[hk] at k1
    cases k1
   ·show z
  show kws_cons (aay (P:=P) (cA:=cA) I1 rfl (aeh QM) Uq hC hB hT λf c pm X' H2 G T kH fH hT2 kk hfo hf2 IK=>?_);show kws_nil ?_;change BX _ _ (call (.builtin "sorted") [⇑l] [(Rj "key",⇑f)]) _ _ G
  let nL:∀{b:BQ} {u:HO},H2 b==u->b≠X.env.locals:=λ{b u} e z=>by
   erw[z,T.free] at e
  let nP:∀{b:BQ} {u:HO},H1 b==u->(∀B,u≠.mW B)->b≠P:=λ{b u} e n z=>by
   rw[z] at e
   rcases hT with y|⟨c',y,_⟩<;>(erw[y] at e;show n _ rfl)
  let hlP:∀{b:BQ} {ys:ε},aY X.K H1 b ys->aY X.K H2 b ys:=λ{b ys} y=>by
   rcases y with (y|⟨o,y⟩)|y
   ·show .inl (.inl (kH _ _ (nP y λ_ z=>nomatch z) y))
   ·show .inl (.inr #[o,kH _ _ (nP y λ_ z=>nomatch z) y])
   ·show .inr y
  let ha2:=kH _ _ (nP ha λ_ z=>nomatch z) ha;let(BS,rv,pl,hz):=T.list (hlP hl);let(fP,rv2,pl2,hz2):=T.list (hlP hac);let lv:=rv.length;rw[CA] at lv;let lv2:=rv2.length;let(mA,Y,rO,_):=xm T.bU ha2
  let hmA:mA fld==.ref ac:=by
   let(u,hu,ru):=i7.some_of (v:=⇑ac) (o:=mA fld) (![<-hf] (rO fld));cases ru;show hu
  let(m2,Om,_):=T.loc
  let tP:∃B,s1.heap.get? P==(Pa B):=by
   rcases hT with y|⟨c',y,_⟩
   ·show#[_,I1.bU P _ y]
   ·show#[_,I1.bU P _ y]
  let ajs:G.heap.IsCell cc (some ⇑a):=by
   let(o,e,d):=hcell;show(o,kk _ _ (λz=>?_) e,d);let(B,R):=tP;erw[z,R] at e;cases d
  let cL:cc≠X.env.locals:=T.X6\QM
  let bL:∀{b:BQ} {o:Obj},X.gV.get? b==o->b≠X.env.locals:=λ{b o} e z=>by
   let j:=(T.ok.bs b o e).1;have:=GK j;have:=T.ok.above;rw[z] at*;show CC (Qi ‹_› ‹_›) (Sa _)
  let fL:f≠X.env.locals:=λz=>by
   let(o,es,ep,e,d,_):=Om;erw[<-z,hfo] at e;cases d
  let crL:c≠X.env.locals:=λz=>by
   let(o,es,ep,e,d,_):=Om;let(c',o',jb,t',j,R,e3,_):=IK;cases j;erw[z,e] at R;erw[d] at e3
  let stL:cStatics≠X.env.locals:=by
   let(mc,(o,es,ep,e,_),_):=T.mod.nolimit;show bL e
  show ksk_sorted (b:=false) (kz:=ks) (f:=⇑f) (aed Om) (acz (h:=G.heap)) pl.isList gu gu (ksk_s1 _ _) (λx=>ksk_l1 _ _) (λx=>ksk_t1 _ _) (λi v k ei ek h tk own F N=>?_) λD h' tk S c0 F' N' lt ko=>?_
  ·let get:∀{b:BQ} {o:Obj},G.heap.get? b==o->b≠X.env.locals->h.get? b==o:=λ{b o} e n=>(N _ (Vo _ (qG e n))).1
   let hi:i<BS.length:=(ir.mp ei).1;obtain ⟨M,ec⟩:∃M,g[i]?==M:=#[_,gE gu];let(v',J,L):=rv.get (show(g.map λ(c:Nat)=>V.int (c:Int))[i]?==.int (M:Int) by rw[Wp,ec];rfl);erw[ei] at J;let(tv,rfl):=L;let(w2,ew2,rw2):=rv2.get (QR i M k ec ek);let(t2,rfl):=rw2;let aL:=nL ha2
   let dL:dx≠X.env.locals:=λz=>by
    have:=(T.bU a _ ha2).1;erw[z,T.free] at this
   let axt:h.IsList ac fP.toArray:=pl2.isList.at λo e=>get e (λz=>by
    let(o',es,ep,e',d,_):=Om;let(o2,R,_,n2,d2):=pl2.isList;erw[z,e'] at R;rw[d] at d2
    cases d2)
   show cH (E:=λ_ _=>False) (aaz (s:={G with heap:=h,toks:=tk}) (K:=X.K) (mA:=mA) (get hfo fL) (by
    let(c',o',jb,t',j,R,e3):=IK;cases j
    show(_,o',jb,t',O,get R crL,e3)) aaA (by
    let(mc,n1,n2):=T.nolimit
    show(mc,ad4 n1 λo e=>get e stL,n2)) (by
    let(o,e,d):=ajs
    show(o,get e cL,d)) (λb o e=>get (T.lQ b o e) (bL (T.mod.Y_ b o e))) (get Y.obj aL,(let ⟨o,es,ep,e,r⟩:=Y.ns;(o,es,ep,get e dL,r)),Y.ne) cl na hmA axt gu ew2) λr s' ⟨h2,tk2,j,R,k2⟩=>?_
   subst j R;show(h2,tk2,t2,8,aed (ad4 F.ns λo e=>k2\e),λp hp=>#[k2 _ _ (N p hp).1,(N p hp).2])
  ·let get:∀{b:BQ} {o:Obj},G.heap.get? b==o->b≠X.env.locals->h'.get? b==o:=λ{b o} e n=>(N' _ (.tail _ (qG e n))).1
   let(gD,DL,_):=N' _ (.head _)
   let nD:∀{b:BQ} {o:Obj},G.heap.get? b==o->b≠D:=λ{b o} e z=>by
    by_cases y:b=X.env.locals
    ·show DL (z▸y)
    ·show CC (lt _ (qG e y)) (![z] (Sa _))
   let HD:H2 D=none:=by
    cases y:H2 D with
    | none=>rfl
    | some u=>
     let(o,e):=obj_some (T.bU D _ y);show CC rfl (nD e)
   let U:∀b o,H2 b==o->upd H2 D (.lst (S.toList.map λu=>V.int (intOf u))) b==o:=λb o e=>by
    rw[ah (λz=>by erw[z,HD] at e)];show e
   let(B,pp,po,pw):=ko
   let isI:∀u∈BS,∃t,u=.int (intOf u) t:=λu hu=>by
    let(i,ei):=OV hu;let hi:i<BS.length:=(ir.mp ei).1;obtain ⟨M,ec⟩:∃M,g[i]?==M:=#[_,gE gu];let(v',J,L):=rv.get (show(g.map λ(c:Nat)=>V.int (c:Int))[i]?==.int (M:Int) by rw[Wp,ec];rfl);erw[ei] at J;let(tv,rfl):=L;show#[tv,O]
   let axu:BS.map intOf=g.map λ(c:Nat)=>(c:Int):=by
    show VH λi=>?_;rw[Wp,Wp];by_cases hi:i<BS.length
    ·obtain ⟨M,ec⟩:∃M,g[i]?==M:=#[_,gE gu]
     let(v',J,L):=rv.get (show(g.map λ(c:Nat)=>V.int (c:Int))[i]?==.int (M:Int) by rw[Wp,ec];rfl);let(tv,rfl):=L;rw[J,ec];rfl
    ·rw[IF gu,IF gu]
     rfl
   let pm2:(B.map λp=>(p.1,intOf p.2)).Perm (ks.zip (g.map λ(c:Nat)=>(c:Int))):=by
    have:=pp.map (λp:Int×Value=>(p.1,intOf p.2));rw[<-axu,List.zip_map_right];show this
   let axv:∀p∈B,p.2∈BS:=λp hp=>(UN (pp.mem_iff.mp hp)).2
   let axw:S.toList.map (λu=>V.int (intOf u))=(B.map λp=>(p.1,intOf p.2)).map λp=>V.int p.2:=by
    rw[po,Pp,Pp];rfl
   let rvO:Vals (S.toList.map λu=>V.int (intOf u)) S.toList:=g_ gN λi x u j R=>by
    erw[Wp,R] at j;let hu:u∈S.toList:=CU R;rw[po] at hu;let(p,hp,rfl):=CS.mp hu;let(t,e):=isI _ (axv p hp);show#[t,e]
   let lo:S.toList.length<64:=by
    let h1:=pp.length_eq;rw[po,CA,h1,aqI];omega
   let I3:Inv X AP Z (upd H2 D (.lst (S.toList.map λu=>V.int (intOf u)))) {G with heap:=h',gens:=G.gens,drawn:=G.drawn,toks:=tk}:=by
    show T.step (ch:=[]) (λ_ z=>nomatch z) (λb o n _ _ e _=>get e n) (λb o n _ _ e _=>#[o.slots,get e n]) (λb o _ e n=>by rwa[ah (nD e)]) (λb o _ e=>?_) (λb xs e=>U b _ e) (λb o u e=>U b _ e) (λb B e=>#[#[],by rw[U b _ e];simp]) (λm' hm'=>![ajp hm' Om] F'.ns) (λb u e=>?_) T.bare
    ·by_cases z:b=X.env.locals
     ·let(o',_,_,e',_):=F'.ns
      show#[o',by rwa[z]]
     ·show#[o,get e z]
    ·by_cases z:b=D
     ·subst z
      erw[af] at e;show(![CA] (CP (RK lo) gM),S.toList,c0,rvO,by simpa[seqObj] using gD)
     ·rw[ah z] at e
      show(T.bU b u e).pH (λd v hd y=>get y (λx=>?_)) (λd y=>U d _ y) λd xs y=>U d _ y
      rcases hd with w|w
      ·show nL e (w▸x)
      ·rw[x,T.free] at w
       cases w
   show(⇑D,_,I3,O,q D (B.map λp=>(p.1,intOf p.2)) _ (λb o n e=>U b _ (kH b o n e)) ?_ ?_ pm2 ?_ ![af,axw])
   ·rcases hT2 with y|⟨c',y,z⟩
    ·show .inl (U\y)
    ·show .inr (c',U\y,U\z)
   ·cases y:H1 D with
    | none=>rfl
    | some u=>
     let(o,e):=obj_some (I1.bU D _ y);by_cases z:D=P
     ·rcases hT2 with x|⟨c',x,_⟩<;>(erw[z,x] at HD)
     ·show CC rfl (nD (kk _ _ z e))
   ·rw[ang]
    show pw.imp λh=>~~~h
end
def ac7 {K:Frag}{mg f:ι}{vs:ς}{ns:ρ}
  (KX:K.In mR.heap) (Oo:mR.heap.Ns J_ mg) (Z:mR.heap.Ns OM f) (hbb:∀x:Str,x≠ "__name__"->f x=V0 x) (ajn:mR.heap.NoLimit) (M:mR.heap.NoSeer) (hbm:BMain mg mR.heap) (hg:mR.gens= #[])
  (C:mR.heap.get? T==(Pa #[])) (m8:PySem.W.CodeHd mR.heap cA T) (hKT:K.lookup T=none)
  (D:mR.heap.get? a==("list"^^^.seq vs.toArray)) (hi:IntsAre vs ns) (hl:ns.length<=CM) (hr:cp k callerA)
  (F:∀p:Heap,K.In p->p.Ns J_ mg->BMain mg p->cz P w K mg p CX k fa fd [x] sp) (an6:∀(s:CH)(u:Value),BindsTo s fd #[[u],[]] [(x,u)])
  (ue:∀H:Hp,H T==.mW #[]->aY K H a (ns.map V.int)->sp [⇑a] H (λv _=>v=.bl true) λ_ _ _=>False)
  (hCX:∀H e X,CX [] H mR (λ_ _ _=>False) e X ->False):
  Ri (BY P w) callerA (.call ⇑fa #[[⇑a],[]]) (λr X=>r=.ok (.ret (.bool true))/\OldK mR.heap X.heap/\X.os=mR.os/\WU X.gens) mR:=by
 let rv:=L2.Vm hi;let axy:=hi.length
 let aT:a≠T:=λz=>by
  erw[z,C] at D
 let core:∀H:Hp,H T==.mW #[]->(∀b,b≠T->H b=none\/∃o xs,H b==(.e_ o (.lst xs)))->aY K H a (ns.map V.int)->lR P w H mR.heap->(∀b,H b≠none->b=a\/b=T)->(H a≠none->K.lookup a=none)->
   Ri (BY P w) callerA (.call ⇑fa #[[⇑a],[]]) (λr X=>r=.ok (.ret (.bool true))/\OldK mR.heap X.heap/\X.os=mR.os/\WU X.gens) mR:=by
  intro H HT hO hS bU hA hK;let IL:∀{b:BQ} {o:Obj},mR.heap.get? b==o->H b=none->(BL mR.heap H).get? b==o:=λe n=>ado e n
  let G:∀{b:BQ} {o:Obj},mR.heap.get? b==o->(∀xs n,o.data≠.seq xs n)->(∀ps,o.data≠.fields ps)->H b=none:=λ{b o} e d1 d2=>by
   cases q:H b with
   | none=>rfl
   | some u=>
    rcases hA b (by rw[q];simp) with e'|e'
    ·subst e'
     erw[D] at e;show CC rfl (d1 _ _)
    ·subst e'
     erw[C] at e;show CC rfl (d2 _)
  let Y:∀{b:BQ} {m:ι},mR.heap.Ns b m->(BL mR.heap H).Ns b m:=λ{b m} ⟨o,es,ep,e,d,r⟩=>(o,es,ep,IL e (G e (λ_ _ z=>by erw[d] at z) (λ_ z=>by erw[d] at z)),d,r)
  let B:K.In (BL mR.heap H):=λb o e=>IL (KX b o e) (by
   cases q:H b with
   | none=>rfl
   | some u=>
    rcases hA b (by rw[q];simp) with e'|e'
    ·subst e'
     rw[hK (by rw[q];simp)] at e;cases e
    ·subst e'
     rw[hKT] at e
     cases e)
  let A:BMain mg (BL mR.heap H):=by
   let(bm,I,b1,b2,i,b4,b5,j):=hbm;show(bm,I,b1,b2,IL i (G i (λ_ _ z=>by erw[j] at z) (λ_ z=>by erw[j] at z)),b4,b5,j)
  let hM:Mod K mg (BL mR.heap H):=(B,Y Oo,(f,Y Z,hbb),let ⟨R,N,Q⟩:=ajn;(R,Y N,Q),
   (let ⟨R,N,Q⟩:=M.statics;(R,Y N,Q),let ⟨R,N,Q⟩:=M.mods;(R,Y N,Q),let ⟨R,N,Q⟩:=M.imp;(R,Y N,Q),
    (by
     let(bm,I,b1,b2,i,b4,b5,j):=A
     show(mg,bm,I,Y Oo,b1,i,b4,b5))))
  let e0:GG P w K mg (BL mR.heap H) callerA [] mR H:=(O,hM,λb o e=>aeu e,U4 (ac_ _ _),trivial,λb Z=>CC (show b∈([]:List BQ) from Z) gN,bU,.of_eq hg);show EY ((F _ B (Y Oo) A).run callerA [] mR H #[[⇑a],[]] [⇑a] [⇑a] _ _ hr e0 (an6 mR ⇑a) (.cons rfl .nil) (ue H HT hS)) λr X h=>?_;cases r with
  | error e=>show(hCX H e X h).elim
  | ok fl=>
   cases fl with
   | next=>show False.elim h
   | brk=>show False.elim h
   | cont=>show False.elim h
   | ret u=>
    let(v,H',os,y,g,Q4,r',q):=h;let q':v=.bl true:=q;subst q';obtain rfl:u=Value.bool true:=r'
    let E:∀b o,mR.heap.get? b==o->b≠T->X.heap.get? b==o:=λb o e nT=>by
     cases q:H b with
     | none=>show g.keep b o e q (by intro z;show CC (show b∈([]:List BQ) from z) gN) gN
     | some u=>
      rcases hO b nT with z|⟨I,xs,z⟩
      ·erw[q] at z
      ·let z2:=g.lS b I _ z
       let(e1,_):=bU b _ z;let(e2,_):=Q4 b _ z2;erw[e] at e1;show e2
    let(S,eT):=g.lT T #[] HT;let gT:X.heap.get? T=={cls:=.none,data:=.fields (#[]++S)}:=Q4 T _ eT;show(O,#[λb o e=>?_,λb o e=>?_],os,y)
    ·by_cases z:b=T
     ·subst z
      erw[C] at e;show .inr (.inl ((m8.tab C).isCodeTable,O, #[],S,O,gT))
     ·show .inl (E b o e z)
    ·by_cases z:b=T
     ·subst z
      show#[_,gT]
     ·show#[o,E b o e z]
 let J:∀(H:Hp),ck P w H mR.heap T (.mW #[]):=λH=>C;cases c:K.lookup a with
 | some o=>
  let e:=KX a o c;erw[D] at e;show core (λb=>if b=T then some (.mW #[]) else none) (iB rfl) (λb n=>.inl (iA n)) (.inr (_,vs.toArray,_,c,8,O,by rwa[RS,axy],~~~rv)) (λb u z=>?_) (λb z=>?_) λz=>CC (iA aT) z
  ·by_cases Z:b=T
   ·let U:=(iB Z).symm.trans z
    cases U;subst Z;show J _
   ·let U:=(iA Z).symm.trans z
    cases U
  ·by_cases Z:b=T
   ·show .inr Z
   ·show CC (iA Z) z
 | none=>
  show core (λb=>if b=T then some (.mW #[]) else if b=a then some (.e_ ("list"^^^.seq vs.toArray) (.lst (ns.map V.int))) else none) (iB rfl) (λb n=>?_) (.inl (.inr #[("list"^^^.seq vs.toArray),(iA aT).trans (iB rfl)])) (λb u z=>?_) (λb z=>?_) λ_=>c
  ·by_cases Z:b=a
   ·show .inr (_,_,(iA n).trans (iB Z))
   ·show .inl ((iA n).trans (iA Z))
  ·by_cases Z:b=T
   ·let U:=(iB Z).symm.trans z
    cases U;subst Z;show J _
   ·by_cases L:b=a
    ·let U:=((iA Z).trans (iB L)).symm.trans z
     cases U;subst L;show(D,by rwa[CA],vs,_,rv,D)
    ·let U:=((iA Z).trans (iA L)).symm.trans z
     cases U
  ·by_cases Z:b=T
   ·show .inr Z
   ·by_cases L:b=a
    ·show .inl L
    ·show CC ((iA Z).trans (iA L)) z
def Rn (K:Frag)(T:BQ):Sp:=λY H Q _=>∃(a:BQ)(Z:ρ),Y=[⇑a]/\aY K H a (Z.map V.int)/\Z.length<=63/\(∀i∈Z,Builtin.Int.intBits i<=1048576)/\H T==.mW #[]/\∀X,Q (.bl true) X
def an7 {l:PySem.W.OpenLaw}{Y:τ}{XP:(Str->Option Value)->Heap->Prop}{K:Params->Frag}{CX:World->qu}
  (B:l.most==63) (R:d.params.defaults=[]) (z:importsNone q=true) (C:cp k callerA)
  (m:∀(w:World)(h:Heap),YP w h->(K w.params).In h/\h.get? T==(Pa #[])) (A:∀w,xZ (CX w))
  (F:∀(w:World)(mg:ι)(U:BQ)(h:Heap),(K w.params).In h->h.Ns J_ mg->mg d.name==⇑U->
   ∃(cA:BQ)(M:FuncData),Tx (K w.params) cA T=true/\(K w.params).lookup T=none/\(∀(s:CH)(u:Value),BindsTo s M #[[u],[]] [(x,u)])/\
    ∀gV:Heap,(K w.params).In gV->gV.Ns J_ mg->BMain mg gV->cz l.prog w (K w.params) mg gV (CX w) k U M [x] (Rn (K w.params) T)):
  PySem.W.WalkO q Y XP YP l.row.toRowW d [] (λf vs=>PySem.call f vs):=by
 show TyAtt.OP B R λw qe D mg mb U o pm cd doc a vs E G α ho hd m8 S L X Z p y=>?_;let(J,j):=m w _ α;let(cA,M,hC,P,Q,c):=F w mg U _ J G.T.g S;show ac7 J G.T.g G.T.b G.T.builtins G.T.nolimit (G.T.seer z) G.T.bmain y j (PySem.W.codeHd_of_K J hC) P L X (CP Z gM) C c Q (λH N i=>(a,E,O,i,Z,p,N,λ_=>O)) λH e I=>A w [] H D e I
end Ty
namespace Px
open Ty (sumTo sumTo_add sumTo_mul sumTo_zero)
theorem fj:∀(m:Nat)(f g:Nat->Rat),(∀j,j<m->f j=g j)->sumTo m f=sumTo m g
 | 0,_,_,_=>rfl
 | m+1,f,g,h=>by
  simp only[Ty.sumTo];rw[h 0 gu,fj m (λi=>f (i+1)) (λi=>g (i+1)) (λj Z=>h (j+1) gu)]
def sumZ (m:Nat)(f:Nat->Rat)(h:∀j,j<m->f j=0):sumTo m f=0:=by
 rw[fj m f (λ_=>0) h];show sumTo_zero m _ λ_=>O
theorem Ro:∀(m:Nat)(f:Nat->Rat)(a:Nat),a<m->sumTo m f=f a+sumTo m (λj=>if j=a then 0 else f j)
 | 0,_,_,h=>CC h (VA _)
 | m+1,f,0,_=>by
  change f 0+sumTo m (λi=>f (i+1))=f 0+((if 0=0 then 0 else f 0)+sumTo m (λi=>if i+1=0 then 0 else f (i+1)));rw[iB rfl,fj m (λi=>if i+1=0 then 0 else f (i+1)) (λi=>f (i+1)) (λj _=>iA gu)];grind
 | m+1,f,a+1,h=>by
  change f 0+sumTo m (λi=>f (i+1))=f (a+1)+((if 0=a+1 then 0 else f 0)+sumTo m (λi=>if i+1=a+1 then 0 else f (i+1)))
  rw[iA gu,Ro m (λi=>f (i+1)) a gu,fj m (λi=>if i+1=a+1 then 0 else f (i+1)) (λi=>if i=a then 0 else f (i+1)) (λj _=>by
   by_cases z:j=a
   ·rw[iB z,iB gu]
   ·rw[iA z,iA gu])]
  grind
def BZ (m:Nat)(f:Nat->Rat)(a:Nat)(h:a<m)(z:∀j,j<m->j≠a->f j=0):sumTo m f=f a:=by
 rw[Ro m f a h,sumZ m _ (λj Z=>by
  by_cases y:j=a
  ·rw[iB y]
  ·rw[iA y];show z j Z y)]
 grind
theorem aju:∀(m n:Nat)(F:Nat->Nat->Rat),sumTo m (λi=>sumTo n (λj=>F i j))=sumTo n (λj=>sumTo m (λi=>F i j))
 | 0,n,F=>by
  simp only[Ty.sumTo];show(sumTo_zero n _ λ_=>O).symm
 | m+1,n,F=>by
  simp only[Ty.sumTo];rw[aju m n (λi j=>F (i+1) j),<-sumTo_add]
theorem an8:∀(m:Nat)(f:Nat->Rat),(∀j,j<m->0<=f j)->0<=sumTo m f
 | 0,_,_=>by simp[Ty.sumTo]
 | m+1,f,h=>by
  simp only[Ty.sumTo];let a:=h 0 gu;let b:=an8 m (λi=>f (i+1)) (λj Z=>h (j+1) gu);grind
def an9 (m:Nat)(f:Nat->Rat):sumTo m (λj=> -(f j))= -(sumTo m f):=by
 have:=sumTo_mul (-1) m f;rw[fj m (λj=> -(f j)) (λj=>(-1)*f j) (λj _=>by grind),this];grind
def afj (m:Nat)(f:Nat->Rat)(h:0<sumTo m f):∃j,j<m/\0<f j:=by
 apply VD;intro z
 have:0<=sumTo m (λj=> -(f j)):=an8 m _ λj Z=>by
  have:¬ 0<f j:=λy=>z (j,Z,y);grind
 rw[an9] at this;grind
def skip (j k:Nat):Nat:=if k<j then k else k+1
def sgn (j:Nat):Rat:=if j % 2=0 then 1 else -1
def aaD (j:Nat):sgn (j+1)= -(sgn j):=by
 unfold sgn;by_cases h:j % 2=0
 ·rw[iB h,iA gu]
 ·rw[iA h,iB gu]
  grind
def det:Nat->(Nat->Nat->Rat)->Rat
 | 0,_=>1
 | n+1,M=>sumTo (n+1) (λj=>sgn j*M j 0*det n (λk i=>M (skip j k) (i+1)))
def put (M:Nat->Nat->Rat)(c:Nat)(v:Nat->Rat):Nat->Nat->Rat:=λk i=>if k=c then v i else M k i
theorem dw:∀(n:Nat)(M Z:Nat->Nat->Rat),(∀k i,k<n->i<n->M k i=Z k i)->det n M=det n Z
 | 0,_,_,_=>rfl
 | n+1,M,Z,h=>by
  unfold det;show fj _ _ _ λj Y=>?_;rw[h j 0 Y gu,dw n (λk i=>M (skip j k) (i+1)) (λk i=>Z (skip j k) (i+1)) (λk i X U=>h _ _ (by unfold skip;split<;>omega) gu)]
def back (j c:Nat):Nat:=if c<j then c else c-1
def alS (h:c≠j):skip j (back j c)=c:=by
 unfold skip back;split<;>(try split)<;>omega
def abx (h:c≠j):skip j k=c ↔ k=back j c:=by
 unfold skip back;split<;>(try split)<;>omega
def afk (j k:Nat):skip j k≠j:=by
 unfold skip;split<;>omega
theorem oT:∀(n:Nat)(M:Nat->Nat->Rat)(c:Nat)(u v:Nat->Rat)(t:Rat),c<n->det n (put M c (λi=>u i+t*v i))=det n (put M c u)+t*det n (put M c v)
 | 0,_,_,_,_,_,h=>CC h (VA _)
 | n+1,M,c,u,v,t,h=>by
  unfold det;rw[<-sumTo_mul,<-sumTo_add];show fj _ _ _ λj X=>?_;by_cases z:j=c
  ·subst z
   let e:∀w:Nat->Rat,det n (λk i=>put M j w (skip j k) (i+1))=det n (λk i=>M (skip j k) (i+1)):=λw=>dw n _ _ λk i _ _=>by
    unfold put;rw[iA (afk j k)]
   rw[e,e,e];unfold put;rw[iB rfl,iB rfl,iB rfl];grind
  ·let Y:c≠j:=CV z
   let e:∀w:Nat->Rat,det n (λk i=>put M c w (skip j k) (i+1))=det n (put (λk i=>M (skip j k) (i+1)) (back j c) (λi=>w (i+1))):=λw=>dw n _ _ λk i _ _=>by
    unfold put;by_cases y:skip j k=c
    ·rw[iB y,iB ((abx Y).mp y)]
    ·rw[iA y,iA (λx=>y ((abx Y).mpr x))]
   let Z:∀w:Nat->Rat,put M c w j 0=M j 0:=λw=>iA z;rw[e,e,e,Z,Z,Z,oT n (λk i=>M (skip j k) (i+1)) (back j c) (λi=>u (i+1)) (λi=>v (i+1)) t (by unfold back;split<;>omega)];grind
theorem IM:∀(n:Nat)(M:Nat->Nat->Rat)(c:Nat),c+1<n->(∀i,M c i=M (c+1) i)->det n M=0
 | 0,_,_,h,_=>CC h (VA _)
 | n+1,M,c,h,e=>by
  unfold det;rw[Ro (n+1) _ c gu,Ro (n+1) _ (c+1) gu,sumZ (n+1) _ (λj Z=>?_)]
  ·rw[iA gu,aaD,<-e 0]
   have:det n (λk i=>M (skip (c+1) k) (i+1))=det n (λk i=>M (skip c k) (i+1)):=dw n _ _ λk i _ _=>by
    unfold skip;by_cases z:k=c
    ·subst z
     rw[iB gu,iA gu,e]
    ·by_cases y:k<c
     ·rw[iB gu,iB y]
     ·rw[iA gu,iA y]
   rw[this];grind
  ·by_cases y:j=c+1
   ·rw[iB y]
   ·rw[iA y]
    by_cases z:j=c
    ·rw[iB z]
    ·rw[iA z]
     have:det n (λk i=>M (skip j k) (i+1))=0:=by
      show IM n _ (back j c) (by unfold back;split<;>omega) λi=>?_;rw[alS (λx=>z x.symm),show back j c+1=back j (c+1) by unfold back;split<;>split<;>omega,alS (λx=>y x.symm)];show e _
     rw[this];grind
def yH (M:Nat->Nat->Rat)(c:Nat):put M c (M c)=M:=by
 funext k i;unfold put;by_cases z:k=c
 ·rw[iB z,z]
 ·rw[iA z]
def lB (M:Nat->Nat->Rat)(u v:Nat->Rat)(h:c≠d):put (put M c u) d v=put (put M d v) c u:=by
 funext k i;unfold put;by_cases z:k=d
 ·rw[iB z,iA (λy=>h (y.symm>>>z)),iB z]
 ·rw[iA z]
  by_cases y:k=c
  ·rw[iB y,iB y]
  ·rw[iA y,iA y,iA z]
def aaE (n:Nat)(M:Nat->Nat->Rat)(c:Nat)(h:c+1<n)(u v:Nat->Rat):det n (put (put M c u) (c+1) v)= -(det n (put (put M c v) (c+1) u)):=by
 let Z:c≠c+1:=gu
 let z:∀w:Nat->Rat,det n (put (put M c w) (c+1) w)=0:=λw=>IM n _ c h λi=>by
  unfold put;rw[iA Z,iB rfl,iB rfl]
 let a:=z (λi=>u i+1*v i);rw[oT n (put M c (λi=>u i+1*v i)) (c+1) u v 1 h,lB M _ u Z,lB M _ v Z,oT n (put M (c+1) u) c u v 1 gu,oT n (put M (c+1) v) c u v 1 gu] at a;let b:=z u;let d:=z v;rw[lB M u u Z] at b;rw[lB M v v Z] at d;rw[lB M u v Z,lB M v u Z];grind
theorem yI:∀(g n:Nat)(M:Nat->Nat->Rat)(c:Nat),c+g+1<n->(∀i,M c i=M (c+g+1) i)->det n M=0
 | 0,n,M,c,h,e=>IM n M c h e
 | g+1,n,M,c,h,e=>by
  let Z:=aaE n M (c+g+1) gu (M (c+g+1)) (M (c+g+1+1));rw[yH,yH] at Z;rw[Z,yI g n _ c gu (λi=>?_)]
  ·grind
  ·unfold put
   rw[iA gu,iA gu,iA gu,iB rfl];show e i
def afl (n:Nat)(M:Nat->Nat->Rat)(c d:Nat)(X:c<n)(Y:d<n)(Z:c≠d)(e:∀i,M c i=M d i):det n M=0:=by
 rcases aoH Z with z|z
 ·show yI (d-c-1) n M c gu (λi=>![e i,show c+(d-c-1)+1=d by omega])
 ·show yI (c-d-1) n M d gu (λi=>![<-e i,show d+(c-d-1)+1=c by omega])
def zv4 (n:Nat)(M:Nat->Nat->Rat)(c:Nat)(Z:c<n)(V:Nat->Nat->Rat)(Y:Nat->Rat):∀m,det n (put M c (λi=>sumTo m (λs=>Y s*V s i)))=sumTo m (λs=>Y s*det n (put M c (V s))):=by
 let zero:det n (put M c (λ_=>0))=0:=by
  have:=oT n M c (λ_=>0) (λ_=>0) 1 Z;let e:(λi:Nat=>(0:Rat)+1*(λ_:Nat=>(0:Rat)) i)=λ_=>0:=by funext i;grind
  rw[e] at this;grind
 intro m
 induction m generalizing V Y with
 | zero=>
  simp only[Ty.sumTo];show zero
 | succ m X=>
  simp only[Ty.sumTo]
  let e:(λi=>Y 0*V 0 i+sumTo m (λs=>Y (s+1)*V (s+1) i))=λi=>(λi=>sumTo m (λs=>Y (s+1)*V (s+1) i)) i+Y 0*V 0 i:=by
   funext i;grind
  rw[e,oT n M c _ _ _ Z,X (λs=>V (s+1)) (λs=>Y (s+1))];grind
def Rp (n:Nat)(M:Nat->Nat->Rat)(c:Nat)(Z:c<n)(v:Nat->Rat)(Y:Nat->Rat)(h:∀i,i<n->v i=sumTo n (λs=>Y s*M s i)):det n (put M c v)=Y c*det n M:=by
 rw[dw n (put M c v) (put M c (λi=>sumTo n (λs=>Y s*M s i))) (λk i _ T=>by
  unfold put;by_cases z:k=c
  ·rw[iB z,iB z,h i T]
  ·rw[iA z,iA z]),zv4 n M c Z M Y n,BZ n _ c Z (λs U X=>?_),yH]
 rw[afl n (put M c (M s)) c s Z U (CV X) (λi=>by
  unfold put
  rw[iB rfl,iA X])]
 grind
theorem zv3:∀(n:Nat)(M:Nat->Nat->Int),∃z:Int,det n (λk i=>(M k i:Rat))=(z:Rat)
 | 0,_=>#[(1),by simp[det]]
 | n+1,M=>by
  let Z:∀(m:Nat)(f:Nat->Rat),(∀j,j<m->∃z:Int,f j=(z:Rat))->∃z:Int,sumTo m f=(z:Rat):=by
   intro m
   induction m with
   | zero=>show λf _=>#[(0),by simp[Ty.sumTo]]
   | succ m Y=>
    intro f h;let(a,R):=h 0 gu;let(b,S):=Y (λi=>f (i+1)) (λj X=>h (j+1) gu);show#[a+b,by simp only[Ty.sumTo];rw[R,S];push_cast;rfl]
  unfold det;show Z _ _ λj X=>?_;let(z,U):=zv3 n (λk i=>M (skip j k) (i+1))
  let T:sgn j=((if j % 2=0 then 1 else -1:Int):Rat):=by
   unfold sgn;split<;>simp
  show#[(if j % 2=0 then 1 else -1)*M j 0*z,by rw[U,T];push_cast;rfl]
def fact:Nat->Nat
 | 0=>1
 | n+1=>(n+1)*fact n
theorem uF (X:Nat):∀(n:Nat)(M:Nat->Nat->Rat),(∀k i,k<n->i<n->M k i<=(X:Rat)/\ -(X:Rat)<=M k i)->det n M<=((fact n*X^n:Nat):Rat)/\ -((fact n*X^n:Nat):Rat)<=det n M
 | 0,_,_=>by simp[det,fact];decide
 | n+1,M,h=>by
  let Z:∀(m:Nat)(f:Nat->Rat)(B:Rat),(∀j,j<m->f j<=B/\ -B<=f j)->sumTo m f<=(m:Rat)*B/\ -((m:Rat)*B)<=sumTo m f:=by
   intro m
   induction m with
   | zero=>intro f B _;simp[Ty.sumTo]
   | succ m R=>
    intro f B h;let a:=h 0 gu;let b:=R (λi=>f (i+1)) B (λj U=>h (j+1) gu);simp only[Ty.sumTo];push_cast;grind
  let Y:∀(x y B C:Rat),x<=B-> -B<=x->y<=C-> -C<=y->0<=B->0<=C->x*y<=B*C/\ -(B*C)<=x*y:=by
   intro x y B C w z A D E G;let J:0<=(B-x)*(C+y):=Vn (by grind) (by grind);let L:0<=(B+x)*(C-y):=Vn (by grind) (by grind);let N:0<=(B-x)*(C-y):=Vn (by grind) (by grind);let P:0<=(B+x)*(C+y):=Vn (by grind) (by grind);constructor<;>grind
  let Q:=Z (n+1) (λj=>sgn j*M j 0*det n (λk i=>M (skip j k) (i+1))) ((X:Rat)*((fact n*X^n:Nat):Rat)) (λj U=>by
   let d:=uF X n (λk i=>M (skip j k) (i+1)) (λk i I H=>h _ _ (by unfold skip;split<;>omega) gu);let m:=h j 0 U gu;let T:(0:Rat)<=(X:Rat):=by exact_mod_cast RQ X
   let S:(0:Rat)<=((fact n*X^n:Nat):Rat):=by exact_mod_cast RQ _
   let e:=Y _ _ _ _ m.1 m.2 d.1 d.2 T S;unfold sgn
   split<;>constructor<;>grind)
  unfold det
  let e:((n+1:Nat):Rat)*((X:Rat)*((fact n*X^n:Nat):Rat))=((fact (n+1)*X^(n+1):Nat):Rat):=by
   have:fact (n+1)*X^(n+1)=(n+1)*(X*(fact n*X^n)):=by
    rw[show fact (n+1)=(n+1)*fact n from rfl,v7];simp only[x8,zw,Nat.mul_left_comm]
   rw[this];push_cast;rfl
  rwa[e] at Q
def left (n:Nat)(M:Nat->Nat->Rat)(h:det n M≠0):∃R:Nat->Nat->Rat,∀(v Y:Nat->Rat),(∀i,i<n->v i=sumTo n (λs=>Y s*M s i))->∀s,s<n->sumTo n (λi=>R s i*v i)=Y s:=by
 show#[λs i=>(det n M)⁻¹*det n (put M s (λk=>if k=i then 1 else 0)),λv Y U s Z=>?_];let Q:=Rp n M s Z v Y U
 let S:det n (put M s v)=sumTo n (λi=>v i*det n (put M s (λk=>if k=i then 1 else 0))):=by
  rw[<-zv4 n M s Z (λi k=>if k=i then 1 else 0) v n];show dw n _ _ λk i _ T=>?_;unfold put;by_cases z:k=s
  ·rw[iB z,iB z]
   change v i=sumTo n (λs=>v s*(if i=s then 1 else 0))
   rw[BZ n _ i T (λj _ X=>by
    change v j*(if i=j then 1 else 0)=0;rw[iA (CV X)]
    grind)]
   rw[iB rfl];grind
  ·rw[iA z,iA z]
 rw[fj n (λi=>(det n M)⁻¹*det n (put M s (λk=>if k=i then 1 else 0))*v i) (λi=>(det n M)⁻¹*(v i*det n (put M s (λk=>if k=i then 1 else 0)))) (λj _=>by grind),sumTo_mul,<-S,Q];have:=ZR _ h;grind
structure Tb where
 L:Nat->Nat->Int
 d:Int
 ac:Nat->Nat
 dn:Nat->Nat
def bq (c:Nat)(A:Nat->Nat->Int)(t i:Nat):Int:=if t<c then A i t else if i+c=t then 1 else 0
def vec (c:Nat)(A:Nat->Nat->Int)(T:Tb)(j i:Nat):Int:=if j<c then bq c A (T.ac j) i else A i c
def kI (c:Nat)(A:Nat->Nat->Int)(T:Tb):Nat->Nat->Rat:=λs i=>(bq c A (T.dn s) i:Rat)
structure Good (r c:Nat)(A:Nat->Nat->Int)(T:Tb):Prop where
 pos:0<T.d
 dt:det (r+1) (kI c A T)=(T.d:Rat)
 rel:∀j,j<=c->∀i,i<r+1->(T.d:Rat)*(vec c A T j i:Rat)=sumTo (r+1) (λs=>(T.L s j:Rat)*kI c A T s i)
 fea:∀s,s<r->0<=T.L s c
 last:T.dn r=c+r
 aaF:∀s,s<r->T.dn s<c+r
 B_:∀j,j<c->T.ac j<c+r
 dnI:∀s s',s<r+1->s'<r+1->T.dn s=T.dn s' ->s=s'
 acI:∀j j',j<c->j'<c->T.ac j=T.ac j' ->j=j'
 PK:∀j s,j<c->s<r+1->T.ac j≠T.dn s
 cov:∀t,t<c+r->(∃j,j<c/\T.ac j=t)\/(∃s,s<r/\T.dn s=t)
def IP {d:Int}(h:0<d):(0:Rat)<(d:Rat):=by exact_mod_cast h
def Good.dR (G:Good r c A T):(0:Rat)<(T.d:Rat):=IP G.pos
def Good.aoa (G:Good r c A T)(Z:j<=c)(Y:i<r+1):(vec c A T j i:Rat)=sumTo (r+1) (λs=>((T.d:Rat)⁻¹*(T.L s j:Rat))*kI c A T s i):=by
 let h:=G.rel j Z i Y;rw[fj (r+1) (λs=>((T.d:Rat)⁻¹*(T.L s j:Rat))*kI c A T s i) (λs=>(T.d:Rat)⁻¹*((T.L s j:Rat)*kI c A T s i)) (λ_ _=>by grind),sumTo_mul,<-h];have:=ZR _ (show(T.d:Rat)≠0 by have:=G.dR;grind);grind
def Good.cof (G:Good r c A T)(Y:j<=c)(Z:s<r+1):det (r+1) (put (kI c A T) s (λi=>(vec c A T j i:Rat)))=(T.L s j:Rat):=by
 rw[Rp (r+1) (kI c A T) s Z _ (λs=>(T.d:Rat)⁻¹*(T.L s j:Rat)) (λi X=>G.aoa Y X),G.dt];have:=ZR _ (show(T.d:Rat)≠0 by have:=G.dR;grind);grind
def yJ {r X:Nat}(U:1<=X)(Y:∀i j,i<r+1->j<=c-> -(X:Int)<=A i j/\A i j<=(X:Int))(t:Nat)(Z:i<r+1): -(X:Int)<=bq c A t i/\bq c A t i<=(X:Int):=by
 unfold bq;split
 ·show Y i t Z gu
 ·split<;>omega
def ajv {X:Nat}(h: -(X:Int)<=z/\z<=(X:Int)):(z:Rat)<=(X:Rat)/\ -(X:Rat)<=(z:Rat):=by
 constructor
 ·exact_mod_cast h.2
 ·have:((-(X:Int):Int):Rat)<=(z:Rat):=by exact_mod_cast h.1
  let e:((-(X:Int):Int):Rat)= -(X:Rat):=by push_cast;rfl
  rwa[e] at this
def aob {z:Int}(h:(z:Rat)<=((X:Nat):Rat)/\ -((X:Nat):Rat)<=(z:Rat)):z.natAbs<=X:=by
 let a:z<=(X:Int):=by exact_mod_cast h.1
 let b: -(X:Int)<=z:=by
  let e:((-(X:Int):Int):Rat)= -(X:Rat):=by push_cast;rfl
  have:=h.2;rw[<-e] at this
  exact_mod_cast this
 omega
def Good.bound (G:Good r c A T){X:Nat}(U:1<=X)(Y:∀i j,i<r+1->j<=c-> -(X:Int)<=A i j/\A i j<=(X:Int)):T.d.natAbs<=fact (r+1)*X^(r+1)/\∀s j,s<r+1->j<=c->(T.L s j).natAbs<=fact (r+1)*X^(r+1):=by
 constructor
 ·have:=uF X (r+1) (kI c A T) (λk i _ Z=>ajv (yJ U Y _ Z))
  rw[G.dt] at this;show aob this
 ·intro s j S R
  have:=uF X (r+1) (put (kI c A T) s (λi=>(vec c A T j i:Rat))) (λk i _ Z=>by
   unfold put;by_cases z:k=s
   ·rw[iB z]
    show ajv ?_;unfold vec;split
    ·show yJ U Y _ Z
    ·show Y i c Z (CK _)
   ·rw[iA z]
    show ajv (yJ U Y _ Z))
  rw[G.cof R S] at this;show aob this
def qV (T:Tb)(a k:Nat):Tb where
 L:=λs j=>if s=a then (if j=k then T.d else T.L a j) else if j=k then -(T.L s k) else (T.L a k*T.L s j-T.L s k*T.L a j).fdiv T.d
 d:=T.L a k
 ac:=λj=>if j=k then T.dn a else T.ac j
 dn:=λs=>if s=a then T.ac k else T.dn s
def IQ (c:Nat)(A:Nat->Nat->Int)(T:Tb)(a k:Nat):kI c A (qV T a k)=put (kI c A T) a (λi=>(bq c A (T.ac k) i:Rat)):=by
 funext s i;change ((bq c A (if s=a then T.ac k else T.dn s) i:Int):Rat)=if s=a then (bq c A (T.ac k) i:Rat) else (bq c A (T.dn s) i:Rat)
 by_cases z:s=a
 ·rw[iB z,iB z]
 ·rw[iA z,iA z]
section
variable {r c:Nat}{A:Nat->Nat->Int}{T:Tb}{a k:Nat}
def Good.dtP (G:Good r c A T)(Y:a<r)(Z:k<c):det (r+1) (kI c A (qV T a k))=(T.L a k:Rat):=by
 let h:=G.cof (s:=a) (RK Z) gu;rw[IQ,<-h];show dw _ _ _ λs i _ _=>?_;unfold put vec;simp only[iB Z]
def Good.aoc (G:Good r c A T)(J:a<r)(Z:k<c)(R:j<=c)(Y:i<r+1):(T.L a k:Rat)*(vec c A T j i:Rat)=sumTo (r+1) (λs=>.C*kI c A (qV T a k) s i):=by
 let Q:=G.rel j R i Y;let X:=G.rel k (RK Z) i Y;rw[Ro (r+1) _ a gu] at Q X ⊢;let e:vec c A T k i=bq c A (T.ac k) i:=iB Z;rw[e] at X;rw[iB rfl,IQ];let P:put (kI c A T) a (λi=>(bq c A (T.ac k) i:Rat)) a i=(bq c A (T.ac k) i:Rat):=iB rfl
 rw[P,fj (r+1) (λs=>if s=a then 0 else .C*put (kI c A T) a (λi=>(bq c A (T.ac k) i:Rat)) s i)
  (λs=>((T.d:Rat)⁻¹*(T.L a k:Rat))*(if s=a then 0 else (T.L s j:Rat)*kI c A T s i)+(-((T.d:Rat)⁻¹*(T.L a j:Rat)))*(if s=a then 0 else (T.L s k:Rat)*kI c A T s i)) (λs _=>by
   by_cases z:s=a
   ·rw[iB z,iB z,iB z]
    grind
   ·rw[iA z,iA z,iA z,iA z,show put (kI c A T) a (λi=>(bq c A (T.ac k) i:Rat)) s i=kI c A T s i from iA z]
    grind),sumTo_add,sumTo_mul,sumTo_mul]
 let v:=ZR _ (show(T.d:Rat)≠0 by have:=G.dR;grind);generalize sumTo (r+1) (λs=>if s=a then 0 else (T.L s j:Rat)*kI c A T s i)=M at*;generalize sumTo (r+1) (λs=>if s=a then 0 else (T.L s k:Rat)*kI c A T s i)=N at*;let S:M=(T.d:Rat)*(vec c A T j i:Rat)-(T.L a j:Rat)*kI c A T a i:=by grind
 let U:N=(T.d:Rat)*(bq c A (T.ac k) i:Rat)-(T.L a k:Rat)*kI c A T a i:=by grind
 rw[S,U];generalize (T.d:Rat)=d at*;generalize d⁻¹=e at*;generalize (vec c A T j i:Rat)=x at*;generalize (bq c A (T.ac k) i:Rat)=y at*;generalize kI c A T a i=b at*;generalize (T.L a j:Rat)=l at*;generalize (T.L a k:Rat)=p at*;have:l*y+(e*p*(d*x-l*b)+ -(e*l)*(d*y-p*b))=(e*d)*(p*x)+(1-e*d)*(l*y):=by grind
 rw[this,v];grind
def Good.show(G:Good r c A T)(X:a<r)(Y:k<c)(S:0<T.L a k)(R:j<=c)(U:s<r+1)(Z:s≠a):T.d*((T.L a k*T.L s j-T.L s k*T.L a j).fdiv T.d)=T.L a k*T.L s j-T.L s k*T.L a j:=by
 let I:(0:Rat)<(T.L a k:Rat):=IP S;let pv:=ZR _ (show(T.L a k:Rat)≠0 by grind);let J:=ZR _ (show(T.d:Rat)≠0 by have:=G.dR;grind)
 let h:=Rp (r+1) (kI c A (qV T a k)) s U (λi=>(vec c A T j i:Rat)) (λs=>(T.L a k:Rat)⁻¹*.C) (λi Q=>by
  let h:=G.aoc X Y R Q;rw[fj (r+1) _ (λs=>(T.L a k:Rat)⁻¹*(.C*kI c A (qV T a k) s i)) (λs _=>by grind),sumTo_mul,<-h]
  grind)
 rw[G.dtP X Y,iA Z] at h;let(z,M):=zv3 (r+1) (λq i=>if q=s then vec c A T j i else bq c A ((qV T a k).dn q) i)
 let e:det (r+1) (put (kI c A (qV T a k)) s (λi=>(vec c A T j i:Rat)))=(z:Rat):=by
  rw[<-M];show dw _ _ _ λq i _ _=>?_;unfold put;by_cases y:q=s
  ·rw[iB y,iB y]
  ·rw[iA y,iA y]
   rfl
 rw[e] at h
 let N:(T.d:Rat)*(z:Rat)=(T.L a k:Rat)*(T.L s j:Rat)-(T.L s k:Rat)*(T.L a j:Rat):=by
  rw[h];generalize (T.L a k:Rat)*(T.L s j:Rat)-(T.L s k:Rat)*(T.L a j:Rat)=w at*;generalize (T.L a k:Rat)=p at*;generalize (T.d:Rat)=d at*;have:d*(p⁻¹*(d⁻¹*w)*p)=(p⁻¹*p)*((d⁻¹*d)*w):=by grind
  rw[this,pv,J];grind
 let P:T.d*z=T.L a k*T.L s j-T.L s k*T.L a j:=by exact_mod_cast N
 rw[<-P,Int.mul_fdiv_cancel_left _ (show T.d≠0 by have:=G.pos;omega)]
def aaG (j:Nat)(h:j≠k):(qV T a k).L a j=T.L a j:=by
 change (if a=a then (if j=k then T.d else T.L a j) else _)=_;rw[iB rfl,iA h]
def ajw:(qV T a k).L a k=T.d:=by
 change (if a=a then (if k=k then T.d else T.L a k) else _)=_;rw[iB rfl,iB rfl]
def aod (h:s≠a):(qV T a k).L s k= -(T.L s k):=by
 change (if s=a then _ else if k=k then -(T.L s k) else _)=_;rw[iA h,iB rfl]
def Uw (h:s≠a)(Z:j≠k):(qV T a k).L s j=(T.L a k*T.L s j-T.L s k*T.L a j).fdiv T.d:=by
 change (if s=a then _ else if j=k then -(T.L s k) else _)=_;rw[iA h,iA Z]
theorem Good.qV (G:Good r c A T)(R:a<r)(S:k<c)(I:0<T.L a k)(C:∀s,s<r->0<T.L s k->T.L a c*T.L s k<=T.L s c*T.L a k):Good r c A (qV T a k):=by
 let x:∀s,s<r->s≠a->0<=(Px.qV T a k).L s c:=λs Y N=>by
  let e:=G.show R S I (j:=c) (CK _) (s:=s) gu N;rw[Uw N gu];generalize (T.L a k*T.L s c-T.L s k*T.L a c).fdiv T.d=z at e ⊢
  let B:0<=T.L a k*T.L s c-T.L s k*T.L a c:=by
   by_cases y:0<T.L s k
   ·have:=C s Y y
    rw[VY (T.L a k),VY (T.L s k)];omega
   ·let o:=Pw (EE I) (G.fea s Y)
    let J:0<= -(T.L s k)*T.L a c:=Pw gu (G.fea a R);rw[aqD] at J;omega
  rw[<-e] at B;let p:=G.pos;apply VD;intro n;have:T.d*z<0:=alI p gu;omega
 show(I,G.dtP R S,λj U i H=>?_,λs Y=>?_,2,λs Y=>?_,λj U=>?_,λs Q Y E e=>?_,λj P U M e=>?_,λj s U Y e=>?_,λt D=>?_)
 ·by_cases z:j=k
  ·subst z
   let J:=G.rel j U i H;rw[Ro (r+1) _ a gu] at J ⊢;rw[show vec c A T j i=bq c A (T.ac j) i from iB S] at J
   rw[ajw,IQ,show put (kI c A T) a (λi=>(bq c A (T.ac j) i:Rat)) a i=(bq c A (T.ac j) i:Rat) from iB rfl,show vec c A (Px.qV T a j) j i=bq c A (T.dn a) i by
    change (if j<c then bq c A (if j=j then T.dn a else T.ac j) i else A i c)=_
    rw[iB S,iB rfl]]
   rw[fj (r+1) (λs=>if s=a then 0 else ((Px.qV T a j).L s j:Rat)*put (kI c A T) a (λi=>(bq c A (T.ac j) i:Rat)) s i) (λs=>(-1)*(if s=a then 0 else (T.L s j:Rat)*kI c A T s i)) (λs _=>by
    by_cases y:s=a
    ·rw[iB y,iB y]
     grind
    ·rw[iA y,iA y,aod y,show put (kI c A T) a (λi=>(bq c A (T.ac j) i:Rat)) s i=kI c A T s i from iA y]
     push_cast
     grind),sumTo_mul]
   let e:(kI c A T a i)=(bq c A (T.dn a) i:Rat):=rfl;rw[e] at J;change ((T.L a j:Int):Rat)*_=_;grind
  ·let h:=G.aoc R S U H
   let ev:vec c A (Px.qV T a k) j i=vec c A T j i:=by
    change (if j<c then bq c A (if j=k then T.dn a else T.ac j) i else A i c)=(if j<c then bq c A (T.ac j) i else A i c);rw[iA z]
   rw[ev];change ((T.L a k:Int):Rat)*_=_;rw[h];show fj _ _ _ λs Y=>?_;by_cases y:s=a
   ·subst y
    rw[iB rfl,aaG j z]
   ·rw[iA y,Uw y z]
    let e:=G.show R S I U Y y;generalize (T.L a k*T.L s j-T.L s k*T.L a j).fdiv T.d=w at e ⊢;let u:(T.d:Rat)*(w:Rat)=(T.L a k:Rat)*(T.L s j:Rat)-(T.L s k:Rat)*(T.L a j:Rat):=by exact_mod_cast e
    rw[<-u];let q:=ZR _ (show(T.d:Rat)≠0 by have:=G.dR;grind);rw[<-Rat.mul_assoc,q];grind
 ·by_cases z:s=a
  ·subst z
   rw[aaG c gu];show G.fea s Y
  ·show x s Y z
 ·change (if r=a then T.ac k else T.dn r)=c+r
  rw[iA gu];show G.last
 ·change (if s=a then T.ac k else T.dn s)<c+r
  split
  ·show G.B_ k S
  ·show G.aaF s Y
 ·change (if j=k then T.dn a else T.ac j)<c+r
  split
  ·show G.aaF a R
  ·show G.B_ j U
 ·let Z:(if s=a then T.ac k else T.dn s)=(if Q=a then T.ac k else T.dn Q):=e
  by_cases z:s=a<;>by_cases X:Q=a
  ·rw[z,X]
  ·rw[iB z,iA X] at Z
   show CC Z (G.PK k Q S E)
  ·rw[iA z,iB X] at Z
   show CC Z.symm (G.PK k s S Y)
  ·rw[iA z,iA X] at Z
   show G.dnI s Q Y E Z
 ·let Z:(if j=k then T.dn a else T.ac j)=(if P=k then T.dn a else T.ac P):=e
  by_cases z:j=k<;>by_cases X:P=k
  ·rw[z,X]
  ·rw[iB z,iA X] at Z
   show CC Z.symm (G.PK P a M gu)
  ·rw[iA z,iB X] at Z
   show CC Z (G.PK j a U gu)
  ·rw[iA z,iA X] at Z
   show G.acI j P U M Z
 ·let Z:(if j=k then T.dn a else T.ac j)=(if s=a then T.ac k else T.dn s):=e
  by_cases z:j=k<;>by_cases X:s=a
  ·rw[iB z,iB X] at Z
   show G.PK k a S gu Z.symm
  ·rw[iB z,iA X] at Z
   show X (G.dnI a s gu Y Z).symm
  ·rw[iA z,iB X] at Z
   show z (G.acI j k U S Z)
  ·rw[iA z,iA X] at Z
   show G.PK j s U Y Z
 ·rcases G.cov t D with ⟨j,U,e⟩|⟨s,Y,e⟩
  ·by_cases z:j=k
   ·show .inr (a,R,2)
    change (if a=a then T.ac k else T.dn a)=t;rwa[iB rfl,<-z]
   ·show .inl (j,U,2)
    change (if j=k then T.dn a else T.ac j)=t;rwa[iA z]
  ·by_cases z:s=a
   ·show .inl (k,S,2)
    change (if k=k then T.dn a else T.ac k)=t;rwa[iB rfl,<-z]
   ·show .inr (s,Y,2)
    change (if s=a then T.ac k else T.dn s)=t;rwa[iA z]
end
theorem aaH:∀n,det n (λk i=>if i=k then 1 else 0)=1
 | 0=>rfl
 | n+1=>by
  unfold det
  rw[BZ (n+1) _ 0 gu (λj _ Z=>by
   change sgn j*(if 0=j then (1:Rat) else 0)*_=0;rw[iA (CV Z)]
   grind)]
  rw[dw n _ (λk i=>if i=k then 1 else 0) (λk i _ _=>by
   change (if i+1=skip 0 k then (1:Rat) else 0)=_;have:skip 0 k=k+1:=by unfold skip;rw[iA gu]
   rw[this];by_cases z:i=k
   ·rw[iB z,iB gu]
   ·rw[iA z,iA gu]),aaH n]
  simp[sgn]
def tb0 (c:Nat)(A:Nat->Nat->Int):Tb:=(A,(1),λj=>j,λs=>c+s)
def gW (c:Nat)(A:Nat->Nat->Int)(s i:Nat):bq c A (c+s) i=if i=s then 1 else 0:=by
 unfold bq;rw[iA gu];by_cases z:i=s
 ·rw[iB z,iB gu]
 ·rw[iA z,iA gu]
def good0 (h:∀s,s<r->0<=A s c):Good r c A (tb0 c A):=by
 let Z:∀s i,kI c A (tb0 c A) s i=if i=s then 1 else 0:=λs i=>by
  change ((bq c A (c+s) i:Int):Rat)=_;rw[gW];split<;>simp
 show(Int.zero_lt_one,2,λj Y i S=>?_,h,O,λs T=>?_,λj Y=>?_,λs X _ _ e=>?_,λj R _ _ e=>e,λj s Y T e=>?_,λt Q=>?_)
 ·rw[dw (r+1) _ (λk i=>if i=k then 1 else 0) (λk i _ _=>Z k i),aaH]
  rfl
 ·rw[BZ (r+1) _ i S (λs _ U=>by
   rw[Z,iA (CV U)]
   grind),Z,iB rfl]
  have:vec c A (tb0 c A) j i=A i j:=by
   change (if j<c then bq c A j i else A i c)=_;by_cases z:j<c
   ·rw[iB z]
    unfold bq;rw[iB z]
   ·rw[iA z,show j=c by omega]
  rw[this];change ((1:Int):Rat)*(A i j:Rat)=(A i j:Rat)*1;grind
 ·change c+s<c+r
  omega
 ·change j<c+r
  omega
 ·have:c+s=c+X:=e
  omega
 ·have:j=c+s:=e
  omega
 ·by_cases z:t<c
  ·show .inl (t,z,O)
  ·show .inr (t-c,gu,(by change c+(t-c)=t;omega))
section
variable {r c:Nat}{A:Nat->Nat->Int}{T T':Tb}{a k:Nat}
def Good.Ux (G:Good r c A T):∃π:Nat->Rat,π r=1/\(∀s,s<r->sumTo (r+1) (λi=>π i*(bq c A (T.dn s) i:Rat))=0)/\(∀j,j<=c->sumTo (r+1) (λi=>π i*(vec c A T j i:Rat))=(T.d:Rat)⁻¹*(T.L r j:Rat))/\(∀i,i<r->sumTo (r+1) (λq=>π q*(bq c A (c+i) q:Rat))=π i):=by
 let(R,Q):=left (r+1) (kI c A T) (by rw[G.dt];have:=G.dR;grind)
 let Z:∀s,s<r+1->∀q,q<r+1->sumTo (r+1) (λi=>R q i*kI c A T s i)=if q=s then 1 else 0:=λs S q P=>Q (kI c A T s) (λq=>if q=s then 1 else 0) (λi _=>by
  rw[BZ (r+1) _ s S (λj _ U=>by rw[iA U];grind),iB rfl]
  grind) q P
 let Y:∀i,i<r+1->sumTo (r+1) (λq=>R r q*(bq c A (c+i) q:Rat))=R r i:=λi X=>by
  rw[BZ (r+1) _ i X (λj _ U=>by
   rw[gW,iA U]
   simp),gW,iB rfl]
  simp
 show(R r,2,λs S=>?_,λj N=>?_,λi X=>Y i gu)
 ·let h:=Z r gu r gu
  rw[iB rfl] at h;rw[<-h,<-Y r gu];show fj _ _ _ λq _=>?_;change _=R r q*((bq c A (T.dn r) q:Int):Rat);rw[G.last]
 ·let h:=Z s gu r gu
  rwa[iA gu] at h
 ·show Q (λi=>(vec c A T j i:Rat)) (λs=>(T.d:Rat)⁻¹*(T.L s j:Rat)) (λi X=>G.aoa N X) r gu
def Uy (r c:Nat)(T T':Tb)(a k:Nat):Prop:=a<r/\k<c/\T.L r k<0/\0<T.L a k/\(∀s,s<r->0<T.L s k->T.L a c*T.L s k<T.L s c*T.L a k\/(T.L a c*T.L s k=T.L s c*T.L a k/\T.dn a<=T.dn s))/\(T.L a c=0->∀j,j<c->T.L r j<0->T.ac k<=T.ac j)/\T'=qV T a k
def Uy.good (S:Uy r c T T' a k)(G:Good r c A T):Good r c A T':=by
 let(R,U,_,Y,X,_,rfl):=S
 show G.qV R U Y λs Z h=>by
  rcases X s Z h with x|x
  ·show EE x
  ·show apz x.1
def wr (c r:Nat)(T:Tb):Rat:=(T.d:Rat)⁻¹*(T.L r c:Rat)
def Uy.worth (S:Uy r c T T' a k)(G:Good r c A T):wr c r T<=wr c r T'/\(T.L a c≠0->wr c r T<wr c r T'):=by
 let(P,J,u,Q,q,_,rfl):=S;let e:=G.show P J Q (j:=c) (CK _) (s:=r) gu gu;let B:(qV T a k).L r c=(T.L a k*T.L r c-T.L r k*T.L a c).fdiv T.d:=Uw gu gu;let D:(qV T a k).d=T.L a k:=rfl;rw[<-B] at e;unfold wr;rw[D];let f:=G.fea a P;generalize (qV T a k).L r c=x at*;let y:=G.dR;let N:=IP Q;let z:=ZR _ (show(T.d:Rat)≠0 by grind);let pv:=ZR _ (show(T.L a k:Rat)≠0 by grind);let w:0<(T.d:Rat)⁻¹:=Qa.mpr y;let M:0<(T.L a k:Rat)⁻¹:=Qa.mpr N
 let C:(T.d:Rat)*(x:Rat)=(T.L a k:Rat)*(T.L r c:Rat)+((-.N*T.L a c:Int):Rat):=by
  have:T.d*x=T.L a k*T.L r c+ -.N*T.L a c:=by rw[e,aqD];omega
  exact_mod_cast this
 let X:(T.L a k:Rat)⁻¹*(x:Rat)=(T.d:Rat)⁻¹*(T.L r c:Rat)+(T.L a k:Rat)⁻¹*(T.d:Rat)⁻¹*((-.N*T.L a c:Int):Rat):=by
  generalize ((-.N*T.L a c:Int):Rat)=g at*;generalize (T.d:Rat)=d at*;generalize (T.L a k:Rat)=p at*;generalize d⁻¹=Y at*;generalize p⁻¹=Z at*
  have:Z*(x:Rat)=(Z*Y)*(d*(x:Rat)):=by
   have:(Z*Y)*(d*(x:Rat))=Z*((Y*d)*(x:Rat)):=by grind
   rw[this,z];grind
  rw[this,C];have:Z*Y*(p*(T.L r c:Rat)+g)=(Z*p)*(Y*(T.L r c:Rat))+Z*Y*g:=by grind
  rw[this,pv];grind
 let E:0<= -.N*T.L a c:=Pw gu f;let I:(0:Rat)<=((-.N*T.L a c:Int):Rat):=by exact_mod_cast E
 let R:0<(T.L a k:Rat)⁻¹*(T.d:Rat)⁻¹:=FD M w;rw[X];constructor
 ·have:=Vn (vN R) I
  grind
 ·intro nz
  let H:0 < -.N*T.L a c:=VR gu gu;let U:(0:Rat)<((-.N*T.L a c:Int):Rat):=by exact_mod_cast H
  have:=FD R U;grind
def Good.ajx (G:Good r c A T)(X:Good r c A T')(h:∀s,s<r+1->T.dn s=T'.dn s):T.d=T'.d/\∀s,s<r+1->T.L s c=T'.L s c:=by
 let Y:∀s i,s<r+1->kI c A T s i=kI c A T' s i:=λs i Z=>by
  unfold kI;rw[h s Z]
 constructor
 ·let e:(T.d:Rat)=(T'.d:Rat):=by
   rw[<-G.dt,<-X.dt];show dw _ _ _ λs i Z _=>Y s i Z
  exact_mod_cast e
 ·intro s Z
  let e:(T.L s c:Rat)=(T'.L s c:Rat):=by
   rw[<-G.cof (CK c) Z,<-X.cof (CK c) Z];show dw _ _ _ λq i U _=>?_;unfold put vec;simp only[iA (Sa c),Y q i U]
  exact_mod_cast e
end
theorem oU (P:Nat->Prop):∀(n i:Nat),¬ P i->P (i+n)->∃x,i<=x/\x<i+n/\¬ P x/\P (x+1)
 | 0,_,h,h'=>CC h' h
 | n+1,i,h,h'=>by
  by_cases z:P (i+n)
  ·let(x,a,b,d):=oU P n i h z
   show(x,a,gu,d)
  ·show(i+n,gu,gu,z,h')
def turn (P:Nat->Prop)(e:P u ↔ P v)(U:u<=i/\i<=v)(X:u<=j/\j<=v)(Y:P i)(Z:¬ P j):∃x,u<=x/\x<v/\¬ P x/\P (x+1):=by
 by_cases z:j<=i
 ·let(x,a,b,d):=oU P (i-j) j Z (by rwa[show j+(i-j)=i by omega])
  show(x,gu,gu,d)
 ·by_cases y:P u
  ·let(x,a,b,d):=oU P (v-j) j Z (![show j+(v-j)=v by omega] (e.mp y))
   show(x,gu,gu,d)
  ·let(x,a,b,d):=oU P (i-u) u y (by rwa[show u+(i-u)=i by omega])
   show(x,gu,gu,d)
theorem adM (P:Nat->Prop):∀(B:Nat),(∀t,P t->t<B)->(∃t,P t)->∃q,P q/\∀t,P t->t<=q
 | 0,h,⟨t,Z⟩=>CC (h t Z) (VA _)
 | B+1,h,⟨t,Z⟩=>by
  by_cases z:P B
  ·show(B,z,λt Z=>Nat.le_of_lt_succ (h t Z))
  ·show adM P B (λt Z=>by
    have:=h t Z;have:t≠B:=λe=>z (e▸Z)
    omega) #[t,Z]
def Bs (r:Nat)(T:Tb)(t:Nat):Prop:=∃s,s<r+1/\T.dn s=t
def Zr (r c:Nat)(T:Tb)(t:Nat):Prop:=∀s,s<r+1->T.dn s=t->T.L s c=0
section
variable {r c:Nat}{A:Nat->Nat->Int}{T T':Tb}{a k t:Nat}
def Uy.aaI (S:Uy r c T T' a k)(n:¬ Bs r T t)(b:Bs r T' t):T.ac k=t:=by
 let(Q,R,_,X,U,_,rfl):=S;let(s,Y,e):=b;let Z:(if s=a then T.ac k else T.dn s)=t:=e;by_cases z:s=a
 ·rw[iB z] at Z
  show Z
 ·rw[iA z] at Z
  show CC (s,Y,Z) n
def Uy.ajy (S:Uy r c T T' a k)(b:Bs r T t)(n:¬ Bs r T' t):T.dn a=t:=by
 let(R,U,_,Y,X,_,rfl):=S;let(s,Z,e):=b;by_cases z:s=a
 ·rw[<-z]
  show e
 ·show CC (s,Z,(show(if s=a then T.ac k else T.dn s)=t by rwa[iA z])) n
def Uy.zero (S:Uy r c T T' a k)(G:Good r c A T)(Y:T.L a c=0)(z:Zr r c T t):Zr r c T' t:=by
 let(Q,R,_,U,N,_,rfl):=S;intro s Z e;let X:(if s=a then T.ac k else T.dn s)=t:=e;by_cases y:s=a
 ·rw[y,aaG c gu]
  show Y
 ·rw[iA y] at X
  let P:=G.show Q R U (j:=c) (CK _) Z y;rw[Uw y gu];rw[Y,z s Z X] at P ⊢;simp
def ajJ {f:Nat->Tb}(H:u<v)(U:∀i,u<=i->i<=v->Good r c A (f i))(M:∀i,u<=i->i<v->∃a k,Uy r c (f i) (f (i+1)) a k)(C:∀s,s<r+1->(f u).dn s=(f v).dn s):False:=by
 let Gu:=U u (CK _) gu;let Gv:=U v gu (CK _);let sc:=Gu.ajx Gv C
 let mono:∀n i,u<=i->i+n<=v->wr c r (f i)<=wr c r (f (i+n)):=by
  intro n
  induction n with
  | zero=>show λi _ _=>uY
  | succ n ih=>
   intro i X E;let(a,k,S):=M (i+n) gu gu;show Rat.le_trans (ih i X gu) (S.worth (U _ gu gu)).1
 let g:wr c r (f u)=wr c r (f v):=by
  unfold wr;rw[sc.1,sc.2 r gu]
 let R:∀i a k,u<=i->i<v->Uy r c (f i) (f (i+1)) a k->(f i).L a c=0:=by
  intro i a k X E S;apply VD;intro nz;let w:=(S.worth (U i X gu)).2 nz;let m1:=mono (i-u) u (CK _) gu;let m2:=mono (v-(i+1)) (i+1) gu gu;rw[show u+(i-u)=i by omega] at m1;rw[show i+1+(v-(i+1))=v by omega,<-g] at m2;grind
 let zf:∀t n i,u<=i->i+n<=v->Zr r c (f i) t->Zr r c (f (i+n)) t:=by
  intro t n
  induction n with
  | zero=>show λi _ _ z=>z
  | succ n ih=>
   intro i X E z;let(a,k,S):=M (i+n) gu gu;show S.zero (U _ gu gu) (R _ _ _ gu gu S) (ih i X gu z)
 let za:∀t i j,u<=i->i<=v->u<=j->j<=v->Zr r c (f i) t->Zr r c (f j) t:=by
  intro t i j X E h3 h4 z;let zv:=zf t (v-i) i X gu z;rw[show i+(v-i)=v by omega] at zv
  let zu:Zr r c (f u) t:=λs Z e=>by
   rw[sc.2 s Z];show zv s Z (by rwa[<-C s Z])
  have:=zf t (j-u) u (CK _) gu zu;rwa[show u+(j-u)=j by omega] at this
 let D:∀t,Bs r (f u) t ↔ Bs r (f v) t:=λt=>#[λ⟨s,Z,e⟩=>(s,Z,by rwa[<-C s Z]),λ⟨s,Z,e⟩=>(s,Z,by rwa[C s Z])]
 let(q,(x,P,m,x3,x4),qm):=adM (λt=>∃x,u<=x/\x<v/\¬ Bs r (f x) t/\Bs r (f (x+1)) t) (c+r) (λt ⟨x,X,E,h3,h4⟩=>by
  let(a,k,S):=M x X E;rw[<-S.aaI h3 h4]
  show(U x X gu).B_ k S.2.1) (by
  let(a,k,S):=M u (CK _) H;show((f u).ac k,u,CK _,H,λ⟨s,Z,e⟩=>Gu.PK k s S.2.1 Z e.symm,a,by have:=S.1;omega,2);rw[S.2.2.2.2.2.2];change (if a=a then (f u).ac k else _)=_
  rw[iB rfl])
 let(y,Q,o,p,y4):=turn (λi=>¬ Bs r (f i) q) (![D q]) (i:=x) (j:=x+1) #[P,gu] #[gu,m] x3 (λh=>h x4);let p:Bs r (f y) q:=VD λh=>p h;let(a',N,S'):=M x P m;let(a,k,S):=M y Q o;let eq':=S'.aaI x3 x4;let eq:=S.ajy p y4;let B:=U x P gu;let G:=U y Q gu;let d':=R x a' N P m S';let d0:=R y a k Q o S;let(π,π1,π2,π3,_):=B.Ux;let di:0<((f x).d:Rat)⁻¹:=Qa.mpr B.dR;let(sa',sk',sn',sp',sm',sb',_):=S';let ent:(f y).ac k=(f y).ac k:=rfl;let eBs:¬ Bs r (f y) ((f y).ac k):=λ⟨s,Z,e⟩=>G.PK k s S.2.1 Z e.symm
 have axC :Bs r (f (y+1)) ((f y).ac k):=(a,by have:=S.1;omega,by
  rw[S.2.2.2.2.2.2];change (if a=a then (f y).ac k else _)=_
  rw[iB rfl])
 let(sa,sk,sn,sp,sm,sb,_):=S
 let rq:sumTo (r+1) (λi=>π i*(bq c A q i:Rat))<0:=by
  let h:=π3 N gu
  rw[fj (r+1) _ (λi=>π i*(bq c A q i:Rat)) (λi _=>by
   rw[show vec c A (f x) N i=bq c A ((f x).ac N) i from iB sk',eq'])] at h
  rw[h];have:((f x).L r N:Rat)<0:=by exact_mod_cast sn'
  have:=FD di (show 0 < -((f x).L r N:Rat) by grind);grind
 let rt:∀t,t<q->t<c+r->0<=sumTo (r+1) (λi=>π i*(bq c A t i:Rat)):=by
  intro t tq tl
  rcases B.cov t tl with ⟨j,hj,e⟩|⟨s,Z,e⟩
  ·let h:=π3 j gu
   rw[fj (r+1) _ (λi=>π i*(bq c A t i:Rat)) (λi _=>by
    rw[show vec c A (f x) j i=bq c A ((f x).ac j) i from iB hj,e])] at h
   rw[h]
   have:0<=(f x).L r j:=by
    apply VD;intro n;have:=sb' d' j hj gu;omega
   have:(0:Rat)<=((f x).L r j:Rat):=by exact_mod_cast this
   show Vn (vN di) this
  ·let h:=π2 s Z
   rw[e] at h;rw[h];show uY
 let rb:∀t,t<c+r->Bs r (f x) t->sumTo (r+1) (λi=>π i*(bq c A t i:Rat))=0:=by
  intro t tl ⟨s,Z,e⟩
  have:s≠r:=λz=>by
   rw[z,B.last] at e;omega
  let h:=π2 s gu;rwa[e] at h
 let rl:sumTo (r+1) (λi=>π i*(bq c A ((f y).dn r) i:Rat))=1:=by
  rw[G.last,BZ (r+1) _ r gu (λj _ nj=>by
   rw[gW,iA nj]
   simp),gW,iB rfl,π1]
  simp
 let I:((f y).d:Rat)*sumTo (r+1) (λi=>π i*(bq c A ((f y).ac k) i:Rat))=sumTo (r+1) (λs=>((f y).L s k:Rat)*sumTo (r+1) (λi=>π i*(bq c A ((f y).dn s) i:Rat))):=by
  rw[<-sumTo_mul,fj (r+1) _ (λi=>sumTo (r+1) (λs=>((f y).L s k:Rat)*(π i*(bq c A ((f y).dn s) i:Rat)))) (λi hi=>?_),aju]
  ·show fj _ _ _ λs _=>?_
   rw[sumTo_mul]
  ·let h:=G.rel k gu i hi
   rw[show vec c A (f y) k i=bq c A ((f y).ac k) i from iB sk] at h
   rw[fj (r+1) (λs=>((f y).L s k:Rat)*(π i*(bq c A ((f y).dn s) i:Rat))) (λs=>π i*(((f y).L s k:Rat)*kI c A (f y) s i)) (λs _=>by
    change _=π i*(((f y).L s k:Rat)*((bq c A ((f y).dn s) i:Int):Rat))
    grind),sumTo_mul,<-h]
   grind
 rw[Ro (r+1) (λs=>((f y).L s k:Rat)*sumTo (r+1) (λi=>π i*(bq c A ((f y).dn s) i:Rat))) r gu,rl] at I;let eF:∃w,u<=w/\w<v/\¬ Bs r (f w) ((f y).ac k)/\Bs r (f (w+1)) ((f y).ac k):=(y,Q,o,eBs,axC);let eLe:=qm _ eF;let eNe:(f y).ac k≠q:=λz=>G.PK k a sk gu (z>>>eq.symm);let re:=rt ((f y).ac k) gu (G.B_ k sk);let nR:((f y).L r k:Rat)<0:=by exact_mod_cast sn
 let ps:0<sumTo (r+1) (λj=>if j=r then 0 else ((f y).L j k:Rat)*sumTo (r+1) (λi=>π i*(bq c A ((f y).dn j) i:Rat))):=by
  have:=Vn (vN G.dR) re;grind
 let(s,Z,Y):=afj\ps
 let sr:s≠r:=λz=>by
  rw[iB z] at Y;grind
 rw[iA sr] at Y;let J:=G.aaF s gu
 let nb:¬ Bs r (f x) ((f y).dn s):=λb=>by
  rw[rb _ J b] at Y;grind
 let sF:=turn (λi=>Bs r (f i) ((f y).dn s)) (D _) (i:=y) (j:=x) #[Q,gu] #[P,gu] (s,Z,O) nb;let sLe:=qm _ sF;by_cases z:(f y).dn s=q
 ·have:s=a:=G.dnI s a Z gu (z>>>eq.symm)
  rw[z] at Y;rw[this] at Y;let pR:(0:Rat)<((f y).L a k:Rat):=IP sp;have:=FD pR (show 0 < -(sumTo (r+1) (λi=>π i*(bq c A q i:Rat))) by grind);grind
 ·let rs:=rt ((f y).dn s) gu J
  let lp:0<(f y).L s k:=by
   apply VD;intro n;have:((f y).L s k:Rat)<=0:=by exact_mod_cast (show(f y).L s k<=0 by omega)
   have:=Vn (show 0<= -((f y).L s k:Rat) by grind) rs;grind
  let z0:=za ((f y).dn s) x y P gu Q gu (λs' QG e=>CC (s',QG,e) nb) s Z rfl
  rcases sm s gu lp with h|h
  ·rw[d0,z0] at h
   simp at h
  ·have:=h.2
   omega
end
theorem aaJ:∀(B:Nat)(f:Nat->Nat),(∀i,i<=B->f i<B)->∃i j,i<j/\j<=B/\f i=f j
 | 0,f,h=>CC (h 0 (CK _)) (VA _)
 | B+1,f,h=>by
  by_cases z:∃i,i<=B/\f i=f (B+1)
  ·let(i,Y,e):=z
   show(i,B+1,gu,CK _,e)
  ·let n:∀i,i<=B->f i≠f (B+1):=λi Y e=>z (i,Y,e)
   let(i,j,T,S,e):=aaJ B (λi=>if f i=B then f (B+1) else f i) (λi Y=>by
    let a:=h i gu;let b:=h (B+1) (CK _);let m:=n i Y;change (if f i=B then f (B+1) else f i)<B
    split<;>omega)
   show(i,j,T,gu,2);let Z:(if f i=B then f (B+1) else f i)=(if f j=B then f (B+1) else f j):=e;let U:=n i gu;let X:=n j gu;by_cases a:f i=B<;>by_cases b:f j=B
   ·omega
   ·rw[iB a,iA b] at Z
    show CC Z.symm X
   ·rw[iA a,iB b] at Z
    show CC Z U
   ·rw[iA a,iA b] at Z
    show Z
def enc (B:Nat):Nat->(Nat->Nat)->Nat
 | 0,_=>0
 | n+1,g=>g n+B*enc B n g
theorem aaK (B:Nat):∀(n:Nat)(g:Nat->Nat),(∀i,i<n->g i<B)->enc B n g<B^n
 | 0,_,_=>by simp[enc]
 | n+1,g,h=>by
  let a:=aaK B n g (λi Z=>h i gu);let b:=h n gu;have:B*(enc B n g+1)<=B*B^n:=aos _ a;change g n+B*enc B n g<B^(n+1);rw[v7,zw (B^n)];rw[aqE] at this;omega
theorem zv2 (B:Nat):∀(n:Nat)(g g':Nat->Nat),(∀i,i<n->g i<B)->(∀i,i<n->g' i<B)->enc B n g=enc B n g' ->∀i,i<n->g i=g' i
 | 0,_,_,_,_,_,i,h=>CC h (VA _)
 | n+1,g,g',h,h',e,i,Y=>by
  let Z:g n+B*enc B n g=g' n+B*enc B n g':=e;let a:=h n gu;let b:=h' n gu
  let m:g n=g' n:=by
   have:=sU (· % B) Z;simp only[Nat.add_mul_mod_self_left] at this;rwa[ap_ a,ap_ b] at this
  let X:enc B n g=enc B n g':=by
   rw[m] at Z;show am4 gu (Nat.add_left_cancel Z)
  by_cases z:i=n
  ·rw[z]
   show m
  ·show zv2 B n g g' (λi Y=>h i gu) (λi Y=>h' i gu) X i gu
def Step (r c:Nat)(T Z:Tb):Prop:=∃a k,Uy r c T Z a k
def FE (r c:Nat):Nat->Tb->Prop
 | 0,T=>∀Z,¬ Step r c T Z
 | m+1,T=>∀Z,Step r c T Z ->FE r c m Z
theorem alR :∀(m:Nat)(T:Tb),¬ FE r c m T->∃f:Nat->Tb,f 0=T/\∀i,i<=m->Step r c (f i) (f (i+1))
 | 0,T,h=>by
  let(Z,h'):=alB.mp h;let h':=Classical.not_not.mp h'
  show(λi=>if i=0 then T else Z,O,λi Y=>by
   have:i=0:=gu
   subst this
   show h')
 | m+1,T,h=>by
  let(Z,h'):=alB.mp h;let(R,U):=al4.mp h';let(f,S,X):=alR m Z U;show(λi=>match i with|0=>T|i+1=>f i,O,λi Y=>?_);cases i with
  | zero=>
   change Step r c T (f 0);rwa[S]
  | succ i=>show X i gu
def halts (G:Good r c A T):FE r c ((c+r+1)^(r+1)) T:=by
 apply VD;intro n;let(f,P,X):=alR _ T n
 let Y:∀i,i<=(c+r+1)^(r+1)->Good r c A (f i):=by
  intro i
  induction i with
  | zero=>show λ_=>by rwa[P]
  | succ i U=>
   intro h;let(a,k,S):=X i gu;show S.good (U gu)
 let lt:∀i,i<=(c+r+1)^(r+1)->∀s,s<r+1->(f i).dn s<c+r+1:=λi Z s N=>by
  by_cases z:s=r
  ·rw[z,(Y i Z).last]
   omega
  ·have:=(Y i Z).aaF s gu
   omega
 let(u,v,Q,R,e):=aaJ _ (λi=>enc (c+r+1) (r+1) (f i).dn) (λi Z=>aaK _ _ _ (lt i Z));show ajJ Q (λi a b=>Y i gu) (λi a b=>X i gu) (zv2 _ _ _ _ (lt u gu) (lt v R) e)
theorem oV:∀(m n:Nat)(f:Nat->Rat),sumTo (m+n) f=sumTo m f+sumTo n (λi=>f (m+i))
 | 0,n,f=>by
  rw[apB,fj n (λi=>f (0+i)) f (λi _=>![apB])];change _=0+_;grind
 | m+1,n,f=>by
  rw[show m+1+n=(m+n)+1 by omega];change f 0+sumTo (m+n) (λi=>f (i+1))=f 0+sumTo m (λi=>f (i+1))+_;rw[oV m n (λi=>f (i+1)),fj n (λi=>f (m+1+i)) (λi=>f (m+i+1)) (λi _=>![show m+1+i=m+i+1 by omega])];grind
def aaL (m:Nat)(f:Nat->Rat):sumTo (m+1) f=sumTo m f+f m:=by
 rw[oV m 1 f];change _+(f (m+0)+0)=_;rw[Nat.add_zero];grind
def am9 (m e:Nat)(w:Rat)(F:Nat->Rat)(h:e<m):sumTo m (λt=>(if e=t then w else 0)*F t)=w*F e:=by
 rw[BZ m _ e h (λj _ Z=>by rw[iA (CV Z)];grind),iB rfl]
def ahJ (m n:Nat)(e:Nat->Nat)(w:Nat->Rat)(F:Nat->Rat)(h:∀s,s<n->e s<m):sumTo m (λt=>sumTo n (λs=>if e s=t then w s else 0)*F t)=sumTo n (λs=>w s*F (e s)):=by
 rw[fj m _ (λt=>sumTo n (λs=>(if e s=t then w s else 0)*F t)) (λt _=>by
  rw[fj n (λs=>(if e s=t then w s else 0)*F t) (λs=>F t*(if e s=t then w s else 0)) (λ_ _=>by grind),sumTo_mul]
  grind),aju]
 show fj _ _ _ λs Z=>am9 m (e s) (w s) F (h s Z)
def zaa (W:Nat->Rat)(X:i<r+1):sumTo (c+(r+1)) (λt=>W t*(bq c A t i:Rat))=sumTo c (λt=>W t*(A i t:Rat))+W (c+i):=by
 rw[oV,fj c _ (λt=>W t*(A i t:Rat)) (λt Y=>by
  unfold bq
  rw[iB Y]),BZ (r+1) _ i X (λj _ Z=>by
  rw[gW,iA (CV Z)]
  simp),gW,iB rfl]
 simp
section
variable {r c:Nat}{A:Nat->Nat->Int}{T:Tb}{k:Nat}
def Good.dnl (G:Good r c A T)(Z:s<r+1):T.dn s<c+(r+1):=by
 by_cases z:s=r
 ·rw[z,G.last]
  omega
 ·have:=G.aaF s gu
  omega
def Good.ray (G:Good r c A T)(Y:k<c):∃W:Nat->Rat,W (T.ac k)=(T.d:Rat)/\(∀s,s<r+1->W (T.dn s)= -(T.L s k:Rat))/\(∀t,T.ac k≠t->(∀s,s<r+1->T.dn s≠t)->W t=0)/\∀i,i<r+1->sumTo c (λt=>W t*(A i t:Rat))+W (c+i)=0:=by
 show(λt=>(if T.ac k=t then (T.d:Rat) else 0)+sumTo (r+1) (λs=>if T.dn s=t then -(T.L s k:Rat) else 0),2,λs Z=>?_,λt h R=>?_,λi X=>?_)
 ·change (if T.ac k=T.ac k then (T.d:Rat) else 0)+sumTo (r+1) _=_
  rw[iB rfl,sumZ _ _ λs Z=>iA λe=>G.PK k s Y Z e.symm];grind
 ·change (if T.ac k=T.dn s then (T.d:Rat) else 0)+sumTo (r+1) _=_
  rw[iA (G.PK k s Y Z),BZ (r+1) _ s Z (λj S U=>iA λe=>U (G.dnI j s S Z e)),iB rfl];grind
 ·change (if T.ac k=t then (T.d:Rat) else 0)+sumTo (r+1) _=_
  rw[iA h,sumZ _ _ λs Z=>iA (R s Z)];grind
 ·rw[<-zaa (A:=A) _ X,fj _ _ (λt=>(if T.ac k=t then (T.d:Rat) else 0)*(bq c A t i:Rat)+sumTo (r+1) (λs=>if T.dn s=t then -(T.L s k:Rat) else 0)*(bq c A t i:Rat)) (λt _=>by grind),sumTo_add,am9 _ _ _ _ (by have:=G.B_ k Y;omega),ahJ _ _ _ _ _ (λs Z=>G.dnl Z)]
  let h:=G.rel k (RK Y) i X;rw[show vec c A T k i=bq c A (T.ac k) i from iB Y] at h
  rw[h,fj (r+1) (λs=> -(T.L s k:Rat)*(bq c A (T.dn s) i:Rat)) (λs=> -((T.L s k:Rat)*kI c A T s i)) (λs _=>by
   change _= -((T.L s k:Rat)*(bq c A (T.dn s) i:Rat))
   grind),an9]
  grind
def Good.axD (G:Good r c A T):∃π:Nat->Rat,(∀j i,j<c->i<r->T.ac j=c+i->π i=(T.d:Rat)⁻¹*(T.L r j:Rat))/\(∀s i,s<r->i<r->T.dn s=c+i->π i=0)/\(∀j t,j<c->t<c->T.ac j=t->sumTo r (λi=>π i*(A i t:Rat))+(A r t:Rat)=(T.d:Rat)⁻¹*(T.L r j:Rat))/\
  (∀s t,s<r->t<c->T.dn s=t->sumTo r (λi=>π i*(A i t:Rat))+(A r t:Rat)=0)/\sumTo r (λi=>π i*(A i c:Rat))+(A r c:Rat)=(T.d:Rat)⁻¹*(T.L r c:Rat):=by
 let(π,π1,π2,π3,π4):=G.Ux
 let lst:∀F:Nat->Int,sumTo (r+1) (λi=>π i*(F i:Rat))=sumTo r (λi=>π i*(F i:Rat))+(F r:Rat):=λF=>by
  rw[aaL,π1];grind
 let col:∀t,t<c->sumTo (r+1) (λi=>π i*(bq c A t i:Rat))=sumTo r (λi=>π i*(A i t:Rat))+(A r t:Rat):=λt Z=>by
  rw[fj (r+1) _ (λi=>π i*(A i t:Rat)) (λi _=>by
   unfold bq
   rw[iB Z]),lst (λi=>A i t)]
 show(π,λj i X U e=>?_,λs i Y U e=>?_,λj t X Z e=>?_,λs t Y Z e=>?_,2)
 ·rw[<- π4 i U, <- π3 j gu]
  show fj _ _ _ λq _=>?_;rw[show vec c A T j q=bq c A (T.ac j) q from iB X,e]
 ·rw[<- π4 i U, <- π2 s Y]
  show fj _ _ _ λq _=>?_;rw[e]
 ·rw[<-col t Z, <- π3 j gu]
  show fj _ _ _ λq _=>?_;rw[show vec c A T j q=bq c A (T.ac j) q from iB X,e]
 ·rw[<-col t Z, <- π2 s Y]
  show fj _ _ _ λq _=>?_;rw[e]
 ·rw[<-lst (λi=>A i c), <- π3 c (CK _)]
  show fj _ _ _ λq _=>?_;rw[show vec c A T c q=A q c from iA (Sa c)]
end
structure afo (r c:Nat)(g:Nat->Rat)(a:Nat->Nat->Rat)(x:Nat->Rat):Prop where
 xp:∀t,t<c->0<=x t
 fit:∀i,i<r->sumTo c (λt=>a i t*x t)<=0
 wth:sumTo c (λt=>g t*x t)=1
structure Lay (r c:Nat)(A:Nat->Nat->Int)(g:Nat->Rat)(a:Nat->Nat->Rat)(l:Nat->Rat)(b:Nat->Int)(gb:Int):Prop where
 bp:∀i,i<r->0<b i
 gp:0<gb
 row:∀i t,i<r->t<c->(A i t:Rat)=a i t*(b i:Rat)
 lim:∀i,i<r->(A i c:Rat)=l i*(b i:Rat)
 afp:∀t,t<c->(A r t:Rat)= -(g t*(gb:Rat))
 nul:A r c=0
section
variable {r c:Nat}{A:Nat->Nat->Int}{T:Tb}{k:Nat}{g:Nat->Rat}{a:Nat->Nat->Rat}{l:Nat->Rat}{b:Nat->Int}{gb:Int}
def FG {x y z:Rat}(hz:0<z)(h:x*z<=y*z):x<=y:=by
 apply VD;intro n;have:=FD (show 0<x-y by grind) hz;grind
def Good.afq (G:Good r c A T)(L:Lay r c A g a l b gb)(C:k<c)(o:T.L r k<0)(free:∀s,s<r->T.L s k<=0)
  (U:∀t,t<c->(T.ac k=t->x t=((T.d*gb:Int):Rat) / ((-.N:Int):Rat))/\(∀s,s<r->T.dn s=t->x t=((-(T.L s k)*gb:Int):Rat) / ((-.N:Int):Rat))/\(T.ac k≠t->(∀s,s<r->T.dn s≠t)->x t=0)):afo r c g a x:=by
 let(W,M,S,N,P):=G.ray C;let w:=G.dR;let B:=IP L.gp;let E:(0:Rat)<((-.N:Int):Rat):=IP gu;let D:0<((-.N:Int):Rat)⁻¹:=Qa.mpr E;let p:=ZR _ (show((-.N:Int):Rat)≠0 by grind)
 let J:∀t,t<c+r->0<=W t:=λt Z=>by
  by_cases z:∃s,s<r+1/\T.dn s=t
  ·let(s,Y,e):=z
   have:s≠r:=λy=>by rw[y,G.last] at e;omega
   rw[<-e,S s Y];let f:=free s gu;have:(T.L s k:Rat)<=0:=by exact_mod_cast f
   grind
  ·by_cases y:T.ac k=t
   ·rw[<-y,M]
    show vN w
   ·rw[N t y (λs Y e=>z (s,Y,e))]
    show uY
 let X:∀t,t<c->x t=(((-.N:Int):Rat)⁻¹*(gb:Rat))*W t:=λt Z=>by
  by_cases y:T.ac k=t
  ·rw[(U t Z).1 y,<-y,M]
   push_cast;grind
  ·by_cases z:∃s,s<r/\T.dn s=t
   ·let(s,Y,e):=z
    rw[(U t Z).2.1 s Y e,<-e,S s gu];push_cast;grind
   ·rw[(U t Z).2.2 y (λs Y e=>z (s,Y,e)),N t y (λs Y e=>?_)]
    ·grind
    ·by_cases I:s=r
     ·rw[I,G.last] at e
      omega
     ·show z (s,gu,e)
 let R:0<((-.N:Int):Rat)⁻¹*(gb:Rat):=FD D B
 let q:W (c+r)=((-.N:Int):Rat):=by
  rw[<-G.last,S r gu];push_cast;rfl
 show(λt Z=>![X t Z] (Vn (vN R) (J t gu)),λi Q=>?_,2)
 ·let h:=P i gu
  let H:=J (c+i) gu;let u:=IP (L.bp i Q)
  let e:sumTo c (λt=>a i t*x t)*(b i:Rat)=(((-.N:Int):Rat)⁻¹*(gb:Rat))*sumTo c (λt=>W t*(A i t:Rat)):=by
   rw[<-sumTo_mul,Rat.mul_comm,<-sumTo_mul];show fj _ _ _ λt Z=>?_;rw[L.row i t Q Z,X t Z];grind
  show FG u ?_;rw[e];have:sumTo c (λt=>W t*(A i t:Rat))= -(W (c+i)):=by grind
  rw[this];have:=Vn (vN R) H;grind
 ·let h:=P r gu
  rw[q] at h
  let e:sumTo c (λt=>g t*x t)=(-(((-.N:Int):Rat)⁻¹))*sumTo c (λt=>W t*(A r t:Rat)):=by
   rw[<-sumTo_mul];show fj _ _ _ λt Z=>?_;rw[L.afp t Z,X t Z];grind
  rw[e];have:sumTo c (λt=>W t*(A r t:Rat))= -(((-.N:Int):Rat)):=by grind
  rw[this];grind
end
end Px
namespace Ty
open PySem PySem.Spec PyProof.Rows L2
def ada {oC:L2.St}(p:Nat->Bool)(P:H1 D=none)(G:n<CM)
  (N:∀(i:Nat) H (R:Bool->Hp->Prop),i<n->aq H1 H->R (p i) H->tt (some ↥(0+(i:Int))::oC) H R)
  (M:∀(i:Nat) H (R:VK),i<n->aq H1 H->R ↥(i:Int) H->te (some ↥(0+(i:Int))::oC) H R)
  (L:∀H,aq H1 H->H D==.lst (((KA n).filter p).map λ(i:Nat)=>V.int (i:Int))->Q ⇑D H):
  BU D (dF 0) tt te (Itr 0 n) (none::oC) H1 Q:=by
 show(λi m Z Y H=>m=n-i/\i<=n/\(∃o,Z=o::oC)/\aq H1 H/\H D==.lst Y/\Y=((KA i).filter p).map λ(i:Nat)=>V.int (i:Int),(n,by simp,RQ _,#[none,O],λb o e=>by rwa[ah (ak e P)],af,O),2);rintro i m Z Y H ⟨rfl,E,⟨o,rfl⟩,s,U,T⟩;by_cases S:i<n
 ·show .inr #[S,λx C y=>?_]
  let(I,J):=y;subst I J;unfold dF;show N i _ _ S s ?_
  let X:((KA (i+1)).filter p).map (λ(i:Nat)=>V.int (i:Int))=Y++(if p i=true then [V.int (i:Int)] else []):=by
   rw[EF,zH,RL,<-T];by_cases z:p i=true
   ·rw[iB z,alT z]
    rfl
   ·rw[iA z,alU z]
    rfl
  by_cases z:p i=true
  ·rw[iB z]
   rw[iB z] at X;show M i _ _ S s (U,2,n-(i+1),gu,O,gu,#[0],2,af,X.symm)
   ·have:Y.length<=i:=by
     rw[T,CA];show CP (T2 _ _) gN
    omega
   ·show λb o e=>by
     rw[ah (ak e P)];show s\e
  ·rw[iA z]
   rw[iA z,Zu] at X;show(n-(i+1),gu,O,gu,#[0],s,U,X.symm)
 ·let e:i=n:=gu
  subst e;show .inl #[CK _,L H s ![U,T]]
section
variable {X:Cx}
def adg (Q:VK)(vs:ε)(Z:Hp):Prop:=∃(a n:Nat),vs=[.int (a:Int),.int ((a:Int)+n)]/\a<=1000/\n<=1000/\∀l,Z l=none->Q ⇑l (upd Z l (.lst ((KA n).map λ(i:Nat)=>V.int ((a:Int)+i))))
def afr (Y:TA):TE:=λZ H Q=>Y Z H (adg Q)
def acP {p S P T:Pos}(hc:X.calm=true)(c:Gl X "list")(f:X.mg "list"=none)(M:Gl X "range")(N:X.mg "range"=none)(ha:PA X [a,b] ta)(g:CW [a,b] X.env=[(false,CQ a X.env),(false,CQ b X.env)]:=by rfl)(A:CW [b] X.env=[(false,CQ b X.env)]:=by rfl)
  (E:CW [.Call (.Name "range" S) [a,b] [] T] X.env=[(false,CQ (.Call (.Name "range" S) [a,b] [] T) X.env)]:=by rfl):PE X (.Call (.Name "list" p) [.Call (.Name "range" S) [a,b] [] T] [] P) (afr ta):=by
 intro z s Z H Q I h;show Call_ (gP I c f nH (vb ?_ E rfl));rw[E];change BX _ _ (spliced ((false,CQ (.Call (.Name "range" S) [a,b] [] T) X.env)::[])) _ _ s;show EU ?_;show Call_ (gP I M N boot_range (vb (cH (ha T z s Z H _ I h) λus Y ⟨vs,H1,B,w,m⟩=>?_) (![g,A]) (by rw[A];rfl)));let(U,n,e,h0,G,q):=m;subst e;cases w with
 | cons r R=>
 cases R with
 | cons u R=>
  cases R;let(t,rfl):=r;let(t',rfl):=u;show call_range_2 (TQ ?_);let C:Inv X z Z H1 {Y with heap:=Y.heap.push ("range"^^^[.int (U:Int) t,.int ((U:Int)+n) t',.int 1 Y.toks]),toks:=Y.toks+1}:=B.kept λb o e=>GQ _ e;show call_list_range (n:=n) (B.ok.hd hc) (IsRange.new ..) (small_one gu gu gu gu) (by rw[rangeSize_one];split<;>omega) (CP G gM) λh' y J c' k hS L=>?_;have EB :=C.bU.fresh (CK (Y.heap.push ("range"^^^[.int (U:Int) t,.int ((U:Int)+n) t',.int 1 Y.toks])).objs.size)
  let x:Vals ((KA n).map λ(i:Nat)=>V.int ((U:Int)+i)) J.toList:=g_ (by have:=L.1;simp;omega) λi a b D e2=>by
   rw[Wp] at D;let(j,ej,rfl):=OR.mp D;let(hj,rfl):=ir.mp ej;let(t',e4):=L.2 i b (~~~e2);rw[aoC];show#[t',by rw[e4];simp]
  let I3:=C.laid (t':=y) (o:=.lst ((KA n).map λ(i:Nat)=>V.int ((U:Int)+i))) k (CK _) (by simp;show CP G gM,J.toList,c',x,~~~hS);show(⇑_,_,I3,O,q _ EB)
end
def afs {K:Frag}{st:Stmt}{J kV X Y U:Value}{L T:χ}{M:Ι}
  (lk:K.lookup f==(J,L,.func (fnOf name qual (au st) (ao st) (ae st) .none kV X Y T ⇑cA U),M)) (I:codeIn K ⇑cA qual=true) (S:av N ps (ae st)) (Z:∀vs H Q E,sp vs H Q E->vs.length=ps.length)
  (D:∀(A:LA)(outer:List Env)(s:CH)(H:Hp)(vs:ε)(Q:VK)(E:XK),cp k (A.deeper (RH qual (ae st) ↑s f ⇑cA))->sp vs H Q E->
   ∃t,tf (!nK N qual (ae st) f ⇑cA A outer s H E).t_ (ao st) t/\t {nx:=λ_ C=>Q .cS C,rt:=Q} .Y H):!cz (aR P w) (k+1) f (fnOf name qual (au st) (ao st) (ae st) .none kV X Y T ⇑cA U) ps sp:=
 xS lk I S Z λA outer s H vs Q E G R=>by
  let(t,h,q):=D A outer s H vs Q E G R;show(t,h.t_,q)
def mx {K:Frag}{st:Stmt}(F:oN K name qual st f fd)(S:av N ps (ae st))(Y:∀vs H Q E,sp vs H Q E->vs.length=ps.length)
  (R:∀(Z:Value)(A:LA)(outer:List Env)(s:CH)(H:Hp)(vs:ε)(Q:VK)(E:XK),cp k (A.deeper (RH qual (ae st) ↑s f Z))->sp vs H Q E->
   ∃t,tf (!nK N qual (ae st) f Z A outer s H E).t_ (ao st) t/\t {nx:=λ_ L=>Q .cS L,rt:=Q} .Y H):!cz (aR P w) (k+1) f fd ps sp:=by
 let(D,G,kV,M,I,B,Z,C,J,rfl,lk,U):=F.ex
 show xS lk U S Y λA outer s H vs Q E T X=>by
  let(t,h,q):=R Z A outer s H vs Q E T X;show(t,h.t_,q)
def cp.two (r:cp k A):A.in1.in1.depth<wj:=by
 have:=r.dp;change A.depth<wj;omega
section
variable {X:Cx}{e o:Expr}{es:ω}{ta:TE}{t:TA}{f m:Str}{pos apos:Pos}{P:HV}{w:World}{K:Frag}{mg:ι}{gV:Heap}{CX:qu}{k:Nat}{E:XK}
def aly (h:X.K=K)(Z:PE X e ta)(Y:WX e f X.env (CQ e X.env)=CQ e X.env):PE X (.Attribute e f pos) (amL K ta f):=by subst h;show bf Z Y
def aft {pl:Sem Bool}(I:X.prog=P)(J:X.w=w)(L:X.K=K)(M:X.mg=mg)(N:X.gV=gV)(R:PE X o ta)(S:cp k X.A)(U:Passes CX X E)(Q:PA X (e::es) t)
  (H:CW (e::es) X.env=(false,CQ e X.env)::CW es X.env:=by rfl) (Y:(QS pos (CW es X.env)).any (·.1)=false:=by rfl)
  (T:CQ .P X.env=(do
   let Z <- CQ o X.env
   standAt apos.atName
   let (f,first) <- Zx [Z] (OG Z m pl)
   callWith pos f first (QS pos (CW (e::es) X.env)) (EL pos (ES [] X.env))):=by rfl):
  PE X .P (aiZ P w K mg gV CX k m E ta t):=by
 subst I J L M N;show d5 R S U Q H Y T
end
def IT {us:ε}(h:us[us.length-1]?==u):oM us (-1)==u:=by
 let Z:us.length-1<us.length:=(ir.mp h).1
 let e:us=us.take (us.length-1)++[u]:=by
  show VH λi=>?_;rw[an_,QT];by_cases z:i<us.length-1
  ·rw[iB gu,anx z]
  ·rw[iA gu]
   by_cases y:i=us.length-1
   ·rw[y,h]
    simp[UC (Nat.sub_le _ _)]
   ·rw[IF gu,IF (by simp;omega)]
 rw[e];show agh _ _
def rL (h:j<n):TL n (j:Int)==j:=by
 unfold TL;rw[iB gu,iB gu];simp
def ln (n:Nat)(F:Nat->Int):List V:=(KA n).map λj=>V.int (F j)
def cJ :(ln n F).length=n:=by simp[ln]
def km (h:j<n):(ln n F)[j]?==.int (F j):=by
 unfold ln;rw[Wp,qL h];rfl
def mZ (h:j<n):oM (ln n F) (j:Int)==.int (F j):=b9 (km h)
def aof (h:j<n):oM (ln n F) (0+(j:Int))==.int (F j):=by
 rw[VM];show mZ h
def rM :oM (ln (n+1) F) (-1)==.int (F n):=IT (![cJ] (km (V3 n)))
def yK {xs:ε}(Y:xs.length=n)(h:∀(i:Nat)(v:V),i<n->xs[i]?==v->v=.int (F i)):xs=ln n F:=by
 show VH λi=>?_;by_cases Z:i<n
 ·let e:xs[i]?==(xs[i]'gu):=gE gu
  rw[e,h i _ Z e,km Z]
 ·rw[IF gu,IF (by rw[cJ];omega)]
def IU (h:j<n):(ln n F).set j ↥v=ln n (λi=>if i=j then v else F i):=by
 show yK (by simp[cJ]) λi u Z e=>?_;rw[VC,cJ] at e;by_cases z:j=i
 ·subst z
  erw[iB rfl,iB h] at e;rw[iB rfl]
 ·rw[iA z,km Z] at e
  cases e;rw[iA (CV z)]
def nZ (h:∀i,i<n->F i=G i):ln n F=ln n G:=yK cJ λi v Z e=>by
 erw[km Z] at e;rw[h i Z]
open Px (Tb)
def V4 (H:Hp)(us:ε)(n m:Nat)(L:Nat->Nat->Int):Prop:=us.length=n/\∀s,s<n->∃p,us[s]?==⇑p/\H p==.lst (ln m (L s))
def V4.iz (h:V4 H us n m L)(k:∀(b:BQ)(xs:ε),(∃s,s<n/\us[s]?==⇑b)->H b==.lst xs->H' b==.lst xs):V4 H' us n m L:=#[h.1,λs Z=>by
 let(p,Y,X):=h.2 s Z
 show(p,Y,k p _ (s,Z,Y) X)]
def wJ (Z X Y:BQ)(d:Int):List (Str×V):=[("lines",⇑Z),("bottom",↥d),("across",⇑X),("down",⇑Y)]
def ae4 :fF "lines" ⇑l (wJ lL lA lD d)=wJ l lA lD d:=by
 unfold wJ fF;rw[iB rfl]
def ab_ :fF "bottom" ↥d' (wJ lL lA lD d)=wJ lL lA lD d':=by
 unfold wJ;simp only[fF];rw[iA gM,iB trivial]
def afu :fF "bottom" y [("lines",x)]=([("lines",x),("bottom",y)]:List (Str×V)):=by
 simp only[fF];rw[iA gM]
def afv :fF "across" z [("lines",x),("bottom",y)]=([("lines",x),("bottom",y),("across",z)]:List (Str×V)):=by
 simp only[fF];rw[iA gM,iA gM]
def afw :fF "down" u [("lines",x),("bottom",y),("across",z)]=([("lines",x),("bottom",y),("across",z),("down",u)]:List (Str×V)):=by
 simp only[fF];rw[iA gM,iA gM,iA gM]
structure iY (H:Hp)(C a dx lL lA lD:BQ)(us:ε)(r c:Nat)(T:Tb):Prop where
 obj:H a==.ins C dx (wJ lL lA lD T.d)
 iL:H lL==.lst us
 row:V4 H us (r+1) (c+1) T.L
 qW:H lA==.lst (ln c λj=>(T.ac j:Int))
 vU:H lD==.lst (ln r λs=>(T.dn s:Int))
 neA:lA≠lD
 nrA:∀s:Nat,us[s]? ≠some (V.ref lA)
 nrD:∀s:Nat,us[s]? ≠some (V.ref lD)
 nlA:lL≠lA
 nlD:lL≠lD
theorem iY.iz (h:iY H C a dx lL lA lD us r c T)(s:∀b o,(∀ps,o≠.mW ps)->H b==o->H' b==o):iY H' C a dx lL lA lD us r c T:=
 (s _ _ (λ_ z=>nomatch z) h.obj,s _ _ (λ_ z=>nomatch z) h.iL,h.row.iz λb xs _ e=>s _ _ (λ_ z=>nomatch z) e,s _ _ (λ_ z=>nomatch z) h.qW,s _ _ (λ_ z=>nomatch z) h.vU,h.neA,h.nrA,h.nrD,h.nlA,h.nlD)
def iY.lC (h:iY H C a dx lL lA lD us r c T)(s:aq H H'):iY H' C a dx lL lA lD us r c T:=h.iz λb o _ e=>s b o e
def SzT (r c B:Nat)(T:Tb):Prop:=T.d.natAbs<=2^B/\∀s j,s<r+1->j<c+1->(T.L s j).natAbs<=2^B
def iY.last (h:iY H C a dx lL lA lD us r c T):∃p,oM us (-1)==⇑p/\H p==.lst (ln (c+1) (T.L r)):=by
 let(p,Y,Z):=h.row.2 r (V3 r);show(p,IT (by rwa[h.row.1]),Z)
def iY.line (h:iY H C a dx lL lA lD us r c T)(Z:s<r+1):∃p,oM us (s:Int)==⇑p/\H p==.lst (ln (c+1) (T.L s)):=by
 let(p,X,Y):=h.row.2 s Z;show(p,b9 X,Y)
structure uG (K:Frag)(C:BQ):Prop where
 cls:EG K C
 iL:fO K C "lines"
 bot:fO K C "bottom"
 qW:fO K C "across"
 vU:fO K C "down"
def afx (r c:Nat)(T:Tb)(k a:Nat):Prop:=a<r/\0<T.L a k/\∀s,s<r->0<T.L s k->T.L a c*T.L s k<T.L s c*T.L a k\/(T.L a c*T.L s k=T.L s c*T.L a k/\T.dn a<=T.dn s)
section
variable {X:Cx}
inductive PU (Q:VK)(x:V)(Z:Hp):Prop
|mk (d BN:_)(_:x=.ref d)(_:Z d==.dK BN)(_:∀l,Z l=none->Q (.ref l) (upd Z l (.lst (BN.map λY=>Y.2))))
def afy (Y:TE):TE:=λZ H Q=>Y Z H (PU Q)
def zad {Y S p M:Pos}(hc:X.calm=true)(hg:Gl X "list")(hm:X.mg "list"=none)(ho:PE X e te)(kQ:WX e "values" X.env (CQ e X.env)=CQ e X.env:=by rfl)(c:(Y.endLine⊆S.line)=true:=by rfl)
  (B:CW [(.Call (.Attribute e "values" Y) [] [] S:Expr)] X.env=[(false,CQ (.Call (.Attribute e "values" Y) [] [] S) X.env)]:=by rfl):
  PE X (.Call (.Name "list" p) [.Call (.Attribute e "values" Y) [] [] S] [] M) (afy te):=by
 intro u s Z H Q I h;show Call_ (gP I hg hm boot_list (vb ?_ B rfl));rw[B];change BX _ _ (spliced ((false,CQ (.Call (.Attribute e "values" Y) [] [] S) X.env)::[])) _ _ s;show EU ?_;show ad6 kQ c (cH (ho u s Z H _ I h) λv U ⟨x,H1,P,f,q1⟩=>?_);let(d,E,rfl,e,q):=q1;cases f;let(L,h2,hd):=Ra P (.inl #[E,.inl e]);let(z,hd',N,T,o,J,ep,Ou,hx,jQ,hk,hp,hn):=rF P.bU e;let da:U.heap.DictAt (bM X.prog X.w) d N ep:=(o,J,Ou,hx,jQ,hk,hp,hn);let lv:=T.length;show("dict","dict.values",agk,aet,F.type_dict_values,L,h2,TY rfl (aeq ?_));show TJ aet L F.entry_dict_values (F.args_dict_values_1 _) (ab2 d hd) #[L,TQ ?_];let G:(U.heap.push ("dict_values"^^^[⇑d])).DictAt (bM X.prog X.w) d N ep:=da.at' λo e=>GQ _ e;let y:Inv X u Z H1 {U with heap:=U.heap.push ("dict_values"^^^[⇑d]),toks:=U.toks}:=P.kept (t':=U.toks) λb o e=>GQ _ e;show PySem.W.kdl_call (s:=(U⊂U.heap.push ("dict_values"^^^[⇑d]))) (PySem.W.kdl_values (knd:=bM X.prog X.w) (r:=↑U) (kvs:=N) (ep:=ep)) (P.ok.hd hc) #[(_,Py _ rfl,8),G] gu λh' m C c' kk hS D=>?_;have EB :=y.bU.fresh (CK (U.heap.push ("dict_values"^^^[⇑d])).objs.size)
 let j:Vals (E.map λR=>R.2) C.toList:=g_ (by have:=D.1;simp;omega) λi a b A e2=>by
  rw[Wp] at A;let(R,ek,rfl):=OR.mp A;let(q',eq,e3,g):=aV T ek;let(k,e4):=D.2 i b (~~~e2);erw[eq] at e4;show g
 let I3:=y.laid (t':=m) (o:=.lst (E.map λR=>R.2)) kk (CK _) (by rwa[CA],C.toList,c',j,~~~hS);show(⇑_,_,I3,O,q _ EB)
def IV {Y:Type}(a:Nat)(xs:List Y):List Y:=(KA ((xs.length+1-a) / 2)).filterMap λk=>xs[a+2*k]?
theorem Rt {Y β:Type}(f:Y->Option β):∀(l:List Y),(∀x∈l,∃y,f x==y)->(l.filterMap f).length=l.length/\∀i:Nat,(l.filterMap f)[i]?=l[i]?.bind f
 | [],_=>#[O,λi=>by simp]
 | x::t,h=>by
  let(y,e):=h x (Pz ..);let(T,U):=Rt f t λz Z=>h z (OX _ Z);rw[List.filterMap_cons_some e];show#[by simp[T],λi=>?_];cases i with
  | zero=>simp[e]
  | succ i=>simp[U i]
def alN {Y:Type}(a:Nat)(xs:List Y):∀k∈KA ((xs.length+1-a) / 2),∃y,xs[a+2*k]?==y:=λk Z=>by
 have:=Rb.mp Z;show#[_,gE gu]
def gJ (a:Nat)(xs:List Y):(IV a xs).length=(xs.length+1-a) / 2:=by
 unfold IV;rw[(Rt\(alN a xs)).1,OE]
def oW (a:Nat)(xs:List Y)(h:i<(xs.length+1-a) / 2):(IV a xs)[i]?=xs[a+2*i]? :=by
 unfold IV;rw[(Rt\(alN a xs)).2,qL h];rfl
def aaN {xs:ε}{us:ς}(a:Nat)(h:Vals xs us):Vals (IV a xs) (IV a us):=by
 let Y:=h.length;show g_ (![gJ,gJ,Y]) λi x y Z U=>?_
 let T:i<(xs.length+1-a) / 2:=by
  have:=(ir.mp Z).1
  rwa[gJ] at this
 rw[oW a xs T] at Z;rw[oW a us (by rwa[<-Y])] at U;let(R,S,r):=aV h Z;erw[U] at S;show r
theorem zaG {Y β:Type}{f g:Y->Option β}:∀{l:List Y},(∀x∈l,f x=g x)->l.filterMap f=l.filterMap g
 | [],_=>rfl
 | x::t,h=>by
  dsimp only[UT];rw[h x (Pz ..),zaG λz hz=>h z (OX _ hz)]
def aog (items:Ζ)(a:Nat):slicePick items (some (a:Int)) none (some 2)=(IV a items.toList).toArray:=by
 unfold slicePick
 let U:v_ (some (a:Int)) none (some 2) items.size=(((min a items.size:Nat):Int),((items.size:Int),2)):=by
  unfold v_;dsimp only[Option.getD_some];rw[iB gM,iA gu,iB gM];congr 1;omega
 rw[U];congr 1;unfold sliceRange IV;dsimp only;rw[iB gM,amo]
 let Y:(if ((min a items.size:Nat):Int)<(items.size:Int) then ((items.size:Int)-((min a items.size:Nat):Int)+2-1) / 2 else 0).toNat=(items.size+1-a) / 2:=by
  split<;>omega
 rw[Y,List.filterMap_map];show zaG λk Z=>?_;have:=Rb.mp Z;change items[(((min a items.size:Nat):Int)+2*(k:Int)).toNat]?=items.toList[a+2*k]?;rw[show(((min a items.size:Nat):Int)+2*(k:Int)).toNat=a+2*k by omega,Array.getElem?_toList]
def ajz (K:Frag)(Q:VK)(x:V)(z:V)(y:V)(Z:Hp):Prop:=∃(a:Nat)(l:BQ)(xs:ε),z=.int (a:Int)/\y=↥2/\x=⇑l/\aY K Z l xs/\∀p,Z p=none->Q ⇑p (upd Z p (.lst (IV a xs)))
def ajA (K:Frag)(Y:TE)(Z:L2.St)(Q:VK)(x:V)(z:V)(U:Hp):Prop:=Y Z U (ajz K Q x z)
def ajB (K:Frag)(U Y:TE)(Z:L2.St)(Q:VK)(x:V)(T:Hp):Prop:=U Z T (ajA K Y Z Q x)
def axE (K:Frag)(T U Y:TE):TE:=λZ H Q=>T Z H (ajB K U Y Z Q)
def aaO {K:Frag}{e lo st:Expr}(k:X.K=K)(m:PE X e te)(p:PE X lo tl)(u:PE X st ts):PE X (.Subscript e (.Slice (some lo) none (some st) p2) pos) (axE K te tl ts):=by
 subst k;intro U s Z H Q I h;show Subscript_ (cH (m U s Z H _ I h) λv N ⟨x,H1,g,J,D⟩=>?_);show wpAny_Slice ?_;rw[evalPart_some];show cH (p U N Z H1 _ g D) λvl P ⟨z,c,i,M,E⟩=>?_;rw[evalPart_none];show CO ?_;rw[evalPart_some];show cH (u U P Z c _ i E) λvk Y ⟨y,f,j,L,G⟩=>?_;let(a,l,xs,rfl,rfl,rfl,B,q):=G;let(t,rfl):=L;let(t',rfl):=M;cases J;let T:Inv X U Z f (Y⊂Y.heap.push ("slice"^^^[.int (a:Int) t',.none,.int 2 t])):=j.kept (t':=Y.toks) λb C q=>GQ _ q;let(BS,r,S,hz):=T.list B;let R:=r.length;change BX .q X.A (subscriptTail e (.Slice (some lo) none (some st) p2) ⇑l (.ref ↑Y)) (EP X U Z Q) X.xe (Y⊂Y.heap.push ("slice"^^^[.int (a:Int) t',.none,.int 2 t]));show tail_any (ops:=[⇑l,.ref ↑Y]) S.isList.typeIs slot_list_getitem.lookup ?_ (by with_unfolding_all rfl);show wpAny_getItem_list_slice S.isList (Heap.IsSliceOf.new ..) (.int (a:Int) t') .none (.int 2 t) gM ?_ (by rw[RS]<;>omega);rw[aog];show(⇑_,_,T.laid (t':=Y.toks) (o:=.lst (IV a xs)) (λb C q=>GQ _ q) (CK _) ?_,O,q _ (T.bU.fresh (CK _)));show(by rw[gJ];omega,IV a BS,(0),aaN a r,Py _ rfl)
end
section
variable {prog:HV}{w:World}{Kt:Type}[DecidableEq Kt]{knd:KeyKind prog w Kt}{A:LA}{E:γ}{s:CH}
def ajC {Q:γ}(g:s.heap.IsValIter it d i ps.length ep)(m:s.heap.DictAt knd d ps ep)(L:ps[i]?==(k,v))
  (q:∀h',h'.IsValIter it d (i+1) ps.length ep->WV it s.heap h' ->Q v (s⊂h')):BX .s A (Zo ⇑it) Q E s:=by
 let(o,U,I,Y):=id g;let(C,X,P,D,R,G,S,H):=id m;let M:X.size=ps.length:=by rw[<-S.length];simp
 let lt:i<ps.length:=(ir.mp L).1;let Z:i<X.size:=by rwa[M]
 let ev:X[i].val=v:=(S.get? (e:=X[i]) (by simp[Z]) L).2;let J:Builtin.Dict_items.ownsTuple "dict_valueiterator"=false:=gM
 unfold Zo;show BR (wpAny_callSpecial?_slot (name:=Rj "__next__") g.typeIs adL (P8 adL g.typeIs F.entry_dict_valueiterator_next ?_ (F.args_dict_valueiterator_next_1 _)));show BR (CO (BR (BR ?_)))
 first|show BR (adO g.typeIs (CO (BR (agD U Y ?_))))|show BR (ad3 g.typeIs (CO (BR (agD U Y ?_))))
 rw[J,iA QW];change BX _ _ (if (Value.ref d⊆Value.none)=true then _ else _) _ _ s;rw[iA (λz=>nomatch z)];show BR (CO (BR (wpAny_dictEntries P R ?_)));rw[iA (by rw[M];simp)];show BR (CO (BR (wpAny_dictEpoch P R ?_)));rw[iA gN];show CO ?_;dsimp only;rw[iA (show ¬ ((i:Int)<0) from by omega),yv,am6 Z];dsimp only;show BR ?_
 first|show BR (adO g.typeIs (CO (BR (aej g.typeIs ?_))))|show BR (ad3 g.typeIs (CO (BR (aej g.typeIs ?_))))
 change BX _ _ (setField ⇑it 1 (PQ ((i:Int)+1)) >>=_) _ _ s;show BR (wpAny_setField U Y gN ?_)
 let T:(s.heap.update it (P_ (·.setIfInBounds 1 (PQ ((i:Int)+1))))).IsValIter it d (i+1) ps.length ep:=
  (_,EV _ U (Obj.isFreed_of_fields (Obj.data_mapFields Y _)),(Obj.cls_mapFields ..).trans I,by rw[Obj.data_mapFields Y];simp[PQ])
 let N:WV it s.heap (s.heap.update it (P_ (·.setIfInBounds 1 (PQ ((i:Int)+1))))):=Heap.SameBut.update ..;generalize s.heap.update it (P_ (·.setIfInBounds 1 (PQ ((i:Int)+1))))=h' at T N ⊢;let ty:Shared.TypeIs (s⊂h') ⇑it "dict_valueiterator":=T.typeIs (s:=(s⊂h'));show BR (VT (BR (aej ty (BR (aej ty ?_)))));change BX _ _ (pure X[i].val) _ _ _;show CO (CO #[0,CO (ev▸q _ T N)])
def afz {Q:γ}(S:A.handled=none)(g:s.heap.IsValIter it d i ps.length ep)(m:s.heap.DictAt knd d ps ep)(G:ps.length<=i)
  (q:∀h' e,Heap.ExtBut it s.heap h' ->(∃o,h'.get? e==o/\o.cls=.type "StopIteration")->E ⇑e (s⊂h')):BX .s A (Zo ⇑it) Q E s:=by
 let(o,Y,D,Z):=id g;let(H,R,U,I,X,J,P,L):=id m;let T:R.size=ps.length:=by rw[<-P.length];simp
 let M:R.size<=i:=by rwa[T]
 let N:Builtin.Dict_items.ownsTuple "dict_valueiterator"=false:=gM
 unfold Zo;show BR (wpAny_callSpecial?_slot (name:=Rj "__next__") g.typeIs adL (P8 adL g.typeIs F.entry_dict_valueiterator_next ?_ (F.args_dict_valueiterator_next_1 _)));show BR (CO (BR (BR ?_)))
 first|show BR (adO g.typeIs (CO (BR (agD Y Z ?_))))|show BR (ad3 g.typeIs (CO (BR (agD Y Z ?_))))
 rw[N,iA QW];change BX _ _ (if (Value.ref d⊆Value.none)=true then _ else _) _ _ s;rw[iA (λz=>nomatch z)];show BR (CO (BR (wpAny_dictEntries U X ?_)));rw[iA (by rw[T];simp)];show BR (CO (BR (wpAny_dictEpoch U X ?_)));rw[iA gN];show CO ?_;dsimp only;rw[iA (show ¬ ((i:Int)<0) from by omega),yv,Array.getElem?_eq_none M];dsimp only;show BR ?_
 first|show BR (adO g.typeIs (CO ?_))|show BR (ad3 g.typeIs (CO ?_))
 change BX _ _ (setField ⇑it 0 .none >>=_) _ _ s;show BR (wpAny_setField Y Z gN ?_);change BX _ _ (newExc (.type "StopIteration") [] >>=_) _ _ _;show BR ?_;dsimp only[newExc,newTuple];show BR (Up ?_ (by size_fits));show BR (m:=firstArgMember _ _) (wpAny_of_eq (a:=Value.none) (by first|rfl|(dsimp only[firstArgMember];rfl)) ?_);show Up ?_ (by size_fits);dsimp only[raiseNew];show BR (wpAny_handled ?_)
 first|rw[show A.in1.handled=none from S]|rw[S]
 show BR (CO (wpAny_throw ?_));show q _ _ (((Heap.SameBut.update ..).extBut.push _).push _) (_,Py _ rfl,O)
def afA {z TI TO X Y d l:BQ}{ys:Ζ}{Q:γ}(D:ZipApart z TI TO X Y d l)
  (hz:VG s.heap z TI TO .none) (i9:QZ s.heap TI ⇑X ⇑Y) (oP:QZ s.heap TO a b)
  (h1:s.heap.IsValIter X d k ps.length ep) (m:s.heap.DictAt knd d ps ep) (h2:s.heap.IsListIter Y l k) (hl:s.heap.IsList l ys) (hx:ps[k]?==(kk,x)) (hy:ys[k]?==y)
  (q:∀h',VG h' z TI TO (PQ ↑s)->QZ h' TO x y->h'.IsValIter X d (k+1) ps.length ep->h'.IsListIter Y l (k+1)->QZ h' ↑s x y->
   (∀c o,c≠z->c≠TO->c≠X->c≠Y->s.heap.get? c==o->h'.get? c==o)->Q (.ref ↑s) (s⊂h')):
  BX .s A (Builtin.«zip.__next__» #[[⇑z],[]]) (λg s'=>∃v,g=.done (.ret v)/\Q v s') E s:=by
 change BX _ _ (field ⇑z 2 >>=_) _ _ _;show BR (VP hz rfl (x:=.bool false) rfl ?_);change BX _ _ (field ⇑z 3 >>=_) _ _ _;show BR (VP hz rfl (x:=⇑TI) rfl (BR (wg i9 rfl ?_)));change BX _ _ (EZ ⇑z >>=_) _ _ _;show BR ?_;unfold EZ;show BR (VP hz rfl (x:=.none) rfl (CO ?_));dsimp only[if_true];show BR (wpAny_rule (BR (VP hz rfl (x:=⇑TO) rfl (BR (TV hz gN λH u N=>?_)))));let u:VG H z TI TO .ellipsis:=u;show BR ?_;dsimp only[aqg,as_,yG,yi];show BR (BR (wpAny_onRaise ?_));change BX _ _ (Zo ⇑X >>=_) _ _ _;let m1:H.DictAt knd d ps ep:=m.at' λo e=>(N.2 d D.l1z).trans e;show BR (ajC (s:=(s⊂H)) (h1.extBut N.extBut D.i1z) m1 hx λj g2 T=>CO ?_);let T:WV X H j:=T;let o2:QZ j TO a b:=T.extBut _ _ D.TOi1 (N.extBut _ _ D.TOz oP);show BR (wg o2 rfl (BR (wpAny_updateSeq_pair o2 λM i U=>?_)));let U:WV TO j M:=U;let i:QZ M TO x b:=i;show BR (wpAny_letGo (CO (BR (BR (wpAny_onRaise ?_)))));change BX _ _ (Zo ⇑Y >>=_) _ _ _;let j3:M.IsListIter Y l k:=((h2.extBut N.extBut D.i2z).extBut T.extBut D.i12.symm).extBut U.extBut D.TOi2.symm;let l3:M.IsList l ys:=((hl.extBut N.extBut D.l2z).extBut T.extBut D.l2i1).extBut U.extBut D.l2TO;show BR (aec (s:=(s⊂M)) j3 l3 hy λp j4 P=>CO ?_);let P:WV Y M p:=P;let o4:QZ p TO x b:=P.extBut _ _ D.TOi2 i;show BR (wg o4 rfl (BR (wpAny_updateSeq_pair o4 λZ G R=>?_)));let R:WV TO p Z:=R;let G:QZ Z TO x y:=G;show BR (wpAny_letGo (CO (CO (BR (wg G rfl (BR (wpAny_newTuple ?_)))))));let sz:Z.objs.size=↑s:=by rw[R.1,P.1,U.1,T.1,N.1]
 let z5:VG Z z TI TO .ellipsis:=R.extBut _ _ D.TOz.symm (P.extBut _ _ D.i2z.symm (U.extBut _ _ D.TOz.symm (T.extBut _ _ D.i1z.symm u)));let c5:∀c o,c≠z->c≠TO->c≠X->c≠Y->s.heap.get? c==o->Z.get? c==o:=λc o S C c3 f e=>R.extBut _ _ C (P.extBut _ _ f (U.extBut _ _ C (T.extBut _ _ c3 (N.extBut _ _ S e))));let g5:Z.IsValIter X d (k+1) ps.length ep:=((g2.extBut U.extBut D.TOi1.symm).extBut P.extBut D.i12).extBut R.extBut D.TOi1.symm;let j5:Z.IsListIter Y l (k+1):=j4.extBut R.extBut D.TOi2.symm;let zl:z<Z.objs.size:=GK z5;change BX _ _ (Builtin.SmallTypes.ownedTupleHandOut ⇑z ⇑Z.objs.size >>=_) _ _ _;show BR ?_;unfold Builtin.SmallTypes.ownedTupleHandOut;let z6:VG (Z.push ("tuple"^^^.seq (List.toArray [x,y]))) z TI TO .ellipsis:=GQ _ z5;show BR (TV z6 gN λp7 B b7=>?_);let B:VG p7 z TI TO (PQ Z.objs.size):=B;show TV B gN λI L b8=>?_;let L:VG I z TI TO (PQ Z.objs.size):=L;let J:∀c o,c≠z->Z.get? c==o->I.get? c==o:=λc o S e=>b8.extBut _ _ S (b7.extBut _ _ S (GQ _ e));let t8:QZ I Z.objs.size x y:=b8.extBut _ _ (ZG zl) (b7.extBut _ _ (ZG zl) (Py _ rfl));rw[sz] at L t8;show CO #[0,2];change Q ⇑Z.objs.size _;rw[sz];show q I L (J _ _ D.TOz G) (g5.at λo e=>J _ o D.i1z e) (j5.at λo e=>J _ o D.i2z e) t8 λc o S C c3 f e=>J c o S (c5 c o S C c3 f e)
def ajD {z TI TO Z y d:BQ}(p:A.handled=none)(R:Z≠z)(D:d≠z)
  (hz:VG s.heap z TI TO .none) (B:QZ s.heap TI ⇑Z ⇑y) (i:s.heap.IsValIter Z d k ps.length ep) (m:s.heap.DictAt knd d ps ep) (u:ps.length<=k)
  (q:∀h' e,(∀c o,c≠z->c≠Z->s.heap.get? c==o->h'.get? c==o)->(∃o,h'.get? e==o/\o.cls=.type "StopIteration")->E ⇑e (s⊂h')):
  BX .s A (Builtin.«zip.__next__» #[[⇑z],[]]) Q E s:=by
 change BX _ _ (field ⇑z 2 >>=_) _ _ _;show BR (VP hz rfl (x:=.bool false) rfl ?_);change BX _ _ (field ⇑z 3 >>=_) _ _ _;show BR (VP hz rfl (x:=⇑TI) rfl (BR (wg B rfl ?_)));change BX _ _ (EZ ⇑z >>=_) _ _ _;show BR ?_;unfold EZ;show BR (VP hz rfl (x:=.none) rfl (CO ?_));dsimp only[if_true];show BR (wpAny_rule (BR (VP hz rfl (x:=⇑TO) rfl (BR (TV hz gN λX Y U=>?_)))));let Y:VG X z TI TO .ellipsis:=Y;show BR ?_;dsimp only[aqg,as_,yG,yi];show BR (BR (wpAny_onRaise ?_));change BX _ _ (Zo ⇑Z >>=_) _ _ _;let C:X.DictAt knd d ps ep:=m.at' λo e=>(U.2 d D).trans e;show BR (afz (s:=(s⊂X)) p (i.extBut U.extBut R) C u λS e J j=>?_);let(H,N,P):=j;let T:VG S z TI TO .ellipsis:=J _ _ R.symm Y;let G:e≠z:=λx=>by subst x;erw[T] at N;simp at P
 show TV (s:=(s⊂S)) T gN λI _ L=>q I e (λc o M g x=>L.extBut _ _ M (J _ _ g (U.extBut _ _ M x))) (H,L.extBut _ _ G N,P)
def aoh {z TI TO Y Z d l:BQ}{ys:Ζ}{Q:Ξ}(D:ZipApart z TI TO Y Z d l)
  (hz:VG s.heap z TI TO .none) (U:QZ s.heap TI ⇑Y ⇑Z) (X:QZ s.heap TO a b)
  (N:s.heap.IsValIter Y d k ps.length ep) (m:s.heap.DictAt knd d ps ep) (P:s.heap.IsListIter Z l k) (R:s.heap.IsList l ys) (S:ps[k]?==(kk,x)) (T:ys[k]?==y)
  (q:∀h',VG h' z TI TO (PQ ↑s)->QZ h' TO x y->h'.IsValIter Y d (k+1) ps.length ep->h'.IsListIter Z l (k+1)->QZ h' ↑s x y->
   (∀c o,c≠z->c≠TO->c≠Y->c≠Z->s.heap.get? c==o->h'.get? c==o)->Q (some (.ref ↑s)) (s⊂h')):
  BX .s A (VW ⇑z) Q E s:=by
 let ty:s.TypeIs ⇑z "zip":=(_,hz,O);unfold VW;show BR (wpAny_attempt (wpAny_callSpecial?_slot (name:=Rj "__next__") ty EW (P8 EW ty agr (afA D hz U X N m P R S T λh' G H I J L M=>CO (q h' G H I J L M)) (agm _))))
def ajE {z TI TO Z S d:BQ}{Q:Ξ}(N:A.handled=none)(X:Z≠z)(Y:d≠z)
  (hz:VG s.heap z TI TO .none) (U:QZ s.heap TI ⇑Z ⇑S) (L:s.heap.IsValIter Z d k ps.length ep) (m:s.heap.DictAt knd d ps ep) (R:ps.length<=k)
  (q:∀h',(∀c o,c≠z->c≠Z->s.heap.get? c==o->h'.get? c==o)->Q none (s⊂h')):BX .s A (VW ⇑z) Q E s:=by
 let ty:s.TypeIs ⇑z "zip":=(_,hz,O);unfold VW;show BR (wpAny_attempt (wpAny_callSpecial?_slot (name:=Rj "__next__") ty EW (P8 EW ty agr (ajD N X Y hz U L m R λh' e P M=>?_) (agm _))));let(o,I,J):=M;show BR (wpAny_isInstance (T:="StopIteration") (b:=true) (o,I,J) isSubtype_stop (CO (q _ P)))
abbrev VV (h:Heap)(d:BQ)(n ep:Nat):Heap:=h.push ("dict_valueiterator"^^^[⇑d,.int 0 0,.int n 0,.int ep 0])
abbrev Uz (h:Heap)(d l:BQ)(n ep:Nat):Heap:=(VV h d n ep).push ("list_iterator"^^^[⇑l,.int 0 0])
abbrev Uv (h:Heap)(d l:BQ)(n ep:Nat):Heap:=(Uz h d l n ep).push ("tuple"^^^.seq (List.toArray [⇑h.objs.size,.ref (VV h d n ep).objs.size]))
abbrev Uu (h:Heap)(d l:BQ)(n ep:Nat):Heap:=(Uv h d l n ep).push ("tuple"^^^.seq (List.toArray [.none,.none]))
abbrev Pb (h:Heap)(d l:BQ)(n ep:Nat):Heap:=(Uu h d l n ep).push ("zip"^^^[.none,.bool false,.bool false,.ref (Uz h d l n ep).objs.size,.ref (Uv h d l n ep).objs.size])
def afB (knd:KeyKind prog w Kt)(v l d:BQ)(ps:List (Kt×Value))(ep:Nat)(ys:Ζ):
  MeetsIn prog w (Builtin.«zip.__new__» #[[.type "zip",⇑v,⇑l],[]]) (λ_ R s=>s.heap.IsValuesView v d/\s.heap.DictAt knd d ps ep/\s.heap.IsList l ys/\
   R (.ok (.ret (.ref (Uu s.heap d l ps.length ep).objs.size))) (s⊂Pb s.heap d l ps.length ep)):=
 .of_wp λA R s h=>by
  let(Y,g,X,Z,os):=s;let(N,P,Q,q):=h;let M:=sub_zip;let U:Heap.IsValuesView (Shared.heap (Y,g,X,Z,os)) v d:=N;let S:Heap.DictAt knd (Shared.heap (Y,g,X,Z,os)) d ps ep:=P;let T:Heap.IsList (Shared.heap (Y.push ("dict_valueiterator"^^^[⇑d,.int 0 0,.int ps.length 0,.int ep 0]),g,X,Z,os)) l ys:=Heap.IsList.push Q _
  wp_walk using wpAny_pyIter_values U S,agj T
  show#[0,q]
def adV {ys:Ζ}{Q:γ}(M:s.heap.IsValuesView v d)(m:s.heap.DictAt knd d ps ep)(L:s.heap.IsList l ys)
  (q:∀h',VG h' (↑s+4) (↑s+2) (↑s+3) .none->QZ h' (↑s+2) (.ref ↑s) ⇑(↑s+1)->
   QZ h' (↑s+3) .none .none->h'.IsValIter ↑s d 0 ps.length ep->h'.IsListIter (↑s+1) l 0->(∀c o,s.heap.get? c==o->h'.get? c==o)->Q ⇑(↑s+4) (s⊂h')):
  BX .s A (call (.type "zip") [⇑v,⇑l]) Q E s:=by
 show callType_newIn F.called_zip gM (F.typeCall_zip_2 _ _) (F.newCall_zip_2 _ _) (λU=>F.args_object_init_3 U _ _) F.entry_zip_new (afB knd v l d ps ep ys) (M,m,L,2);let X:(VV s.heap d ps.length ep).objs.size=↑s+1:=vd ..;let Y:(Uz s.heap d l ps.length ep).objs.size=↑s+2:=by rw[vd,X]
 let Z:(Uv s.heap d l ps.length ep).objs.size=↑s+3:=by rw[vd,Y]
 let S:(Uu s.heap d l ps.length ep).objs.size=↑s+4:=by rw[vd,Z]
 let on:∀{h:Heap} {c:BQ} {o p:Obj},h.get? c==o->(h.push p).get? c==o:=λe=>GQ _ e;let T:(Pb s.heap d l ps.length ep).get? (Uu s.heap d l ps.length ep).objs.size==_:=Py _ rfl;let R:(Pb s.heap d l ps.length ep).get? (Uv s.heap d l ps.length ep).objs.size==_:=on (Py _ rfl);let P:(Pb s.heap d l ps.length ep).get? (Uz s.heap d l ps.length ep).objs.size==_:=on (on (Py _ rfl));let N:(Pb s.heap d l ps.length ep).get? (VV s.heap d ps.length ep).objs.size==_:=on (on (on (Py _ rfl)));let J:(Pb s.heap d l ps.length ep).get? ↑s==_:=on (on (on (on (Py _ rfl))));change _/\_;rw[Y,Z,S] at T;rw[X,Y] at P;rw[Z] at R;rw[X] at N;rw[S];show#[(_,T,O),q _ T P R (_,J,8) (_,N,8) λc o x=>on (on (on (on (on x))))]
end
def ajF (K:Frag)(d:BQ)(o:Obj)(BN:δ)(b:BQ):It:=
 (λi H=>H d==.w/\i<BN.length/\∃Z y,aY K H b Z/\Z[i]?==y,
  λi H v Y=>∃p k x y,BN[i]?==(k,x)/\(∀Z,aY K H b Z->Z[i]?==y)/\v=⇑p/\H p=none/\Y=upd H p (.tup [x,y]),
  λi H=>H d==.w/\BN.length<=i)
def afC {K:Frag}{es:ω}(d b z TI TO U Y:BQ)(o:Obj)(BN:δ)(he:o.data=.dict es0 ep)(D:ZipApart z TI TO U Y d b):
  Turn P w K (.Tuple es k pos) (ajF K d o BN b) [z,TI,TO,U,Y] z (λi h=>VG h z TI TO .none/\QZ h TI ⇑U ⇑Y/\(∃x y,QZ h TO x y)/\h.IsValIter U d i BN.length ep/\h.IsListIter Y b i) where
 mem:=by simp
 obj:=λi h st c L=>by
  let(R,S,(x,y,M),(o1,p,c1,d1),(o2,e2,c2,d2)):=st;have m :c=z\/c=TI\/c=TO\/c=U\/c=Y:= ~~~L
  rcases m with e|e|e|e|e<;>subst e
  ·show(_,R,λv z=>by cases z)
  ·show(_,S,λv z=>by cases z)
  ·show(_,M,λv z=>by cases z)
  ·show(_,p,λv z=>by erw[d1] at z)
  ·show(_,e2,λv z=>by erw[d2] at z)
 keep:=λi h A st k=>by
  let(R,S,(x,y,M),N,G):=st;show(k z gN _ R,k TI gN _ S,(x,y,k TO gN _ M),N.at λo e=>k U gN o e,G.at λo e=>k Y gN o e)
 item:=by
  intro X hP f hK L i AP s Z H E I B st a;subst hP f hK;let(R,S,(x0,y0,M),N,G):=st;let(fz,hi,ys,y,qy,ey):=a;let(hd,vs,T,da,_):=uv I.bU fz he;let ek:BN[i]?==BN[i]:=gE hi;let((k',u),ev,p,ru):=aV T ek;let C:=T.length;rw[C] at N;let(jts,BM,p',_):=I.list qy;let(v,hv,j):=BM.get ey;show aoh D R S M N da G p'.isList ev (y:=v) (~~~hv) λA a1 a2 a3 a4 a5 a7=>?_;show#[0,wpAny_letOwnedTupleGo_zip (s:=(s⊂A)) a1 λT3 b1 sb=>?_];let nz:∀c,c≠z->∀o,A.get? c==o->T3.get? c==o:=λc L o e=>(sb.2 c L).trans e
  let g:∀b o,b∉[z,TI,TO,U,Y]->s.heap.get? b==o->T3.get? b==o:=λb o J e=>by
   have Q :b≠z/\b≠TI/\b≠TO/\b≠U/\b≠Y:= ~~~J
   show nz b Q.1 o (a7 b o Q.1 Q.2.2.1 Q.2.2.2.1 Q.2.2.2.2 e)
  let sz:∀c o,s.heap.get? c==o->↑s≠c:=λc o e=>ZG (GK e);let hn:=I.bU.fresh (CK ↑s)
  let I2:Inv X AP Z (upd H ↑s (.tup [BN[i].2,y])) {s with heap:=T3,toks:=s.toks}:=
   Inv.xx I g B (CK _) (by change 2<=CM;decide) (BS:=[u,v]) (.cons ru (.cons j .nil)) (_,nz _ (sz\R) _ a5,7)
  rw[<-C] at a3;show(.ref ↑s,_,I2,O,(↑s,BN[i].1,BN[i].2,y,ek,λys' q=>by rwa[I.kK q qy],O,hn,O),(b1,nz _ D.TIz _ (a7 _ _ D.TIz D.TITO D.TIi1 D.TIi2 S),(_,_,nz _ D.TOz _ a2),a3.at λo e=>nz _ D.i1z o e,a4.at λo e=>nz _ D.i2z o e),λb J=>?_)
  let ob:∃o,s.heap.get? b==o:=by
   let(o1,p,_):=N;let(o2,e2,_):=G;have m :b=z\/b=TI\/b=TO\/b=U\/b=Y:= ~~~J
   rcases m with e|e|e|e|e<;>subst e
   ·show#[_,R]
   ·show#[_,S]
   ·show#[_,M]
   ·show#[_,p]
   ·show#[_,e2]
  let(o,e):=ob;rw[ah (CV (sz\e))];show(B b J).1
 done:=by
  intro X hP f hK L i AP s Z H E I B st a;subst hP f hK;let(R,S,(x0,y0,M),N,G):=st;let(fz,hi):=a;let(hd,vs,T,da,_):=uv I.bU fz he;let C:=T.length;rw[C] at N;show ajE (I.ok.hd L) D.i1z D.l1z R S N da gu λA g=>#[O,Inv.rB I (λb o J e=>?_) B];have Q :b≠z/\b≠TI/\b≠TO/\b≠U/\b≠Y:= ~~~J
  show g b o Q.1 Q.2.2.2.1 e
 self:=λ_ _ _ _ _ st h=>Uk st.1 h
section
variable {X:Cx}
def afD (K:Frag)(P:TA)(Z:L2.St)(R:(It->Hp->Prop))(x:V)(T:Hp):Prop:=∃d,x=⇑d/\(∃Y,T d==.dK Y)/\P Z T λQ U=>∃b Y,Q=[⇑b]/\(∃S,aY K U b S)/\U d==.dK Y/\∀o,R (ajF K d o Y b) (upd U d (.e_ o (.dK Y)))
def aoi (K:Frag)(Y:TE)(U:TA):TI:=λZ H R=>Y Z H (afD K U Z R)
def Inv.ajG {Z:L2.St}(I:Inv X AP Z H s)(h:s.heap.get? a==o/\H a=none/\a≠X.env.locals/\a∉X.fs/\∀v,o.data≠.cell v):Inv X ((a,o)::AP) Z H s:=by
 show(I.ok,I.os,I.bare,I.gV,I.loc,I.cell,I.free,I.iG,λp Y=>?_,I.bU,I.len)
 rcases OB.mp Y with z|z
 ·show I.pin p (Vo _ z)
 ·rcases QQ.mp z with z|z
  ·rw[z]
   show h
  ·show I.pin p (Vg _ z)
def Inv.afE {AP:ζ}{Z:L2.St}(I:Inv X (p::AP) Z H s):Inv X AP Z H s:=by
 show(I.ok,I.os,I.bare,I.gV,I.loc,I.cell,I.free,I.iG,λp Y=>?_,I.bU,I.len)
 rcases OB.mp Y with z|z
 ·show I.pin p (Vo _ z)
 ·show I.pin p (Vg _ (OX _ z))
def afF {p U Y P:Pos}{es:ω}{k:Nat}{xQ:Pos}(hg:Gl X "zip")(hm:X.mg "zip"=none)(ho:PE X e te)(ha:PA X [e2] ta)
  (hs:CW [.Call (.Attribute e "values" Y) [] [] P,e2] X.env=[(false,CQ (.Call (.Attribute e "values" Y) [] [] P) X.env),(false,CQ e2 X.env)]:=by rfl) (i:CW [e2] X.env=[(false,CQ e2 X.env)]:=by rfl)
  (kQ:WX e "values" X.env (CQ e X.env)=CQ e X.env:=by rfl) (qZ:(Y.endLine⊆P.line)=true:=by rfl):
  PI X (.Tuple es k xQ) (.Call (.Name "zip" p) [.Call (.Attribute e "values" Y) [] [] P,e2] [] U) (aoi X.K te ta):=by
 intro AP s Z H R I h;show Call_ (gP I hg hm boot_zip (vb ?_ (![hs,i]) (by rw[i];rfl)));rw[hs];change BX _ _ (spliced ((false,CQ (.Call (.Attribute e "values" Y) [] [] P) X.env)::QS U [(false,CQ e2 X.env)])) _ _ s;show EU (ad6 kQ qZ (cH (ho AP s Z H _ I h) λv S ⟨x,H1,N,r1,q1⟩=>?_));let(d,rfl,(E,e0),q):=q1;cases r1;let(h1,h2,hd):=Ra N (.inl #[E,.inl e0]);let(_,_,M,axm,A):=rF N.bU e0;show("dict","dict.values",agk,aet,F.type_dict_values,h1,h2,TY rfl (aeq ?_));show TJ aet h1 F.entry_dict_values (F.args_dict_values_1 _) (meets_dict_values (bM X.prog X.w) d hd) #[#[M,A],2];let I2:Inv X AP Z H1 (S⊂S.heap.push ("dict_values"^^^[⇑d])):=N.kept (t':=S.toks) λb o e=>GQ _ e;let(f0,f1,f2,f3,f4,f5):=N.vQ (CK ↑S) (N.bU.fresh (CK _));let I3:=Inv.ajG I2 (a:=↑S) (o:=("dict_values"^^^[⇑d])) (Py _ rfl,f0,f1,f2,λv z=>by cases z);let Ui:QS U [(false,CQ e2 X.env)]=QS U (CW [e2] X.env):=by rw[i]
 change BX _ _ (spliced (QS U [(false,CQ e2 X.env)])) _ _ _;rw[Ui];show cH (ha U _ _ Z H1 _ I3 q) λus T ⟨ws,H3,I4,g,q4⟩=>?_;let(b,BN,rfl,(ys,hy),ed,q):=q4;obtain ⟨u,rfl⟩:∃u,us=[u]:=by cases g with|cons h t=>cases t;show#[0]
 cases g with
 | cons rb _=>
 cases rb;let hv:=(I4.pin (↑S,_) (Vg _ Pz)).1;let j:=Inv.afE I4;let(z,hd',vs,L,o,B,ep,y,hx,jQ,D,hp,hn):=rF j.bU ed;let da:T.heap.DictAt (bM X.prog X.w) d vs ep:=(o,B,y,hx,jQ,D,hp,hn);let lv:=L.length;let m:=Inv.freeze j ed y;let(jts,BM,f,_):=j.list hy;let G:d<↑T:=GK y;let J:b<↑T:=by let(ob,e1,_):=f.isList;show GK e1
 show adV (knd:=bM X.prog X.w) (d:=d) (_,hv,8) da f.isList λh' hz i9 oP Q C D=>Uk (s:=(T⊂h')) hz ?_;rw[<-lv] at Q;show(↑T+4,[↑T+4,↑T+2,↑T+3,↑T,↑T+1],6,m.kept (t':=T.toks) D,afC d b _ _ _ _ _ o BN jQ ?_,(hz,i9,(_,_,oP),Q,C),λc hc=>?_,q o)
 ·show uq G J
 ·show m.vQ (yj hc).1 (m.bU.fresh (yj hc).1)
def aaP {K:Frag}(Y:Nat->L2.St->Hp->Prop)(E:BN.length<=ys.length)(M:Y 0 Z H)(U:∀i Z H,i<=BN.length->Y i Z H->H d==.w/\aY K H b ys)
  (P:∀i k x y Z H p,BN[i]?==(k,x)->ys[i]?==y->Y i Z H->H p=none->g ⇑p Z (upd H p (.tup [x,y])) λJ G=>tb {D with nx:=Y (i+1),ct:=Y (i+1),bk:=D.nx} J G) (N:∀Z H,Y BN.length Z H->D.nx Z H):FY (ajF K d o BN b) g tb D Z H:=
 lZ Y M (λi Z H T p=>#[((U i Z H (RK T) p).1,T,ys,ys[i],(U i Z H (RK T) p).2,gE gu),λx C y=>by let(a,k,R,S,L,I,rfl,Q,rfl):=y;show P i k R S Z _ a L (I ys (U i Z H (RK T) p).2) p Q]) λZ H p=>#[#[(U _ Z H (CK _) p).1,CK _],N Z H p]
end
abbrev aO6 (i j k:Int)(t u v:Tok):Array (Int×Tok):= (List.toArray [(i,t),(j,u),(k,v)])
section
variable {X:Cx}
inductive aoj (xs:ε)(H:Hp)(Q:VK):Prop
|mk (i j k:Int)(_:xs=[.int i,.int j,.int k])(_:∀m:Int,(m=i\/m=j\/m=k)->m<=i->m<=j->m<=k->Q (.int m) H)
end
section
variable {X:Cx}
def aO7:R2:=λx y H Q=>anI H x y/\Q (.bl false) H
def ajH (P:PT X.t_ c tc)(M:PSx X a ta)(N:PSx X b tb):
  PSx X (.If c [a] [b] pos) (λD E Z H=>tc Z H λd Y=>if d=true then ta D E Z Y else tb D E Z Y):=by
 intro U s Z H D E I h;show wpAny_If (Oy (P U s Z H _ (I.tZ _) h) (λd T ⟨Y,L,S⟩=>?_) λ_ _ z=>z.elim);let R:=L.js;cases d with
 | true=>
  show Ul (Oy (M U T Z Y D E R S) (λf Q q=>?_) λ_ _ z=>z);cases f with
  | next=>show EX q
  | ret v=>show q
  | brk=>show q
  | cont=>show q
 | false=>
  show Ul (Oy (N U T Z Y D E R S) (λf Q q=>?_) λ_ _ z=>z);cases f with
  | next=>show EX q
  | ret v=>show q
  | brk=>show q
  | cont=>show q
end
end Ty
namespace T_k75
open PySem PySem.Spec PyProof.Rows L2 Ty
open Builtin.Int (intBits)
abbrev am (P:HV)(w:World)(K:Frag)(mg:ι)(gV:Heap):=!Fn (aR P w)
abbrev bv (P:HV)(w:World)(K:Frag)(mg:ι)(gV:Heap):=!cz (aR P w)
abbrev ce (P:HV)(w:World)(K:Frag)(mg:ι)(gV:Heap):=!bR (aR P w)
abbrev cr (a:BQ):Option V:=some ⇑a
theorem sq2 {a b c:TS}{D Z H}(s:let y:=c;let z:=DB b y;DB a z D Z H):DB a (DB b c) D Z H:=s
theorem sq3 {a b c d:TS}{D Z H}(s:let x:=d;let y:=DB c x;let z:=DB b y;DB a z D Z H):DB a (DB b (DB c d)) D Z H:=s
theorem sq4 {a b c d e:TS}{D Z H}(s:let w:=e;let x:=DB d w;let y:=DB c x;let z:=DB b y;DB a z D Z H):DB a (DB b (DB c (DB d e))) D Z H:=s
theorem sq6 {a b c d e f g:TS}{D Z H}(s:let u:=g;let v:=DB f u;let w:=DB e v;let x:=DB d w;let y:=DB c x;let z:=DB b y;DB a z D Z H):DB a (DB b (DB c (DB d (DB e (DB f g))))) D Z H:=s
theorem sq8 {a b c d e f g h i:TS}{D Z H}(s:let r:=i;let t:=DB h r;let u:=DB g t;let v:=DB f u;let w:=DB e v;let x:=DB d w;let y:=DB c x;let z:=DB b y;DB a z D Z H):DB a (DB b (DB c (DB d (DB e (DB f (DB g (DB h i))))))) D Z H:=s
theorem sq13 {a b c d e f g h i j k l m n:TS}{D Z H}(s:let F:=n;let E:=DB m F;let C:=DB l E;let B:=DB k C;let A:=DB j B;let r:=DB i A;let t:=DB h r;let u:=DB g t;let v:=DB f u;let w:=DB e v;let x:=DB d w;let y:=DB c x;let z:=DB b y;DB a z D Z H):DB a (DB b (DB c (DB d (DB e (DB f (DB g (DB h (DB i (DB j (DB k (DB l (DB m n)))))))))))) D Z H:=s
local macro_rules|`(tactic|sleep $n)=>do {let s:=Lean.mkIdent (.mkSimple s!"sq{n.getNat}");`(tactic|(try dsimp only[nK,kO,Cx.t_,Cx.tZ];refine $s:ident ?_;intros))}
abbrev fM:=Nat->L2.St->Hp->Prop
def z0L:0<=CM:=gM
def tw:1<=CM:=gM
def sZ:2<=CM:=gM
def z3L:3<=CM:=gM
def z4L:4<=CM:=gM
def z5L:5<=CM:=gM
def z8L:8<=CM:=gM
seal L2.PE L2.PS L2.tf L2.PA
abbrev IS:List Str:=["one","other"]
abbrev Vi:List Str:=["_law_cell","_law_prime","_law_many"]
abbrev Ox:List Str:=["self"]
abbrev V5:List Str:=["self","pin"]
abbrev zae:List Str:=["F","bounds","load","loaded","lows_and_highs","drawn","ways","rows","states","borne","told","numbers","forces","due","motion"]
abbrev Zc:List Str:=["_law_cell","_law_pins","_law_bars_here","_law_bounds_here"]
abbrev yu:List Str:=["self","name","one","other"]
abbrev VX:List Str:=["top","bottom"]
abbrev ZY:List Str:=["_law_frame_here","_law_bounds_here","_law_load_here"]
abbrev VQ:List Str:=["self","bar"]
abbrev wu:List Str:=["F","one","other"]
abbrev yt:List Str:=["_law_script","_law_k"]
abbrev ZU:List Str:=["_law_script","_law_pins","_law_strange"]
abbrev wz:List Str:=["rows","many"]
abbrev Pc:List Str:=["_law_top","_law_bottom"]
abbrev ZK:List Str:=["_law_bars_here","_law_bounds_here"]
abbrev uS:List Str:=["lines","many"]
abbrev ZJ:List Str:=["states","ways","lows_and_highs"]
abbrev Vy:List Str:=["numbers"]
abbrev ZF:List Str:=["_law_script","_law_bars_here"]
abbrev zau:List Str:=["F","bounds","motion","lows_and_highs","price","longer","two"]
abbrev Tz:List Str:=["_law_one","_law_other"]
abbrev ZE:List Str:=["self","name","x","y","hold"]
abbrev ye:List Str:=["F","numbers"]
abbrev zay:List Str:=["table","column","bottom","many","growth","x","at","thing"]
abbrev ZA:List Str:=["_law_pins","_law_bars_here"]
abbrev U3:List Str:=["_law_cell","_law_k"]
abbrev rn:List Str:=["table","column","bottom"]
abbrev rj:List Str:=["table","wholes","bottom"]
abbrev qa:List Str:=["_law_script","_law_pins"]
abbrev p_:List Str:=["needed","column","many"]
abbrev pX:List Str:=["gains","rows","limits"]
abbrev n_:List Str:=["_law_cell","_law_kind"]
abbrev nJ:List Str:=["line","lead","column"]
abbrev mP:List Str:=["shares","rows","many"]
abbrev zaJ:List Str:=["self","line","lead","column"]
abbrev mM:List Str:=["F","bounds","motion"]
abbrev zaL:List Str:=["_law_cell","_law_k","_law_style","_law_at"]
abbrev Pe:List Str:=["_law_script"]
abbrev zaN:List Str:=["self","at","best","column"]
abbrev U2:List Str:=["ones","others"]
abbrev lK:List Str:=["rows","due","many"]
abbrev Zz:List Str:=["F","bounds","load"]
abbrev U1:List Str:=["self","x","y"]
abbrev Pd:List Str:=["F","draws"]
abbrev zaT:List Str:=["F","bounds","lows_and_highs","bar"]
abbrev zaU:List Str:=["one","other","times","self","less"]
abbrev Zj:List Str:=["lines","column"]
abbrev U0:List Str:=["F","bounds"]
abbrev zaX:List Str:=["self","at","column"]
abbrev zaY:List Str:=["whole","other","times","less"]
abbrev Zi:List Str:=["self","lines"]
abbrev uT:List Str:=["row"]
abbrev FA:List Str:=["line"]
abbrev vC:List Str:=["F","motion"]
abbrev vA:List Str:=["_law_cell"]
abbrev za4:List Str:=["share","whole"]
abbrev za5:List Str:=["self","column"]
def sq {N P:τ}{Z:Scope}(a:Z.kind=.function:=by show O)(b:Z.isCoroutine=false:=by show O)(c:Z.isGenerator=false:=by show O)(d:N.Nodup:=by decide+kernel)(e:N.take P.length=P:=by show O)(f:∀x∈P,Z.names.lookup x==.local\/Z.names.lookup x==.cell:=by decide+kernel)(g:∀y∈Z.names,y.2≠.free:=by decide+kernel):av N P Z:=(a,b,c,d,e,f,g)
def pY (P:HV)(w:World){X:Cx}:Passes (aR P w) X.t_ E0:=nI aR.BP
def zaF {X:Cx}:Passes (aR P w) X.t_ E0:=nI aR.BP
def _root_.L2.cp.mo (r:L2.cp k A)(h:j<=k:=by decide):L2.cp j A:=r.mono h
def aH (h:PE X a ta):PE X (.Subscript a (.Constant ↥i j p1) p2) (tOp (aeI X.K) ta (tC ↥i)):=Zy zaQ h ag (λ_ _=>O)
def ahy (h:PE X a ta):PE X (.Subscript a (.Constant ↥i j p1) p2) (tOp (aeH X.K) ta (tC ↥i)):=Zy aG h ag (λ_ _=>O)
def bl1{P:List Value->Prop}(h:∀a:Value,P [a]):∀us:List Value,us.length=1->P us|[_],_=>h _
def blS{P:List Value->Prop}{n:Nat}(h:∀a us,us.length=n->P (a::us)):∀us:List Value,us.length=n+1->P us|a::us,e=>h a us (Nat.succ.inj e)
def bl2{P:List Value->Prop}(h:∀a b:Value,P [a,b]):∀us:List Value,us.length=2->P us:=blS λa=>bl1 (h a)
def bl3{P:List Value->Prop}(h:∀a b c:Value,P [a,b,c]):∀us:List Value,us.length=3->P us:=blS λa=>bl2 (h a)
def bl4{P:List Value->Prop}(h:∀a b c d:Value,P [a,b,c,d]):∀us:List Value,us.length=4->P us:=blS λa=>bl3 (h a)
def bl5{P:List Value->Prop}(h:∀a b c d e:Value,P [a,b,c,d,e]):∀us:List Value,us.length=5->P us:=blS λa=>bl4 (h a)
def bl6{P:List Value->Prop}(h:∀a b c d e f:Value,P [a,b,c,d,e,f]):∀us:List Value,us.length=6->P us:=blS λa=>bl5 (h a)
def bl7{P:List Value->Prop}(h:∀a b c d e f g:Value,P [a,b,c,d,e,f,g]):∀us:List Value,us.length=7->P us:=blS λa=>bl6 (h a)
def _root_.L2.oN.xD {K:Frag}{st:Stmt}(F:L2.oN K x qual st f fd)
 (h:∀(kV Z Y:Value)(T:χ)(U X:Value)(us:ς),us.length=ps.length->bindArgs (fnOf x qual (au st) (ao st) (ae st) .none kV Z Y T U X) #[us,[]]=pure (ps.zip us):=by intro _ _ _ _ _ _;first|show bl1 λ_=>O|show bl2 λ_ _=>O|show bl3 λ_ _ _=>O|show bl4 λ_ _ _ _=>O|show bl5 λ_ _ _ _ _=>O):Binds K fd ps []:=F.binds h
inductive oy (K:Frag)(x:Str)(st:Stmt):Prop|mk{f:BQ}{S:Value}{T Q:χ}{X:Ι}{kV Z U Y R:Value}(a:nsIn K J_ x==(some ⇑f))(l:K.lookup f==(S,T,.func (fnOf x x (au st) (ao st) (ae st) .none kV Z U Q Y R),X))(c:codeIn K Y x=true)(k:keepIn K ⇑f=true):oy K x st
inductive tm (K:Frag)(C:BQ)(x q:Str)(st:Stmt):Prop|mk{f:BQ}{S:Value}{T Q:χ}{X:Ι}{kV Z U Y R:Value}(a:ON K ⇑C x==(some ⇑f))(i:OQ K ⇑f=true)(l:K.lookup f==(S,T,.func (fnOf x q (au st) (ao st) (ae st) .none kV Z U Q Y R),X))(c:codeIn K Y q=true)(k:keepIn K ⇑f=true):tm K C x q st
def iF {K:Frag}{mg:ι}{st:Stmt}(X:K.In h)(G:h.Ns J_ mg)(H:oy K x st)
 (b:∀(kV Z Y:Value)(S:χ)(T U:Value)(us:ς),us.length=ps.length->bindArgs (fnOf x x (au st) (ao st) (ae st) .none kV Z Y S T U) #[us,[]]=pure (ps.zip us):=by intro _ _ _ _ _ _;first|show bl1 λ_=>O|show bl2 λ_ _=>O|show bl3 λ_ _ _=>O|show bl4 λ_ _ _ _=>O|show bl5 λ_ _ _ _ _=>O|show bl6 λ_ _ _ _ _ _=>O|show bl7 λ_ _ _ _ _ _ _=>O):Def K mg x st ps:=have ⟨a,l,c,k⟩:=H;Def.of (cF l c k) ((cF l c k).binds b) (mg_of X G a)
def top (i:Nat):Stmt:=PySem.Challenge.pw_trussyard_k75_refused_bounds.main.body.getD i (.Pass ((0),(0),(0),(0)))
abbrev jB:Stmt:=top 18
abbrev Ru:Stmt:=top 19
abbrev eV:Stmt:=top 20
abbrev jn:Stmt:=top 21
abbrev PV:Stmt:=top 22
abbrev V7:Stmt:=top 23
abbrev d6:Stmt:=top 26
abbrev V8:Stmt:=top 27
abbrev Rv:Stmt:=top 28
abbrev c9:Stmt:=top 29
abbrev V9:Stmt:=top 31
abbrev Rw:Stmt:=top 32
abbrev eY:Stmt:=top 33
abbrev V_:Stmt:=top 34
abbrev V':Stmt:=top 35
abbrev Wa:Stmt:=top 36
abbrev Wb:Stmt:=top 37
abbrev Wc:Stmt:=top 38
abbrev fX:Stmt:=top 40
abbrev Wd:Stmt:=top 41
abbrev dy:Stmt:=top 42
abbrev fY:Stmt:=top 43
abbrev We:Stmt:=top 44
abbrev Wf:Stmt:=top 45
abbrev dz:Stmt:=top 46
abbrev Wg:Stmt:=top 47
abbrev Wh:Stmt:=top 48
abbrev Wi:Stmt:=top 49
abbrev Wj:Stmt:=top 50
abbrev Wk:Stmt:=top 51
abbrev jo:Stmt:=top 53
abbrev d7:Stmt:=top 55
abbrev fZ:Stmt:=top 56
abbrev cK:Stmt:=top 57
abbrev dX:Stmt:=top 59
abbrev gX:Stmt:=top 60
abbrev eZ:Stmt:=top 61
abbrev f9:Stmt:=top 62
abbrev f_:Stmt:=top 63
abbrev hJ:Stmt:=top 64
abbrev fC:Stmt:=top 65
abbrev Wm:Stmt:=top 75
abbrev Wn:Stmt:=top 76
abbrev Wo:Stmt:=top 77
abbrev Wq:Stmt:=top 78
abbrev Rx:Stmt:=top 81
abbrev Ws:Stmt:=top 82
abbrev Wt:Stmt:=top 83
abbrev d9:Stmt:=top 84
abbrev Wu:Stmt:=top 85
abbrev Wv:Stmt:=top 86
abbrev f':Stmt:=top 87
abbrev s_by:Stmt:=top 88
abbrev gc:Stmt:=top 89
abbrev jq:Stmt:=top 90
abbrev hU:Stmt:=top 91
abbrev h_:Stmt:=top 92
abbrev rN:Stmt:=top 93
abbrev Ww:Stmt:=inClass (top 7) 0
abbrev Wx:Stmt:=inClass (top 9) 0
abbrev d_:Stmt:=inClass (top 13) 0
abbrev gf:Stmt:=inClass (top 54) 0
abbrev bu:Stmt:=inClass (top 54) 1
abbrev dA:Stmt:=inClass (top 54) 2
abbrev ef:Stmt:=inClass (top 54) 3
abbrev c6:Stmt:=inClass (top 54) 4
abbrev cQ:Stmt:=inClass (top 54) 5
abbrev gh:Stmt:=inClass (top 54) 6
abbrev dC:Stmt:=inClass (top 54) 7
abbrev Wy:Stmt:=inClass (top 69) 0
abbrev vV:Stmt:=inClass (top 69) 1
abbrev Wz:Stmt:=inClass (top 69) 2
abbrev WA:Stmt:=inClass (top 69) 3
abbrev WC:Stmt:=inClass (top 69) 4
abbrev WD:Stmt:=inClass (top 69) 7
abbrev WE:Stmt:=inClass (top 69) 8
abbrev WG:Stmt:=inClass (top 69) 9
abbrev WH:Stmt:=inClass (top 69) 10
abbrev WI:Stmt:=inClass (top 69) 11
abbrev afG:Stmt:=inClass (top 71) 0
abbrev WJ:Stmt:=inClass (top 72) 0
abbrev WK:Stmt:=inClass (top 72) 1
abbrev WL:Stmt:=inClass (top 73) 0
section
variable {P:HV}{w:World}{K:Frag}{mg:ι}{gV:Heap}{CX:qu}
def Nm (H:Hp)(v:V)(q:Int×Int):Prop:=∃p,v=⇑p/\H p==.tup [↥q.1,↥q.2]
def Nm.iz (h:Nm H v q)(s:aq H H'):Nm H' v q:=by
 let(p,e,k):=h;show(p,e,s\k)
structure Okn (k:Nat)(q:Int×Int):Prop where
 pos:0<q.2
 top:intBits q.1<=k
 bot:intBits q.2<=k
def ar (h:H p=none)(o:HO):aq H (upd H p o):=λb u q=>by rwa[ah (ak q h)]
def nw (n:H l=none)(e:upd H l o=H'):aq H H'/\H' l==o:=by subst e;show#[ar n o,af]
local macro_rules|`(tactic|intros $l:ident $n:ident $h:ident $s:ident $e:ident)=>`(tactic|(intro $l:ident $n:ident;generalize eX:upd _ $l _=$h;have ⟨$s,$e⟩:=nw $n eX))
def gives (H:Hp)(Q:VK)(q:Int×Int):Prop:=∀(p:BQ)(Z:Hp),aq H Z ->Z p==.tup [↥q.1,↥q.2]->Q ⇑p Z
inductive lE (vs:ε)(H:Hp)(Q:VK)(Z:XK):Prop
|mk (a b:Int)(_:vs=[.int a,.int b])(_:Q ↥(gz a b) H)
def addQ (x y:Int×Int):Int×Int:=low (x.1*y.2+y.1*x.2) (x.2*y.2)
def subQ (x y:Int×Int):Int×Int:=low (x.1*y.2-y.1*x.2) (x.2*y.2)
def mulQ (x y:Int×Int):Int×Int:=low (x.1*y.1) (x.2*y.2)
def IW (Y:Okn k x)(Z:Okn l y):x.2*y.2≠0:=VB (VR Y.pos Z.pos)
def iZ {a b:V}:oM [a,b] 0==a:=rfl
def i6 {a b:V}:oM [a,b] 1==b:=rfl
def Nm.kept (h:Nm H v q)(Z:H D==.lst ys)(k:aZ D H H'):Nm H' v q:=by
 let(p,e,z):=h;show(p,e,k p _ (λe=>by erw[e,Z] at z) z)
inductive Line (H:Hp)(v:V)(Z:ρ)(b:Int):Prop
|mk (p l:_)(_:v=.ref p)(_:H p==.tup [.ref l,.int b])(_:H l==.lst (Z.map V.int))
inductive Ln (H:Hp)(v:V)(l:ρ):Prop
|mk (p:_)(_:v=.ref p)(_:H p==.lst (l.map V.int))
def Ln.iz (h:Ln H v l)(s:aq H H'):Ln H' v l:=by
 let(p,e,k):=h;show(p,e,s\k)
def yL (H:Hp)(us:ε)(Z:η):Prop:=us.length=Z.length/\∀(i:Nat)(u:V)(l:ρ),us[i]?==u->Z[i]?==l->Ln H u l
theorem yL.iz (h:yL H us ls)(s:aq H H'):yL H' us ls:=#[h.1,λi u l Y Z=>(h.2 i u l Y Z).iz s]
def vE {l:ρ}(h:j<l.length):oM (l.map V.int) (j:Int)==.int (l.getD j 0):=b9 (by rw[Wp,gE h,GO,gE h];rfl)
def getD_mem {l:ρ}(e:l[j]?==x):l.getD j 0=x:=by rw[GO,e];rfl
def Bd (b:Nat)(l:ρ):Prop:=∀j,(l.getD j 0).natAbs<=2^b
def Bd.mem (h:Bd b l)(Z:x∈l):x.natAbs<=2^b:=by
 let(i,Y):=OV Z;rw[<-getD_mem Y];show h i
def Bd.up (h:Bd b l)(Z:b<=c):Bd c l:=λj=>iW (h j) Z
def UD:av ["one","other","left"] IS (ae V7):=sq
def aok (D:Def K mg "greatest_shared" V7 IS)(R:mg "abs"=none):!Fn CX 1 "greatest_shared" IS lE:=by
 show D.oo UD λH Q h=>?_;let(a,b,rfl,q):=h
 show(_,(qY Pm (bD OD .b ag) (aw 2 UD.nd (ax iQ .a .b)>>aw 0 UD.nd .b>>aj (aw 1 UD.nd .c))>>aj (aC (aI ahS rfl R ahb (aU .a)))),2)
 show ahu (λZ X=>Ex3 λ(x y:Int) (l:Β)=>Z=[some ↥x,some ↥y,l]/\X=H/\Po x y=Po a b) (λZ _=>match Z with|[_,some ↥y,_]=>y.natAbs|_=>0) (a,b,none,8,O) ?_ ?_
 ·rintro Z X ⟨x,y,l,rfl,rfl,g⟩
  show(0,7,2);show bH (λc=>?_) (λc=>?_)
  ·let Y:y≠0:=by
    intro z;subst z;simp at c
   show(3,1,Y,3,#[5,by rwa[agg]],ag4 Y)
  ·let Y:y=0:=by
    have:=WR.mpr c;simp at this;show this
   subst Y;show(0,x,O,2)
   let e:(if x<0 then -x else x)=gz a b:=by
    rw[aoI] at g;unfold gz;rw[<-g];split<;>omega
   rwa[e]
 ·rintro Z X M N h ⟨v,S,T,k,U,z⟩
  show(v,S,T,k,U,h\z)
inductive c8 (vs:ε)(H:Hp)(Q:VK)(Z:XK):Prop
|mk (t b:Int)(_:vs=[.int t,.int b])(_:b≠0)(_:gives H Q (low t b))
def aaQ:av ["top","bottom","shared"] VX (ae PV):=sq
def aol (R:P.given.tree=none)(D:Def K mg "lowest_terms" PV VX)(I:!am 1 "greatest_shared" IS lE):!am 33 "lowest_terms" VX c8:=by
 show D.op aaQ λf J A Z s H C Q E Y h=>?_;let(t,b,rfl,L,q):=h
 let U:∃T,tf (kO (aR P w) P w K mg gV ["top","bottom","shared"] "lowest_terms" (ae PV) f J A Z s H E).t_ ((ao PV).drop 2) T/\∀g:Int,g=sg t b->T {nx:=λ_ G=>Q .cS G,rt:=Q} [some ↥t,some ↥b,some ↥g] H:=by
  show(_,(aj (aC (aJ (aE (ax (gG R (Ty.cp.py Y gM) rfl rfl rfl rfl rfl) .a .c) (ax (gG R (Ty.cp.py Y gM) rfl rfl rfl rfl rfl) .b .c))))),2);rintro g rfl;let c:=xV (t:=t) L;show(3,1,c,3,1,c,sZ,λp M=>?_);show q p _ (ar M _) af
 let(B,N,S):=U;show(_,(aw 2 aaQ.nd (a9 I Y (aE .a .b))>>bN (bD kN .b ag) (aj (aw 2 aaQ.nd (gw dm .c))) aQ>>N),3,t,b,7,1,0,2);show bH (λc=>?_) (λc=>?_)
 ·show#[3,S _ ?_]
  let X:b<0:=RE c;unfold sg;rw[iB X]
 ·show S _ ?_
  let X:¬ b<0:=of_decide_eq_false (WR.mpr c);unfold sg;rw[iA X]
def pB:List (Int×Int)->Nat
 | []=>1
 | q::t=>q.2.natAbs*pB t
theorem uH:∀(a b:θ),pB (a++b)=pB a*pB b
 | [],b=>by simp[pB]
 | q::t,b=>by
  change q.2.natAbs*pB (t++b)=q.2.natAbs*pB t*pB b;rw[uH t b,x8]
theorem aaR:∀(a:θ),(∀q∈a,0<q.2)->0<pB a
 | [],_=>Nat.one_pos
 | q::t,h=>Nat.mul_pos (by have:=h q (Pz ..);omega) (aaR t λz Z=>h z (OX _ Z))
def afH {qs:θ}(h:∀q∈qs,0<q.2)(i:Nat):pB (qs.take i)<=pB qs:=by
 let e:=uH (qs.take i) (qs.drop i);rw[akG] at e;rw[e];show UY _ (aaR _ λq Z=>h q (alC Z))
def afI {qs:θ}(e:qs[i]?==q):pB (qs.take (i+1))=pB (qs.take i)*q.2.natAbs:=by
 rw[al3,e,uH];change _*(q.2.natAbs*1)=_;rw[UA]
theorem yM :∀{qs:θ},(∀q∈qs,q.2.natAbs<=2^B)->pB qs<=2^(B*qs.length)
 | [],_=>by simp[pB]
 | q::t,h=>by
  change q.2.natAbs*pB t<=2^(B*(t.length+1));rw[Nat.mul_succ,Zq,zw];show VF (yM λz hz=>h z (OX _ hz)) (h q (Pz ..))
inductive WM (K:Frag)(vs:ε)(H:Hp)(Q:VK)(Y:XK):Prop
|mk (a:BQ)(qs:θ)(T B S:Nat)(_:vs=[.ref a])(_:ajd K H a qs)(_:(∀q∈qs,Sm T B q))(_:pB qs<=2^S)(_:T<=29000000)(_:S<=29000000)(_:B<=29000000)(_:qs.length<=1000)(_:∀(p l:BQ)(Z:ρ)(b:Int)(H':Hp),aq H H' ->H l=none->H' p==.tup [.ref l,.int b]->H' l==.lst (Z.map V.int)->0<b->b.natAbs<=2^S->kX Z qs b->(∀t∈Z,t.natAbs<=2^(T+S))->Q (.ref p) H')
def UE:av ["row","bottom","number"] uT (ae Wf):=sq
def aon (f:P.given.tree=none)(D:Def K mg "whole_row" Wf uT)(Ry:!am 1 "greatest_shared" IS lE):!am 33 "whole_row" uT (WM K):=by
 show D.oo UE λH hr h=>?_;let(a,Y,T,B,S,rfl,(m,hS,hN),J,hP,hT,hB,hB1,hl,q):=h;let qp:∀q∈Y,0<q.2:=λq hq=>(J q hq).pos
 show(_,(aw 1 UE.nd ag>>bV Pm rfl (bT .a) (cE 2 UE.nd) (aj (aw 1 UE.nd (ax bQ (ax (gG f (Ty.cp.py hr gM) rfl rfl rfl rfl rfl) .b (a9 Ry hr (aE .b (aH .c)))) (aH .c))))>>aj (aC (aJ (aE (ix (tn:=["number"]) (fr:=["bottom"]) (mQ:=[1]) (bT .a) (ax bQ .D (ax (gG f (Ty.cp.py hr gM) rfl rfl rfl rfl rfl) .b .D))) .b)))),2);sleep 2
 let A:=hN.1
 let E:∀{i:Nat} {u:V},m[i]?==u->∃q,Y[i]?==q/\qU K H u q/\Sm T B q:=λ{i u} e=>by
  let M:i<m.length:=(ir.mp e).1;let N:Y[i]?==(Y[i]'gu):=gE gu;show(_,N,hN.2 i u _ e N,J _ (Sk _))
 show(0,a,O,#[_,hS],let I:fM:=λi Z H'=>QJ λ(b:Int) (o:Β)=>Z=[cr a,some ↥b,o]/\H'=H/\0<b/\b.natAbs<=pB (Y.take i)/\∀j,j<i->∀q,Y[j]?==q->q.2 ∣ b;dG (K:=K) (a:=a) (xs:=m) I ((1),none,8,gM,CK 1,λj h=>CC h (VA _)) (λi Z H' _ ⟨b,o,_,e,_⟩=>by rwa[e]) ?_ ?_)
 ·rintro i u Z H' hu ⟨b,o,rfl,rfl,hb,X,L⟩
  let(n,U,(p,rfl,c),Q):=E hu;let M:i<Y.length:=(ir.mp U).1;let nb:n.2.natAbs<=2^B:=Q.bot;let(l1,l2,l3,l4):=ahR hb Q.pos;let gp:=GN (t:=b) (b:=n.2) (by have:=Q.pos;omega);let gl:=amY (t:=b) (b:=n.2) (by have:=Q.pos;omega)
  let sz:(b.fdiv (gz b n.2)*n.2).natAbs<=pB (Y.take (i+1)):=by
   show CP l4 ?_;rw[afI U];show VF X (CK _)
  have QG :b.natAbs<=2^S:=CP X (CP (afH qp i) hP);let g1:gz b n.2 ∣ b:=Qg ..;show(3,0,p,5,c,i6,b,n.2,O,1,(by change gz b n.2≠0;omega),0,p,5,c,i6,1,dZ (CP (kY gu g1) QG) nb gu gu,1,l1,sz,λj hj q' e'=>?_)
  rcases OO.mp hj with z|z
  ·show Int.dvd_trans (L j z q' e') l2
  ·subst z
   erw[U] at e';show l3
 ·rintro Z H' ⟨b,o,rfl,rfl,hb,X,L⟩
  rw[A] at X L;rw[T4 (CK _)] at X
  replace X:b.natAbs<=2^S:=CP X hP
  show(0,a,O,#[_,hS],λD nD=>?_);show du (oC:=[some ↥b]) (K:=K) (a:=a) (xs:=m) (λi v _=>∃q,Y[i]?==q/\v=.int (q.1*b.fdiv q.2)) nD (![A] (K' hl gM)) (λH2 G=>G.seq hS) (λ_ _ _ _ _ _ _ h=>h) ?_ ?_
  ·intro i u H2 R hu G k
   let(n,U,(p,rfl,c),Q):=E hu;let C:=Ty.aq.iM G c;let dv:=L i (ir.mp U).1 n U;let g:n.2≠0:=by have:=Q.pos;omega
   show(0,p,5,C,iZ,3,p,5,C,i6,1,g,1,dZ Q.top (CP (kY g dv) X) gu gu,k _ _ .L (n,U,O))
  ·intro x H2 hy gY G hD
   let ey:x=(Y.map λn=>n.1*b.fdiv n.2).map V.int:=by
    show VH λi=>?_;by_cases M:i<x.length
    ·let y:x[i]?==x[i]:=gE M
     let(n,U,ev):=gY i _ y;rw[y,ev,Wp,Wp,U];rfl
    ·rw[IF gu,IF (by simp;omega)]
   show(0,sZ,λp np=>?_);let s3:=ar np (.tup [⇑D,↥b]);show q p D (Y.map λn=>n.1*b.fdiv n.2) b _ (G>>>s3) nD af (s3\(![hD,ey])) hb X #[by simp,λi t n y N=>?_] (λt f=>?_)
   ·rw[Wp,N] at y
    have Q6 :n.1*b.fdiv n.2=t:=VE y;rw[<-Q6];show aeA (J n (CU N)).pos (L i (ir.mp N).1 n N)
   ·let(n,hn,rfl):=CS.mp f
    let(i,M):=OV hn;let g:n.2≠0:=by have:=(J n hn).pos;omega
    show mw (J n hn).top (CP (kY g (L i (ir.mp M).1 n M)) X)
structure Dv (l l':ρ):Prop where
 len:l'.length=l.length
 fac:∃g:Int,g≠0/\∀j,g*l'.getD j 0=l.getD j 0
def PrZ (l:ρ):Prop:=Prm l\/∀j,l.getD j 0=0
def adE {l:ρ}(h:∀j,d ∣ l.getD j 0){i:Nat}(e:l[i]?==x):d ∣ x:=by
 rw[<-getD_mem e];show h i
inductive uI (vs:ε)(H:Hp)(Q:VK)(X:XK):Prop
|mk (v:V)(l:ρ)(_:vs=[v])(_:Ln H v l)(_:l.length<=1000)(_:∀Z Y H',aq H H' ->Ln H' Z Y ->Dv l Y ->PrZ Y ->(Z=v\/∃p,Z=.ref p/\H p=none)->Q Z H')
def afJ (l:ρ):Dv l l:=(O,(1),gM,λj=>Int.one_mul _)
def UG:av ["line","shared","whole"] FA (ae Wk):=sq
def aoo (ht:P.given.tree=none)(D:Def K mg "divided" Wk FA)(Ry:!am 1 "greatest_shared" IS lE):!am 33 "divided" FA uI:=by
 show D.op UG λf bx A outer s H vs Q E hr h=>?_;let(v,l,rfl,(a,rfl,G),hn,q):=h;let iz:PrZ l->Q ⇑a H:=λpz=>q _ l H (aq.refl H) (a,O,G) (afJ l) pz .V
 show(_,(aw 1 UG.nd ag>>bV Pm rfl (bT .a) (cE 2 UG.nd) (aw 1 UG.nd (a9 Ry hr (aE .c .b))>>aj (bN (bD dk .b ag) (aj (aC .a)) aQ))>>aj (aC (xO (bD TC .b ag) (ix (tn:=["whole"]) (fr:=["shared"]) (mQ:=[1]) (bT .a) (ax (gG ht (Ty.cp.py hr gM) rfl rfl rfl rfl rfl) .a .b)) .a))),2);sleep 2
 show(0,a,O,#[_,aY.of G],let I:fM:=λi Z H'=>QJ λ(g:Int) (o:Β)=>Z=[cr a,some ↥g,o]/\H'=H/\0<=g/\(∀j,j<i->∀x,l[j]?==x->g ∣ x)/\(∀d:Int,(∀j,j<i->∀x,l[j]?==x->d ∣ x)->d ∣ g)/\(0<i->g≠1);dG (K:=K) (a:=a) (xs:=l.map V.int) I ((0),none,8,gM,(λj h=>CC h (VA _)),(λd _=>Int.dvd_zero d),λh=>CC h (Sa _)) (λi Z H' _ ⟨g,o,_,e,_⟩=>![e] (aY.of G)) ?_ ?_)
 ·rintro i u Z H' N ⟨g,o,rfl,rfl,g0,L,J,_⟩
  rw[Wp] at N;let(x,U,rfl):=OR.mp N;let d1:gz x g ∣ x:=Qg ..;let d2:gz x g ∣ g:=Qj ..;let p0:0<=gz x g:=Int.natCast_nonneg _;show(3,x,g,7,7,2);show bH (λz=>#[0,iz (.inl λd X=>?_)]) (λz=>?_)
  ·let z':gz x g=1:= ~~~RE z
   let m:d ∣ gz x g:=atI (adE X U) (J d λj _ y T=>adE X T);rw[z'] at m;have:=ako.mpr m;simpa using this
  show(1,p0,λj Y y T=>?_,λd h=>?_,λ_ e=>z (by rw[e];rfl))
  ·rcases OO.mp Y with z|z
   ·show Int.dvd_trans d2 (L j z y T)
   ·subst z
    erw[U] at T;show d1
  ·show atI (h i (V3 _) x U) (J d λj Y y T=>h j (EI Y) y T)
 ·rintro Z H' ⟨g,o,rfl,rfl,g0,L,J,M⟩
  rw[CA] at L J M;show(0,1,0,bH (λc=>?_) (λc=>#[0,iz (.inr λj=>?_)]));rotate_left
  ·let c':¬ (1:Int)<g:=λz=>c (Qd z)
   by_cases Y:j<l.length
   ·let gz:g=0:=by
     have:=M gu;omega
    let S:l[j]?==l[j]:=gE Y;have:=L j Y _ S;rw[gz] at this;rw[getD_mem S];show Int.zero_dvd.mp this
   ·rw[GO,IF gu]
    rfl
  let g1:(1:Int)<g:=RE c;let b:g≠0:=gu
  show(0,a,O,#[_,aY.of G],λD nD=>?_);show du (oC:=[some ↥g]) (K:=K) (a:=a) (xs:=l.map V.int) (λi v _=>∃x,l[i]?==x/\v=.int (x.fdiv g)) nD (![CA] (K' hn gM)) (λH2 p=>aY.of (p\G)) (λ_ _ _ _ _ _ _ h=>h) ?_ ?_
  ·intro i u H2 R N p k
   rw[Wp] at N;let(x,U,rfl):=OR.mp N;show(3,1,b,k _ _ .L (x,U,O))
  ·intro B H2 hy gY p hD
   rw[CA] at hy
   let T:B=(l.map λx=>x.fdiv g).map V.int:=by
    show VH λi=>?_;by_cases hi:i<B.length
    ·let e1:B[i]?==B[i]:=gE hi
     let(x,U,ev):=gY i _ e1;rw[e1,ev,Wp,Wp,U];rfl
    ·rw[IF gu,IF (by simp;omega)]
   let C:∀j,g*(l.map λx=>x.fdiv g).getD j 0=l.getD j 0:=λj=>by
    by_cases Y:j<l.length
    ·let S:l[j]?==l[j]:=gE Y
     rw[getD_mem (l:=l.map λx=>x.fdiv g) (x:=l[j].fdiv g) (by rw[Wp,S];rfl),getD_mem S];show(dI b (L j Y _ S)).symm
    ·rw[GO,GO,IF (by simp;omega),IF gu]
     simp
   show q _ (l.map λx=>x.fdiv g) H2 p (D,O,![hD,T]) (by simp,g,b,C) (.inl λd X=>?_) (.inr (D,O,nD))
   let m:d*g ∣ g:=J (d*g) λj Y x U=>by
    rw[<-getD_mem U,<-C j,VY];show Int.mul_dvd_mul_left g (X j)
   let(k,hk):=m
   let h2:g*(d*k)=g*1:=by
    rw[Int.mul_one];rw[<-v5,VY g d];show hk.symm
   let h3:=Int.eq_of_mul_eq_mul_left b h2;let h4:d ∣ 1:=#[k,h3.symm];simpa using ako.mpr h4
inductive uJ (vs:ε)(H:Hp)(Q:VK)(T:XK):Prop
|mk (u v:V)(l m:ρ)(c U X:Nat)(_:vs=[u,v,.int (c:Int)])(_:Ln H u l)(_:Ln H v m)(_:m.length=l.length)(_:c<l.length)(_:l.length<=1000)(_:m.getD c 0≠0)(_:Bd U l)(_:Bd X m)(_:U<=29000000)(_:X<=29000000)(_:∀Y Z H',aq H H' ->Ln H' Y Z ->BJ l m Z c->Bd (U+X+1) Z ->(Z=l\/PrZ Z)->(Y=u\/∃p,Y=.ref p/\H p=none)->Q Y H')
def afK (X:a≠0):a=gz a b*a.fdiv (gz a b)/\b=gz a b*b.fdiv (gz a b)/\gz a b≠0/\a.fdiv (gz a b)≠0/\(a.fdiv (gz a b)).natAbs<=a.natAbs/\(b.fdiv (gz a b)).natAbs<=b.natAbs:=by
 let Z:gz a b≠0:=by
  intro z;let S:((Po a b:Nat):Int)=0:=z;have:Po a b=0:=gu
  show X (Int.gcd_eq_zero_iff.mp this).1
 let T:gz a b ∣ a:=Qg ..;let U:gz a b ∣ b:=Qj ..;let Y:=dI Z T;show(Y,dI Z U,Z,λz=>?_,kY Z T,kY Z U);rw[z,FJ] at Y;show X Y
def afL {l m:ρ}{ys:ε}(S:m.length=l.length)(T:ys.length=l.length)(h:∀(i:Nat)(v:V),ys[i]?==v->∃x y,l[i]?==x/\m[i]?==y/\v=.int (t*x-u*y)):ys=(Rr (λx y=>t*x-u*y) l m).map V.int:=by
 show VH λi=>?_;by_cases Y:i<ys.length
 ·let Z:ys[i]?==ys[i]:=gE Y
  let(x,y,U,X,ev):=h i _ Z;rw[Z,ev,Wp,vS,U,X];rfl
 ·rw[IF gu,IF (by simp;omega)]
def aaS {l m:ρ}(U:m.length=l.length)(j:Nat):(Rr (λx y=>t*x-u*y) l m).getD j 0=t*l.getD j 0-u*m.getD j 0:=by
 by_cases X:j<l.length
 ·let Y:l[j]?==l[j]:=gE X
  let Z:m[j]?==(m[j]'gu):=gE gu;rw[getD_mem Y,getD_mem Z];show getD_mem (![vS,Y,Z])
 ·rw[GO,GO,GO,IF (by simp;omega),IF gu,IF gu]
  simp
def UH:av ["line","lead","column","shared","times","less"] nJ (ae Wj):=sq
def aop (ht:P.given.tree=none)(D:Def K mg "cleared" Wj nJ)(dY:mg "zip"=none)(Ry:!am 1 "greatest_shared" IS lE)(I:!am 33 "divided" FA uI):!am 34 "cleared" nJ uJ:=by
 show D.oo UH λH U h=>?_;let(u,v,l,m,c,b1,b2,rfl,(a,rfl,X),(E,rfl,Z),T,hc,hn,hm,Q,B,hb1,Ui,q):=h
 show(_,(bN (bD dk (bP aG .a .c) ag) (aj (aC .a)) aQ>>aw 3 UH.nd (a9 Ry U (aE (bP aG .b .c) (bP aG .a .c)))>>aw 4 UH.nd (ax (gG ht (Ty.cp.py U gM) rfl rfl rfl rfl rfl) (bP aG .b .c) .d)>>aw 5 UH.nd (ax (gG ht (Ty.cp.py U gM) rfl rfl rfl rfl rfl) (bP aG .a .c) .d)>>aj (aC (a9 I U (aU (uE (tn:=["whole","other"]) (fr:=["times","less"]) (mQ:=[4,5]) (nN rfl dY (aE .a .b)) .n .o (ax eK (ax bQ .c .a) (ax bQ .d .b))))))),2);sleep 4
 let J:=vE (l:=l) hc;let em:=vE (l:=m) (j:=c) gu;show(3,a,5,aY.of X,J,7,2);show bH (λz=>?_) (λz=>?_)
 ·let z':l.getD c 0=0:= ~~~RE z
  show#[0,q _ l H (aq.refl H) (a,O,X) (O,z',(1),(1),(0),gM,gM,λj=>gu) (Q.up gu) .V .V]
 ·let(f1,f2,f3,f4,f5,f6):=afK (a:=m.getD c 0) (b:=l.getD c 0) hm
  show(3,E,5,aY.of Z,em,3,a,5,aY.of X,J,_,3,0,E,5,aY.of Z,em,0,1,f3,3,a,5,aY.of X,J,0,1,f3,3,a,E,O,#[_,aY.of X],#[_,aY.of Z],λD1 o=>?_);let st:((m.getD c 0).fdiv .H).natAbs<=2^b2:=CP f5 (B c);let A:((l.getD c 0).fdiv .H).natAbs<=2^b1:=CP f6 (Q c);show nO (oC:=[some ↥((m.getD c 0).fdiv .H),some ↥((l.getD c 0).fdiv .H)]) (K:=K) (xs:=l.map V.int) (ys:=m.map V.int) (λi v _=>∃x y,l[i]?==x/\m[i]?==y/\v=.int ((m.getD c 0).fdiv .H*x-(l.getD c 0).fdiv .H*y)) o (![CA] (K' hn gM)) (~~~T) (λC Y=>aY.of (Y\X)) (λC Y=>aY.of (Y\Z)) (λ_ _ _ _ _ _ _ h=>h) ?_ ?_
  ·intro i x y C R ex S Y k
   rw[Wp] at ex S;let(x',Tu,rfl):=OR.mp ex;let(y',X_,rfl):=OR.mp S;show(3,1,dZ st (Q.mem (CU Tu)) gu gu,3,1,dZ A (B.mem (CU X_)) gu gu,1,k _ _ .L (x',y',Tu,X_,O))
  ·intro ys C f gY Y hD
   rw[CA] at f;let S:=afL T f gY;show(4,(D1,O,![hD,S]),by simp;omega,λv' N H3 s3 L3 dv pz fr=>?_);let(g,L,hg):=dv.fac;let M:∀j,g*N.getD j 0=(m.getD c 0).fdiv .H*l.getD j 0-(l.getD c 0).fdiv .H*m.getD j 0:=λj=>by rw[hg j,aaS T]
   show q v' N H3 (Y>>>s3) L3 (by rw[dv.len];simp[T],2,g,9,L,f4,M) (λj=>?_) (.inr pz) ?_
   ·let e:=M c
    let z2:(m.getD c 0).fdiv .H*l.getD c 0-(l.getD c 0).fdiv .H*m.getD c 0=0:=by
     generalize gz (m.getD c 0) (l.getD c 0)=G at*;generalize (m.getD c 0).fdiv G=t at*;generalize (l.getD c 0).fdiv G=u at*;rw[f1,f2];grind
    rw[z2] at e
    rcases anY.mp e with y|y
    ·show CC y L
    ·show y
   ·let b:(g*N.getD j 0).natAbs<=2^(b1+b2+1):=by
     rw[M j,Int.sub_eq_add_neg];show ai4 (iW (mw st (Q j)) gu) ?_;rw[vP];show mw A (B j)
    show CP (gC L) b
   ·rcases fr with z|⟨p,e,n⟩
    ·show .inr (D1,z,o)
    ·show .inr (p,e,Y.free n)
inductive IX (K:Frag)(vs:ε)(H:Hp)(Q:VK)(Y:XK):Prop
|mk (a:BQ)(us:ε)(Z:List (List Int:_))(c:Nat)(_:vs=[.ref a,.int (c:Int)])(_:aY K H a us)(_:yL H us Z)(_:(∀l∈Z,c<l.length))(_:(∀(i:Nat)(l:ρ)(H':Hp),aq H H' ->Z[i]?==l->l.getD c 0≠0->Q ↥(i:Int) H'))(_:((∀l∈Z,l.getD c 0=0)->∀H',aq H H' ->Q .cS H'))
def yL.at (h:yL H us ls){i:Nat}(e:us[i]?==u):∃l,ls[i]?==l/\Ln H u l:=by
 let X:i<us.length:=(ir.mp e).1;let Y:=h.1;let Z:ls[i]?==(ls[i]'gu):=gE gu;show(_,Z,h.2 i u _ e Z)
def yL.at' (h:yL H us ls){i:Nat}{l:ρ}(e:ls[i]?==l):∃u,us[i]?==u/\Ln H u l:=by
 let X:i<ls.length:=(ir.mp e).1;let Y:=h.1;let Z:us[i]?==(us[i]'gu):=gE gu;show(_,Z,h.2 i _ l Z e)
def aaT:av ["lines","column","at","line"] Zj (ae Wi):=sq
def aor (D:Def K mg "first_not_nought" Wi Zj)(f:mg "enumerate"=none):!am 1 "first_not_nought" Zj (IX K):=by
 show D.oo aaT λH hr h=>?_;let(a,E,x,c,rfl,M,L,k,B,C):=h;let lu:=L.1
 show(_,(bV Pm rfl (rG rfl f (aU .a)) (gy rfl (aK (cE 2 aaT.nd) (aK (cE 3 aaT.nd) cC))) (aj (bN (bD OD (bP aG .d .b) ag) (aj (aC .c)) aQ))>>aj (aC gO)),2)
 show(0,a,O,#[_,M],let I:fM:=λi Z X=>∃T U:Option V,Z=[cr a,some ↥(c:Int),T,U]/\aq H X/\∀j,j<i->∀l,x[j]?==l->l.getD c 0=0;nS (K:=K) (a:=a) (xs:=E) I (none,none,O,aq.refl H,λj h=>CC h (VA _)) (λi Z X _ ⟨T,U,_,Y,_⟩=>Y.seq M) ?_ ?_)
 ·rintro i u Z X p o ⟨T,U,rfl,Y,z⟩ A
  let(l,N,b,rfl,g):=L.at o;let Q:=Y>>>(ar A (.tup [.int (i:Int),⇑b]));let G:=k l (CU N);show(p,0,cb.of af,O,4,1,3,b,5,aY.of (Q\g),vE G,7,2);show bH (λy=>?_) (λy=>?_)
  ·let R:l.getD c 0≠0:= ~~~y
   show#[0,B i l _ Q N R]
  ·let R:l.getD c 0=0:= ~~~y
   show(4,Q,λj S q J=>?_)
   rcases OO.mp S with w|w
   ·show z j w q J
   ·subst w
    erw[N] at J;show R
 ·rintro Z X ⟨T,U,rfl,Y,z⟩
  show C (λl m=>?_) X Y;let(j,S):=OV m;show z j (by have:=(ir.mp S).1;omega) l S
structure Red (os:η)(L c b:Nat)(nd:ν)(lv:η):Prop where
 uK:∀x∈nd,x.2.length=L
 qH:∀l∈lv,l.length=L
 cols:∀x∈nd,x.1<c
 asc:(nd.map (·.1)).Pairwise (· < ·)
 here:∀x∈nd,x.2.getD x.1 0≠0
 off:∀x∈nd,∀y∈nd,x.1≠y.1->x.2.getD y.1 0=0
 low:∀x∈nd,∀j,j<x.1->x.2.getD j 0=0
 zero:∀l∈lv,∀j,j<c->l.getD j 0=0
 PY:∀x∈nd,uA os x.2
 rP:∀l∈lv,uA os l
 sol:∀z,((∀x∈nd,ev x.2 z=0)/\(∀l∈lv,ev l z=0)) ↔ ∀o∈os,ev o z=0
 Ya:∀x∈nd,Bd b x.2
 wK:∀l∈lv,Bd b l
 cnt:nd.length+lv.length=os.length
def Red.start {os:η}(Y:∀o∈os,o.length=L)(Z:∀o∈os,Bd b o):Red os L 0 b [] os where
 uK:=by simp
 qH:=Y
 cols:=by simp
 asc:=by simp
 here:=by simp
 off:=by simp
 low:=by simp
 zero:=λ_ _ j h=>CC h (VA _)
 PY:=by simp
 rP:=λl h=>zao h
 sol:=λz=>by simp
 Ya:=by simp
 wK:=Z
 cnt:=by simp
def Red.skip {os:η}(h:Red os L c b nd Z)(hz:∀l∈Z,l.getD c 0=0):Red os L (c+1) b nd Z where
 uK:=h.uK
 qH:=h.qH
 cols:=λx X=>EI (h.cols x X)
 asc:=h.asc
 here:=h.here
 off:=h.off
 low:=h.low
 zero:=λl Y j U=>by
  rcases OO.mp U with z|z
  ·show h.zero l Y j z
  ·subst z
   show hz l Y
 PY:=h.PY
 rP:=h.rP
 sol:=h.sol
 Ya:=h.Ya
 wK:=h.wK
 cnt:=h.cnt
structure Made (os:η)(C':ρ)(c b:Nat)(xs ys:η):Prop where
 len:ys.length=xs.length
 to:∀(i:Nat)(x:ρ),xs[i]?==x->∃y,ys[i]?==y/\BJ x C' y c/\Bd b y
def Made.ex {os:η}(h:Made os C' c b xs ys){y:ρ}(Y:y∈ys):∃x∈xs,BJ x C' y c/\Bd b y:=by
 let(i,Z):=OV Y;let T:=h.len;let S:i<ys.length:=(ir.mp Z).1;let e:xs[i]?==(xs[i]'gu):=gE gu;let(U,X,r):=h.to i _ e;erw[Z] at X;show(_,CU e,r)
def Made.all {os:η}(h:Made os C' c b xs ys){x:ρ}(Z:x∈xs):∃y∈ys,BJ x C' y c/\Bd b y:=by
 let(i,Y):=OV Z;let(y,e,r):=h.to i x Y;show(y,CU e,r)
def Red.step {os:η}{B Rl rest:η}{T:ρ}(h:Red os L c b N B)(J:T∈B)(p:∀l∈rest,l∈B)(QY:∀l∈B,l=T\/l∈rest)(hlen:rest.length+1=B.length)
  (hc:T.getD c 0≠0) (E:Made os T c (2*b+1) rest Rl) (g:S.map (·.1)=N.map (·.1)) (MN:Made os T c (2*b+1) (N.map (·.2)) (S.map (·.2))):Red os L (c+1) (2*b+1) (S ++[(c,T)]) Rl :=by
 let A:=h.qH T J;let D:=h.zero T J;let hl':S.length=N.length:= ~~~sU uz g
 let Z:∀M ∈S,∃x∈N,x.1=M.1/\BJ x.2 T M.2 c/\Bd (2*b+1) M.2:=by
  intro M qX;let(i,I):=OV qX;let Ot:i<S.length:=(ir.mp I).1;let e:N[i]?==(N[i]'gu):=gE gu;let Q:(S.map (·.1))[i]?=(N.map (·.1))[i]? :=by rw[g]
  rw[Wp,Wp,I,e] at Q;let(y,H,r):=MN.to i (N[i]'gu).2 (by rw[Wp,e];rfl);rw[Wp,I] at H;simp at Q H;subst H;show(_,CU e,Q.symm,r)
 let back:∀x∈N,∃M ∈S,M.1=x.1/\BJ x.2 T M.2 c:=by
  intro x Y;let(i,I):=OV Y;let Ot:i<N.length:=(ir.mp I).1;let e:S[i]?==(S[i]'gu):=gE gu;let Q:(S.map (·.1))[i]?=(N.map (·.1))[i]? :=by rw[g]
  rw[Wp,Wp,I,e] at Q;let(y,H,r):=MN.to i x.2 (by rw[Wp,I];rfl);rw[Wp,e] at H;simp at Q H;show(_,CU e,Q,![H] r.1)
 let X:∀x∈S ++[(c,T)],x∈S \/x=(c,T):=λx Y=>~~~Y
 show {
  uK:=λx Y=>by
   rcases X x Y with z|z
   ·let(y,U,_,k,_):=Z x z
    rw[k.len];show h.uK y U
   ·subst z
    show A
  qH:=λl R=>by
   let(x,Y,k,_):=E.ex R;rw[k.len];show h.qH x (p x Y)
  cols:=λx Y=>by
   rcases X x Y with z|z
   ·let(y,U,e,_):=Z x z
    rw[<-e];show EI (h.cols y U)
   ·subst z
    show V3 _
  asc:=by
   rw[RL,g,List.pairwise_append];show(h.asc,by simp,λa ha b' iD =>?_);let(x,Y,rfl):=CS.mp ha;have:b'=c:= ~~~iD
   subst this;show h.cols x Y
  here:=λx Y=>by
   rcases X x Y with z|z
   ·let(y,U,e,k,_):=Z x z
    rw[<-e];show k.at (D _ (h.cols y U)) (h.here y U)
   ·subst z
    show hc
  off:=λx Y y U ne=>by
   rcases X x Y with z|z<;>rcases X y U with u|u
   ·let(x0,q,e0,k0,_):=Z x z
    let(o,m,Q,_):=Z y u;rw[<-Q];show k0.zero (h.off x0 q o m (by rwa[e0,Q])) (D _ (h.cols o m))
   ·subst u
    let(x0,q,e0,k0,_):=Z x z;show k0.aac
   ·subst z
    let(o,m,Q,_):=Z y u;rw[<-Q];show D _ (h.cols o m)
   ·subst z
    subst u;show CC rfl ne
  low:=λx Y j C=>by
   rcases X x Y with z|z
   ·let(y,U,e,k,_):=Z x z
    rw[<-e] at C;show k.zero (h.low y U j C) (D j (vv C (h.cols y U)))
   ·subst z
    show D j C
  zero:=λl R j C=>by
   let(x,Y,k,_):=E.ex R
   rcases OO.mp C with z|z
   ·show k.zero (h.zero x (p x Y) j z) (D j z)
   ·subst z
    show k.aac
  PY:=λx Y=>by
   rcases X x Y with z|z
   ·let(y,U,_,k,_):=Z x z
    show k.comb (h.PY y U) (h.rP T J)
   ·subst z
    show h.rP T J
  rP:=λl R=>by
   let(x,Y,k,_):=E.ex R;show k.comb (h.rP x (p x Y)) (h.rP T J)
  sol:=λz=>by
   rw[<-h.sol z];constructor
   ·rintro ⟨a1,f⟩
    let G:ev T z=0:=a1 (c,T) gN;show#[λx Y=>?_,λl R=>?_]
    ·let(M,qX,_,k):=back x Y
     show(k.ev (![A,h.uK x Y]) G).mp (a1 M (by simp[qX]))
    ·rcases QY l R with u|u
     ·rw[u]
      show G
     ·let(y,U,k,_):=E.all u
      show(k.ev (![A,h.qH l R]) G).mp (f y U)
   ·rintro ⟨a1,f⟩
    let G:=f T J;show#[λx Y=>?_,λl R=>?_]
    ·rcases X x Y with u|u
     ·let(y,U,_,k,_):=Z x u
      show(k.ev (![A,h.uK y U]) G).mpr (a1 y U)
     ·subst u
      show G
    ·let(x,Y,k,_):=E.ex R
     show(k.ev (![A,h.qH x (p x Y)]) G).mpr (f x (p x Y))
  Ya:=λx Y=>by
   rcases X x Y with z|z
   ·let(y,U,_,_,k):=Z x z
    show k
   ·subst z
    show(h.wK T J).up gu
  wK:=λl R=>by
   let(x,Y,_,k):=E.ex R;show k
  cnt:=by
   let a:=E.len;let b:=h.cnt;rw[GY,hl'];simp
   omega}
def vF (H:Hp)(BN:δ)(Y:ν):Prop:=BN.length=Y.length/\∀(i:Nat)(Z:Key×V)(x:Nat×List Int),BN[i]?==Z->Y[i]?==x->Z.1=.inl (x.1:Int)/\Ln H Z.2 x.2
theorem vF.iz (h:vF H BN nd)(s:aq H H'):vF H' BN nd:=#[h.1,λi Z x X Y=>#[(h.2 i Z x X Y).1,(h.2 i Z x X Y).2.iz s]]
def Ln.put (h:Ln H v l)(e:H d==.dK BN):Ln (upd H d o) v l:=by
 let(p,Z,k):=h;show(p,Z,by rw[ah (λz=>by erw[z,e] at k)];show k)
theorem yL.put (h:yL H us ls)(e:H d==.dK BN):yL (upd H d o) us ls:=#[h.1,λi u l Y Z=>(h.2 i u l Y Z).put e]
theorem vF.put (h:vF H BN nd)(e:H d==.dK kv2):vF (upd H d o) BN nd:=#[h.1,λi Z x X Y=>#[(h.2 i Z x X Y).1,(h.2 i Z x X Y).2.put e]]
def lF (s:aq H H')(n:H d=none):aq H (upd H' d o):=λb Z e=>by
 rw[ah (λz=>by erw[z,n] at e)];show s\e
def vF.at (h:vF H BN nd){i:Nat}(e:nd[i]?==x):∃v,BN[i]?==(.inl (x.1:Int),v)/\Ln H v x.2:=by
 let X:i<nd.length:=(ir.mp e).1;let Y:=h.1;let Z:BN[i]?==(BN[i]'gu):=gE gu;let(a,b):=h.2 i _ x Z e;show((BN[i]'gu).2,![Z,<-a],b)
def vF.keys (h:vF H BN nd):BN.map (·.1)=nd.map (λx=>(W8 (x.1:Int):Key)):=by
 show VH λi=>?_;let X:=h.1;rw[Wp,Wp];by_cases Z:i<nd.length
 ·let e:nd[i]?==nd[i]:=gE Z
  let(v,Y,_):=h.at e;rw[e,Y];rfl
 ·rw[IF gu,IF gu]
  rfl
theorem rQ :∀{BN:δ} {i:Nat},(BN.map (·.1)).Nodup->BN[i]?==(k,v)->cj BN k==v
 | [],_,_,e=>by simp at e
 | p::r,0,_,e=>by
  cases e;show cx (p:=(k,v)) rfl
 | p::r,i+1,n,e=>by
  rw[O_,VS] at n;let Z:r[i]?==(k,v):= ~~~e
  let Y:¬ p.1=k:=λz=>n.1 (![z] (CS.mpr ((k,v),CU Z,O)));rw[bX Y];show rQ n.2 Z
theorem xE :∀{BN:δ},k∉BN.map (·.1)->cj BN k=none
 | [],_=>rfl
 | p::r,h=>by
  let h':k≠p.1/\k∉r.map (·.1):= ~~~h
  rw[bX (λz=>h'.1 z.symm)];show xE h'.2
theorem map_put :∀{BN:δ} {i:Nat},(BN.map (·.1)).Nodup->BN[i]?==(k,v)->BN.map (λZ=>if Z.1=k then (Z.1,v') else Z)=BN.set i (k,v')
 | [],_,_,e=>by simp at e
 | p::r,0,n,e=>by
  rw[O_,VS] at n;cases e
  let U:r.map (λZ=>if Z.1=k then (Z.1,v') else Z)=r:=by
   show(UU (λq T=>?_)).trans (List.map_id r);let Y:¬ q.1=k:=λz=>n.1 (by change k∈_;rw[<-z];show CS.mpr (q,T,O));rw[iA Y];rfl
  rw[O_,U,iB rfl,List.set_cons_zero]
 | p::r,i+1,n,e=>by
  rw[O_,VS] at n;let X:r[i]?==(k,v):= ~~~e
  let Y:¬ p.1=k:=λz=>n.1 (![z] (CS.mpr ((k,v),CU X,O)));rw[O_,iA Y,map_put n.2 X,List.set_cons_succ]
def afN {BN:δ}(n:(BN.map (·.1)).Nodup)(e:BN[i]?==(k,v)):putK BN k v'=BN.set i (k,v'):=by
 unfold putK;rw[kZ,rQ n e];show map_put n e
theorem vF.set (h:vF H BN nd){i c:Nat}(T:Ln H v l):vF H (BN.set i (.inl (c:Int),v)) (nd.set i (c,l)):=by
 let S:=h.1;show#[by simp[S],λj U x Z Y=>?_];rw[VC] at Z Y;by_cases z:i=j
 ·subst z
  rw[iB rfl] at Z Y;by_cases X:i<BN.length
  ·rw[iB X] at Z
   rw[iB gu] at Y;cases Z;cases Y;show#[O,T]
  ·rw[iA X] at Z
   cases Z
 ·rw[iA z] at Z Y
  show h.2 j U x Z Y
def vF.snoc (h:vF H BN nd){c:Nat}(T:Ln H v l):vF H (BN++[(.inl (c:Int),v)]) (nd++[(c,l)]):=by
 let X:=h.1;show#[by simp[X],λj U x Z Y=>?_];by_cases z:j<BN.length
 ·rw[PR z] at Z
  rw[PR gu] at Y;show h.2 j U x Z Y
 ·rw[RF gu] at Z Y
  rw[<-X] at Y;by_cases y:j-BN.length=0
  ·rw[y] at Z Y
   cases Z;cases Y;show#[O,T]
  ·rw[IF (by simp;omega)] at Z
   cases Z
theorem keys_nodup:∀{Z:ν},(Z.map (·.1)).Pairwise (· < ·)->(Z.map (λx=>(W8 (x.1:Int):Key))).Nodup
 | [],_=>by simp
 | x::r,h=>by
  rw[O_,aoJ] at h;rw[O_,VS];show#[λz=>?_,keys_nodup h.2];let(y,Y,e):=CS.mp z;let X:(y.1:Int)=x.1:=FF e;have:=h.1 y.1 (CS.mpr (y,Y,O));omega
def bb (b k:Nat):Nat:=(k+1)*(b+11)
def IY (b:Nat)(h:k<=m):bb b k<=bb b m:=EM _ gu
def IZ (b k:Nat):b<=bb b k:=by
 unfold bb;rw[Pn,vo];omega
def Red.qV {os:η}(R:Red os L c b nd lv):X8 nd:=(R.asc.imp λh e=>gu,R.here,R.off)
def Pr (os:η)(l:ρ):Prop:=l∈os\/PrZ l
def Red.small {os:η}(R:Red os L c b Y T)(Z:X9 os Y T ps qs)(U:∀o∈os,Bd b0 o)(I:Y.length<=k)(M:k<=1000)(Q:∀x∈Y,Pr os x.2)(N:∀l∈T,Pr os l):Red os L c (bb b0 k) Y T:=by
 let le:∀{n:Nat},n<=(Y.length+1)*((2*(Y.length+1)*2^b0)^Y.length*2^b0)->n<=2^bb b0 k:=λ{n} h=>CP h (CP (ajm gu) (Vd gM (EM _ gu)));let z:∀{n:Nat},n=0->n<=2^bb b0 k:=λ{n} h=>![h] (RQ _)
 show {R with Ya:=λx X j=>?_,wK:=λl S j=>?_}
 ·rcases Q x X with h|h|h
  ·show CP (U _ h j) (Vd gM (IZ _ _))
  ·show le (Z.need R.qV X U h j)
  ·show z (by rw[h j];rfl)
 ·rcases N l S with h|h|h
  ·show CP (U _ h j) (Vd gM (IZ _ _))
  ·let(i,J):=OV S
   show le (Z.left R.qV J (λx X=>R.zero l S x.1 (R.cols x X)) U h j)
  ·show z (by rw[h j];rfl)
def oX {i:Nat}(h:i<=xs.length):me xs none (some (i:Int))=xs.take i:=by
 unfold me;rw[HT.xo,HT.OJ,UC h];rfl
def jr {i:Nat}(h:i<=xs.length):me xs (some (i:Int)) none=xs.drop i:=by
 unfold me;rw[HT.xo,HT.OJ,UC h];show T4 gN
theorem Red.up {os:η}(h:Red os L c b nd lv)(Y:b<=b'):Red os L c b' nd lv:={h with Ya:=λx Z=>(h.Ya x Z).up Y,wK:=λx Z=>(h.wK x Z).up Y}
def yL.erase (h:yL H us ls)(j:Nat):yL H (us.eraseIdx j) (ls.eraseIdx j):=by
 let X:=h.1;show#[![UX,UX,X],λi u l Y Z=>?_];rw[aj_] at Y Z;by_cases z:i<j
 ·rw[iB z] at Y Z
  show h.2 _ _ _ Y Z
 ·rw[iA z] at Y Z
  show h.2 _ _ _ Y Z
theorem lG {Y β:Type}{P:Nat->Y->β->Prop}:∀(xs:List Y),(∀i x,xs[i]?==x->∃y,P i x y)->∃ys:List β,ys.length=xs.length/\∀i x y,xs[i]?==x->ys[i]?==y->P i x y
 | [],_=>([],O,λi x y e=>by simp at e)
 | x::xs,h=>by
  let(y,S):=h 0 x rfl;let(ys,Q,R):=lG (P:=λi=>P (i+1)) xs (λi x e=>h (i+1) x (~~~e));show(y::ys,by simp[Q],λi T U X Z=>?_);cases i with
  | zero=>
   cases X;cases Z;show S
  | succ i=>show R i T U (~~~X) (~~~Z)
inductive oY (K:Frag)(vs:ε)(H:Hp)(Q:VK)(T:XK):Prop
|mk (a:BQ)(us:ε)(os:List (List Int:_))(L m b:Nat)(_:vs=[.ref a,.int (m:Int)])(_:aY K H a us)(_:yL H us os)(_:(∀o∈os,o.length=L))(_:m<=L)(_:L<=1000)(_:os.length<=1000)(_:(∀o∈os,Bd b o))(_:bb b .Q<=29000000)(_:∀(p d U:BQ)(BN:δ)(X :ε)(Z:ν)(Y:η)(H':Hp),aq H H' ->H d=none->H p=none->H' p==.tup [.ref d,.ref U]->H' d==.dK BN->aY K H' U X ->vF H' BN Z->yL H' X Y->Red os L m (bb b .Q) Z Y->Q (.ref p) H')
def vG:av ["lines","many","needed","left","column","at","lead","place"] uS (ae Wh):=sq
def aot (D:Def K mg "reduced" Wh uS)(bE:mg "range"=none)(cT:mg "list"=none)(axH:!am 1 "first_not_nought" Zj (IX K))(aou:!am 34 "cleared" nJ uJ):!am 35 "reduced" uS (oY K):=by
 show D.oo vG λH hr h=>?_;let(a,us,os,L,m,b,rfl,hS,hL,hlen,hm,hL1,ho,hB,hb,q):=h
 show(_,(aw 2 vG.nd fh>>aw 3 vG.nd .a>>bV Pm rfl (fu rfl bE (aU .b)) (cE 4 vG.nd) (aw 5 vG.nd (a9 axH hr (aE .d .e))>>bN (bD qj .f gO) (aj acy) aQ>>aw 6 vG.nd (bP aG .d .f)>>yF (i:=3) (tn:=FA) (fr:=["lead","column"]) (mQ:=[6,4]) vG.nd (bT (ax gS (dH fW .d fV (eO .f)) (dH fW .d (eO (ax bW .f ag)) fV))) (vD aou hr (bS .a .b .c))>>bV Pm rfl (bT (iK (qC rfl) rfl cT nH (aU .c))) (cE 7 vG.nd) (aj (d3 (cD hr) .c .h (a9 aou hr (bS (iR (cD hr) .c .h (λ_ _=>O)) .g .e)) rfl))>>aj (d3 (cD hr) .c .e .g rfl))>>aj (aC (aJ (aE .c .d)))),2);sleep 3
 show λd nd0=>?_;let s0:aq H (upd H d (.dK [])):=ar nd0 _;show(3,0,gu,gu,2)
 show let I:fM:=λi Z M=>Ex9 λ(g:BQ) (X:ε) (C:δ) (T:ν) (U:η) (o4 o5 o6 o7:Β)=>Z=[cr a,some ↥(m:Int),cr d,cr g,o4,o5,o6,o7]/\aq H M/\M d==.dK C/\aY K M g X/\yL M X U/\vF M C T/\T.length<=i/\Red os L i (bb b .Q) T U/\(∃ps qs,X9 os T U ps qs)/\(∀x∈T,Pr os x.2)/\∀l∈U,Pr os l;fU (lo:=0) (n:=m) I
  (a,us,[],[],os,none,none,none,none,O,s0,af,s0.seq hS,hL.iz s0,#[O,by simp],CK _,(Red.start hlen hB).up (IZ _ _),([],os,X9.start os),gN,λl hl=>.inl hl) ?_ ?_
 ·rintro i Z H1 hi ⟨g,X,C,T,U,o4,o5,o6,o7,rfl,s1,hd,o,WN,hN,hni,R,⟨ps,qs,Y⟩,pN,pL⟩
  show(3,g,X,U,i,by rw[VM];rfl,o,WN,λl hl=>by rw[R.qH l hl];omega,λj S H2 B ej hj=>?_,λhz H2 B=>?_)
  ·let hjl:j<U.length:=(ir.mp ej).1
   let hul:=WN.1;let cnt:=R.cnt;let hbk:=hb;let hd2:=B\hd;let hS2:=B.seq o;let hL2:=WN.iz B;let hN2:=hN.iz B;let(u,eu,hu):=hL2.at' ej;let jC:S∈U:=CU ej;show(0,7,bH (λz=>by simp at z) (λ_=>?_));show(3,g,5,hS2,b9 eu,3,0,g,X,O,hS2,λp1 n1=>?_);let t1:=ar n1 (.lst (me X none (some (j:Int))));show(3,1,0,g,X,O,t1.seq hS2,λp2 n2=>?_);let t2:=ar n2 (.lst (me X (some ((j:Int)+1)) none))
   let aov:me X none (some (j:Int))++me X (some ((j:Int)+1)) none=X.eraseIdx j:=by
    rw[oX gu,show((j:Int)+1)=((j+1:Nat):Int) from by omega,jr gu,List.eraseIdx_eq_take_drop_succ]
   let axI:(me X none (some (j:Int))).length+(me X (some ((j:Int)+1)) none).length<=CM:=by
    rw[<-GY,aov];show CP (CP (anC ..) (show X.length<=1000 by omega)) gM
   show(p1,p2,1,t2\af,af,axI,λp3 n3=>?_);let t3:=ar n3 (.lst (me X none (some (j:Int))++me X (some ((j:Int)+1)) none));show(p3,O,#[_,aY.of af],λD nD=>?_);let tt:=t1>>>t2>>>t3;let hE:=(hL2.iz tt).erase j;let hu3:=hu.iz tt;let er:(X.eraseIdx j).length<=1000:=CP (anC ..) (show X.length<=1000 by omega);show jx (oC:=[some u,some ↥((0:Int)+i)]) (K:=K) (a:=p3) (xs:=X.eraseIdx j) (λk v H=>∃x y p,(U.eraseIdx j)[k]?==x/\v=⇑p/\p≠D/\H p==.lst (y.map V.int)/\BJ x S y i/\Bd (2*bb b .Q+1) y/\(y=x\/PrZ y)) nD (K' er gM) (λH3 s3=>aY.of (s3\(![af,aov]))) ?_ ?_ ?_
   ·rintro k v H3 H4 f hD3 ks ⟨x,y,p,E,e2,e3,e4,e5⟩
    show(x,y,p,E,e2,e3,ks _ _ e3 e4,e5)
   ·rintro k x H3 RR ex s3 ⟨ys0,axK⟩ kk
    let(l,el,hl):=hE.at ex;let VJ:l∈U:=ajb (CU el);let hll:=R.qH l VJ;let hld:=R.qH S jC;show(3,0,x,u,l,S,i,bb b .Q,bb b .Q,by rw[VM];rfl,hl.iz s3,hu3.iz s3,![hll,hld],gu,gu,hj,R.wK l VJ,R.wK S jC,hbk,hbk,λv' l' H4 s4 L4 cl bd pz fr=>?_);let(p,E,e2):=L4;show kk v' H4 s4 (l,l',p,el,E,2,e2,cl,by rwa[vI],pz)
    rcases fr with z|⟨p',z,n⟩
    ·let(px',z1,z2):=hl
     erw[z1,E] at z;show ak z2 nD
    ·rw[E] at z
     cases z;show λy=>by erw[y,axK] at n
   ·intro f H3 hy gY s3 hD
    let(Rl,hl',hp):=lG (P:=λk v y=>∃x p,(U.eraseIdx j)[k]?==x/\v=⇑p/\p≠D/\H3 p==.lst (y.map V.int)/\BJ x S y i/\Bd (2*bb b .Q+1) y/\(y=x\/PrZ y)) f (λk v e=>by
     let(x,y,p,r):=gY k v e
     show(y,x,p,r))
    let hLn:yL H3 f Rl :=#[hl'.symm,λk v y E e2=>by
     let(x,p,_,e,_,r,_):=hp k v y E e2
     show(p,e,r)]
    let les:(X.eraseIdx j).length=(U.eraseIdx j).length:=hE.1
    let ML:Made os S i (2*bb b .Q+1) (U.eraseIdx j) Rl :=#[gu,λk x e=>by
     let hk:k<(U.eraseIdx j).length:=(ir.mp e).1;let E:f[k]?==(f[k]'gu):=gE gu;let e2:Rl[k]?==(Rl[k]'gu):=gE gu;let(x',p,r1,_,_,_,r2,r3,_):=hp k _ _ E e2;erw[e] at r1
     show(_,e2,r2,r3)]
    let PL:∀l∈Rl,Pr os l:=λl hl=>by
     let(k,c):=OV hl;let hk:k<Rl.length:=(ir.mp c).1;let E:f[k]?==(f[k]'gu):=gE gu;let(x',p,r1,_,_,_,_,_,r4):=hp k _ _ E c
     rcases r4 with z|z
     ·rw[z]
      show pL x' (ajb (CU r1))
     ·show .inr z
    let Pq:=tt>>>s3;let hd3:=Pq\hd2;let hN3:=hN2.iz Pq;let hu4:=hu3.iz s3;show(0,d,C,O,Rd.of hd3,λl3 n3=>?_);let t4:=ar n3 (.lst (C.map λkv=>kV kv.1));show(l3,O,#[_,aY.of af],2);let dl:d≠l3:=ak hd3 n3
    show let I:fM:=λt Z M=>Ex3 λ(o7:Β) (sV:δ) (G :ν)=>Z=[cr a,some ↥(m:Int),cr d,cr D,some ↥((0:Int)+i),some ↥(j:Int),some u,o7]/\aq H M/\M d==.dK sV/\M l3==.lst (C.map λkv=>kV kv.1)/\M D==.lst f/\yL M f Rl /\Ln M u S/\vF M sV G /\G.map (·.1)=T.map (·.1)/\ ∀(k:Nat)(x:Nat×List Int),T[k]?==x->∃y,G[k]?==(x.1,y)/\(t<=k->y=x.2)/\(k<t->(BJ x.2 S y i/\Bd (2*bb b .Q+1) y)/\(y=x.2\/PrZ y));dG (K:=K) (a:=l3) (xs:=C.map λkv=>kV kv.1) I
     (_,C,T,O,s1>>>B>>>Pq>>>t4,t4\hd3,af,t4\hD,hLn.iz t4,hu4.iz t4,hN3.iz t4,O,λk x e=>(x.2,e,λ_=>O,λz=>CC z (VA _))) (λt Z M _ h=>by
      let(_,_,_,_,_,_,h,_):=h
      show aY.of h) ?_ ?_
    ·rintro t u7 Z H4 hu7 ⟨o7,sV,G,rfl,s4,WO,hl4,hD4,hL4,hu5,Q,N,J⟩
     rw[Wp] at hu7;let(kv,xF,rfl):=OR.mp hu7;let htl:t<C.length:=(ir.mp xF).1;let hnl:=hN.1;let ex:T[t]?==(T[t]'gu):=gE gu;obtain ⟨x,A⟩:∃x,T[t]?==x:=#[_,ex];obtain ⟨kx,hxm⟩:kv.1=.inl (x.1:Int)/\x∈T:=#[(hN3.2 t kv x xF A).1,CU A];let(y,ey,y1,_):=J t x A;let y2:=y1 (CK _);subst y2;let(v,ev,hv):=Q.at ey
     let nk:(sV.map (·.1)).Nodup:=by
      rw[Q.keys];show keys_nodup (![N] R.asc)
     let vat:=rQ nk ev;let hxl:=R.uK x hxm;let hld:=R.qH S jC
     let dg:gU H4 d (kV kv.1) (some v):=by
      rw[kx,<-vat];show gU.k WO
     show(3,d,v,O,dg,3,v,u,x.2,S,i,bb b .Q,bb b .Q,by rw[VM];rfl,hv,hu5,![hxl,hld],gu,gu,hj,R.Ya x hxm,R.wK S jC,hbk,hbk,λv' l' H5 s5 L5 cl bd pz fr=>?_);let hd5:=s5\WO;let l4':=Q.1;let l5':G.length=T.length:= ~~~sU uz N
     show(3,d,0,jP.k hd5 (K' (show sV.length<=1000 by omega) gM),2);rw[kx,afN nk ev];let dn:d≠D:=λz=>by erw[z,hD4] at WO
     show(_,sV.set t (.inl (x.1:Int),v'),G.set t (x.1,l'),O,lF (s4>>>s5) nd0,af,![ah (CV dl)] (s5\hl4),![ah (CV dn)] (s5\hD4),(hL4.iz s5).put hd5,(hu5.iz s5).put hd5,((Q.iz s5).set L5).put hd5,2,λk x' c=>?_)
     ·rw[List.map_set,N]
      show VH λk=>?_;rw[VC];by_cases z:t=k
      ·subst z
       rw[iB rfl,iB (by simp;omega),Wp,A];rfl
      ·rw[iA z]
     ·let(y',X_,a1,a2):=J k x' c
      by_cases z:t=k
      ·subst z
       erw[A] at c;show(l',![VC,iB rfl,iB gu],λw=>gu,λ_=>#[#[cl,by rwa[vI]],pz])
      ·show(y',by rwa[VC,iA z],λw=>a1 gu,λw=>a2 gu)
    ·rintro Z H4 ⟨o7,sV,G,rfl,s4,WO,hl4,hD4,hL4,hu5,Q,N,J⟩
     let l4':=Q.1;let l5':G.length=T.length:= ~~~sU uz N
     let hnl:=hN.1;rw[CA] at J
     let MN:Made os S i (2*bb b .Q+1) (T.map (·.2)) (G.map (·.2)):=#[by simp[l5'],λk x e=>by
      rw[Wp] at e;let(x0,e0,rfl):=OR.mp e;let hk:k<T.length:=(ir.mp e0).1;let(y,ey,_,a2):=J k x0 e0
      show(y,by rw[Wp,ey];rfl,(a2 gu).1)]
     let hno:cj sV (.inl ((0:Int)+i))=none:=xE (λz=>by
      rw[Q.keys] at z;let(x',qX,e):=CS.mp z;let E:(x'.1:Int)=0+i:=FF e;have:x'.1∈T.map (·.1):=![<-N] (CS.mpr (x',qX,O))
      let(x,A,e2):=CS.mp this;have:=R.cols x A
      omega)
     show(3,0,d,0,jP.k (k:=.inl ((0:Int)+i)) WO (K' (show sV.length<=1000 by omega) gM),2);rw[iq u hno];let dn:d≠D:=λz=>by erw[z,hD4] at WO
     let axS:∀l∈U.eraseIdx j,l∈U:=λl h=>ajb h
     let axT:∀l∈U,l=S\/l∈U.eraseIdx j:=λl h=>by
      let(k,c):=OV h
      rcases ani k j with z|z|z
      ·show .inr (CU (i:=k) (by rwa[aj_,iB z]))
      ·subst z
       erw[ej] at c;show .inl rfl
      ·show .inr (CU (i:=k-1) (by rwa[aj_,iA gu,show k-1+1=k by omega]))
     let axU:(U.eraseIdx j).length+1=U.length:=by rw[UX,iB hjl];omega
     let R2:=R.step jC axS axT axU hj ML N MN
     let(ps',qs',O2):=Y.step R.qV ej (λx A=>R.zero S jC x.1 (R.cols x A)) hj ML.len (λk x e=>by
      let(y,ey,k1,_):=ML.to k x e
      show(y,ey,k1)) l5' λk x e=>by
      let(y,ey,k1,_):=MN.to k x e;show(y,ey,k1)
     let PN:∀x∈G ++[(i,S)],Pr os x.2:=λx A=>by
      rcases OB.mp A with z|z
      ·let(k,c):=OV z
       let hk:k<G.length:=(ir.mp c).1;obtain ⟨x0,e0⟩:∃x0,T[k]?==x0:=#[_,gE gu];let(y,ey,_,a2):=J k x0 e0;erw[c] at ey
       rcases (a2 gu).2 with u|u
       ·change Pr os y
        rw[u];show pN x0 (CU e0)
       ·show .inr u
      ·rw[OK.mp z]
       show pL S jC
     let aox:=R2.cnt;let R3:=R2.small O2 hB (k:=min m os.length) (by rw[GY] at aox ⊢;simp at aox ⊢;omega) gu PN PL;show(D,f,_,G ++[(i,S)],Rl,_,6,lF s4 nd0,af,aY.of (by rwa[ah (CV dn)]),hL4.put WO,(by rw[VM];show(Q.snoc hu5).put WO),by simp;omega,R3,(ps',qs',O2),PN,PL)
  ·show(0,7,bH (λ_=>?_) (λz=>by simp at z))
   show(g,X,C,T,U,_,6,s1>>>B,B\hd,B.seq o,WN.iz B,hN.iz B,gu,R.skip hz,(ps,qs,Y),pN,pL)
 ·rintro Z H1 ⟨g,X,C,T,U,o4,o5,o6,o7,rfl,s1,hd,o,WN,hN,hni,R,⟨ps,qs,Y⟩,pN,pL⟩
  show(3,sZ,λp np=>?_);let sp:=ar np (.tup [⇑d,⇑g]);let cnt:=R.cnt;show q p d g C X T U _ (s1>>>sp) nd0 (s1.free np) af (sp\hd) (sp.seq o) (hN.iz sp) (WN.iz sp) R
def I_ (Z:b≠0)(X:t.natAbs<=2^T)(Y:b.natAbs<=2^B):Sm T B (low t b):=(oO Z,rf Z,CP (ju Z) X,CP (jv Z) Y)
def rR {l:ρ}(h:l.length<=j):l.getD j 0=0:=by
 rw[GO,IF h];rfl
def P1 (m t:Nat)(Z:ν)(qs:θ):Prop:=qs.length=m/\(∀i,i<t->∀x,Z[i]?==x->qs[x.1]?==(low (x.2.getD m 0) (x.2.getD x.1 0)))/\∀j,j<m->(∀i,i<t->∀x,Z[i]?==x->x.1≠j)->qs[j]?==(0,1)
def P1.sm {os:η}(R:Red os (m+1) m b nd lv)(F:P1 m nd.length nd qs):∀q∈qs,Sm b b q:=by
 intro q T;let(j,X):=OV T;let Y:j<m:=by have:=(ir.mp X).1;rw[<-F.1];show this
 by_cases c:∃(i:Nat)(x:Nat×List Int),nd[i]?==x/\x.1=j
 ·let(i,x,e,rfl):=c
  let S:i<nd.length:=(ir.mp e).1;let U:=F.2.1 i S x e;erw[X] at U;let Z:=CU e;show I_ (R.here x Z) (R.Ya x Z m) (R.Ya x Z x.1)
 ·let U:=F.2.2 j Y (λi _ x e z=>c (i,x,e,z))
  erw[X] at U;show(gM,gM,RQ _,W9)
theorem P1.sol {os:η}(R:Red os (m+1) m b nd I)(F:P1 m nd.length nd qs)(hz:∀l∈I,l.getD m 0=0):∀o∈os,ev o (H_ (qs.map vl))=0:=by
 let A:=F.1
 let S:∀j q,qs[j]?==q->H_ (qs.map vl) j=vl q:=λj q e=>by
  let Z:j<qs.length:=(ir.mp e).1;unfold H_;rw[iB (by rwa[CA]),GO,Wp,e];rfl
 let M:H_ (qs.map vl) m= -1:=by
  unfold H_;rw[iA (by rw[CA];omega)]
 show(R.sol _).mp #[λx Y=>?_,λl X=>?_]
 ·let(i,e):=OV Y
  let G:i<nd.length:=(ir.mp e).1;let k:=R.cols x Y;let N:=R.here x Y;let T:=F.2.1 i G x e;let Q:=S\T;rw[mq N] at Q
  let H:∀j,j≠x.1->j≠m->((x.2.getD j 0:Int):Rat)*H_ (qs.map vl) j=0:=by
   intro j J u;by_cases Z:j<m
   ·by_cases c:∃(i:Nat)(x:Nat×List Int),nd[i]?==x/\x.1=j
    ·let(p,y,D,rfl):=c
     rw[R.off x Y y (CU D) (CV J)];simp
    ·let U:=F.2.2 j Z (λi _ x e z=>c (i,x,e,z))
     rw[S\U];unfold vl;simp;grind
   ·rw[rR (by rw[R.uK x Y];omega)]
    simp
  let L:H_ (qs.map vl)=λi=>(if i=m then 0 else H_ (qs.map vl) i)+(if i=m then -1 else 0):=by
   funext i;by_cases z:i=m
   ·rw[iB z,iB z,z,M]
    grind
   ·rw[iA z,iA z]
    grind
  rw[L,Rc]
  let B:=qD x.2 (λi=>if i=m then 0 else H_ (qs.map vl) i) x.1 (λj Z=>by
   by_cases z:j=m
   ·simp[z]
   ·rw[iA z]
    show H j Z z)
  let C:=qD x.2 (λi=>if i=m then (-1:Rat) else 0) m (λj Z=>by rw[iA Z];simp);rw[B,C];rw[iA gu,iB rfl,Q];let E:=fS N;grind
 ·show xA l _ (λj=>?_)
  have:l.getD j 0=0:=by
   by_cases T:j<m
   ·show R.zero l X j T
   ·by_cases U:j=m
    ·rw[U]
     show hz l X
    ·show rR (by rw[R.qH l X];omega)
  rw[this];simp
def P1.put {os:η}(R:Red os (m+1) m b nd lv)(F:P1 m t nd qs)(e:nd[t]?==x):P1 m (t+1) nd (qs.set x.1 (low (x.2.getD m 0) (x.2.getD x.1 0))):=by
 let X:=F.1;let N:=R.cols x (CU e)
 let Q:∀i y,i<t->nd[i]?==y->y.1≠x.1:=λi y Y Z=>by
  let a:=am7.mp R.asc i t (by rw[CA];show(ir.mp Z).1) (by rw[CA];show(ir.mp e).1) Y;simp only[aqh] at a;let S:=(ir.mp Z).2;let T:=(ir.mp e).2;rw[S,T] at a;omega
 show(by simp[X],λi Y y Z=>?_,λj U h=>?_)
 ·rcases OO.mp Y with z|z
  ·rw[VC,iA (CV (Q i y z Z))]
   show F.2.1 i z y Z
  ·subst z
   erw[e] at Z;rw[VC,iB rfl,iB gu]
 ·rw[VC,iA (h t (V3 _) x e)]
  show F.2.2 j U (λi Y y Z=>h i (EI Y) y Z)
def Rz (h:j<n):TL n (j:Int)==j:=by
 unfold TL;simp;omega
def cb.putL (h:cb K H a xs)(e:H d==.lst ys):cb K (upd H d o) a xs:=by
 rcases h with (h|⟨Z,h⟩)|h
 ·show .inl (.inl (by rw[ah (λz=>by erw[z,e] at h)];show h))
 ·show .inl (.inr #[Z,by rw[ah (λz=>by erw[z,e] at h)];show h])
 ·show .inr h
inductive qI (K:Frag)(vs:ε)(H:Hp)(Q:VK)(Y:XK):Prop
|mk (a:BQ)(us:ε)(os:List (List Int:_))(m b:Nat)(_:vs=[.ref a,.int (m:Int)])(_:aY K H a us)(_:yL H us os)(_:(∀o∈os,o.length=m+1))(_:m<=900)(_:os.length<=900)(_:(∀o∈os,Bd b o))(_:bb b .Q<=29000000)(_:(∀(l:ρ)(H':Hp),aq H H' ->l.length=m+1->uA os l->(∀j,j<m->l.getD j 0=0)->l.getD m 0≠0->Q .cS H'))(_:(∀(x:BQ)(Z :ε)(qs:θ)(H':Hp),aq H H' ->H x=none->H' x==.lst Z->bY K H' Z qs->qs.length=m->(∀q∈qs,Sm (bb b .Q) (bb b .Q) q)->(∀o∈os,ev o (H_ (qs.map vl))=0)->Q (.ref x) H'))
def P2:av ["lines","many","told","x","column","line"] uS (ae Wg):=sq
def aoy (hN:∀H:Hp,cb K H aN [↥0,↥1])(kr:mg "NOUGHT"==⇑aN)(D:Def K mg "solution_of" Wg uS)(aaW:mg "any"=none)(ajL:!am 35 "reduced" uS (oY K))(jR:!am 33 "lowest_terms" VX c8):!am 36 "solution_of" uS (qI K):=by
 show D.oo P2 λH hr h=>?_;let(a,us,os,m,b,rfl,hS,hL,C,hm,ho,hB,hb,q1,q2):=h
 show(_,(aw 2 P2.nd (a9 ajL hr (aE .a .b))>>bN (qi (aI (afX rfl) rfl aaW anF (aU (ix (tn:=FA) (fr:=["many"]) (mQ:=[1]) (bT (aH .c)) (jT OD (bP (rC (K:=K) rfl) .a .b) ag (l_ _)))))) (aj (aC gO)) aQ>>aw 3 P2.nd (ax ug .Z .b)>>bV Pm rfl (ad0 (aH .c)) (gy rfl (aK (cE 4 P2.nd) (aK (cE 5 P2.nd) cC))) (aj (gQ (a9 jR hr (aE (bP aG .f .b) (bP aG .f .e))) (i8 .d .e set_list)))>>aj (aC .d)),2);sleep 4
 show(3,a,us,os,m+1,m,b,O,hS,hL,C,gu,gu,gu,hB,hb,λp d a' BN jh nd lv H1 s1 nd0 np hp hd f hN1 hL1 R=>?_);let lu:=hL1.1;let cnt:=R.cnt;show(0,p,5,cb.of hp,i6,a',O,#[_,f],λD1 n1=>?_);show du (oC:=[some ↥(m:Int)]) (K:=K) (a:=a') (xs:=jh) (λk v _=>∃l,lv[k]?==l/\v=.bl (decide (l.getD m 0≠0))) n1 (K' (show jh.length<=1000 by omega) gM) (λH2 X=>X.seq f) (λ_ _ _ _ _ _ _ h=>h) ?_ ?_
 ·intro k x H2 RR ex X kk
  let(l,el,L,rfl,G):=hL1.at ex;let hll:=R.qH l (CU el);show(3,L,5,aY.of (X\G),vE gu,O,kk _ _ .L (l,el,2));simp
 ·intro ys H2 hy gY X hD
  let ey:ys=(lv.map λl=>decide (l.getD m 0≠0)).map V.bl:=by
   show VH λi=>?_;by_cases hi:i<ys.length
   ·let Y:ys[i]?==ys[i]:=gE hi
    let(l,el,e):=gY i _ Y;rw[Y,e,Wp,Wp,el];rfl
   ·rw[IF gu,IF (by simp;omega)]
  subst ey;show(D1,0,aY.of hD,0,2);let rS:=s1>>>X;show bH (λc=>?_) (λc=>?_)
  ·let(L,G,hb1):=UP.mp c
   let(l,A,rfl):=CS.mp G;let hn:l.getD m 0≠0:=RE hb1;show q1 l H2 rS (R.qH l A) (R.rP l A) (R.zero l A) hn
  ·let hz:∀l∈lv,l.getD m 0=0:=λl A=>by
    by_cases z:l.getD m 0=0
    ·show z
    ·show CC (UP.mpr (true,CS.mpr (l,A,Qd z),O)) c
   show#[tw,λp3 n3=>?_];let S:=ar n3 (.lst [V.ref aN]);show(0,p3,1,af,gu,gu,CP (show 1*(m:Int).toNat<=1000 by omega) gM,λx n4=>?_);let s4:=ar n4 (.lst (FZ (m:Int).toNat [V.ref aN]).flatten);let Yb:=rS>>>S>>>s4;let nx:H x=none:=(rS>>>S).free n4;let er:(FZ (m:Int).toNat [V.ref aN]).flatten=FZ m (V.ref aN):=by simp
   let hp4:=s4\(S _ _ (X _ _ hp));let WO:=s4\(S _ _ (X _ _ hd));let hN4:=((hN1.iz X).iz S).iz s4;let dx:d≠x:=ak (S\(X _ _ hd)) n4;show(0,p,5,cb.of hp4,iZ,d,BN,O,WO,λo=>?_)
   show let I:fM:=λt Z J=>Ex4 λ(o4 o5:Β) (T:ε) (Q:θ)=>Z=[cr a,some ↥(m:Int),cr p,cr x,o4,o5]/\aq H J/\J d==.w/\J x==.lst T/\bY K J T Q/\vF J BN nd/\P1 m t nd Q;uB (d:=d) (o:=o) (BN:=BN) I
    (none,none,FZ m .E,FZ m (0,1),O,lF Yb nd0,af,![ah (CV dx),af,er],#[by simp,λi u q' Y U=>?_],hN4.put WO,(by simp,λi hi=>CC hi (VA _),λj hj _=>![qM,iB hj])) (λt Z J _ h=>by
     let(_,_,_,_,_,_,h,_):=h
     show h) ?_ ?_
   ·rw[qM] at Y U
    by_cases z:i<m
    ·rw[iB z] at Y U
     cases Y;cases U;show(aN,O,hN _)
    ·rw[iA z] at Y
     cases Y
   ·rintro t k v Z H5 p7 xF ⟨o4,o5,T,Q,rfl,s5,q,N,wI,RB,F⟩ n7
    let ht:t<BN.length:=(ir.mp xF).1;let B:=RB.1;obtain ⟨c,ec⟩:∃c,nd[t]?==c:=#[_,gE gu];let(k1,k2):=RB.2 t _ c xF ec;let k1':k=.inl (c.1:Int):=k1;subst k1';let(L,eb,G):=k2;let eb':v=.ref L:=eb;subst eb';let M:=CU ec;let xv:=R.uK c M;let QM:=R.cols c M;let s7:=ar n7 (.tup [kV (.inl (c.1:Int)),⇑L]);let g:=s7\G;show(p7,0,cb.of af,O,4,1,3,L,5,aY.of g,vE gu,3,L,5,aY.of g,vE gu,4,R.here c M,λp8 H8 s8 e8=>?_);let RD:=s7>>>s8;let E:=RD\N;let l2:=wI.1;let xn:∀{b0:BQ} {o0:HO},H b0==o0->b0≠x:=λe=>ak e nx;let dx8:=RD\q;show(3,x,T,_,c.1,8,E,Rz (by rwa[l2,F.1]),2);show(9,T.set c.1 ⇑p8,Q.set c.1 (low (c.2.getD m 0) (c.2.getD c.1 0)),O,lF (s5>>>RD) nx,by rwa[ah dx],af,2,2,F.put R ec)
    ·let gV:bY K H8 (T.set c.1 ⇑p8) (Q.set c.1 (low (c.2.getD m 0) (c.2.getD c.1 0))):=(wI.iz RD).set (p8,O,cb.of e8)
     show#[gV.1,λi u q' Y U=>?_];let(p9,e9,h9):=gV.2 i u q' Y U;show(p9,e9,cb.putL h9 E)
    ·let gV:=RB.iz RD
     show#[gV.1,λi kv y Y U=>#[(gV.2 i kv y Y U).1,2]];let(p9,e9,h9):=hN1.2 i kv y Y U |>.2
     show(p9,e9,2)
     let px9:p9≠x:=λz=>by
      have:=(S\(X _ _ h9));erw[z,n4] at this
     rw[ah px9];let(p10,WQ,h10):=(gV.2 i kv y Y U).2;erw[e9] at WQ;show h10
   ·rintro Z H5 ⟨o4,o5,T,Q,rfl,s5,q,N,wI,RB,F⟩
    let B:=RB.1;rw[B] at F;show#[0,q2 x T Q H5 s5 nx N wI F.1 (F.sm R) (F.sol R hz)]
def ku (H:Hp)(r:BQ)(Z:Δ)(X:Κ):Prop:=H r==.lst (Z.map V.ref)/\Z.length=X.length/\∀(i:Nat)(l:BQ)(Y:ε),Z[i]?==l->X[i]?==Y->H l==.lst Y
def ku.iz (h:ku H r ls cB)(s:aq H H'):ku H' r ls cB:=(s\h.1,h.2.1,λi l Z X Y=>s\(h.2.2 i l Z X Y))
def Shape (T B m:Nat)(Y:ο):Prop:=∀Z∈Y,Z.length=m/\∀q∈Z,Sm T B q
def gB (K:Frag)(H:Hp)(X:Κ)(U:ο):Prop:=X.length=U.length/\∀(i:Nat)(Z:ε)(Y:θ),X[i]?==Z->U[i]?==Y->bY K H Z Y
theorem gB.iz (h:gB K H cB aX)(s:aq H H'):gB K H' cB aX:=#[h.1,λi Z Y U X=>(h.2 i Z Y U X).iz s]
def aaY {Y:Type}{xs:List Y}{x y:Y}(e:(xs++[x])[j]?==y):(j<xs.length/\xs[j]?==y)\/(j=xs.length/\x=y):=by
 by_cases c:j<xs.length
 ·rw[PR c] at e
  show .inl #[c,e]
 ·rw[RF gu] at e
  by_cases z:j-xs.length=0
  ·rw[z] at e
   show .inr #[gu,VE e]
  ·rw[IF (by simp;omega)] at e
   cases e
def ku.snoc (h:ku H r ls cB)(U:r∉ls)(G:H D==.lst us)(S:D≠r):ku (upd H r (.lst (ls.map V.ref++[⇑D]))) r (ls++[D]) (cB++[us]):=by
 let(I,Q,R):=h;show(by rw[af,RL];rfl,by simp[Q],λj l X M N=>?_)
 rcases aaY M with ⟨J,Z⟩|⟨J,Z⟩<;>rcases aaY N with ⟨L,Y⟩|⟨L,Y⟩
 ·let T:l≠r:=λz=>U (![<-z] (CU Z))
  rw[ah T];show R j l X Z Y
 ·omega
 ·omega
 ·subst Z Y
  rwa[ah S]
def ku.row (h:ku H r ls cB){i:Nat}{vs:ε}(e:cB[i]?==vs):∃l,ls[i]?==l/\H l==.lst vs:=by
 let X:i<cB.length:=(ir.mp e).1;let Y:=h.2.1;let Z:ls[i]?==(ls[i]'gu):=gE gu;show(_,Z,h.2.2 i _ _ Z e)
def m4 (Y:Κ)(j:Nat):List V:=Y.map λZ=>Z.getD j .cS
def iJ (Z:Κ)(m:Nat):List (List V):=(KA m).map λj=>m4 Z j
inductive lH (vs:ε)(H:Hp)(Q:VK)(X:XK):Prop
|mk (r:BQ)(Y:Δ)(Z:List (List V:_))(m:Int)(_:vs=[.ref r,.int m])(_:ku H r Y Z)(_:0<=m)(_:m<=1000)(_:Y.length<=1000)(_:(∀vs∈Z,m<=(vs.length:Int)))(_:∀c cs H',aq H H' ->ku H' c cs (iJ Z m.toNat)->Q (.ref c) H')
def aaZ:av ["rows","many","columns","column"] wz (ae We):=sq
def ahC (D:Def K mg "turned" We wz)(bE:mg "range"=none):!am 1 "turned" wz lH:=by
 show D.op aaZ λf bx A B s H S Q E hr h=>?_;let(r,ls,Y,m,rfl,M,m0,m1,hn,hv,q):=h
 show(_,(aw 2 aaZ.nd (bJ ij)>>bV Pm rfl (fu rfl bE (aU .b)) (cE 3 aaZ.nd) (aj (cn (nE Zn OW OS g6 .c (aU (ix (tn:=uT) (fr:=["column"]) (mQ:=[3]) (bT .a) (bP (rC (K:=K) rfl) .a .b))))))>>aj (aC .c)),2)
 let l1:=M.2.1;show#[z0L,λc j=>?_];show(3,gu,gu,2);show let I:fM:=λi Z L=>QJ λ(o:Β) (T:Δ)=>Z=[cr r,some ↥m,cr c,o]/\aq H L/\ku L c T (iJ Y i)/\c∉T;fU (lo:=0) (n:=m.toNat) I (none,[],O,ar j _,(af,O,λi l S e=>by simp at e),by simp) ?_ ?_
 ·rintro i Z L hi ⟨o,T,rfl,G,C,U⟩
  let x:=M.iz G;show(0,.inl (O,_,aY.of C.1),0,r,O,#[_,aY.of x.1],λD g=>?_);show du (oC:=[some ↥((0:Int)+i)]) (K:=K) (a:=r) (xs:=ls.map V.ref) (λk v _=>∃S,Y[k]?==S/\v=S.getD i .cS) g (![CA] (K' hn gM)) (λH2 X=>aY.of (X\x.1)) (λ_ _ _ _ _ _ _ h=>h) ?_ ?_
  ·intro k u H2 R hu X kk
   rw[Wp] at hu;let(l,el,rfl):=OR.mp hu;let hk:k<ls.length:=(ir.mp el).1;let ev:Y[k]?==(Y[k]'gu):=gE gu;let hl:=x.2.2 k l _ el ev
   have p :i<(Y[k]'gu).length:=by
    have:=hv _ (CU ev);omega
   let ea:oM (Y[k]'gu) ((0:Int)+(i:Int))==((Y[k]'gu).getD i .cS):=by
    rw[VM];show b9 (by rw[gE p,GO,gE p];rfl)
   show(3,l,5,aY.of (X\hl),ea,kk _ _ .L (_,ev,O))
  ·intro J H2 hy gY X hD
   rw[CA] at hy
   let ey:J=m4 Y i:=by
    show VH λk=>?_;unfold m4;by_cases hk:k<J.length
    ·let e1:J[k]?==J[k]:=gE hk
     let(S,ev,e2):=gY k _ e1;rw[e1,e2,Wp,ev];rfl
    ·rw[IF gu,IF (by simp;omega)]
   subst ey;let lc:T.length=i:=by have:=C.2.1;simpa[iJ] using this
   let N:D≠c:=λz=>by erw[z,C.1] at g
   let fc:∀b o,H b==o->b≠c:=λb o e=>ak e j;show(c,1,X\C.1,![CA,lc] (K' (show i<=1000 by omega) gM),2);show(_,T++[D],O,λb o e=>?_,2,λz=>?_)
   ·rw[ah (fc b o e)]
    show X\(G _ _ e)
   ·let e:iJ Y (i+1)=iJ Y i++[m4 Y i]:=by simp[iJ,EF]
    rw[e];show(C.iz X).snoc U hD N
   ·rcases OB.mp z with y|y
    ·show U y
    ·show N (OK.mp y).symm
 ·rintro Z L ⟨o,T,rfl,G,C,U⟩
  show#[0,q c T L G C]
def dj (Y:ο)(j:Nat):List (Int×Int):=Y.map λZ=>Z.getD j (0,1)
def JA (X:Shape T B m R)(N:j<m):∀q∈dj R j,Sm T B q:=λq Y=>by
 unfold dj at Y;let(U,Z,rfl):=CS.mp Y;let(Q,S):=X U Z;rw[GO,gE gu];show S _ (Sk _)
def Bd.of (h:∀t∈l,t.natAbs<=2^b):Bd b l:=λj=>by
 by_cases Z:j<l.length
 ·let e:l[j]?==l[j]:=gE Z
  rw[getD_mem e];show h _ (Sk Z)
 ·rw[rR gu]
  show RQ _
abbrev Wl:=List Int×Int×BQ×BQ
def WlP (T S:Nat)(qs:θ)(d:Int×Int)(w:Wl):Prop:=kX w.1 (qs++[d]) w.2.1/\0<w.2.1/\w.2.1.natAbs<=2^S/\∀t∈w.1,t.natAbs<=2^(T+S)
def aa0 {Z:η}(h:∀l∈Z,l.length=n)(U:j<n):m4 (Z.map λl=>l.map V.int) j=(Z.map λl=>l.getD j 0).map V.int:=by
 unfold m4;rw[Pp,Pp];show UU λl X=>?_;let Y:=h l X;let e:l[j]?==(l[j]'gu):=gE gu;change (l.map V.int).getD j .cS=.int (l.getD j 0);rw[getD_mem e,GO,Wp,e];rfl
theorem yN (j:Nat):∀{ws:List Wl} {ss ys:θ} {cs:θ},ss.length=ws.length->ys.length=ws.length->cs.length=ws.length->
  (∀(i:Nat)(w:Wl)(s y:Int×Int),ws[i]?==w->ss[i]?==s->ys[i]?==y->vl y=vl s*w.2.1)->(∀(i:Nat)(w:Wl)(c:Int×Int),ws[i]?==w->cs[i]?==c->((w.1.getD j 0:Int):Rat)=vl c*w.2.1)->rE ys cs=iu (ss.map vl) (ws.map (·.1)) j
 | [],[],[],[],_,_,_,_,_=>by simp[rE,iu]
 | w::ws,s::ss,y::ys,c::cs,Q,R,S,U,X=>by
  let T:=yN j (ws:=ws) (ss:=ss) (ys:=ys) (cs:=cs) (~~~Q) (~~~R) (~~~S) (λi w s y Y Z M=>U (i+1) w s y (~~~Y) (~~~Z) (~~~M)) (λi w c Y Z=>X (i+1) w c (~~~Y) (~~~Z));let a:=U 0 w s y rfl rfl rfl;let b:=X 0 w c rfl rfl;let N:rE (y::ys) (c::cs)=vl y*vl c+rE ys cs:=by simp[rE]
  simp only[O_,iu];rw[N,T,a,b];grind
 | [],_::_,_,_,h,_,_,_,_=>by simp at h
 | [],[],_::_,_,_,h,_,_,_=>by simp at h
 | [],[],[],_::_,_,_,h,_,_=>by simp at h
 | _::_,[],_,_,h,_,_,_,_=>by simp at h
 | _::_,_::_,[],_,_,h,_,_,_=>by simp at h
 | _::_,_::_,_::_,[],_,_,h,_,_=>by simp at h
def Ov (m:Nat)(Z:η):List (List Int):=(KA m).map (λj=>(Z.map λl=>l.getD j 0)++[0])++[(Z.map λl=>l.getD m 0)++[1]]
def JB {o:ρ}(h:o∈Ov m UI):∃k,k<m+1/\o=(UI.map λl=>l.getD k 0)++[if k=m then 1 else 0]/\True:=by
 unfold Ov at h
 rcases OB.mp h with z|z
 ·let(j,Y,rfl):=CS.mp z
  let Z:j<m:=Rb.mp Y;show(j,gu,![iA gu],trivial)
 ·show(m,gu,![iB rfl] (OK.mp z),trivial)
def ajN (h:k<m+1):(UI.map λl=>l.getD k 0)++[if k=m then 1 else 0]∈Ov m UI:=by
 unfold Ov;by_cases z:k=m
 ·subst z
  rw[iB rfl];simp
 ·rw[iA z]
  show OB.mpr (.inl (CS.mpr (k,Rb.mpr gu,O)))
def ab7 {ws:List Wl}(T:∀l∈ws.map (·.1),l.length=m+1)(D:ws.length=n)(G:uA (ws.map (·.1)) l0)(L:∀j,j<m->l0.getD j 0=0)(U:l0.getD m 0≠0)(H:uA (Ov m (ws.map (·.1))) l1)(Q:l1.length=n+1)(M:∀j,j<n->l1.getD j 0=0)(N:∀o∈Ov m (ws.map (·.1)),o.length=n+1):l1.getD n 0=0:=by
 let(Y,R,J):=G;have E :=fS U;let Z:(Y.map λa=>a*(1 / ((l0.getD m 0:Int):Rat))).length=(ws.map (·.1)).length:=by simp[R]
 let all:∀o∈Ov m (ws.map (·.1)),ev o (H_ (Y.map λa=>a*(1 / ((l0.getD m 0:Int):Rat))))=0:=by
  intro o X;let(k,C,rfl,_):=JB X;rw[Rf k _ (ws.map (·.1)) _ Z,alQ,<-J k];by_cases z:k=m
  ·subst z
   rw[iB rfl];let I:((1:Int):Rat)=1:=by simp
   rw[I];grind
  ·rw[iA z,L k gu]
   simp;grind
 let e:=ae8 (n:=n+1) H gu (λo X=>![N o X] (CK _)) all
 rw[qD l1 _ n (λj B=>by
  by_cases z:j<n
  ·rw[M j z]
   simp
  ·rw[rR gu]
   simp)] at e
 let S:H_ (Y.map λa=>a*(1 / ((l0.getD m 0:Int):Rat))) n= -1:=by
  unfold H_;rw[iA (by rw[Z,CA];omega)]
 rw[S] at e;have:((l1.getD n 0:Int):Rat)=0:=by grind
 exact_mod_cast this
def afM {d:Int×Int}(h:kX ts (qs++[d]) b)(Z:j<qs.length):((ts.getD j 0:Int):Rat)=vl (qs.getD j (0,1))*b:=by
 let l:=h.1;rw[GY] at l;simp at l;let Y:ts[j]?==(ts[j]'gu):=gE gu;let X:qs[j]?==qs[j]:=gE Z;have:=h.2 j _ _ Y (by rwa[PR Z]);rw[getD_mem Y,GO,X];show this
def acx {d:Int×Int}(h:kX ts (qs++[d]) b)(Y:qs.length=m):((ts.getD m 0:Int):Rat)=vl d*b:=by
 let l:=h.1;rw[GY] at l;simp at l;let Z:ts[m]?==(ts[m]'gu):=gE gu;have:=h.2 m _ d Z (by rw[RF gu,Y];simp);rw[getD_mem Z];show this
inductive JC (K:Frag)(vs:ε)(H:Hp)(Q:VK)(R:XK):Prop
|mk (r dl:BQ)(m:Nat)(U:Δ)(X:List (List V:_))(Z:ο)(Y:ε)(ds:θ)(T B S σ:Nat)(_:vs=[.ref r,.ref dl,.int (m:Int)])(_:ku H r U X)(_:gB K H X Z)(_:H dl==.lst Y)(_:bY K H Y ds)(_:ds.length=Z.length)(_:Shape T B m Z)(_:(∀d∈ds,Sm T B d))(_:(∀(i:Nat)(qs:θ)(d:Int×Int),Z[i]?==qs->ds[i]?==d->pB (qs++[d])<=2^S))(_:m<=100)(_:Z.length<=100)(_:T<=14000000)(_:S<=14000000)(_:B<=14000000)(_:bb (T+S) (min (m+1) Z.length)<=σ)(_:σ<=29000000)(_:(∀(p x:BQ)(us:ε)(xs:θ)(H':Hp),aq H H' ->H' p==.tup [.str "solved",.ref x]->H' x==.lst us->bY K H' us xs->xs.length=m->(∀q∈xs,Sm σ σ q)->Q (.ref p) H'))(_:(∀(p y:BQ)(us:ε)(ys:θ)(H':Hp),aq H H' ->H' p==.tup [.str "paper",.ref y]->H' y==.lst us->bY K H' us ys->ys.length=Z.length->(∀q∈ys,Sm (σ+S) σ q)->(∀j,j<m->rE ys (dj Z j)=0)->rE ys ds=1->Q (.ref p) H'))
def yO:av ["rows","due","many","wholes","lines","x","columns","papers","shares"] lK (ae Wd):=sq
def aoD (D:Def K mg "solve_rows" Wd lK)(dY:mg "zip"=none)(a_:mg "len"=none)(JD:!am 33 "whole_row" uT (WM K))(aoE:!am 36 "solution_of" uS (qI K))(RG:!am 1 "turned" wz lH)(jR:!am 33 "lowest_terms" VX c8):
  am P w K mg gV 37 "solve_rows" lK (JC K):=by
 show D.op yO λf bx A outer s H vs Q E hr h=>?_;let(r,dl,m,ls,cB,C,dus,ds,T,B,S,σ,rfl,M,NN,hdl,ND,hds,sh,sd,hPB,hm,hn,hT,hB,hB1,hZ,hZ1,q1,q2):=h
 show(_,(Rm (i:=3) (tn:=["row","number"]) (fr:=[]) (mQ:=[]) yO.nd (nN rfl dY (aE .a .b)) .n .o (vD JD hr (aU (ax gS .a (bJ (aU .b)))))>>yF (i:=4) (tn:=["whole"]) (fr:=[]) (mQ:=[]) yO.nd (bT .d) .D>>aw 5 yO.nd (a9 aoE hr (aE .e .c))>>bN (bD ago .f gO) (aj (aC (aJ (aE dQ .f)))) aQ>>aw 6 yO.nd (a9 RG hr (aE .e (ax bW .c ag)))>>aw 7 yO.nd (ax gS (ix (tn:=["column"]) (fr:=[]) (mQ:=[]) (bT (dH fW .g fV (eO .c))) (ax gS .a (bJ (aU ag)))) (bJ (aU (ax gS (bP aG .g .c) (bJ (aU ag))))))>>aw 8 yO.nd (a9 aoE hr (aE .h (aI ay rfl a_ cu (aU .e))))>>aj (aC (aJ (aE dQ (uE (tn:=za4) (fr:=[]) (mQ:=[]) (nN rfl dY (aE .i .d)) .n .o (vD jR hr (aE (ax xB .D (bP (eQ (K:=K) rfl) .b ag)) .D))))))),2);sleep 6
 let l1:=M.2.1;let l2:=NN.1;let l3:=ND.1;show(3,r,dl,O,#[_,aY.of M.1],#[_,aY.of hdl],λD1 n1=>?_);show ur (oC:=[]) (K:=K) (xs:=ls.map V.ref) (ys:=dus) (λi v H=>∃w:Wl,v=⇑w.2.2.2/\w.2.2.1≠D1/\H w.2.2.2==.tup [⇑w.2.2.1,↥w.2.1]/\H w.2.2.1==.lst (w.1.map V.int)/\∀X d,C[i]?==X->ds[i]?==d->WlP T S X d w) n1 (![CA] (K' (show ls.length<=1000 by omega) gM)) (by rw[CA];omega) (λH2 s2=>aY.of (s2\M.1)) (λH2 s2=>aY.of (s2\hdl)) ?_ ?_ ?_
 ·rintro i v H2 H3 ys hD ks ⟨w,Y,Z,g,e4,e5⟩
  show(w,Y,Z,ks _ _ (λz=>by erw[z,hD] at g) g,ks _ _ Z e4,e5)
 ·rintro i x y H2 RR ex ey s2 ⟨ys0,hD0⟩ kk
  rw[Wp] at ex;let(l,el,rfl):=OR.mp ex;let hi:i<ls.length:=(ir.mp el).1;obtain ⟨X,eq⟩:∃X,C[i]?==X:=#[_,gE gu];obtain ⟨vs,ev⟩:∃vs,cB[i]?==vs:=#[_,gE gu];let hl:=M.2.2 i l vs el ev;let hq:=NN.2 i vs X ev eq;let(d,ed,nd):=ND.at ey;let(lq,sq):=sh X (CU eq);let lvs:=hq.1;show(3,tw,λp1 np1=>?_);let t1:=ar np1 (.lst [y]);show(l,p1,vs,0,O,t1\(s2 _ _ hl),af,CP (show vs.length+1<=1000 by omega) gM,λp2 np2=>?_);let t2:=ar np2 (.lst (vs++[y]));let t12:=t1>>>t2;show(p2,X++[d],T,B,S,O,(_,aY.of af,(bY.snoc ((hq.iz s2).iz t12) ((nd.iz s2).iz t12))),λq' pI =>?_,hPB i X d eq ed,gu,gu,gu,by rw[GY,lq];change m+1<=1000;omega,λp3 l3' ts b H3 s3 nl hp3 hl3 hb hbs wh hts=>?_)
  ·rcases OB.mp pI with z|z
   ·show sq q' z
   ·rw[OK.mp z]
    show sd d (CU ed)
  ·show kk _ _ (t12>>>s3) ((ts,(b,(l3',p3))),O,λz=>?_,hp3,hl3,λqs' d' Y Z=>?_)
   ·have:=t12\hD0
    erw[show l3'=D1 from z,this] at nl
   ·rw[eq] at Y
    rw[ed] at Z;cases Y;cases Z;show(wh,hb,hbs,hts)
 ·intro zs H2 hz gY s2 hD1
  rw[CA] at hz;let(ws,lw,hw):=lG (P:=λi v (w:Wl)=>v=⇑w.2.2.2/\w.2.2.1≠D1/\H2 w.2.2.2==.tup [⇑w.2.2.1,↥w.2.1]/\H2 w.2.2.1==.lst (w.1.map V.int)/\∀X d,C[i]?==X->ds[i]?==d->WlP T S X d w) zs gY
  let ez:zs=ws.map (λw=>V.ref w.2.2.2):=by
   show VH λi=>?_;rw[Wp];by_cases hi:i<zs.length
   ·let Y:zs[i]?==zs[i]:=gE hi
    let Z:ws[i]?==(ws[i]'gu):=gE gu;let h:=(hw i _ _ Y Z).1;rw[Y,Z,h];rfl
   ·rw[IF gu,IF gu]
    rfl
  subst ez;let R:ws.length=C.length:=gu
  let wat:∀(i:Nat)(w:Wl),ws[i]?==w->H2 w.2.2.2==.tup [⇑w.2.2.1,↥w.2.1]/\H2 w.2.2.1==.lst (w.1.map V.int)/\∀X d,C[i]?==X->ds[i]?==d->WlP T S X d w:=λi w e=>(hw i _ w (by rw[Wp,e];rfl) e).2.2
  let wp:∀(i:Nat)(w:Wl),ws[i]?==w->∃X d,C[i]?==X/\ds[i]?==d/\WlP T S X d w:=λi w e=>by
   let hi:i<ws.length:=(ir.mp e).1;obtain ⟨X,eq⟩:∃X,C[i]?==X:=#[_,gE gu];obtain ⟨d,ed⟩:∃d,ds[i]?==d:=#[_,gE gu];show(X,d,eq,ed,(wat i w e).2.2 X d eq ed)
  let WS:∀l∈ws.map (·.1),l.length=m+1:=λl hl=>by
   let(w,hw',rfl):=CS.mp hl;let(i,e):=OV hw';let(X,d,eq,_,wh,_):=wp i w e;have:=wh.1;rwa[GY,(sh X (CU eq)).1] at this
  let wbd:∀l∈ws.map (·.1),Bd (T+S) l:=λl hl=>by
   let(w,hw',rfl):=CS.mp hl;let(i,e):=OV hw';let(X,d,eq,_,_,_,_,h):=wp i w e;show Bd.of h
  let hlm:(ws.map (·.1)).length=C.length:=by rwa[CA]
  show(0,D1,O,#[_,aY.of hD1],λD2 n2=>?_);show du (oC:=[]) (K:=K) (a:=D1) (xs:=ws.map (λw=>V.ref w.2.2.2)) (λk v _=>∃w,ws[k]?==w/\v=⇑w.2.2.1) n2 (![CA] (K' (show ws.length<=1000 by omega) gM)) (λH3 s3=>aY.of (s3\hD1)) (λ_ _ _ _ _ _ _ h=>h) ?_ ?_
  ·intro k x H3 RR ex s3 kk
   rw[Wp] at ex;let(w,N,rfl):=OR.mp ex;show(0,w.2.2.2,5,cb.of (s3 _ _ (wat k w N).1),iZ,kk _ _ .L (w,N,O))
  intro ys H3 hy aa1 s3 hD2
  let ey:ys=(ws.map (λw=>w.2.2.1)).map V.ref:=by
   show VH λi=>?_;rw[CA] at hy;by_cases hi:i<ys.length
   ·let Y:ys[i]?==ys[i]:=gE hi
    let(w,Z,g):=aa1 i _ Y;rw[Y,g,Wp,Wp,Z];rfl
   ·rw[IF gu,IF (by simp;omega)]
  subst ey
  let hLl:yL H3 ((ws.map (λw=>w.2.2.1)).map V.ref) (ws.map (·.1)):=#[by simp,λi u l Y Z=>by
   rw[Wp,Wp] at Y;rw[Wp] at Z;cases e:ws[i]? with
   | none=>erw[e] at Z
   | some w=>
    rw[e] at Y Z;cases Y;cases Z
    show(w.2.2.1,O,s3 _ _ (wat i w e).2.1)]
  let hMm:ku H3 D2 (ws.map (λw=>w.2.2.1)) ((ws.map (·.1)).map λl=>l.map V.int):=(hD2,by simp,λi l vs Y Z=>by
   rw[Wp] at Y;rw[Wp,Wp] at Z;cases e:ws[i]? with
   | none=>erw[e] at Z
   | some w=>
    rw[e] at Y Z;cases Y;cases Z
    show s3 _ _ (wat i w e).2.1)
  let mn:bb (T+S) (min m (ws.map (·.1)).length)<=σ:=CP (IY _ (by rw[hlm];omega)) hZ;let s23:=s2>>>s3;show(3,D2,_,ws.map (·.1),m,T+S,O,aY.of hD2,hLl,WS,gu,gu,wbd,CP mn hZ1,λl0 H4 s4 l0l cm l00 l0m=>?_,λx jh xs H4 s4 nx hx nxs lxs sxs _=>?_)
  ·show(0,7,bH (λz=>by simp at z) (λ_=>?_))
   let M4:=hMm.iz s4;show(3,1,D2,ws.map (λw=>w.2.2.1),_,(m:Int)+1,O,M4,gu,gu,by rw[CA];omega,λvs hvs=>?_,λc cs H5 s5 M5=>?_)
   ·let(l,hl,rfl):=CS.mp hvs
    rw[CA,WS l hl];omega
   let lcs:cs.length=m+1:=by
    have:=M5.2.1;unfold iJ at this;simp at this;omega
   let col:∀k,k<m+1->∃l,cs[k]?==l/\H5 l==.lst (((ws.map (·.1)).map λl=>l.getD k 0).map V.int):=λk I=>by
    let e:(iJ ((ws.map (·.1)).map λl=>l.map V.int) ((m:Int)+1).toNat)[k]?==(((ws.map (·.1)).map λl=>l.getD k 0).map V.int):=by
     rw[<-aa0 WS I];unfold iJ;rw[Wp,qL gu];rfl
    show M5.row e
   show(3,0,c,0,aY.of M5.1,λp6 n6=>?_);let t6:=ar n6 (.lst (me (cs.map V.ref) none (some (m:Int))));show(p6,O,#[_,aY.of af],λD6 nD6=>?_);let lcl:((ws.map (·.1)).map λl=>l.getD 0 0).length<=100:=by simp;omega
   show jx (oC:=[]) (K:=K) (a:=p6) (xs:=(cs.map V.ref).take m) (λk v H=>∃p,v=⇑p/\p≠D6/\H p==.lst ((List.map (λl:List Int=>l.getD k 0) (ws.map (λw:Wl=>w.1))++[(0:Int)]).map V.int)) nD6 (K' (show((cs.map V.ref).take m).length<=1000 by simp;omega) gM) (λH7 s7=>aY.of (s7\(![af,oX (by simp;omega)]))) ?_ ?_ ?_
   ·rintro k v H7 H8 ys hD ks ⟨p,Y,Z,g⟩
    show(p,Y,Z,ks _ _ Z g)
   ·rintro k x H7 RR ex s7 ⟨ys0,wH⟩ kk
    let I:k<m:=by have:=(ir.mp ex).1;simp at this;omega
    let(l,el,hl):=col k gu;erw[yw,iB I,Wp,el] at ex;show(0,tw,λpz nz=>?_);let tz:=ar nz (.lst [↥0]);show(l,pz,1,tz\(s7 _ _ (t6 _ _ hl)),af,CP (show _<=1000 by simp;omega) gM,λJ nn=>?_);let tn:=ar nn (.lst (((ws.map (·.1)).map λl=>l.getD k 0).map V.int++[↥0]));show kk _ _ (tz>>>tn) (J,O,λz=>?_,by rw[af,RL];rfl);have:=tz\wH;erw[z,this] at nn
   intro U H7 hy6 aoK s7 hD6;let ly6:U.length=m:=by rw[hy6];simp;omega
   let t67:=t6>>>s7;let(lm,elm,ax8):=col m gu;show(3,c,5,aY.of (t67\M5.1),b9 (by rw[Wp,elm];rfl),tw,λpz nz=>?_);let tz:=ar nz (.lst [↥1]);show(lm,pz,1,tz\(t67 _ _ ax8),af,CP (show _<=1000 by simp;omega) gM,λJ nn=>?_);let tn:=ar nn (.lst (((ws.map (·.1)).map λl=>l.getD m 0).map V.int++[↥1]));show#[tw,λpL nL=>?_];let tL:=ar nL (.lst [V.ref J]);let tzL:=tz>>>tn>>>tL;show(D6,pL,U,0,O,tzL\hD6,af,CP (show U.length+1<=1000 by omega) gM,λpP nP=>?_);let tP:=ar nP (.lst (U++[V.ref J]));let s7P:=tzL>>>tP;let hpn:=tP\(tL _ _ (af (H:=upd H7 pz (.lst [↥1])) (a:=J) (o:=.lst (((ws.map (·.1)).map λl=>l.getD m 0).map V.int++[↥1]))));let eP:upd (upd (upd (upd H7 pz (.lst [↥1])) J (.lst (((ws.map (·.1)).map λl=>l.getD m 0).map V.int++[↥1]))) pL (.lst [V.ref J])) pP (.lst (U++[V.ref J])) pP==.lst (U++[V.ref J]):=af
   let ax':∀(k:Nat)(v:V),U[k]?==v->Ln H7 v (((ws.map (·.1)).map λl=>l.getD k 0)++[0]):=λk v e=>by
    let(p,Y,_,g):=aoK k v e;show(p,Y,g)
   let s5P:=t67>>>s7P;generalize upd (upd (upd (upd H7 pz (.lst [↥1])) J (.lst (((ws.map (·.1)).map λl=>l.getD m 0).map V.int++[↥1]))) pL (.lst [V.ref J])) pP (.lst (U++[V.ref J]))=H9 at*
   let aya:yL H9 (U++[V.ref J]) (Ov m (ws.map (·.1))):=by
    show#[by simp[Ov,ly6],λk u l Y Z=>?_];unfold Ov at Z;by_cases I:k<m
    ·rw[PR gu] at Y
     erw[PR (~~~I),Wp,qL I] at Z;show(ax' k u Y).iz s7P
    ·rw[RF gu] at Y
     rw[RF (by simp;omega)] at Z;by_cases hkm:k=m
     ·subst hkm
      rw[show k-U.length=0 by omega] at Y;rw[show k-((KA k).map λj=>((ws.map (·.1)).map λl=>l.getD j 0)++[0]).length=0 by simp] at Z;cases Y;cases Z;show(J,O,by rw[hpn,RL];rfl)
     ·rw[IF (by simp;omega)] at Y
      cases Y
   let ppl:∀o∈Ov m (ws.map (·.1)),o.length=C.length+1:=λo ho=>by
    rcases JB ho with ⟨k,I,e⟩
    rw[e.1];simp[R]
   let ppb:∀o∈Ov m (ws.map (·.1)),Bd (T+S) o:=λo ho=>by
    rcases JB ho with ⟨k,I,e,hc⟩
    rw[e];show Bd.of λt ht=>?_
    rcases OB.mp ht with z|z
    ·let(l,hl,rfl):=CS.mp z
     show wbd l hl k
    ·rw[OK.mp z]
     show CP ?_ (W9 (n:=T+S));split<;>decide
   let lpp:(Ov m (ws.map (·.1))).length=m+1:=by simp[Ov]
   let mn2:bb (T+S) (min C.length (Ov m (ws.map (·.1))).length)<=σ:=CP (IY _ (by rw[lpp];omega)) hZ;let s39:=s4>>>s5>>>s5P;show(3,D2,0,.inl (aY.of (s39\hD2)),pP,_,Ov m (ws.map (·.1)),C.length,T+S,by simp[R],aY.of eP,aya,ppl,gu,gu,ppb,CP mn2 hZ1,λl1 Vz BV l1l cm1 l10 l1m=>?_,λx2 vW ss Vz BV nx2 Vr nss lss sss ayd=>?_)
   ·show CC (ab7 WS R cm l00 l0m cm1 l1l l10 ppl) l1m
   let csm:∀k,k<m+1->iu (ss.map vl) (ws.map (·.1)) k=if k=m then 1 else 0:=λk I=>by
    let e:=ayd _ (ajN I);rw[Rf k _ (ws.map (·.1)) (ss.map vl) (by simp[R,lss])] at e;by_cases z:k=m
    ·rw[iB z] at e ⊢
     let e':((1:Int):Rat)=1:=by simp
     rw[e'] at e;grind
    ·rw[iA z] at e ⊢
     let e':((0:Int):Rat)=0:=by simp
     rw[e'] at e;grind
   let ajQ:=s39>>>BV;let aoM:=ajQ\(s3 _ _ hD1);let aPB:=nss.1;show(3,x2,D1,O,#[_,aY.of Vr],#[_,aY.of aoM],λD9 n9=>?_);show nO (oC:=[]) (K:=K) (xs:=vW) (ys:=ws.map (λw=>V.ref w.2.2.2)) (λk v H=>∃w q,ws[k]?==w/\ss[k]?==q/\Nm H v (low (q.1*w.2.1) q.2)) n9 (K' (show vW.length<=1000 by omega) gM) (by rw[CA];omega) (λwB HX=>aY.of (HX\Vr)) (λwB HX=>aY.of (HX\aoM)) ?_ ?_ ?_
   ·rintro k v wB H12 ys hD ks ⟨w,q,Y,Z,g⟩
    show(w,q,Y,Z,g.kept hD ks)
   ·intro k x y wB RR ex ey HX kk
    let(q,L,ps,rfl,hps):=nss.at ex;rw[Wp] at ey;let(w,N,rfl):=OR.mp ey;let(X,d,G,eds,wh,wb,wbs,_):=wp k w N;let sq:=sss q (CU L);let hw1:=HX\(ajQ _ _ (s3 _ _ (wat k w N).1));let aoO:=Ty.aq.iM HX hps;show(0,ps,5,aoO,iZ,0,w.2.2.2,5,cb.of hw1,i6,1,rH (iW sq.top mn2) wbs gu,0,ps,5,aoO,i6,4,by have:=sq.pos;omega,λp8 H8 s8 e8=>kk _ _ s8 (w,q,N,L,p8,O,e8))
   intro us9 wB h9 aoP HX hD9;show#[sZ,λp12 n12=>?_];let rS:=ar n12 (.tup [.str "paper",⇑D9]);let yat:∀(k:Nat)(w:Wl)(q:Int×Int),ws[k]?==w->ss[k]?==q->(Rr (λ(w:Wl) (q:Int×Int)=>low (q.1*w.2.1) q.2) ws ss)[k]?==(low (q.1*w.2.1) q.2):=λk w q Y Z=>by rw[vS,Y,Z]
   let aa2:(Rr (λ(w:Wl) (q:Int×Int)=>low (q.1*w.2.1) q.2) ws ss).length=C.length:=by simp[R,lss]
   let vly:∀(k:Nat)(w:Wl)(q y:Int×Int),ws[k]?==w->ss[k]?==q->(Rr (λ(w:Wl) (q:Int×Int)=>low (q.1*w.2.1) q.2) ws ss)[k]?==y->vl y=vl q*w.2.1:=λk w q y Y Z g=>by
    erw[yat k w q Y Z] at g;let sq:=sss q (CU Z);rw[mq (by have:=sq.pos;omega)];unfold vl;push_cast;grind
   show q2 p12 D9 us9 (Rr (λ(w:Wl) (q:Int×Int)=>low (q.1*w.2.1) q.2) ws ss) _ (s23>>>ajQ>>>HX>>>rS) af (rS\hD9) #[by rw[h9,aa2];omega,λk u y Y Z=>?_] aa2 (λy hy=>?_) (λj hj=>?_) ?_
   ·let(w,q,N,L,p,e,hp):=aoP k u Y
    erw[yat k w q N L] at Z;show(p,e,cb.of (rS\hp))
   ·let(k,I):=OV hy
    let hkl:k<C.length:=by rw[<-aa2];show(ir.mp I).1
    obtain ⟨w,N⟩:∃w,ws[k]?==w:=#[_,gE gu];obtain ⟨q,L⟩:∃q,ss[k]?==q:=#[_,gE gu];erw[yat k w q N L] at I;let(X,d,G,eds,wh,wb,wbs,_):=wp k w N;let sq:=sss q (CU L);show I_ (by have:=sq.pos;omega) (mw (iW sq.top mn2) wbs) (iW sq.bot mn2)
   ·rw[yN j (ws:=ws) (ss:=ss) gu (![aa2,R]) (by simp[dj,R]) vly ?_,csm j gu,iA gu]
    intro k w cq N ec;let(X,d,G,eds,wh,_):=wp k w N;unfold dj at ec;erw[Wp,G] at ec;show afM wh (by rwa[(sh X (CU G)).1])
   ·rw[yN m (ws:=ws) (ss:=ss) gu (![aa2,R]) gu vly ?_,csm m gu,iB rfl]
    intro k w cq N ec;let(X,d,G,eds,wh,_):=wp k w N;erw[ec] at eds;show acx wh (sh X (CU G)).1
  ·show(0,7,bH (λ_=>?_) (λz=>by simp at z))
   show(0,sZ,λp5 n5=>?_);let s5:=ar n5 (.tup [.str "solved",⇑x]);show q1 p5 x jh xs _ (s23>>>s4>>>s5) af (s5\hx) (nxs.iz s5) lxs (λq hq=>(sxs q hq).up mn mn)
def jD (c m t:Nat)(Z:ν)(qs:θ):Prop:=qs.length=m/\qs[c]?==(1,1)/\(∀i,i<t->∀x,Z[i]?==x->qs[x.1]?==(low (-(x.2.getD c 0)) (x.2.getD x.1 0)))/\∀j,j<m->j≠c->(∀i,i<t->∀x,Z[i]?==x->x.1≠j)->qs[j]?==(0,1)
def jD.put {os:η}(R:Red os L m b Y lv)(F:jD c m t Y qs)(N:∀y∈Y,y.1≠c)(e:Y[t]?==x):jD c m (t+1) Y (qs.set x.1 (low (-(x.2.getD c 0)) (x.2.getD x.1 0))):=by
 let T:=F.1;let H:=R.cols x (CU e);let U:=N x (CU e)
 let I:∀i y,i<t->Y[i]?==y->y.1≠x.1:=λi y X Z=>by
  let a:=am7.mp R.asc i t (by rw[CA];show(ir.mp Z).1) (by rw[CA];show(ir.mp e).1) X;simp only[aqh] at a;let J:=(ir.mp Z).2;let M:=(ir.mp e).2;rw[J,M] at a;omega
 show(by simp[T],![VC,iA U] F.2.1,λi X y Z=>?_,λj Q S h=>?_)
 ·rcases OO.mp X with z|z
  ·rw[VC,iA (CV (I i y z Z))]
   show F.2.2.1 i z y Z
  ·subst z
   erw[e] at Z;rw[VC,iB rfl,iB gu]
 ·rw[VC,iA (h t (V3 _) x e)]
  show F.2.2.2 j Q S (λi X y Z=>h i (EI X) y Z)
def Ln.ks (h:Ln H v l)(r:Rd H d (.dK BN))(k:aZ d H H'):Ln H' v l:=by
 let(p,e,z):=h;show(p,e,k p _ (λy=>?_) z);rw[y] at z
 rcases r with r|⟨o,r⟩<;>(erw[r] at z)
theorem vF.ks (h:vF H BN nd)(r:Rd H d (.dK kv2))(k:aZ d H H'):vF H' BN nd:=#[h.1,λi Z x X Y=>#[(h.2 i Z x X Y).1,(h.2 i Z x X Y).2.ks r k]]
def aZ.step (k:aZ d H H')(s:aq H' H2):aZ d H H2:=λb o n e=>s\(k b o n e)
def aZ.put (k:aZ d H H')(n:H x=none):aZ d H (upd H' x o):=λb Z Y e=>by
 rw[ah (λz=>by erw[z,n] at e)];show k b Z Y e
inductive JE (K:Frag)(vs:ε)(H:Hp)(Q:VK)(X:XK):Prop
|mk (d:BQ)(c m L b:Nat)(BN:δ)(Z:ν)(os Y:List (List Int:_))(_:vs=[.ref d,.int (c:Int),.int (m:Int)])(_:Rd H d (.dK BN))(_:vF H BN Z)(_:Red os L m b Z Y)(_:m<=L)(_:m<=900)(_:c<m)(_:(∀y∈Z,y.1≠c))(_:∀(x:BQ)(us:ε)(qs:θ)(o:Obj)(H':Hp),aZ d H H' ->H' d==.w->H x=none->H' x==.lst us->bY K H' us qs->jD c m Z.length Z qs->Q (.ref x) H')
def iS:av ["needed","column","many","numbers","place","line"] p_ (ae fY):=sq
def aak (hN:∀H:Hp,cb K H aN [↥0,↥1])(kr:mg "NOUGHT"==⇑aN)(hO:∀H:Hp,cb K H aO [↥1,↥1])(WT:mg "ONE"==⇑aO)(D:Def K mg "spare_list" fY p_)(jR:!am 33 "lowest_terms" VX c8):!am 34 "spare_list" p_ (JE K):=by
 show D.oo iS λH hr h=>?_;let(d,c,m,L,b,BN,nd,os,lv,rfl,rd,f,R,hmL,hm,hc,hnc,q):=h
 show(_,(aw 3 iS.nd (ax ug .Z .c)>>gQ (eJ (v:=⇑aO) rfl WT rfl) (i8 .d .b set_list)>>bV Pm rfl (adu .a) (gy rfl (aK (cE 4 iS.nd) (aK (cE 5 iS.nd) cC))) (aj (gQ (a9 jR hr (aE (gw dm (bP aG .f .b)) (bP aG .f .e))) (i8 .d .e set_list)))>>aj (aC .d)),2);sleep 3
 show#[tw,λB n3=>?_];let s3:=ar n3 (.lst [V.ref aN]);show(0,B,1,af,gu,gu,CP (show 1*(m:Int).toNat<=1000 by omega) gM,λx n4=>?_);let er:(FZ (m:Int).toNat [V.ref aN]).flatten=FZ m (V.ref aN):=by simp
 rw[er];let s4:=ar n4 (.lst (FZ m .E));let G:H x=none:=s3.free n4
 let xd:d≠x:=by
  rcases rd with r|⟨o,r⟩
  ·show ak r G
  ·show ak r G
 show(3,x,9,c,8,af,![vT] (Rz hc),2);let s5:aq H (upd (upd (upd H B (.lst [V.ref aN])) x (.lst (FZ m .E))) x (.lst ((FZ m .E).set c (V.ref aO)))):=lF (s3>>>s4) G
 let C:Rd (upd (upd (upd H B (.lst [V.ref aN])) x (.lst (FZ m .E))) x (.lst ((FZ m .E).set c (V.ref aO)))) d (.dK BN):=by
  rcases rd with r|⟨o,r⟩
  ·show .inl (s5\r)
  ·show .inr #[o,s5\r]
 let x5:upd (upd (upd H B (.lst [V.ref aN])) x (.lst (FZ m .E))) x (.lst ((FZ m .E).set c (V.ref aO))) x==.lst ((FZ m .E).set c (V.ref aO)):=af;generalize upd (upd (upd H B (.lst [V.ref aN])) x (.lst (FZ m .E))) x (.lst ((FZ m .E).set c (V.ref aO)))=H5 at*;let RB:=f.iz s5;show(0,d,BN,O,C,λo=>?_);let k5:aZ d H (upd H5 d .w):=λb o' n e=>![ah n] (s5\e)
 let k55:aZ d H5 (upd H5 d .w):=λb o' n e=>by rwa[ah n]
 show let I:fM:=λt Z E=>Ex4 λ(o4 o5:Β) (S:ε) (Q:θ)=>Z=[cr d,some ↥(c:Int),some ↥(m:Int),cr x,o4,o5]/\aZ d H E/\E d==.w/\E x==.lst S/\bY K E S Q/\vF E BN nd/\jD c m t nd Q;uB (d:=d) (o:=o) (BN:=BN) I
  (none,none,(FZ m .E).set c (V.ref aO),(FZ m (0,1)).set c (1,1),O,k5,af,by rwa[ah (CV xd)],bY.set #[by simp,λi u q' X T=>?_] (aO,O,hO _),RB.ks C k55,(by simp,![VC,iB rfl,iB (~~~hc)],λi hi=>CC hi (VA _),λj hj jc _=>![VC,iA (CV jc),qM,iB hj])) (λt Z E _ h=>by
   let(_,_,_,_,_,_,h,_):=h
   show h) ?_ ?_
 ·rw[qM] at X T
  by_cases z:i<m
  ·rw[iB z] at X T
   cases X;cases T;show(aN,O,hN _)
  ·rw[iA z] at X
   cases X
 ·rintro t k v Z H6 p7 xF ⟨o4,o5,S,Q,rfl,k6,J,M,U,Y,F⟩ n7
  let ht:t<BN.length:=(ir.mp xF).1;let p:=Y.1;obtain ⟨y,ey⟩:∃y,nd[t]?==y:=#[_,gE gu];let(k1,k2):=Y.2 t _ y xF ey;let k1':k=.inl (y.1:Int):=k1;subst k1';let(b',eb,iD):=k2;let eb':v=.ref b':=eb;subst eb';let N:=CU ey;let hyl:=R.uK y N;let hyc:=R.cols y N;let s7:=ar n7 (.tup [kV (.inl (y.1:Int)),⇑b']);let g:=s7\iD;show(p7,0,cb.of af,O,4,1,3,b',5,aY.of g,vE gu,3,0,b',5,aY.of g,vE gu,4,R.here y N,λp8 H8 s8 e8=>?_);let a:=s7>>>s8;let A:=a\M;let l2:=U.1;let dx8:=a\J;show(3,x,S,_,y.1,8,A,Rz (by rwa[l2,F.1]),2);show(9,S.set y.1 ⇑p8,Q.set y.1 (low (-(y.2.getD c 0)) (y.2.getD y.1 0)),O,aZ.put (aZ.step k6 a) G,by rwa[ah xd],af,2,2,F.put R hnc ey)
  ·let gV:bY K H8 (S.set y.1 ⇑p8) (Q.set y.1 (low (-(y.2.getD c 0)) (y.2.getD y.1 0))):=(U.iz a).set (p8,O,cb.of e8)
   show#[gV.1,λi u q' X T=>?_];let(p9,e9,h9):=gV.2 i u q' X T;show(p9,e9,cb.putL h9 A)
  ·let gV:=Y.iz a
   show#[gV.1,λi kv y' X T=>#[(gV.2 i kv y' X T).1,2]];let(p9,e9,h9):=(f.2 i kv y' X T).2;show(p9,e9,2);rw[ah (λz=>by erw[z,G] at h9)];let(p10,WQ,h10):=(gV.2 i kv y' X T).2;erw[e9] at WQ;show h10
 ·rintro Z H6 ⟨o4,o5,S,Q,rfl,k6,J,M,U,Y,F⟩
  let p:=Y.1;rw[p] at F;show#[0,q x S Q o H6 k6 J G M U F]
def cb.ks (h:cb K H a xs)(r:Rd H d (.dK BN))(k:aZ d H H'):cb K H' a xs:=by
 let Z:∀{u:HO},H a==u->(∀o,u≠.e_ o (.dK BN))->u≠.dK BN->a≠d:=λ{u} e X Y z=>by
  rw[z] at e
  rcases r with r|⟨o,r⟩
  ·rw[r] at e
   cases e;show Y rfl
  ·rw[r] at e
   cases e;show X o rfl
 rcases h with (h|⟨o,h⟩)|h
 ·show .inl (.inl (k _ _ (Z h (λo z=>nomatch z) (λz=>nomatch z)) h))
 ·show .inl (.inr #[o,k _ _ (Z h (λo z=>by cases z) (λz=>nomatch z)) h])
 ·show .inr h
theorem bY.ks (h:bY K H us qs)(r:Rd H d (.dK BN))(k:aZ d H H'):bY K H' us qs:=#[h.1,λi u q Y Z=>by
 let(p,e,z):=h.2 i u q Y Z
 show(p,e,cb.ks z r k)]
def SpR (K:Frag)(H:Hp)(BN:δ)(ss:υ):Prop:=BN.length=ss.length/\∀(i:Nat)(Z:Key×V)(x:Nat×List (Int×Int)),BN[i]?==Z->ss[i]?==x->Z.1=.inl (x.1:Int)/\∃p Y,Z.2=⇑p/\H p==.lst Y/\bY K H Y x.2
theorem SpR.ks (h:SpR K H BN ss)(r:Rd H d (.dK kv2))(k:aZ d H H'):SpR K H' BN ss:=#[h.1,λi Y x U X=>by
 let(a,p,Z,b,c,T):=h.2 i Y x U X;show(a,p,Z,b,k _ _ (λz=>?_) c,bY.ks T r k);rw[z] at c
 rcases r with r|⟨o,r⟩<;>(erw[r] at c)]
def SpR.snoc (h:SpR K H BN ss){c:Nat}(T:H p==.lst us)(S:bY K H us qs):SpR K H (BN++[(.inl (c:Int),⇑p)]) (ss++[(c,qs)]):=by
 let X:=h.1;show#[by simp[X],λj U x Z Y=>?_];by_cases z:j<BN.length
 ·rw[PR z] at Z
  rw[PR gu] at Y;show h.2 j U x Z Y
 ·rw[RF gu] at Z Y
  rw[<-X] at Y;by_cases y:j-BN.length=0
  ·rw[y] at Z Y
   cases Z;cases Y;show(O,p,us,O,T,S)
  ·rw[IF (by simp;omega)] at Z
   cases Z
def SpR.keys (h:SpR K H BN ss):BN.map (·.1)=ss.map (λx=>(W8 (x.1:Int):Key)):=by
 show VH λi=>?_;let X:=h.1;rw[Wp,Wp];by_cases Y:i<ss.length
 ·let e:ss[i]?==ss[i]:=gE Y
  let Z:BN[i]?==(BN[i]'gu):=gE gu;rw[e,Z];simp only[FP];rw[(h.2 i _ _ Z e).1]
 ·rw[IF gu,IF gu]
  rfl
def WlQ (T S:Nat)(qs:θ)(w:Wl):Prop:=kX w.1 qs w.2.1/\0<w.2.1/\w.2.1.natAbs<=2^S/\∀t∈w.1,t.natAbs<=2^(T+S)
def aa3 (T B m:Nat)(Y:ο)(os:η):Prop:=os.length=Y.length/\∀(i:Nat)(o:ρ)(Z:θ),os[i]?==o->Y[i]?==Z->∃b:Int,0<b/\kX o Z b
def free (Z:ν)(j:Nat):Bool:=Z.all λy=>decide (y.1≠j)
def i0 :free Y j=true ↔ ∀y∈Y,y.1≠j:=by
 unfold free;rw[ap8];show#[λh y Z=>RE (h y Z),λh y Z=>Qd (h y Z)]
inductive yP (K:Frag)(vs:ε)(H:Hp)(Q:VK)(M:XK):Prop
|mk (r:BQ)(m:Nat)(N:Δ)(U:List (List V:_))(Z:ο)(T B S σ:Nat)(_:vs=[.ref r,.int (m:Int)])(_:ku H r N U)(_:gB K H U Z)(_:Shape T B m Z)(_:(∀qs∈Z,pB qs<=2^S))(_:m<=100)(_:Z.length<=100)(_:T<=14000000)(_:S<=14000000)(_:B<=14000000)(_:bb (T+S) (min m Z.length)<=σ)(_:σ<=29000000)(_:∀(X:BQ)(BN:δ)(ss:υ)(os R:η)(Y:ν)(H':Hp),aq H H' ->H X=none->H' X==.dK BN->SpR K H' BN ss->aa3 T B m Z os->Red os m m σ Y R->ss.map (·.1)=(KA m).filter (free Y)->(∀x∈ss,jD x.1 m Y.length Y x.2)->Q (.ref X) H')
def gi:av ["rows","many","needed","spare","column"] wz (ae dy):=sq
def adX (D:Def K mg "spare_columns" dy wz)(bE:mg "range"=none)(JD:!am 33 "whole_row" uT (WM K))(ajL:!am 35 "reduced" uS (oY K))(JF:!am 34 "spare_list" p_ (JE K)):!am 36 "spare_columns" wz (yP K):=by
 show D.op gi λf bx A outer s H vs Q E hr h=>?_;let(r,m,ls,cB,aX,T,B,S,σ,rfl,M,NN,sh,hPB,hm,hn,hT,hB,hB1,hZ,hZ1,q):=h
 show(_,(aw 2 gi.nd (aH (a9 ajL hr (aE (ix (tn:=uT) (fr:=[]) (mQ:=[]) (bT .a) (bP (eQ (K:=K) rfl) (vD JD hr (aU .a)) ag)) .b)))>>aw 3 gi.nd fh>>bV Pm rfl (fu rfl bE (aU .b)) (cE 4 gi.nd) (aj (bN (m9 (lh (cD hr) .e .c)) (aj (d3 (cD hr) .d .e (a9 JF hr (bS .c .e .b)) rfl)) aQ))>>aj (aC .d)),2);sleep 3
 let l1:=M.2.1;let l2:=NN.1;show(0,r,O,#[_,aY.of M.1],λD1 n1=>?_);show jx (oC:=[]) (K:=K) (a:=r) (xs:=ls.map V.ref) (λi v H=>∃w:Wl,v=⇑w.2.2.1/\w.2.2.1≠D1/\H w.2.2.1==.lst (w.1.map V.int)/\∀Y,aX[i]?==Y->WlQ T S Y w) n1 (![CA] (K' (show ls.length<=1000 by omega) gM)) (λH2 s2=>aY.of (s2\M.1)) ?_ ?_ ?_
 ·rintro i v H2 H3 ys hD ks ⟨w,G,e2,e3,e4⟩
  show(w,G,e2,ks _ _ e2 e3,e4)
 ·rintro i x H2 RR ex s2 ⟨ys0,hD0⟩ kk
  rw[Wp] at ex;let(l,el,rfl):=OR.mp ex;let hi:i<ls.length:=(ir.mp el).1;obtain ⟨Y,J⟩:∃Y,aX[i]?==Y:=#[_,gE gu];obtain ⟨vs,ev⟩:∃vs,cB[i]?==vs:=#[_,gE gu];let hl:=M.2.2 i l vs el ev;let hq:=NN.2 i vs Y ev J;let(lq,sq):=sh Y (CU J);show(0,l,Y,T,B,S,O,(_,aY.of (s2\hl),hq.iz s2),sq,hPB Y (CU J),gu,gu,gu,gu,λp3 l3' ts b H3 s3 nl hp3 hl3 hb hbs wh hts=>?_);show(p3,5,cb.of hp3,iZ,kk _ _ s3 ((ts,(b,(l3',p3))),O,λz=>?_,hl3,λqs' G=>?_))
  ·rw[show l3'=D1 from z,hD0] at nl
   cases nl
  ·rw[J] at G
   cases G;show(wh,hb,hbs,hts)
 intro zs H2 hz gY s2 hD1;rw[CA] at hz;let(j,lw,hw):=lG (P:=λi v (w:Wl)=>v=⇑w.2.2.1/\w.2.2.1≠D1/\H2 w.2.2.1==.lst (w.1.map V.int)/\∀Y,aX[i]?==Y->WlQ T S Y w) zs gY
 let wp:∀(i:Nat)(w:Wl),j[i]?==w->∃v Y,zs[i]?==v/\aX[i]?==Y/\v=⇑w.2.2.1/\H2 w.2.2.1==.lst (w.1.map V.int)/\WlQ T S Y w:=λi w e=>by
  let hi:i<j.length:=(ir.mp e).1;obtain ⟨v,ev⟩:∃v,zs[i]?==v:=#[_,gE gu];obtain ⟨Y,J⟩:∃Y,aX[i]?==Y:=#[_,gE gu];let(h1,_,h3,h4):=hw i v w ev e;show(v,Y,ev,J,h1,h3,h4 Y J)
 let hLl:yL H2 zs (j.map (·.1)):=#[by simp[lw],λi u l G e2=>by
  rw[Wp] at e2;let(w,ew,rfl):=OR.mp e2;let(v,Y,ev,_,e,h,_):=wp i w ew;erw[G] at ev
  show(_,e,h)]
 let WS:∀l∈j.map (·.1),l.length=m:=λl hl=>by
  let(w,hw',rfl):=CS.mp hl;let(i,e):=OV hw';let(v,Y,_,J,_,_,wh,_):=wp i w e;rw[wh.1,(sh Y (CU J)).1]
 let wbd:∀l∈j.map (·.1),Bd (T+S) l:=λl hl=>by
  let(w,hw',rfl):=CS.mp hl;let(i,e):=OV hw';let(v,Y,_,J,_,_,_,_,_,h):=wp i w e;show Bd.of h
 let hlm:(j.map (·.1)).length=aX.length:=by rw[CA];omega
 let ayj:aa3 T B m aX (j.map (·.1)):=#[hlm,λi o Y G e2=>by
  rw[Wp] at G;let(w,ew,rfl):=OR.mp G;let(v,qs',_,J,_,_,wh,wb,_):=wp i w ew;erw[e2] at J
  show(_,wb,wh)]
 show(0,D1,zs,j.map (·.1),m,m,T+S,O,aY.of hD1,hLl,WS,CK _,gu,gu,wbd,by rw[hlm];omega,λp d a' BN jh C lv H3 s3 nd0 np hp hd hS1 hN1 hL1 R=>?_);rw[hlm] at R;let RZ:=R.up hZ;show(p,5,cb.of hp,iZ,λsd nsd=>?_);let t4:=ar nsd (.dK []);let mO:=s2>>>s3>>>t4;let Hd:H d=none:=s2.free nd0;let Hsd:H sd=none:=(s2>>>s3).free nsd;let ds:d≠sd:=ak hd nsd;show(3,gu,gu,2)
 show let I:fM:=λi Z H'=>Ex3 λ(o4:Β) (X:δ) (g:υ)=>Z=[cr r,some ↥(m:Int),cr d,cr sd,o4]/\aq H H'/\Rd H' d (.dK BN)/\H' sd==.dK X/\vF H' BN C/\SpR K H' X g/\g.map (·.1)=(KA i).filter (free C)/\∀x∈g,jD x.1 m C.length C x.2;fU (lo:=0) (n:=m) I
  (none,[],[],O,mO,.inl (t4\hd),af,hN1.iz t4,#[O,λi kv x e=>by simp at e],by simp,λx h=>nomatch h) ?_ ?_
 ·rintro i Z H5 hi ⟨o4,X,g,rfl,s5,U,hsd,RB,L,N,hF5⟩
  let nk:(BN.map (·.1)).Nodup:=by
   rw[RB.keys];show keys_nodup R.asc
  by_cases fr:free C i=true
  ·let fr':=i0.mp fr
   let hno:cj BN (.inl ((0:Int)+i))=none:=xE (λz=>by
    rw[RB.keys] at z;let(x',qX,e):=CS.mp z;let G:(x'.1:Int)=0+i:=FF e
    show fr' x' qX gu)
   show(3,d,none,O,.inl (BN,.inl ((0:Int)+i),U,O,hno.symm),0,bH (λ_=>?_) (λc=>CC rfl c));show(3,0,d,i,m,m,σ,BN,C,j.map (·.1),lv,by rw[VM];rfl,U,RB,RZ,CK _,gu,hi,fr',λx us Y o H6 k6 hd6 nx hx6 hn6 F=>?_);let ajS:H6 sd==.dK X:=k6 _ _ (CV ds) hsd;let lsk:=L.1
   let lss:g.length<=m:=by
    have:=sU uz N;rw[CA] at this;let h2:=T2 (free C) (KA i);rw[OE] at h2;omega
   show(3,sd,0,jP.k (k:=.inl ((0:Int)+i)) ajS (K' (show X.length<=1000 by omega) gM),2)
   let ayk:cj X (.inl ((0:Int)+i))=none:=xE (λz=>by
    rw[L.keys] at z;let(x',qX,e):=CS.mp z;let G:(x'.1:Int)=0+i:=FF e;have:x'.1∈(KA i).filter (free C):=![<-N] (CS.mpr (x',qX,O))
    have:=Rb.mp (ZQ.mp this).1
    omega)
   rw[iq _ ayk,VM];let s6:aq H H6:=λb o' e=>k6 _ _ (ak e Hd) (s5\e);let ksd:aZ sd H6 (upd H6 sd (.dK (X++[(.inl (i:Int),⇑x)]))):=λb o' n e=>by rwa[ah n]
   show(9,g++[(i,Y)],O,lF s6 Hsd,.inr #[o,by rwa[ah ds]],af,(RB.ks U k6).ks (.inl ajS) ksd,((L.ks U k6).snoc hx6 hn6).ks (.inl ajS) ksd,2,λx' qX =>?_)
   ·rw[RL,N,EF,zH]
    simp[fr]
   ·rcases OB.mp qX with z|z
    ·show hF5 x' z
    ·rw[OK.mp z]
     show F
  ·let nf:∃y∈C,y.1=i:=by
    apply VD;intro z;show fr (i0.mpr λy hy e=>z (y,hy,e))
   let(y,hy,ey):=nf;let(t,et):=OV hy;let(v,ev,_):=RB.at et;let vat:=rQ nk ev;show(3,d,some v,O,.inl (BN,.inl ((0:Int)+i),U,O,![VM,<-ey] vat.symm),0,bH (λc=>nomatch c) (λ_=>?_));show(9,g,O,s5,U,hsd,RB,L,2,hF5);rw[N,EF,zH];simp[fr]
 ·rintro Z H5 ⟨o4,X,g,rfl,s5,U,hsd,RB,L,N,hF5⟩
  show#[0,q sd X g _ lv C H5 s5 Hsd hsd L ayj RZ N hF5]
inductive oa (C:BQ)(f:Str)(vs:ε)(H:Hp)(Q:VK)(Z:XK):Prop
|mk (a:BQ)(v:V)(_:vs=[.ref a,v])(_:H a==(kT C a none))(_:∀(d:BQ)(H':Hp),(∀b o,b≠a->H b==o->H' b==o)->H d=none->H' d==(X7 d [(f,v)])->H' a==(kT C a (some d))->Q .cS H')
def iT (H:Hp)(E:XK)(C:BQ)(f:Str)(v:V):Prop:=∀(d:BQ)(Z:Hp),aq H Z ->H d=none->Z d==(X7 d [(f,v)])->E ⇑C (some d) Z
def iT.go (h:iT H E C f v):∀e,H e=none->oa C f [⇑e,v] (upd H e (kT C e none)) (λS T=>S=.cS/\∃X,T e==(kT C e X)/\E ⇑C X (rA T e)) E0:=λe R=>by
 show(e,v,O,af,λd M k Z N Q=>(O,some d,Q,2));let U:d≠e:=λz=>by erw[z,af] at Z
 rw[ah U] at Z;show h d (rA M e) (λb o z=>?_) Z ?_
 ·let Y:b≠e:=ak z R
  rw[gF Y];show k b o Y (by rwa[ah Y])
 ·rw[gF U]
  show N
def P5 (f:Str)(v:V):VL f [(f,v)]==v:=by simp[VL]
def aoS:av V5 V5 (ae Ww):=sq
def aoT (F:oN K "__init__" "NoPin.__init__" Ww f fd)(R:OU K α)(U:mg "YardError"==⇑α)(Z:ou.uk K C "pin")(S:Vp K C .O==true):!bv 1 f fd V5 (oa C "pin"):=by
 show iw F aoS λH Q h=>?_;let(a,v,rfl,X,q):=h
 show(_,(cn (HS R U (aE .a .b))>>aj (HU .a .b rfl)),2)
 show(3,a,C,none,[v],O,X,Z.k,S,tw,3,a,C,O,Z,.inl #[X,λd Y T=>?_]);show q d _ (λb o n e=>by rwa[ah n,ah (ak e Y)]) Y ?_ af;rw[ah T,af]
def aoU:av VQ VQ (ae Wx):=sq
def aoV (F:oN K "__init__" "NoBar.__init__" Wx f fd)(R:OU K α)(U:mg "YardError"==⇑α)(Z:ou.uk K C "bar")(S:Vp K C .O==true):!bv 1 f fd VQ (oa C "bar"):=by
 show iw F aoU λH Q h=>?_;let(a,v,rfl,X,q):=h
 show(_,(cn (HS R U (aE .a .b))>>aj (HU .a .b rfl)),2)
 show(3,a,C,none,[v],O,X,Z.k,S,tw,3,a,C,O,Z,.inl #[X,λd Y T=>?_]);show q d _ (λb o n e=>by rwa[ah n,ah (ak e Y)]) Y ?_ af;rw[ah T,af]
def ady:av VQ VQ (ae d_):=sq
def adw (F:oN K "__init__" "NoBound.__init__" d_ f fd)(R:OU K α)(U:mg "YardError"==⇑α)(Z:ou.uk K C "bar")(S:Vp K C .O==true):!bv 1 f fd VQ (oa C "bar"):=by
 show iw F ady λH Q h=>?_;let(a,v,rfl,X,q):=h
 show(_,(cn (HS R U (aE .a .b))>>aj (HU .a .b rfl)),2)
 show(3,a,C,none,[v],O,X,Z.k,S,tw,3,a,C,O,Z,.inl #[X,λd Y T=>?_]);show q d _ (λb o n e=>by rwa[ah n,ah (ak e Y)]) Y ?_ af;rw[ah T,af]
inductive qJ (K:Frag)(f:Int×Int->Int×Int->Int×Int)(vs:ε)(H:Hp)(Q:VK)(Z:XK):Prop
|mk (u v:V)(x y:Int×Int)(_:vs=[u,v])(_:qU K H u x)(_:qU K H v y)(_:Okn 20000000 x)(_:Okn 20000000 y)(_:gives H Q (f x y))
def aef:av IS IS (ae jB):=sq
def adx (C:xZ CX)(D:Def K mg "sum_of" jB IS)(I:!Fn CX 33 "lowest_terms" VX c8):!Fn CX 34 "sum_of" IS (qJ K addQ):=by
 show D.op aef λf B A Z s H o Q E G h=>?_;let(u,v,x,y,rfl,(U,rfl,N),(Y,rfl,R),S,T,q):=h;let J:=nI (X:=kO CX P w K mg gV IS "sum_of" (ae jB) f B A Z s H E) C;show(_,(aj (aC (cW I G.mo J (aE (ax bW (ax bQ (aH .a) (aH .b)) (ax bQ (aH .b) (aH .a))) (ax bQ (aH .a) (aH .b)))))),2);let p:=S.top;let L:=S.bot;let z:=T.top;let M:=T.bot;let c:∀{i j:Int},intBits i<=20000000->intBits j<=20000000->xX i j:=λa b=>#[CP a gM,CP b gM];show(0,U,5,N,iZ,0,Y,5,R,i6,1,c p M,0,Y,5,R,iZ,0,U,5,N,i6,1,c z L,1,0,U,5,N,i6,0,Y,5,R,i6,1,c L M,4,IW S T,q)
def aoW:av IS IS (ae Ru):=sq
def aoX (C:xZ CX)(D:Def K mg "difference_of" Ru IS)(I:!Fn CX 33 "lowest_terms" VX c8):!Fn CX 34 "difference_of" IS (qJ K subQ):=by
 show D.op aoW λf B A Z s H o Q E G h=>?_;let(u,v,x,y,rfl,(U,rfl,N),(Y,rfl,R),S,T,q):=h;let J:=nI (X:=kO CX P w K mg gV IS "difference_of" (ae Ru) f B A Z s H E) C;show(_,(aj (aC (cW I G.mo J (aE (ax eK (ax bQ (aH .a) (aH .b)) (ax bQ (aH .b) (aH .a))) (ax bQ (aH .a) (aH .b)))))),2);let p:=S.top;let L:=S.bot;let z:=T.top;let M:=T.bot;let c:∀{i j:Int},intBits i<=20000000->intBits j<=20000000->xX i j:=λa b=>#[CP a gM,CP b gM];show(0,U,5,N,iZ,0,Y,5,R,i6,1,c p M,0,Y,5,R,iZ,0,U,5,N,i6,1,c z L,1,0,U,5,N,i6,0,Y,5,R,i6,1,c L M,4,IW S T,q)
def abZ:av IS IS (ae eV):=sq
def ab0 (I:xZ CX)(D:Def K mg "product_of" eV IS)(L:!Fn CX 33 "lowest_terms" VX c8):!Fn CX 34 "product_of" IS (qJ K mulQ):=by
 show D.op abZ λf G A Z s H o Q E J h=>?_;let(u,v,x,y,rfl,(S,rfl,N),(T,rfl,R),U,Y,q):=h;let M:=nI (X:=kO CX P w K mg gV IS "product_of" (ae eV) f G A Z s H E) I;show(_,(aj (aC (cW L J.mo M (aE (ax bQ (aH .a) (aH .b)) (ax bQ (aH .a) (aH .b)))))),2);let p:=U.top;let z:=U.bot;let B:=Y.top;let C:=Y.bot;let c:∀{i j:Int},intBits i<=20000000->intBits j<=20000000->xX i j:=λa b=>#[CP a gM,CP b gM];show(0,S,5,N,iZ,0,T,5,R,iZ,1,c p B,0,S,5,N,i6,0,T,5,R,i6,1,c z C,4,IW U Y,q)
inductive jE (K:Frag)(f:Rat->Rat->Rat)(vs:ε)(H:Hp)(Q:VK)(Z:XK):Prop
|mk (u v:V)(x y:Rat)(_:vs=[u,v])(_:iE K H u x)(_:iE K H v y)(_:Sz 20000000 x)(_:Sz 20000000 y)(_:gives H Q (qr (f x y)))
def uM (h:Sz k r):Okn k (qr r):=(dq r,h.top,h.bot)
def ajT (F:!Fn CX k x ps (qJ K addQ)):!Fn CX k x ps (jE K λa b=>a+b):=by
 let(f,T,G,r):=F.ex;show(f,T,G.imp λS H Q E h=>?_,r);let(u,v,a,b,e,U,X,Y,Z,q):=h;show(u,v,qr a,qr b,e,U,X,uM Y,uM Z,2);unfold addQ;rwa[aal]
def ajU (F:!Fn CX k x ps (qJ K subQ)):!Fn CX k x ps (jE K λa b=>a-b):=by
 let(f,T,G,r):=F.ex;show(f,T,G.imp λS H Q E h=>?_,r);let(u,v,a,b,e,U,X,Y,Z,q):=h;show(u,v,qr a,qr b,e,U,X,uM Y,uM Z,2);unfold subQ;rwa[ID]
def ajV (F:!Fn CX k x ps (qJ K mulQ)):!Fn CX k x ps (jE K λa b=>a*b):=by
 let(f,T,G,r):=F.ex;show(f,T,G.imp λS H Q E h=>?_,r);let(u,v,a,b,e,U,X,Y,Z,q):=h;show(u,v,qr a,qr b,e,U,X,uM Y,uM Z,2);unfold mulQ;rwa[aam]
def aa4 (K:Frag)(H:Hp)(Q:VK)(p:Rat×Rat):Prop:=∀(v:V)(Z:Hp),aq H Z ->gx K Z v p->Q v Z
inductive JG (K:Frag)(f:Rat->Rat->Rat)(vs:ε)(H:Hp)(Q:VK)(Z:XK):Prop
|mk (u v:V)(x y:Rat×Rat)(_:vs=[u,v])(_:gx K H u x)(_:gx K H v y)(_:Sz 20000000 x.1)(_:Sz 20000000 x.2)(_:Sz 20000000 y.1)(_:Sz 20000000 y.2)(_:aa4 K H Q (f x.1 y.1,f x.2 y.2))
def aoY:av IS IS (ae Rv):=sq
def aoZ (hM:xZ CX)(D:Def K mg "pair_difference" Rv IS)(U:!Fn CX 34 "difference_of" IS (jE K λa b=>a-b)):!Fn CX 35 "pair_difference" IS (JG K λa b=>a-b):=by
 show D.op aoY λf bx A Z s H vs Q E L h=>?_;let(u,v,x,y,rfl,(M,a1,a2,rfl,I,k,m),(N,b1,b2,rfl,J,i,j),k1,k2,c,g,q):=h;let R:=nI (X:=(kO (aR P w) P w K mg gV IS "pair_difference" (ae Rv) f bx A Z s H E)) hM;show(_,(aj (aC (aJ (aE (cW U L.mo R (aE (aH .a) (aH .b))) (cW U L.mo R (aE (aH .a) (aH .b))))))),0,M,5,I,iZ,0,N,5,J,iZ,a1,b1,4,k,i,k1,c,λB H1 Y e1=>?_);show(0,M,5,Ty.aq.iM Y I,i6,0,N,5,Ty.aq.iM Y J,i6,a2,b2,4,m.iz Y,j.iz Y,k2,g,λC H2 S e2=>?_);show#[sZ,λG p=>?_];let T:=ar p (.tup [⇑B,⇑C]);show q ⇑G _ (λb o z=>T\(S _ _ (Y _ _ z))) (G,4,cb.of af,(B,O,cb.of (T\(S _ _ e1))),(C,O,cb.of (T\e2)))
def ajW (x y:Rat×Rat):Rat:=x.1*y.1+x.2*y.2
inductive aa5 (K:Frag)(vs:ε)(H:Hp)(Q:VK)(Z:XK):Prop
|mk (u v:V)(x y:Rat×Rat)(_:vs=[u,v])(_:gx K H u x)(_:gx K H v y)(_:Sz 40000 x.1)(_:Sz 40000 x.2)(_:Sz 40000 y.1)(_:Sz 40000 y.2)(_:gives H Q (qr (ajW x y)))
def aix:av IS IS (ae c9):=sq
def ai6 (hM:xZ CX)(D:Def K mg "pair_product" c9 IS)(k:!Fn CX 34 "sum_of" IS (jE K λa b=>a+b))(G:!Fn CX 34 "product_of" IS (jE K λa b=>a*b)):!Fn CX 35 "pair_product" IS (aa5 K):=by
 show D.op aix λf bx A Z s H vs Q E T h=>?_;let(u,v,x,y,rfl,(N,a1,a2,rfl,B,g,i),(R,b1,b2,rfl,C,m1,c),I,J,L,M,q):=h;let U:=nI (X:=(kO (aR P w) P w K mg gV IS "pair_product" (ae c9) f bx A Z s H E)) hM;show(_,(aj (aC (cW k T.mo U (aE (cW G T.mo U (aE (aH .a) (aH .b))) (cW G T.mo U (aE (aH .a) (aH .b))))))),0,N,5,B,iZ,0,R,5,C,iZ,a1,b1,4,g,m1,I.up gM,L.up gM,λm H1 Y e1=>?_);show(0,N,5,Ty.aq.iM Y B,i6,0,R,5,Ty.aq.iM Y C,i6,a2,b2,4,i.iz Y,c.iz Y,J.up gM,M.up gM,λp H2 S e2=>?_);show(⇑m,⇑p,4,(m,O,cb.of (S\e1)),(p,O,cb.of e2),(I.mul L).up gM,(J.mul M).up gM,λc3 H3 j e3=>?_);show q c3 H3 (λb o z=>j\(S _ _ (Y _ _ z))) e3
inductive JH (K:Frag)(C:BQ)(vs:ε)(H:Hp)(Q:VK)(U:XK):Prop
|mk (a X:BQ)(_:vs=[.ref a])(_:H a==.ins C X [])(_:∀(Y Z pB:BQ)(H':Hp),aZ a H H' ->H Y=none->H Z=none->H pB=none->jO K H' C a X Y Z pB [] [] [] [] []->Q .cS H')
def afU :fF "pin_places" x []=([("pin_places",x)]:List (Str×V)):=rfl
def afV :fF "pin_ways" y [("pin_places",x)]=([("pin_places",x),("pin_ways",y)]:List (Str×V)):=by
 simp only[fF];rw[iA gM]
def afW :fF "bar_ends" z [("pin_places",x),("pin_ways",y)]=([("pin_places",x),("pin_ways",y),("bar_ends",z)]:List (Str×V)):=by
 simp only[fF];rw[iA gM,iA gM]
def ao0:av Ox Ox (ae Wy):=sq
def ao1 (F:oN K "__init__" "Frame.__init__" Wy f fd)(U:wL K C):!bv 1 f fd Ox (JH K C):=by
 show iw F ao0 λH c h=>?_;let(a,X,rfl,m,q):=h
 show(_,(ke .a fh rfl>>ke .a fh rfl>>aj (ke .a fh rfl)),2)
 intro Z L;let M:a≠Z:=ak m L;show(0,a,C,X,0,(by rwa[ah M]),U.cls,U.pl,(by change 0<1000;decide),2);rw[afU];generalize D:upd (upd H Z (.dK [])) a (.ins C X [("pin_places",⇑Z)])=S;let p:S a==.ins C X [("pin_places",⇑Z)]:=by rw[<-D,af]
 let x:S Z==.dK []:=by rw[<-D,ah (CV M),af]
 let G:∀b o,b≠a->H b==o->S b==o:=λb o n e=>by rwa[<-D,ah n,ah (ak e L)]
 intro Y Q;let N:a≠Y:=ak p Q;show(0,a,C,X,0,(by rwa[ah N]),U.cls,U.wy,(by change 1<1000;decide),2);rw[afV];generalize E:upd (upd S Y (.dK [])) a (.ins C X [("pin_places",⇑Z),("pin_ways",⇑Y)])=T;let PW:Z≠Y:=ak x Q;let u:T a==.ins C X [("pin_places",⇑Z),("pin_ways",⇑Y)]:=by rw[<-E,af]
 let A:T Y==.dK []:=by rw[<-E,ah (CV N),af]
 let I:∀b o,b≠a->S b==o->T b==o:=λb o n e=>by rwa[<-E,ah n,ah (ak e Q)]
 intro pB R;let B:a≠pB:=ak u R;let y:=I _ _ (CV M) x;show(0,a,C,X,0,(by rwa[ah B]),U.cls,U.br,(by change 2<1000;decide),2);rw[afW];let g:Z≠pB:=ak y R;let i:Y≠pB:=ak A R;let J:∀b o,b≠a->T b==o->(upd (upd T pB (.dK [])) a (.ins C X [("pin_places",⇑Z),("pin_ways",⇑Y),("bar_ends",⇑pB)])) b==o:=λb o n e=>by rwa[ah n,ah (ak e R)]
 let j:∀b,b≠a->S b=none->H b=none:=λb n e=>by
  cases z:H b with
  | none=>rfl
  | some o=>erw[G b o n z] at e
 let k:∀b,b≠a->T b=none->H b=none:=λb n e=>by
  cases z:H b with
  | none=>rfl
  | some o=>erw[I b o n (G b o n z)] at e
 show q Z Y pB _ (λb o n e=>J b o n (I b o n (G b o n e))) L (j _ (CV N) Q) (k _ (CV B) R) (af,J _ _ (CV M) y,J _ _ (CV N) A,2,PW,g,i,.nil,.nil);rw[ah (CV B),af]
inductive og (K:Frag)(C:BQ)(vs:ε)(H:Hp)(Q:VK)(R:XK):Prop
|mk (a S Y Z pB:BQ)(ps:Ο)(bs:Ε)(U X T:δ)(_:vs=[.ref a])(_:jO K H C a S Y Z pB ps bs U X T)(_:∀(l:BQ)(H':Hp),aq H H' ->H l=none->H' l==.lst ((bs.map (·.1)).map V.str)->Q (.ref l) H')
def ao2:av Ox Ox (ae WE):=sq
def ao3 (F:oN K "bars" "Frame.bars" WE f fd)(U:wL K C)(S:mg "list"=none):!bv 1 f fd Ox (og K C):=by
 show iw F ao2 λH G h=>?_;let(a,T,L,M,pB,N,Q,I,J,Z,rfl,R,q):=h;show(_,(aj (aC (iK (qC rfl) rfl S nH (aU .y)))),0,a,C,T,4,R.obj,U.cls,U.br,O,pB,Z,O,.inl R.br,λl X=>?_);show q l _ (ar X _) X ?_;rw[af]
 let e:Z.map (λY=>kV Y.1)=(Q.map (·.1)).map V.str:=by
  let z:Z.map (λY=>kV Y.1)=(Z.map (·.1)).map kV:=by rw[Pp];rfl
  rw[z,R.Ud,Pp];rfl
 rw[e]
inductive oh (K:Frag)(C:BQ)(vs:ε)(H:Hp)(Q:VK)(R:XK):Prop
|mk (a S Y Z pB:BQ)(ps:Ο)(bs:Ε)(U X T:δ)(_:vs=[.ref a])(_:jO K H C a S Y Z pB ps bs U X T)(_:∀(l:BQ)(H':Hp),aq H H' ->H l=none->H' l==.lst ((ps.map (·.1)).map V.str)->Q (.ref l) H')
def ao4:av Ox Ox (ae WD):=sq
def ao5 (F:oN K "pins" "Frame.pins" WD f fd)(U:wL K C)(N:mg "list"=none):!bv 1 f fd Ox (oh K C):=by
 show iw F ao4 λH I h=>?_;let(a,Q,S,M,pB,T,G,Z,L,J,rfl,R,q):=h;show(_,(aj (aC (iK (qC rfl) rfl N nH (aU .y)))),0,a,C,Q,4,R.obj,U.cls,U.pl,O,S,Z,O,.inl R.pl,λl X=>?_);show q l _ (ar X _) X ?_;rw[af]
 let e:Z.map (λY=>kV Y.1)=(T.map (·.1)).map V.str:=by
  let z:Z.map (λY=>kV Y.1)=(Z.map (·.1)).map kV:=by rw[Pp];rfl
  rw[z,R.Ue,Pp];rfl
 rw[e]
inductive iN (K:Frag)(C:BQ)(vs:ε)(H:Hp)(Q:VK)(R:XK):Prop
|mk (a S Y Z pB:BQ)(ps:Ο)(bs:Ε)(U X T:δ)(x:Str)(_:vs=[.ref a,.str x])(_:jO K H C a S Y Z pB ps bs U X T)(_:x∈ps.map (·.1))(_:Q .cS H)
def ao6:av V5 V5 (ae WC):=sq
def ao7 (F:oN K "check_pin" "Frame.check_pin" WC f fd)(Z:wL K C):!bv 1 f fd V5 (iN K C):=by
 show iw F ao6 λH U h=>?_;let(a,T,Y,Q,pB,S,J,M,N,L,x,rfl,R,X,q):=h;show(_,(aj (bN (m9 (lh (cD U) .b .y)) (aj (ig)) aQ)),3,a,C,T,4,R.obj,Z.cls,Z.pl,O,Y,0,gU.k (k:=.inr x) R.pl,0,2);rwa[R.pin x,Qd X]
inductive xG (K:Frag)(C:BQ)(vs:ε)(H:Hp)(Q:VK)(R:XK):Prop
|mk (a S Y Z pB:BQ)(ps:Ο)(bs:Ε)(U X T:δ)(x:Str)(p:Pt)(_:vs=[.ref a,.str x])(_:jO K H C a S Y Z pB ps bs U X T)(_:(ps.map (·.1)).Nodup)(_:(x,p)∈ps)(_:∀v,Spot K H v p->Q v H)
def ao8:av V5 V5 (ae WG):=sq
def ao9 (F:oN K "place" "Frame.place" WG f fd)(T:wL K C)(E:!ce 1 C "check_pin" V5 (iN K C)):!bv 2 f fd V5 (xG K C):=by
 show iw F ao8 λH U h=>?_;let(a,Z,Y,Q,pB,S,G,L,M,J,x,p,rfl,R,N,X,q):=h
 show(_,(cn (d5 (k:=1) .a U.mo (q_Y P w) (aU .b))>>aj (aC (iR (cD U) .y .b (λ_ _=>O)))),2)
 show(0,a,C,Z,6,R.obj,O,E,0,a,Z,Y,Q,pB,S,G,L,M,J,x,O,R,CS.mpr (_,X,O),2);let(v,ev,I):=R.place N X;show(0,a,C,Z,4,R.obj,T.cls,T.pl,7,Y,v,O,(![<-ev] (gU.k (k:=.inr x) R.pl)),q v I)
inductive yR (K:Frag)(C:BQ)(vs:ε)(H:Hp)(Q:VK)(M:XK):Prop
|mk (a N U X pB:BQ)(ps:Ο)(bs:Ε)(S T R:δ)(x Z Y:Str)(_:vs=[.ref a,.str x])(_:jO K H C a N U X pB ps bs S T R)(_:(bs.map (·.1)).Nodup)(_:(x,(Z,Y))∈bs)(_:∀p,Rd H p (.tup [.str Z,.str Y])->Q (.ref p) H)
def ao':av VQ VQ (ae WI):=sq
def apa (F:oN K "ends" "Frame.ends" WI f fd)(Z:wL K C):!bv 1 f fd VQ (yR K C):=by
 show iw F ao' λH X h=>?_;let(a,U,I,J,pB,L,M,E,G,D,x,T,B,rfl,R,S,Y,q):=h
 show(_,(bN (m9 (lh (cD X) .b .y)) (aj (ig)) aQ>>aj (aC (iR (cD X) .y .b (λ_ _=>O)))),2)
 let N:x∈M.map (·.1):=CS.mpr (_,Y,O);show(3,a,C,U,4,R.obj,Z.cls,Z.br,O,pB,0,gU.k (k:=.inr x) R.br,0,2);rw[R.bar x,Qd N];let(p,ev,Q):=R.ends S Y;show(0,a,C,U,4,R.obj,Z.cls,Z.br,7,pB,⇑p,O,(![<-ev] (gU.k (k:=.inr x) R.br)),q p Q)
inductive yS (K:Frag)(C:BQ)(vs:ε)(H:Hp)(Q:VK)(N:XK):Prop
|mk (a R U X pB:BQ)(ps:Ο)(bs:Ε)(T Y S:δ)(Z:Χ)(x:Str)(ws:Η)(_:vs=[.ref a,.str x])(_:jO K H C a R U X pB ps bs T Y S)(_:QH K H Z Y)(_:(Z.map (·.1)).Nodup)(_:(x,ws)∈Z)(_:x∈ps.map (·.1))(_:∀(l:BQ)(us:ε)(H':Hp),aq H H' ->H l=none->H' l==.lst us->pM K H' us ws->Q (.ref l) H')
def apb:av V5 V5 (ae WH):=sq
def apc (F:oN K "ways" "Frame.ways" WH f fd)(Q:wL K C)(u:mg "list"=none)(o:!ce 1 C "check_pin" V5 (iN K C)):!bv 2 f fd V5 (yS K C):=by
 show iw F apb λH S h=>?_;let(a,X,L,T,pB,M,p,E,G,D,j,x,m,rfl,R,W,J,B,A,q):=h
 show(_,(cn (d5 (k:=1) .a S.mo (q_Y P w) (aU .b))>>aj (aC (iK qB rfl u nH (aU (iR (cD S) .y .b (λ_ _=>O)))))),2)
 show(0,a,C,X,6,R.obj,O,o,0,a,X,L,T,pB,M,p,E,G,D,x,O,R,A,2);let(v,ev,l,U,y,z,N):=qF W J B;let Y:v=.ref l:=y;subst Y;show(0,a,C,X,4,R.obj,Q.cls,Q.wy,7,T,⇑l,O,(![<-ev] (gU.k (k:=.inr x) R.wy)),l,U,O,aY.of z,λI Z=>q I U _ (ar Z _) Z af (N.iz (ar Z _)))
def ajX (K:Frag)(H:Hp)(Q:VK)(ws:Η):Prop:=∀(l:BQ)(Y:ε)(Z:Hp),aq H Z ->H l=none->Z l==.lst Y->pM K Z Y ws->Q ⇑l Z
def JI (h:(qr x).1=0):x=0:=by
 have:=iI x;unfold vl at this;rw[h] at this;let z:=Ph (r:=x);let e:((0:Int):Rat)=0:=by rfl
 rw[e] at this;grind
inductive JJ (K:Frag)(C:BQ)(vs:ε)(H:Hp)(Q:VK)(U:XK):Prop
|mk (a X:BQ)(Y Z:V)(x y:Rat)(_:vs=[.ref a,Y,Z])(_:H a==.ins C X [])(_:iE K H Y x)(_:iE K H Z y)(_:¬ (x=0/\y=0))(_:∀p,H p=none->Q .cS (upd (upd H p (.tup [Y,Z])) a (.ins C X [("way",.ref p)])))
def apd:av U1 U1 (ae WJ):=sq
def ape (F:oN K "__init__" "Roller.__init__" WJ f fd)(T:EG K C)(nw:fO K C "way"):!bv 1 f fd U1 (JJ K C):=by
 show iw F apd λH D h=>?_;let(a,U,E,G,x,y,rfl,X,(N,rfl,L),(Q,rfl,M),nz,q):=h;let Y:(2:Nat)<=CM:=gM
 show(_,(bN (PW.pt (m_ (bD dk (aH .b) ag) (jS (bD dk (aH .c) ag)))) (aj (ig)) aQ>>aj (ke .a (aJ (aE .b .c)) rfl)),2)
 show(0,N,5,L,iZ,7,2);show bH (λR=>?_) (λR=>?_)
 ·let I:(qr x).1=0:= ~~~RE R
  show(0,Q,5,M,iZ,7,2);show bH (λS=>?_) (λS=>?_)
  ·let J:(qr y).1=0:= ~~~RE S
   show CC #[JI I,JI J] nz
  ·show(3,Y,λp Z=>(0,a,C,U,[],O,(by rwa[ah (ak X Z)]),T,nw,(by change 0<1000;decide),q p Z))
 ·show nF ?_
  show(3,Y,λp Z=>(0,a,C,U,[],O,(by rwa[ah (ak X Z)]),T,nw,(by change 0<1000;decide),q p Z))
inductive rT (K:Frag)(C:BQ)(vs:ε)(H:Hp)(Q:VK)(Y:XK):Prop
|mk (a Z p:BQ)(w:Rat×Rat)(_:vs=[.ref a])(_:H a==.ins C Z [("way",.ref p)])(_:gx K H (.ref p) w)(_:ajX K H Q [w])
def apf:av Ox Ox (ae WK):=sq
def apg (F:oN K "ways" "Roller.ways" WK f fd)(T:EG K C)(nw:fO K C "way"):!bv 1 f fd Ox (rT K C):=by
 show iw F apf λH S h=>?_;let(a,U,p,w,rfl,X,Y,q):=h;show(_,(aj (aC (bJ (aU .y)))),0,a,C,U,_,⇑p,O,X,T,nw,gN,tw,λl Z=>?_);show q l [⇑p] _ (ar Z _) Z af (.cons (Y.iz (ar Z _)) .nil)
inductive rV (K:Frag)(vs:ε)(H:Hp)(Q:VK)(Z:XK):Prop
|mk (a:BQ)(_:vs=[.ref a])(_:ajX K H Q [(1,0),(0,1)])
def uN:qr 1=(1,1):=by
 have:=yA 1;simpa using this
def cR:qr 0=(0,1):=by
 have:=yA 0;simpa using this
def vH (U:qr a=x)(X:qr b=y)(h:H p==.tup [⇑p1,⇑p2])(Y:H p1==.tup [↥x.1,↥x.2])(Z:H p2==.tup [↥y.1,↥y.2]):gx K H ⇑p (a,b):=
 (p,⇑p1,⇑p2,O,cb.of h,(p1,O,![U] (cb.of Y)),(p2,O,![X] (cb.of Z)))
def aph:av Ox Ox (ae WL):=sq
def api (F:oN K "ways" "Fixed.ways" WL f fd):!bv 1 f fd Ox (rV K):=by
 show iw F aph λH hr h=>?_;let(a,rfl,q):=h;let X:(2:Nat)<=CM:=gM
 show(_,(aj (aC (bJ (aE .B .B)))),X,λQ n1=>?_);let E:=ar n1 (.tup [↥1,↥1]);let u:upd H Q (.tup [↥1,↥1]) Q==.tup [↥1,↥1]:=af;generalize upd H Q (.tup [↥1,↥1])=i at E u ⊢;show#[X,λR n2=>?_];let I:=ar n2 (.tup [↥0,↥1]);let x:upd i R (.tup [↥0,↥1]) R==.tup [↥0,↥1]:=af;generalize upd i R (.tup [↥0,↥1])=j at I x ⊢;show#[X,λZ n3=>?_];let J:=ar n3 (.tup [⇑Q,⇑R]);let y:upd j Z (.tup [⇑Q,⇑R]) Z==.tup [⇑Q,⇑R]:=af;generalize upd j Z (.tup [⇑Q,⇑R])=k at J y ⊢;show#[X,λS n4=>?_];let M:=ar n4 (.tup [↥0,↥1]);let z:upd k S (.tup [↥0,↥1]) S==.tup [↥0,↥1]:=af;generalize upd k S (.tup [↥0,↥1])=m at M z ⊢;show#[X,λT n5=>?_];let N:=ar n5 (.tup [↥1,↥1]);let A:upd m T (.tup [↥1,↥1]) T==.tup [↥1,↥1]:=af;generalize upd m T (.tup [↥1,↥1])=o at N A ⊢;show#[X,λp6 b=>?_];let U:=ar b (.tup [⇑S,⇑T]);let B:upd o p6 (.tup [⇑S,⇑T]) p6==.tup [⇑S,⇑T]:=af;generalize upd o p6 (.tup [⇑S,⇑T])=p at U B ⊢;show#[X,λl D=>?_];let Y:=ar D (.lst [⇑Z,⇑p6]);let C:upd p l (.lst [⇑Z,⇑p6]) l==.lst [⇑Z,⇑p6]:=af;generalize upd p l (.lst [⇑Z,⇑p6])=G at Y C ⊢;let L:=E>>>(I>>>(J>>>(M.trans (N.trans U))));let c:gx K G ⇑Z (1,0):=vH uN cR (Y\(U _ _ (N _ _ (M _ _ y)))) (Y\(U _ _ (N _ _ (M _ _ (J _ _ (I _ _ u)))))) (Y\(U _ _ (N _ _ (M _ _ (J _ _ x)))));let g:gx K G ⇑p6 (0,1):=vH cR uN (Y\B) (Y\(U _ _ (N _ _ z))) (Y\(U _ _ A));show q l [⇑Z,⇑p6] G (L>>>Y) (L.free D) C (.cons c (.cons g .nil))
def ahD (P:HV)(w:World)(K:Frag)(mg:ι)(gV:Heap)(H:Hp)(R:V)(ws:Η):Prop:=(R=.cS/\ws=[])\/∃(h S X:BQ)(Z:List (Str×V))(T:τ)(Y:Sp),R=⇑h/\H h==.ins S X Z/\Z.lookup ("ways":Str)=none/\ce P w K mg gV 2 S "ways" T Y/\(∀U,U h==.ins S X Z->bh H U->∀Q,ajX K U Q ws->Y [⇑h] U Q E0)
inductive iO (P:HV)(w:World)(K:Frag)(mg:ι)(gV:Heap)(C:BQ)(vs:ε)(H:Hp)(Q:VK)(J:XK):Prop
|mk (a R X Y pB:BQ)(ps:Ο)(bs:Ε)(L U T:δ)(Z:Χ)(x:Str)(u v S:V)(p:Pt)(ws:Η)(_:vs=[.ref a,.str x,u,v,S])(_:jO K H C a R X Y pB ps bs L U T)(_:QH K H Z U)(_:Z.map (·.1)=ps.map (·.1))(_:qU K H u p.1)(_:qU K H v p.2)(_:x∉ps.map (·.1))(_:(∀z∈ps,z.2≠p))(_:ps.length<24)(_:!ahD H S ws)(_:∀(H':Hp)(M N :δ),(∀b o,b≠X->b≠Y->H b==o->H' b==o)->jO K H' C a R X Y pB (ps++[(x,p)]) bs M N T->QH K H' (Z++[(x,ws)]) N ->Q .cS H')
def aa7:av ["self","name","x","y","hold","pin","spot"] ZE (ae vV):=sq
def apk (F:ajg K "put_pin" "Frame.put_pin" vV f fd)(U:wL K C)(ajY:mg "MOST_PINS"==.int 24 tkP)(a_:mg "len"=none)(cT:mg "list"=none):!bv 3 f fd ZE (!iO C):=by
 show aai F aa7 (λvs H Q E h=>?_) (λbx A outer s H vs Q E i h=>?_)
 ·let(a,D,Y,j,pB,ps,bs,X,L,kB,pw,x,u,v,hv,p,ws,rfl,_):=h
  rfl
 let(a,D,Y,j,pB,ps,bs,X,L,kB,pw,x,u,v,hvv,p,ws,rfl,R,W,ew,hu,hv,hx,hs,hl,hH,q):=h
 show(_,(bN (m9 (Q9 (cD i) .b .y)) (aj (ig)) aQ>>xC (bV Pm rfl (ad0 .y) (gy rfl (aK (cE 5 aa7.nd) (aK (cE 6 aa7.nd) cC))) (aj (bN (bD (adJ i.units) .g (aJ (aE .c .d))) (aj (ig)) aQ)))>>bN (bD Zk (aI adI rfl a_ cu (aU .y)) (eJ (v:=↥24) rfl ajY #[0])) (aj (ig)) aQ>>d3 (cD i) .y .b (aJ (aE .c .d)) rfl>>aj (d3 (cD i) .y .b (xO (bD qj .e gO) (bJ ij) (iK qB rfl cT nH (aU (fG (k:=2) .e i.mo (pY P w))))) rfl)),2);sleep 4
 show(3,a,C,D,4,R.obj,U.cls,U.pl,O,Y,0,gU.k (k:=.inr x) R.pl,0,2);rw[R.pin x,Sb hx];let lk:X.length=ps.length:=(RY R.rp).symm;show(0,a,C,D,4,R.obj,U.cls,U.pl,O,Y,X,O,R.pl,λo=>?_);let k0:aZ Y H (upd H Y (.e_ o (.dK X))):=λb N n e=>by rwa[ah n]
 show let I:fM:=λt Z H'=>QJ λ(o2 o3:Β)=>Z=[cr a,some (.str x),some u,some v,some hvv,o2,o3]/\aZ Y H H'/\H' Y==(.e_ o (.dK X));uB (d:=Y) (o:=o) (BN:=X) I (none,none,O,k0,af) (λt Z H' _ h=>by
   let(_,_,_,_,h):=h
   show h) ?_ ?_
 ·rintro t k y Z H6 p7 xF ⟨o2,o3,rfl,k6,hd6⟩ n7
  let(z,ez,hz1,hz2):=aV (jY R.rp) xF;have aym :k=.inr z.1:=hz1;subst aym
  let S:bh H H6:=λb xs r=>by
   rcases r with r|⟨N,r⟩
   ·show .inl (k6 _ _ (λe=>by erw[e,R.pl] at r) r)
   ·show .inr #[N,k6 _ _ (λe=>by erw[e,R.pl] at r) r]
  let s7:=ar n7 (.tup [kV (.inr z.1),y]);let s67:bh H (upd H6 p7 (.tup [kV (.inr z.1),y])):=S>>>(.of s7);show(p7,0,cb.of af,O,4,1,3,0,sZ,λt8 n8=>?_);let s8:=ar n8 (.tup [u,v]);let RD:bh H (upd (upd H6 p7 (.tup [kV (.inr z.1),y])) t8 (.tup [u,v])):=s67>>>(.of s8);show(iH z.2,iH p,.inl #[(Spot.bC hz2 RD).is,(Spot.is (p:=p) (t8,u,v,O,cb.of af,hu.bC RD,hv.bC RD))],za3 _ _,ad1 _,2);rw[zaM];show#[0,bH (λc=>CC (RE c) (hs z (CU ez))) (λ_=>?_)];show(4,λb N n e=>s8\(s7 _ _ (k6 b N n e)),s8\(s7 _ _ hd6))
 ·rintro Z H1 ⟨o2,o3,rfl,k1,hd1⟩
  show(Y,o,X,hd1,λN u' z=>(by have z':H Y==(.e_ N u'):=z;erw[R.pl] at z'),2)
  let m:aq H (upd H1 Y (.dK X)):=λb N e=>by
   by_cases n:b=Y
   ·subst n
    rw[R.pl] at e;rwa[af]
   ·rw[ah n]
    show k1 b N n e
  generalize upd H1 Y (.dK X)=H2 at m ⊢;let R2:=R.iz m;show(0,a,C,D,4,R2.obj,U.cls,U.pl,O,Y,X,O,.inl R2.pl,1,0,2);show bH (λc=>?_) (λ_=>?_)
  ·let c':(24:Int)<=(X.length:Int):=RE c
   omega
  show(3,sZ,λt nt=>?_);let s3:=ar nt (.tup [u,v]);let R3:=R2.iz s3;let hu3:=(hu.iz m).iz s3;let hv3:=(hv.iz m).iz s3;show(0,a,C,D,4,R3.obj,U.cls,U.pl,7,Y,0,jP.k (k:=.inr x) R3.pl (K' (show X.length<=1000 by omega) gM),2);let e:putK X (.inr x) ⇑t=X++[(.inr x,⇑t)]:=iq _ (fw (![R.Ue] (λz=>hx (jX.mp z))));rw[e];let R4:=R3.aji (x:=x) (p:=p) (t:=t) (t,u,v,O,cb.of af,hu3,hv3);let G:∀b o,b≠Y->H b==o->(upd (upd H2 t (.tup [u,v])) Y (.dK (X++[(.inr x,⇑t)]))) b==o:=λb o n e=>![ah n] (s3\(m _ _ e))
  generalize upd (upd H2 t (.tup [u,v])) Y (.dK (X++[(.inr x,⇑t)]))=H4 at R4 G ⊢
  let lw:L.length=ps.length:=by
   let e1:L.length=pw.length:=(RY W).symm;let e2:=sU uz ew;rw[CA,CA] at e2;omega
  let t4:bh H H4:=λb xs r=>by
   rcases r with r|⟨N,r⟩
   ·show .inl (G _ _ (λe=>by erw[e,R.pl] at r) r)
   ·show .inr #[N,G _ _ (λe=>by erw[e,R.pl] at r) r]
  let W4:QH K H4 pw L:=Paired.dP W λ_ _ z=>#[z.1,by
   let(l,B,e1,e2,e3):=z.2
   show(l,B,e1,G _ _ (λe=>by erw[e,R.pl] at e2) e2,e3.bC t4)]
  show(0,7,2)
  rcases hH with ⟨rfl,rfl⟩|⟨h,Ch,dxh,g,psh,sph,rfl,hh,hlk,MH,ue⟩
  ·show bH (λ_=>?_) (λc=>CC gM c)
   show#[by change 0<=CM;decide,λM n6=>?_];let S:=ar n6 (.lst []);let T:=R4.iz S;let W6:=W4.iz S;show(0,a,C,D,4,T.obj,U.cls,U.wy,7,j,0,jP.k (k:=.inr x) T.wy (K' (show L.length<=1000 by omega) gM),2);let ek:putK L (.inr x) ⇑M=L++[(.inr x,⇑M)]:=iq _ (fw (![W.keys,ew] (λz=>hx (jX.mp z))));rw[ek];let J:M≠j:=λz=>by have h:=T.wy;erw[<-z,af] at h
   show q _ _ _ (λb o n1 n2 e=>![ah n2] (S\(G b o n1 e))) (T.Ug _) (TF (W6.dict T.wy) (O,M,[],O,![ah J,af],.nil))
  let h4:H4 h==.ins Ch dxh g:=G _ _ (λe=>by erw[e,R.pl] at hh) hh;show bH (λc=>CC (RE c) (λz=>nomatch z)) (λ_=>?_);show(0,h,Ch,dxh,g,psh,sph,O,h4,hlk,MH,ue H4 h4 t4 _ λl1 B H5 s5 n5 e5 p5=>?_);show(l1,B,O,aY.of e5,λM n6=>?_);let S:=ar n6 (.lst B);let T:=(R4.iz s5).iz S;let W6:=(W4.iz s5).iz S;show(0,a,C,D,4,T.obj,U.cls,U.wy,7,j,0,jP.k (k:=.inr x) T.wy (K' (show L.length<=1000 by omega) gM),2);let ek:putK L (.inr x) ⇑M=L++[(.inr x,⇑M)]:=iq _ (fw (![W.keys,ew] (λz=>hx (jX.mp z))));rw[ek];let s46:aq H4 (upd H5 M (.lst B)):=λb o z=>S\(s5 _ _ z);show q _ _ _ (λb o n1 n2 e=>![ah n2] (s46\(G b o n1 e))) (T.Ug _) ?_;let J:M≠j:=λz=>by have h:=T.wy;erw[<-z,af] at h
  show TF (W6.dict T.wy) (O,M,B,O,![ah J,af],(p5.iz S).bC (.dict T.wy))
inductive my (K:Frag)(C:BQ)(vs:ε)(H:Hp)(Q:VK)(M:XK):Prop
|mk (a N U X pB:BQ)(ps:Ο)(bs:Ε)(S T R:δ)(x Z Y:Str)(_:vs=[.ref a,.str x,.str Z,.str Y])(_:jO K H C a N U X pB ps bs S T R)(_:x∉bs.map (·.1))(_:Z∈ps.map (·.1))(_:Y∈ps.map (·.1))(_:Z≠Y)(_:bs.length<60)(_:Q .cS H)
def apl:av yu yu (ae WA):=sq
def apm (F:oN K "check_bar" "Frame.check_bar" WA f fd)(X:wL K C)(Q:mg "MOST_BARS"==.int 60 tkB)(y:mg "len"=none)
  (G:!ce 1 C "check_pin" V5 (iN K C)):!bv 2 f fd yu (my K C):=by
 show iw F apl λH T h=>?_;let(a,Z,L,M,pB,N,S,I,J,Y,x,U,D,rfl,R,B,z,A,E,u,q):=h
 show(_,(bN (m9 (Q9 (cD T) .b .y)) (aj (ig)) aQ>>cn (d5 (k:=1) .a T.mo (q_Y P w) (aU .c))>>cn (d5 (k:=1) .a T.mo (q_Y P w) (aU .d))>>bN (bD dk .c .d) (aj (ig)) aQ>>aj (bN (bD Zk (aI adI rfl y cu (aU .y)) (eJ (v:=↥60) rfl Q #[0])) (aj (ig)) aQ)),2)
 show(3,a,C,Z,4,R.obj,X.cls,X.br,O,pB,0,gU.k (k:=.inr x) R.br,0,2);rw[R.bar x,Sb B];show(0,a,C,Z,6,R.obj,O,G,0,a,Z,L,M,pB,N,S,I,J,Y,U,O,R,z,0,a,C,Z,6,R.obj,O,G,0,a,Z,L,M,pB,N,S,I,J,Y,D,O,R,A,3,7,bH (λc=>CC (by simpa[xr] using c) E) (λ_=>?_));let lk:Y.length=S.length:=(RY R.rb).symm;show(0,a,C,Z,4,R.obj,X.cls,X.br,O,pB,Y,O,.inl R.br,1,0,bH (λc=>?_) (λ_=>q));let p:(60:Int)<=(Y.length:Int):=RE c;omega
inductive rW (K:Frag)(C:BQ)(vs:ε)(H:Hp)(Q:VK)(L:XK):Prop
|mk (a N T U pB:BQ)(ps:Ο)(bs:Ε)(R S M:δ)(x Z Y:Str)(_:vs=[.ref a,.str x,.str Z,.str Y])(_:jO K H C a N T U pB ps bs R S M)(_:x∉bs.map (·.1))(_:Z∈ps.map (·.1))(_:Y∈ps.map (·.1))(_:Z≠Y)(_:bs.length<60)(_:∀(H':Hp)(X:δ),aZ pB H H' ->jO K H' C a N T U pB ps (bs++[(x,(Z,Y))]) R S X ->Q .cS H')
def apn:av yu yu (ae Wz):=sq
def apo (F:oN K "put_bar" "Frame.put_bar" Wz f fd)(y:wL K C)
  (g:!ce 2 C "check_bar" yu (my K C)):!bv 3 f fd yu (rW K C):=by
 show ahU F apn (λu H Q E h=>?_) (λc A U s H u Q E B h=>?_)
 ·let(a,X,J,L,pB,M,S,G,I,Y,x,Z,T,rfl,_):=h
  rfl
 let(a,X,J,L,pB,M,S,G,I,Y,x,Z,T,rfl,R,D,i,j,p,m,q):=h
 show(_,(cn (d5 (k:=2) .a B.mo (pY P w) (bS .b .c .d))>>aj (d3 (cD B) .y .b (aJ (aE .c .d)) rfl)),2)
 show(0,a,C,X,6,R.obj,O,g,3,0,a,X,J,L,pB,M,S,G,I,Y,x,Z,T,O,R,D,i,j,p,m,3,sZ,λt nt=>?_);let s:=ar nt (.tup [.str Z,.str T]);let N:=R.iz s;let lk:Y.length=S.length:=(RY R.rb).symm;show(0,a,C,X,4,N.obj,y.cls,y.br,7,pB,0,jP.k (k:=.inr x) N.br .I,2);let e:putK Y (.inr x) ⇑t=Y++[(.inr x,⇑t)]:=iq _ (fw (![R.Ud] (λz=>D (jX.mp z))));rw[e];show q _ _ (λb o n z=>?_) (N.ajh (.inl af));rw[ah n];show s\z
def WW (p q:bK):Rat×Rat:=(q.sp.1-p.sp.1,q.sp.2-p.sp.2)
inductive UJ (K:Frag)(C:BQ)(vs:ε)(H:Hp)(Q:VK)(Z:XK):Prop
|mk (a:BQ)(AP:Α)(BO:Μ)(p q:bK)(_:vs=[.ref a,.str p.nm,.str q.nm])(_:BK K H C a AP BO)(_:jZ AP BO)(_:p∈AP)(_:q∈AP)(_:aa4 K H Q (WW p q))
def ahE {AP:Α}(h:(AP.map (·.nm)).Nodup):((AP.map λp=>(p.nm,Pk p.sp)).map (·.1)).Nodup:=by
 rwa[Pp]
def ahF {AP:Α}(h:(AP.map (·.nm)).Nodup):((AP.map λp=>(p.nm,p.ws)).map (·.1)).Nodup:=by
 rwa[Pp]
def ahG {BO:Μ}(h:(BO.map (·.nm)).Nodup):((BO.map λb=>(b.nm,(b.one.nm,b.jg.nm))).map (·.1)).Nodup:=by
 rwa[Pp]
def apq:av wu wu (ae V8):=sq
def apr (D:Def K mg "arm_between" V8 wu)(G:!ce 2 C "place" V5 (xG K C))(X:!am 35 "pair_difference" IS (JG K λa b=>a-b)):!am 36 "arm_between" wu (UJ K C):=by
 show D.oo apq λH Y h=>?_;let(a,x,y,p,q,rfl,R,g,I,J,k):=h;let(Z,Q,S,pB,M,N,L,R,W):=R.ex;show(_,(aj (aC (a9 X Y (aE (d5 (k:=2) .a Y.mo (q_Y P w) (aU .c)) (d5 (k:=2) .a Y.mo (q_Y P w) (aU .b)))))),0,a,C,Z,6,R.obj,O,G,0,a,Z,Q,S,pB,9,M,N,L,q.nm,Pk q.sp,O,R,ahE g.np,CS.mpr (q,J,O),λB z=>?_);show(0,a,C,Z,6,R.obj,O,G,0,a,Z,Q,S,pB,9,M,N,L,p.nm,Pk p.sp,O,R,ahE g.np,CS.mpr (p,I,O),λE A=>?_);let T:=g.sz q J;let U:=g.sz p I;show(B,E,q.sp,p.sp,O,z,A,T.1.up gM,T.2.1.up gM,U.1.up gM,U.2.1.up gM,k)
def mv (M:ξ)(x:Str):Rat×Rat:=(M x).getD (0,0)
def ie (F:ξ)(AP:Α):List (Int×Int):=AP.flatMap λp=>[qr (mv F p.nm).1,qr (mv F p.nm).2]
theorem jF (F:ξ):∀AP:List bK,(ie F AP).length=2*AP.length
 | []=>rfl
 | p::ps=>by
  have:=jF F ps;unfold ie at this ⊢;rw[Vb,GY,this];simp;omega
def adv (F:ξ)(ps:Α)(p:bK):ie F (ps++[p])=ie F ps++[qr (mv F p.nm).1,qr (mv F p.nm).2]:=by
 unfold ie;rw[EO];simp
def CI (x:Str)(w:Rat×Rat):Str->Option (Rat×Rat):=λy=>if y=x then some w else none
def CJ (b:cZ):Str->Option (Rat×Rat):=λy=>if y=b.one.nm then some (WW b.one b.jg) else if y=b.jg.nm then some (WW b.jg b.one) else none
def uO (AP:Α)(p:bK):List (List (Int×Int)):=p.ws.map λw=>ie (CI p.nm w) AP
def eh (AP:Α)(BO:Μ):List (List (Int×Int)):=(AP.flatMap λp=>uO AP p)++BO.map λb=>ie (CJ b) AP
structure oi (K:Frag)(H:Hp)(r:BQ)(ls:Δ)(cB:Κ)(aX:ο):Prop where
 xH:ku H r ls cB
 num:gB K H cB aX
 nr:r∉ls
theorem oi.iz (h:oi K H r ls cB aX)(s:aq H H'):oi K H' r ls cB aX:=(h.xH.iz s,h.num.iz s,h.nr)
def adt (h:gB K H cB aX)(n:bY K H us qs):gB K H (cB++[us]) (aX++[qs]):=by
 show#[by simp[h.1],λi u X Z Y=>?_];let l:=h.1;by_cases c:i<cB.length
 ·rw[PR c] at Z
  rw[PR gu] at Y;show h.2 i u X Z Y
 ·rw[RF gu] at Z Y
  by_cases z:i-cB.length=0
  ·rw[z] at Z
   rw[show i-aX.length=0 by omega] at Y;cases Z;cases Y;show n
  ·rw[IF (by simp;omega)] at Z
   cases Z
def afY {H:Hp}{Y:Δ}{T:Κ}(S:Y.length=T.length)(h:∀(i:Nat)(l:BQ)(vs:ε),Y[i]?==l->T[i]?==vs->H l==.lst vs)(e:H l==.lst us):
  ∀(i:Nat)(U:BQ)(vs:ε),(Y++[l])[i]?==U ->(T++[us])[i]?==vs->H U==.lst vs:=λi U vs Z X=>by
 by_cases c:i<Y.length
 ·rw[PR c] at Z
  rw[PR gu] at X;show h i U vs Z X
 ·rw[RF gu] at Z X
  by_cases z:i-Y.length=0
  ·rw[z] at Z
   rw[show i-T.length=0 by omega] at X;cases Z;cases X;show e
  ·rw[IF (by simp;omega)] at Z
   cases Z
def oi.push (h:oi K H r ls cB aX)(e:H l==.lst us)(T:l≠r)(n:bY K H us qs):
  oi K (upd H r (.lst (ls.map V.ref++[⇑l]))) r (ls++[l]) (cB++[us]) (aX++[qs]):=by
 let st:bh H (upd H r (.lst (ls.map V.ref++[⇑l]))):=.list h.xH.1
 let S:∀(i:Nat)(Y:BQ)(Z:ε),ls[i]?==Y ->cB[i]?==Z->(upd H r (.lst (ls.map V.ref++[⇑l]))) Y==.lst Z:=λi Y Z X U=>by
  rw[ah (λz:Y=r=>h.nr (![<-z] (CU X)))];show h.xH.2.2 i Y Z X U
 show((by rw[af,RL];rfl,by simp[h.xH.2.1],afY h.xH.2.1 S (by rwa[ah T])),2,2)
 ·show adt #[h.num.1,λi Z qs X U=>(h.num.2 i Z qs X U).bC st] (n.bC st)
 ·intro z
  rcases OB.mp z with z|z
  ·show h.nr z
  ·show T (OK.mp z).symm
inductive lI (K:Frag)(C:BQ)(vs:ε)(H:Hp)(Q:VK)(Z:XK):Prop
|mk (a d:BQ)(AP:Α)(BO:Μ)(BN:δ)(F:ξ)(_:vs=[.ref a,.ref d])(_:BK K H C a AP BO)(_:AP.length<=100)(_:H d==.dK BN)(_:vB K H BN F)(_:∀(l:BQ)(us:ε)(H':Hp),aq H H' ->H l=none->H' l==.lst us->bY K H' us (ie F AP)->Q (.ref l) H')
def mB (AP:Α):((AP.map λp=>(p.nm,Pk p.sp)).map (·.1))=AP.map (·.nm):=by rw[Pp];rfl
def aa8:av ["F","draws","row","pin"] Pd (ae V9):=sq
def aps (hM:∀H:Hp,gx K H ⇑aM (0,0))(RI:mg "NO_MOVE"==⇑aM)(D:Def K mg "pair_row" V9 Pd)(MP:!ce 1 C "pins" Ox (oh K C)):!am 2 "pair_row" Pd (lI K C):=by
 show D.oo aa8 λH f h=>?_;let(a,d,M,BO,BN,F,rfl,R,S,hd,hP,q):=h
 show(_,(aw 2 aa8.nd (bJ ij)>>bV Pm rfl (bT (fG (k:=1) .a f.mo (q_Y P w))) (cE 3 aa8.nd) (aj (cn (nE Zn PySem.F.slot_list_extend PySem.F.type_list_extend afg .c (aU (yr (cD f) .b .d (eJ (v:=⇑aM) rfl RI rfl) #[8,8])))))>>aj (aC .c)),2)
 show#[z0L,2];intros l j H1 m el;let R1:=R.iz m;let(dx,pP,pW,pB,kP,kW,kB,F1,W1):=R1.ex;show(0,a,C,dx,6,F1.obj,O,MP,a,dx,pP,pW,pB,9,kP,kW,kB,O,F1,λS H2 y UK A=>?_);rw[mB] at A;let G:=m>>>y;let B:S≠l:=λz=>by erw[z,el] at UK
 show(S,O,#[_,aY.of A],let I:fM:=λi Z N=>QJ λ(E:Β) (Y:ε)=>Z=[cr a,cr d,cr l,E]/\aq H N/\N S==.lst ((M.map (·.nm)).map V.str)/\N l==.lst Y/\bY K N Y (ie F (M.take i));dG (K:=K) (a:=S) (xs:=(M.map (·.nm)).map V.str) I (none,[],O,G,A,y\el,#[O,λi u q e=>by simp at e]) (λi Z N _ h=>by
   let(_,_,_,_,h,_):=h
   show aY.of h) ?_ ?_)
 ·rintro i z Z X hi ⟨E,Y,rfl,U,g,Q,T⟩
  rw[Wp,Wp] at hi;let(x,hx,rfl):=OR.mp hi;let(p,hp,rfl):=OR.mp hx;let il:i<M.length:=(ir.mp hp).1;let d4:=U\hd;let g1:gx K X ((cj BN (.inr p.nm)).getD ⇑aM) (mv F p.nm):=(hP.iz U).ajj (hM X);let(b,J,L,eb,hb,h1,h2):=g1
  let lu:Y.length<=200:=by
   have:=T.1;rw[jF,QT] at this;omega
  show(0,.inl (O,_,aY.of Q),0,d,O,.inl #[_,.inl d4],0,_,gU.k (k:=.inr p.nm) d4,l,b,Y,[J,L],O,![eb],Q,hb,by simp;omega,2);let st:bh X (upd X l (.lst (Y++[J,L]))):=.list Q;show(_,Y++[J,L],O,λc o z=>?_,2,af,2)
  ·rw[ah (ak z j)]
   show U\z
  ·rw[ah B]
   show g
  ·rw[take_snoc hp,adv]
   let a1:=bY.snoc (K:=K) (T.bC st) (iE.bC h1 st);let a2:=bY.snoc (K:=K) a1 (iE.bC h2 st);simpa using a2
 ·rintro Z X ⟨E,Y,rfl,U,g,Q,T⟩
  rw[CA,CA,Vj] at T;show#[0,q l Y X U j Q T]
def Fn.afd (Z:∀vs H Q E,sp vs H Q E->vs.length=ps.length)(h:∀vs H Q E,sp vs H Q E->sp' vs H Q (thE H E))(F:!am k x ps sp'):!am k x ps sp:=by
 let(f,Y,G,r):=F.ex;show(f,Y,afe Z h G,r)
def KeysIn (ns:τ)(BN:δ):Prop:=∀Z∈BN,∃x∈ns,Z.1=.inr x
def iy (H:Hp)(E:XK)(Z:BQ)(f:Str)(ns:τ)(BN:δ):Prop:=∀(t:Nat)(x:Str)(y:V),BN[t]?==(.inr x,y)->x∉ns->KeysIn ns (BN.take t)->iT H E Z f (.str x)
def iT.iz (h:iT H E C f v)(s:aq H H1):iT H1 E C f v:=λd U Z Y X=>h d U (s>>>Z) (s.free Y) X
theorem iy.iz (h:iy H E C f ns BN)(s:aq H H1):iy H1 E C f ns BN:=λt x y e n k=>(h t x y e n k).iz s
inductive mC (K:Frag)(C Y:BQ)(vs:ε)(H:Hp)(Q:VK)(E:XK):Prop
|mk (a d:BQ)(AP:Α)(BO:Μ)(BN:δ)(F:ξ)(_:vs=[.ref a,.ref d])(_:BK K H C a AP BO)(_:AP.length<=100)(_:H d==.dK BN)(_:vB K H BN F)(_:(∀Z∈BN,∃x:Str,Z.1=.inr x))(_:iy H E Y "pin" (AP.map (·.nm)) BN)(_:∀(l:BQ)(us:ε)(H':Hp),KeysIn (AP.map (·.nm)) BN->aq H H' ->H l=none->H' l==.lst us->bY K H' us (ie F AP)->Q (.ref l) H')
def aa9:av ["F","load","pins","pin"] ["F","load"] (ae Rw):=sq
def apt (D:Def K mg "load_row" Rw ["F","load"])(MP:!ce 1 C "pins" Ox (oh K C))(aa':!am 2 "pair_row" Pd (lI K C))
  (JK:mg "NoPin"==⇑CN) (aj3:Q3 K CN fN) (g:!bv 1 fN fdN V5 (oa CN "pin")) (aj4:Binds K fdN V5 []):!am 4 "load_row" ["F","load"] (mC K C CN):=by
 show Fn.afd (sp':=λL H Q E1=>∃E,E1=thE H E/\mC K C CN L H Q E) (λL H Q E h=>?_) (λL H Q E h=>(E,O,h)) (D.okX aa9 (λL H Q E h=>?_) (λf bx A U s H L Q E i h=>?_))
 ·let(a,d,X,BO,BN,F,rfl,_):=h
  rfl
 ·let(E',_,a,d,X,BO,BN,F,rfl,_):=h
  rfl
 let m:Passes (aR P w) (!nK ["F","load","pins","pin"] "load_row" (ae Rw) f bx A U s H E) E:=rm;let L1:1<=CM:=gM
 show(_,(aw 2 aa9.nd (fG (k:=1) .a i.mo m)>>xC (bV agn rfl (IA .b) (cE 3 aa9.nd) (aj (bN (oK ja .d .c rfl) (aj (um aj3 g i.mo aj4 JK (aU .d))) aQ)))>>aj (aC (cW aa' i.mo m (aE .a .b)))),2);sleep 2
 clear m;let(E',rfl,a,d,X,BO,BN,F,rfl,R,lp,N,hP,hk,hs,q):=h;let(dx,pP,pW,pB,kP,kW,kB,F1,W1):=R.ex;show(0,a,C,dx,6,F1.obj,O,MP,a,dx,pP,pW,pB,9,kP,kW,kB,O,F1,λl M p nl el=>?_);rw[mB] at el;let G:=p\N;show(0,d,BN,O,G,λo=>?_);let ld:l≠d:=λz=>by erw[z,G] at el
 show let I:fM:=λt Z H'=>∃(j:Β),Z=[cr a,cr d,cr l,j]/\H'=upd M d .w/\KeysIn (X.map (·.nm)) (BN.take t);yy (d:=d) (o:=o) (BN:=BN) I (none,8,λkv h=>(by simp at h)) (λt Z H' _ h=>by
   let(_,_,rfl,_):=h
   show af) ?_ ?_
 ·rintro t k y Z H6 u ⟨j,rfl,rfl,J⟩
  let(x,ex):=hk _ (CU u);have Tu :k=.inr x:=ex;subst Tu;show(3,l,0,.inl (aY.of (by rwa[ah ld])),O,oQ _,0,2);show bH (λc=>?_) (λc=>?_)
  ·let B:(!ZD (.str x) ((X.map (·.nm)).map V.str))=true:=c
   let nx:x∉X.map (·.nm):=λz=>by
    erw[jz,Qd z] at B
   let WY:(upd M d .w) d==(.e_ o (.dK BN)):=af;let T:aZ d H (upd M d .w):=λb Y n e=>![ah n] (p\e)
   generalize upd M d .w=H8 at WY T ⊢;show(0,L1,iT.go λe H' sH nd he=>.inr (d,o,BN,sH\WY,(λY u' z=>by erw[N] at z),2));let dp:e≠d:=λz=>by erw[z,WY] at nd
   show hs t x y u nx J e _ (λb Y z=>?_) ?_ (by rwa[ah dp])
   ·by_cases n:b=d
    ·subst n
     rw[N] at z;rwa[af]
    ·rw[ah n]
     show sH\(T b Y n z)
   ·cases z:H e with
    | none=>rfl
    | some Y=>erw[T e Y dp z] at nd
  ·show(0,O,λkv h=>?_)
   rw[take_snoc u] at h
   rcases OB.mp h with h|h
   ·show J kv h
   ·rw[OK.mp h]
    let B:¬ (!ZD (.str x) ((X.map (·.nm)).map V.str))=true:=c;show(x,2,O);by_cases hx:x∈X.map (·.nm)
    ·show hx
    ·rw[jz,Sb hx] at B
     show CC rfl B
 ·rintro Z H6 ⟨j,rfl,rfl,J⟩
  rw[Vj] at J;show(d,o,BN,af,λY u' z=>(by have z':H d==(.e_ Y u'):=z;erw[N] at z'),2)
  let S:aq H (upd (upd M d .w) d (.dK BN)):=λb Y e=>by
   by_cases n:b=d
   ·subst n
    rw[N] at e;rwa[af]
   ·rw[ah n,ah n]
    show p\e
  generalize upd (upd M d .w) d (.dK BN)=H2 at S ⊢;show(3,a,d,X,BO,BN,F,O,R.iz S,lp,S\N,hP.iz S,λl' us H3 s3 n3 e3 nm=>?_);show q l' us H3 J (S>>>s3) (S.free n3) e3 nm
inductive yT (K:Frag)(C:BQ)(vs:ε)(H:Hp)(Q:VK)(Z:XK):Prop
|mk (a:BQ)(AP:Α)(BO:Μ)(b:cZ)(_:vs=[.ref a,.str b.one.nm,.str b.jg.nm])(_:BK K H C a AP BO)(_:jZ AP BO)(_:b.one∈AP)(_:b.jg∈AP)(_:b.one.nm≠b.jg.nm)(_:∀(l:BQ)(us:ε)(H':Hp),aq H H' ->H l=none->H' l==.lst us->bY K H' us (ie (CJ b) AP)->Q (.ref l) H')
def aj5 (k:Key)(v:V):eU [] [(k,v)]=[(k,v)]:=rfl
def aj6 (v u:V)(h:k≠j):eU [] [(k,v),(j,u)]=[(k,v),(j,u)]:=by
 change putK [(k,v)] j u=_;rw[iq]
 ·rfl
 ·rw[bX h]
  rfl
def apu:av wu wu (ae V_):=sq
def apv (D:Def K mg "bar_row" V_ wu)(U:!am 36 "arm_between" wu (UJ K C))(I:!am 2 "pair_row" Pd (lI K C)):!am 37 "bar_row" wu (yT K C):=by
 show D.oo apu λH L h=>?_;let(a,E,G,b,rfl,R,g,y,A,f,q):=h;show(_,(aj (aC (a9 I L (aE .a (agw (yn .b (a9 U L (bS .a .b .c)) (yn .c (a9 U L (bS .a .c .b)) ahA)) rfl rfl (aqw _ _) gM))))),0,λd B=>?_);let Q:=ar B (.dK []);let m:(upd H d (.dK [])) d==.dK []:=af;generalize upd H d (.dK [])=H1 at Q m ⊢;show(3,3,a,E,G,b.one,b.jg,O,R.iz Q,g,y,A,λY H2 M h2=>?_);show(3,3,a,E,G,b.jg,b.one,O,(R.iz Q).iz M,g,A,y,λZ T N h3=>?_);let p:=N\(M _ _ m);show(p,[(.inr b.one.nm,Y),(.inr b.jg.nm,Z)],O,(by change 2<=15;decide),2);rw[aj6\(λz=>f (Zp z))];let st:bh T (upd T d (.dK [(.inr b.one.nm,Y),(.inr b.jg.nm,Z)])):=.dict p;let u:(upd T d (.dK [(.inr b.one.nm,Y),(.inr b.jg.nm,Z)])) d==.dK [(.inr b.one.nm,Y),(.inr b.jg.nm,Z)]:=af
 let S:aq H (upd T d (.dK [(.inr b.one.nm,Y),(.inr b.jg.nm,Z)])):=λc o z=>by
  rw[ah (ak z B)];show N\(M _ _ (Q _ _ z))
 generalize upd T d (.dK [(.inr b.one.nm,Y),(.inr b.jg.nm,Z)])=H4 at st u S ⊢;show(a,d,E,G,_,CJ b,O,R.iz S,CP g.lp gM,u,λx=>?_,λl k H5 j n5 e5 i=>q l k H5 (S>>>j) (S.free n5) e5 i);by_cases X:x=b.one.nm
 ·subst X
  show .inr (Y,WW b.one b.jg,cx rfl,by unfold CJ;rw[iB rfl],(h2.iz N).bC st)
 ·by_cases J:x=b.jg.nm
  ·subst J
   show .inr (Z,WW b.jg b.one,![bX (λz=>X (Zp z).symm),cx rfl],by unfold CJ;rw[iA X,iB rfl],h3.bC st)
  ·show .inl #[by rw[bX (λz=>X (Zp z).symm),bX (λz=>J (Zp z).symm)];rfl,by unfold CJ;rw[iA X,iA J]]
inductive qK (K:Frag)(C:BQ)(vs:ε)(H:Hp)(Q:VK)(X:XK):Prop
|mk (a:BQ)(AP:Α)(BO:Μ)(_:vs=[.ref a])(_:BK K H C a AP BO)(_:jZ AP BO)(_:∀(r:BQ)(Z:Δ)(Y:Κ)(H':Hp),aq H H' ->H r=none->oi K H' r Z Y (eh AP BO)->Q (.ref r) H')
def alM (BO:Μ):((BO.map λb=>(b.nm,(b.one.nm,b.jg.nm))).map (·.1))=BO.map (·.nm):=by rw[Pp];rfl
def rX (AP:Α)(h:∀p∈AP,p.ws.length<=2):(AP.flatMap λp=>p.ws).length<=2*AP.length:=by
 induction AP with
 | nil=>simp
 | cons p X Z=>
  let T:=h p Pz;let U:=Z λq Y=>h q (OX _ Y);rw[Vb,GY,VN];omega
def yU (all AP:Α):(AP.flatMap λp=>uO all p).length=(AP.flatMap λp=>p.ws).length:=by
 induction AP with
 | nil=>rfl
 | cons p Y Z=>
  rw[Vb,Vb,GY,GY,Z];unfold uO;rw[CA]
def oZ (AP:Α)(BO:Μ):(eh AP BO).length=(AP.flatMap λp=>p.ws).length+BO.length:=by
 unfold eh;rw[GY,yU,CA]
def FI:av ["F","rows","pin","way","bar","two"] ["F"] (ae V'):=sq
def apw (D:Def K mg "draw_rows" V' ["F"])(MP:!ce 1 C "pins" Ox (oh K C))(MW:!ce 2 C "ways" V5 (yS K C))(MB:!ce 1 C "bars" Ox (og K C))(ME:!ce 1 C "ends" VQ (yR K C))
  (aa':!am 2 "pair_row" Pd (lI K C)) (ayq:!am 37 "bar_row" wu (yT K C)):!am 38 "draw_rows" ["F"] (qK K C):=by
 show D.op FI λf bx A outer s H vs Q E hr h=>?_;let(a,X,BO,rfl,R,g,q):=h
 show(_,(aw 1 FI.nd (bJ ij)>>bV Pm rfl (bT (fG (k:=1) .a hr.mo (pY P w))) (cE 2 FI.nd) (aj (bV Pm rfl (bT (d5 (k:=2) .a hr.mo (pY P w) (aU .c))) (cE 3 FI.nd) (aj (cn (nE Zn OW OS g6 .b (aU (a9 aa' hr (aE .a (agw (yn .c .d ahA) rfl rfl (aqw _ _) gM)))))))))>>bV Pm rfl (bT (fG (k:=1) .a hr.mo (pY P w))) (cE 4 FI.nd) (aw 5 FI.nd (d5 (k:=1) .a hr.mo (pY P w) (aU .e))>>aj (cn (nE Zn OW OS g6 .b (aU (a9 ayq hr (bS .a (aH .f) (aH .f)))))))>>aj (aC .b)),2);sleep 3
 show#[z0L,2];intros r nr H1 s1 er;let big:(40:Nat)<=CM:=gM
 let wl:=rX X g.lw;let gl:=g.lp;let R0:oi K H1 r [] [] []:=((er,O,λi l vs e=>by simp at e),#[O,λi vs qs e=>by simp at e],by simp);let R1:=R.iz s1;let(M,pP,y,pB,kP,kW,kB,F1,W1):=R1.ex;show(0,a,C,M,6,F1.obj,O,MP,a,M,pP,y,pB,9,kP,kW,kB,O,F1,λlp H2 s2 UK RJ=>?_);rw[mB] at RJ;let s02:=s1>>>s2;let lne:lp≠r:=λz=>by erw[z,er] at UK
 show(lp,O,#[_,aY.of RJ],let I:fM:=λi Z S=>Ex4 λ(o2 G:Β) (Y:Δ) (U:Κ)=>Z=[cr a,cr r,o2,G,none,none]/\aq H S/\S lp==.lst ((X.map (·.nm)).map V.str)/\oi K S r Y U ((X.take i).flatMap λp=>uO X p);dG (K:=K) (a:=lp) (xs:=(X.map (·.nm)).map V.str) I (none,none,[],[],O,s02,RJ,R0.iz s2) (λi Z S _ h=>by
   let(_,_,_,_,_,_,h,_):=h
   show aY.of h) ?_ ?_)
 ·rintro i z Z H4 hi ⟨o2,G,Y,U,rfl,s4,l4,RR⟩
  rw[Wp,Wp] at hi;let(x,hx,rfl):=OR.mp hi;let(p,hp,rfl):=OR.mp hx;let mp:p∈X:=CU hp;let R4:=R.iz s4;let(M,pP,y,pB,kP,kW,kB,F4,W4):=R4.ex;let mpn:p.nm∈(X.map λp=>(p.nm,Pk p.sp)).map (·.1):=![mB] (CS.mpr (p,mp,O))
  show(0,a,C,M,6,F4.obj,O,MW,0,a,M,pP,y,pB,9,kP,kW,kB,_,p.nm,p.ws,O,F4,W4,ahF g.np,CS.mpr (p,mp,O),mpn,λm us H5 s5 n5 e5 p5=>?_);let lu:us.length=p.ws.length:=RY p5;let s05:=s4>>>s5;let mr:m≠r:=λz=>by erw[z,RR.xH.1] at n5
  show(m,O,#[_,aY.of e5],let I:fM:=λj Z S=>Ex3 λ(G:Β) (Y:Δ) (U:Κ)=>Z=[cr a,cr r,some (.str p.nm),G,none,none]/\aq H S/\S lp==.lst ((X.map (·.nm)).map V.str)/\S m==.lst us/\pM K S us p.ws/\oi K S r Y U (((X.take i).flatMap λp=>uO X p)++(p.ws.take j).map λw=>ie (CI p.nm w) X);dG (K:=K) (a:=m) (xs:=us) I (G,Y,U,O,s05,s5\l4,e5,p5,~~~RR.iz s5) (λj Z S _ h=>by
    let(_,_,_,_,_,_,h,_):=h
    show aY.of h) ?_ ?_)
  ·rintro j u Z L hu ⟨G,Y,U,rfl,J,l6,e6,p6,T⟩
   let(w,ew,hw):=aV p6 hu;let jl:=(ir.mp hu).1;show(0,.inl (O,_,aY.of T.xH.1),0,λd nd=>?_);let t1:=ar nd (.dK []);let d1:(upd L d (.dK [])) d==.dK []:=af;generalize upd L d (.dK [])=H7 at t1 d1 ⊢;show(3,d1,[(.inr p.nm,u)],O,(by change 1<=15;decide),2);rw[aj5];let st:bh H7 (upd H7 d (.dK [(.inr p.nm,u)])):=.dict d1;let d8:(upd H7 d (.dK [(.inr p.nm,u)])) d==.dK [(.inr p.nm,u)]:=af
   let t8:aq L (upd H7 d (.dK [(.inr p.nm,u)])):=λc o z=>by
    rw[ah (ak z nd)];show t1\z
   let hw8:=(hw.iz t1).bC st;generalize upd H7 d (.dK [(.inr p.nm,u)])=H8 at d8 t8 hw8 ⊢;let s8:=J>>>t8;show(a,d,X,BO,_,CI p.nm w,O,R.iz s8,CP g.lp gM,d8,λx=>?_,λl jh H9 t9 n9 e9 nm=>?_)
   ·by_cases c1:x=p.nm
    ·subst c1
     show .inr (u,w,cx rfl,by unfold CI;rw[iB rfl],hw8)
    ·show .inl #[by rw[bX (λz=>c1 (Zp z).symm)];rfl,by unfold CI;rw[iA c1]]
   let B:=t8>>>t9;let N:=T.iz B;let lr:l≠r:=λz=>by erw[z,t8\T.xH.1] at n9
   let lss:Y.length<=14:=by
    let h1:=T.xH.2.1;let h2:=T.num.1;rw[GY,CA,QT,yU] at h2
    let h3:((X.take i).flatMap λp=>p.ws).length+p.ws.length<=(X.flatMap λp=>p.ws).length:=by
     let e:X=X.take i++p::X.drop (i+1):=by
      let lt:=(ir.mp hp).1;let e2:=(ir.mp hp).2;rw[<-e2,anT,akG]
     let e3:=sU (λl:List bK=>(l.flatMap λp=>p.ws).length) e;simp only[EO,Vb,GY] at e3;omega
    omega
   show(r,1,N.xH.1,(by rw[CA];omega),2);let RN:=N.push e9 lr nm;let tr:bh H9 (upd H9 r (.lst (Y.map V.ref++[⇑l]))):=.list N.xH.1;let kk:∀b o,b≠r->L b==o->(upd H9 r (.lst (Y.map V.ref++[⇑l]))) b==o:=λb o n e=>![ah n] (B\e)
   show(_,Y++[l],U++[jh],O,λb o e=>?_,kk _ _ lne l6,kk _ _ mr e6,(p6.iz B).bC tr,2)
   ·show kk _ _ (ak e nr) (J\e)
   ·rw[take_snoc ew,RL,<-EJ]
    show RN
  ·rintro Z L ⟨G,Y,U,rfl,J,l6,e6,p6,T⟩
   show(9,Y,U,O,J,l6,2);rw[lu,Vj] at T;rw[take_snoc hp,EO];simpa[uO] using T
 ·rintro Z H4 ⟨o2,G,Y,U,rfl,s4,l4,RR⟩
  rw[CA,CA,Vj] at RR;let R4:=R.iz s4;let(M,pP,y,pB,kP,kW,kB,F4,W4):=R4.ex;show(0,a,C,M,6,F4.obj,O,MB,a,M,pP,y,pB,9,kP,kW,kB,O,F4,λlb H5 s5 nlb elb=>?_);rw[alM] at elb;let bne:lb≠r:=λz=>by erw[z,RR.xH.1] at nlb
  show(lb,O,#[_,aY.of elb],let I:fM:=λi Z S=>Ex4 λ(o4 o5:Β) (Y:Δ) (U:Κ)=>Z=[cr a,cr r,o2,G,o4,o5]/\aq H S/\S lb==.lst ((BO.map (·.nm)).map V.str)/\oi K S r Y U ((X.flatMap λp=>uO X p)++(BO.take i).map λb=>ie (CJ b) X);dG (K:=K) (a:=lb) (xs:=(BO.map (·.nm)).map V.str) I (none,none,Y,U,O,s4>>>s5,elb,~~~RR.iz s5) (λi Z S _ h=>by
    let(_,_,_,_,_,_,h,_):=h
    show aY.of h) ?_ ?_)
  ·rintro i z Z L hi ⟨o4,o5,Y,U,rfl,J,l6,T⟩
   rw[Wp,Wp] at hi;let(x,hx,rfl):=OR.mp hi;let(b,hb,rfl):=OR.mp hx;let mb:b∈BO:=CU hb;let il:=(ir.mp hb).1;let R6:=R.iz J;let(M,pP,y,pB,kP,kW,kB,F6,W6):=R6.ex;show(0,a,C,M,6,F6.obj,O,ME,0,a,M,pP,y,pB,9,kP,kW,kB,b.nm,b.one.nm,b.jg.nm,O,F6,ahG g.nb,CS.mpr (b,mb,O),λp rd=>?_);let tp:cb K L p [.str b.one.nm,.str b.jg.nm]:=.inl rd;let(m1,m2,m3):=g.ends b mb;show(0,.inl (O,_,aY.of T.xH.1),3,p,5,tp,iZ,0,p,5,tp,i6,a,X,BO,b,O,R6,g,m1,m2,m3,λl jh H9 t9 n9 e9 nm=>?_);let N:=T.iz t9;let lr:l≠r:=λz=>by erw[z,T.xH.1] at n9
   let lss:Y.length<=22:=by
    let h1:=T.xH.2.1;let h2:=T.num.1;rw[GY,CA,QT,yU] at h2;have:=g.lb;omega
   show(r,1,N.xH.1,(by rw[CA];omega),2);let RN:=N.push e9 lr nm;let kk:∀c o,c≠r->L c==o->(upd H9 r (.lst (Y.map V.ref++[⇑l]))) c==o:=λc o n e=>![ah n] (t9\e)
   show(9,Y++[l],U++[jh],O,λc o e=>kk _ _ (ak e nr) (J\e),kk _ _ bne l6,2);rwa[take_snoc hb,RL,<-EJ]
  ·rintro Z L ⟨o4,o5,Y,U,rfl,J,l6,T⟩
   rw[CA,CA,Vj] at T;show#[0,q r Y U L J nr T]
def aba {i j:Nat}(h:i<=j)(Z:j<=xs.length):me xs (some (i:Int)) (some (j:Int))=(xs.drop i).take (j-i):=by
 unfold me;rw[HT.xo,HT.xo,UC Z,UC (show i<=xs.length by omega)]
def bj (AP:Α):Nat:=(AP.flatMap λp=>p.ws).length
def acR (ps:Α)(p:bK):bj (ps++[p])=bj ps+p.ws.length:=by
 unfold bj;rw[EO,GY];simp
def acK (h:AP[i]?==p):bj (AP.take i)+p.ws.length<=bj AP:=by
 let e:AP=AP.take i++p::AP.drop (i+1):=by
  let lt:=(ir.mp h).1;let Y:=(ir.mp h).2;rw[<-Y,anT,akG]
 let Z:=sU (λl:List bK=>(l.flatMap λp=>p.ws).length) e;simp only[EO,Vb,GY] at Z;unfold bj;omega
inductive aj7 (K:Frag)(C:BQ)(vs:ε)(H:Hp)(Q:VK)(X:XK):Prop
|mk (a Z:BQ)(AP:Α)(BO:Μ)(us:ε)(_:vs=[.ref a,.ref Z])(_:BK K H C a AP BO)(_:jZ AP BO)(_:H Z==.lst us)(_:bj AP<=us.length)(_:us.length<=100)(_:∀(p dT Y:BQ)(H':Hp),aq H H' ->H' p==.tup [.ref dT,.ref Y]->Q (.ref p) H')
def yV:av ["F","numbers","pushes","at","pin","behind","pulls"] ye (ae Wa):=sq
def apy (D:Def K mg "pulls_and_pushes" Wa ye)(a_:mg "len"=none)(RM:mg "dict"=none)(dY:mg "zip"=none)(MP:!ce 1 C "pins" Ox (oh K C))(MW:!ce 2 C "ways" V5 (yS K C))(MB:!ce 1 C "bars" Ox (og K C)):
  am P w K mg gV 3 "pulls_and_pushes" ye (aj7 K C):=by
 show D.op yV λf bx A outer s H vs Q E hr h=>?_;let(a,nl,Y,BO,us,rfl,R,g,hn,lu,lu1,q):=h;let wl:bj Y<=2*Y.length:=rX Y g.lw;let gl:=g.lp;let gb:=g.lb
 show(_,(aw 2 yV.nd fh>>aw 3 yV.nd ag>>bV Pm rfl (bT (fG (k:=1) .a hr.mo (pY P w))) (cE 4 yV.nd) (aw 5 yV.nd (ax bW .d (aI ay rfl a_ cu (aU (d5 (k:=2) .a hr.mo (pY P w) (aU .e)))))>>d3 (cD hr) .c .e (dH fW .b (eO .d) (eO .f)) rfl>>aj (aw 3 yV.nd .f))>>aw 6 yV.nd (aas rfl rfl RM rfl dY (aE (fG (k:=1) .a hr.mo (pY P w)) (dH fW .b (eO .d) fV)))>>aj (aC (aJ (aE .g .c)))),2);sleep 4
 intro U nU;let s1:=ar nU (.dK []);let e1:(upd H U (.dK [])) U==.dK []:=af;generalize upd H U (.dK [])=H1 at s1 e1 ⊢;let R1:=R.iz s1;let(X,y,B,pB,j,u,c,F1,W1):=R1.ex;show(0,a,C,X,6,F1.obj,O,MP,a,X,y,B,pB,9,j,u,c,O,F1,λlp H2 s2 UK RJ=>?_);rw[mB] at RJ;let s02:=s1>>>s2;let lne:lp≠U:=λz=>by erw[z,e1] at UK
 show(lp,O,#[_,aY.of RJ],let I:fM:=λi Z H'=>Ex3 λ(o4 o5:Β) (N:δ)=>Z=[cr a,cr nl,cr U,some ↥(bj (Y.take i):Int),o4,o5,none]/\aq H H'/\H' lp==.lst ((Y.map (·.nm)).map V.str)/\H' U==.dK N/\N.length<=i;dG (K:=K) (a:=lp) (xs:=(Y.map (·.nm)).map V.str) I (none,none,[],O,s02,RJ,s2\e1,CK _) (λi Z H' _ h=>by
   let(_,_,_,_,_,h,_):=h
   show aY.of h) ?_ ?_)
 ·rintro i z Z H4 hi ⟨o4,o5,N,rfl,S,l4,e4,lk⟩
  rw[Wp,Wp] at hi;let(x,hx,rfl):=OR.mp hi;let(p,hp,rfl):=OR.mp hx;let mp:p∈Y:=CU hp;let il:i<Y.length:=(ir.mp hp).1;let R4:=R.iz S;let(X,y,B,pB,j,u,c,F4,W4):=R4.ex;let mpn:p.nm∈(Y.map λp=>(p.nm,Pk p.sp)).map (·.1):=![mB] (CS.mpr (p,mp,O))
  show(3,a,C,X,6,F4.obj,O,MW,0,a,X,y,B,pB,9,j,u,c,_,p.nm,p.ws,O,F4,W4,ahF g.np,CS.mpr (p,mp,O),mpn,λm vs H5 L n5 e5 p5=>?_);let lv:vs.length=p.ws.length:=RY p5;show(m,0,.inl (aY.of e5),1,2);let tk:=take_snoc hp;let wn:bj (Y.take (i+1))=bj (Y.take i)+p.ws.length:=by rw[tk,acR]
  let wt:=acK hp;let eb:(bj (Y.take i):Int)+((vs.length:Nat):Int)=((bj (Y.take (i+1)):Nat):Int):=by rw[wn,lv];omega
  let T:=S>>>L;let wI:=T\hn;dsimp only;rw[eb];show(3,3,0,nl,0,aY.of wI,2);rw[aba gu gu];intros m2 n6 H6 J e6;let e46:=J\(L _ _ e4);show(3,U,0,jP.k (k:=.inr p.nm) e46 (K' (show N.length<=1000 by omega) gM),2);let G:=L>>>J;let lpk:=g9 N (.inr p.nm) ⇑m2;show(0,9,putK N (.inr p.nm) ⇑m2,O,λb o e=>?_,2,af,gu)
  ·rw[ah (ak e nU)]
   show G\(S _ _ e)
  ·rw[ah lne]
   show G\l4
 ·rintro Z H4 ⟨o4,o5,N,rfl,S,l4,e4,lk⟩
  let R4:=R.iz S;let(X,y,B,pB,j,u,c,F4,W4):=R4.ex;show(0,a,C,X,6,F4.obj,O,MB,a,X,y,B,pB,9,j,u,c,O,F4,λlb H5 L nlb M=>?_);rw[alM] at M;let T:=S>>>L;show(3,0,nl,0,aY.of (T\hn),2);let hw:bj Y<=us.length:=gu
  rw[CA,CA,Vj,jr hw];intros m2 n6 H6 J e6
  let eks:(BO.map (·.nm)).map V.str=(BO.map λb=>(Rq b.nm:Key)).map kV:=by
   rw[Pp,Pp];rfl
  rw[eks] at M;show(lb,m2,BO.map λb=>(Rq b.nm:Key),us.drop (bj Y),O,J\M,e6,by rw[CA];omega,λdT H7 s7 n7 e7=>?_);show(3,sZ,2);intros pt n8 H8 s8 e8;let s58:=L>>>J>>>(s7>>>s8);let s08:=S>>>s58;show q pt dT U H8 s08 e8
inductive yW (K:Frag)(C:BQ)(vs:ε)(H:Hp)(Q:VK)(Y:XK):Prop
|mk (a Z:BQ)(AP:Α)(BO:Μ)(us:ε)(_:vs=[.ref a,.ref Z])(_:BK K H C a AP BO)(_:jZ AP BO)(_:H Z==.lst us)(_:us.length=2*AP.length)(_:∀(d:BQ)(H':Hp),aq H H' ->Q (.ref d) H')
def UM:av ["F","numbers","motion","at","pin"] ye (ae Wb):=sq
def apA (D:Def K mg "motion_from" Wb ye)(bZ:mg "enumerate"=none)(MP:!ce 1 C "pins" Ox (oh K C)):
  am P w K mg gV 2 "motion_from" ye (yW K C):=by
 show D.oo UM λH hr h=>?_;let(a,A,c,BO,Y,rfl,R,g,hn,lu,q):=h;let gl:=g.lp
 show(_,(aw 2 UM.nd fh>>bV Pm rfl (rG rfl bZ (aU (fG (k:=1) .a hr.mo (q_Y P w)))) (gy rfl (aK (cE 3 UM.nd) (aK (cE 4 UM.nd) cC))) (aj (d3 (cD hr) .c .e (aJ (aE (bP aG .b (ax bQ ag .d)) (bP aG .b (ax bW (ax bQ ag .d) ag)))) rfl))>>aj (aC .c)),2);sleep 2
 intro d nd;let J:=ar nd (.dK []);let m:(upd H d (.dK [])) d==.dK []:=af;generalize upd H d (.dK [])=H1 at J m ⊢;let R1:=R.iz J;let(dx,pP,pW,pB,kP,kW,kB,F1,W1):=R1.ex;show(0,a,C,dx,6,F1.obj,O,MP,a,dx,pP,pW,pB,9,kP,kW,kB,O,F1,λQ H2 s2 UK f=>?_);rw[mB] at f;let G:=J>>>s2;let y:Q≠d:=λz=>by erw[z,m] at UK
 show(Q,O,#[_,aY.of f],let I:fM:=λi Z M=>Ex3 λ(B E:Β) (X:δ)=>Z=[cr a,cr A,cr d,B,E]/\aq H M/\M Q==.lst ((c.map (·.nm)).map V.str)/\M d==.dK X/\X.length<=i;nS (K:=K) (a:=Q) (xs:=(c.map (·.nm)).map V.str) I (none,none,[],O,G,f,s2\m,CK _) (λi Z M _ h=>by
   let(_,_,_,_,_,h,_):=h
   show aY.of h) ?_ ?_)
 ·rintro i z Z N S hi ⟨B,E,X,rfl,T,l4,e4,lk⟩ n9
  rw[Wp,Wp] at hi;let(x,hx,rfl):=OR.mp hi;let(p,hp,rfl):=OR.mp hx;let il:i<c.length:=(ir.mp hp).1;let U:=ar n9 (.tup [.int (i:Int),.str p.nm]);let e9:(upd N S (.tup [.int (i:Int),.str p.nm])) S==.tup [.int (i:Int),.str p.nm]:=af;generalize upd N S (.tup [.int (i:Int),.str p.nm])=H5 at U e9 ⊢;show(S,0,cb.of e9,O,4,1,2);let L:=T>>>U;let wI:=L\hn;let l1:2*i<Y.length:=gu
  let l2:2*i+1<Y.length:=gu
  let c2:xX 2 (i:Int):=#[by decide+kernel,CP (intBits_le_64 gu gu) gM]
  let a1:oM Y (2*(i:Int))==Y[2*i]:=by
   have:=b9 (xs:=Y) (j:=2*i) (gE l1);rwa[show((2*i:Nat):Int)=2*(i:Int) by omega] at this
  let a2:oM Y (2*(i:Int)+1)==Y[2*i+1]:=by
   have:=b9 (xs:=Y) (j:=2*i+1) (gE l2);rwa[show((2*i+1:Nat):Int)=2*(i:Int)+1 by omega] at this
  show(3,1,c2,A,5,aY.of wI,a1,3,1,c2,1,A,5,aY.of wI,a2,sZ,2);intros t n6 H6 s6 e6;let u:=s6\(U _ _ e4);show(3,d,0,jP.k (k:=.inr p.nm) u (K' (show X.length<=1000 by omega) gM),2);let lp9:=g9 X (.inr p.nm) ⇑t;let kk:∀b o,b≠d->N b==o->(upd H6 d (.dK (putK X (.inr p.nm) ⇑t))) b==o:=λb o n e=>![ah n] (s6\(U _ _ e))
  show(6,λb o e=>kk b o (ak e nd) (T\e),kk _ _ y l4,af,gu)
 ·rintro Z N ⟨B,E,X,rfl,T,_⟩
  show#[0,q d _ T]
inductive j6 (K:Frag)(C N:BQ)(vs:ε)(H:Hp)(Q:VK)(E:XK):Prop
|mk (a R Y Z pB d:BQ)(ps:Ο)(bs:Ε)(T U S BN:δ)(_:vs=[.ref a,.ref d])(_:jO K H C a R Y Z pB ps bs T U S)(_:H d==.dK BN)(_:(∀X∈BN,∃x:Str,X.1=.inr x))(_:bs.length<=60)(_:iy H E N "bar" (bs.map (·.1)) BN)(_:∀H',KeysIn (bs.map (·.1)) BN->aq H H' ->Q .cS H')
def kD:av ["F","told","bars","bar"] ["F","told"] (ae eY):=sq
def aaX (D:Def K mg "check_bars" eY ["F","told"])(MB:!ce 1 C "bars" Ox (og K C))(JL:mg "NoBar"==⇑CB)(aj8:Q3 K CB fB)(ayu:!bv 1 fB fdB VQ (oa CB "bar"))(aj9:Binds K fdB VQ []):!am 4 "check_bars" ["F","told"] (j6 K C CB):=by
 show Fn.afd (sp':=λS H Q E1=>∃E,E1=thE H E/\j6 K C CB S H Q E) (λS H Q E h=>?_) (λS H Q E h=>(E,O,h)) (D.okX kD (λS H Q E h=>?_) (λf bx A U s H S Q E hr h=>?_))
 ·let(a,G,i,j,pB,d,m,X,kP,kW,kB,BN,rfl,_):=h
  rfl
 ·let(E',_,a,G,i,j,pB,d,m,X,kP,kW,kB,BN,rfl,_):=h
  rfl
 let px:Passes (aR P w) (!nK ["F","told","bars","bar"] "check_bars" (ae eY) f bx A U s H E) E:=rm;let L1:1<=CM:=gM
 show(_,(aw 2 kD.nd (fG (k:=1) .a hr.mo px)>>aj (xC (bV agn rfl (IA .b) (cE 3 kD.nd) (aj (bN (oK ja .d .c rfl) (aj (um aj8 ayu hr.mo aj9 JL (aU .d))) aQ))))),2);try dsimp only[nK,kO,Cx.t_,Cx.tZ]
 clear px;let(E',rfl,a,G,i,j,pB,d,m,X,kP,kW,kB,BN,rfl,R,L,hk,hl,hs,q):=h;show(0,a,C,G,6,R.obj,O,MB,a,G,i,j,pB,m,X,kP,kW,kB,O,R,λl J p nl el=>?_);let M:=p\L;show(0,d,BN,O,M,λo=>?_);let ld:l≠d:=λz=>by erw[z,M] at el
 show let I:fM:=λt Z H'=>∃(g:Β),Z=[cr a,cr d,cr l,g]/\H'=upd J d .w/\KeysIn (X.map (·.1)) (BN.take t);yy (d:=d) (o:=o) (BN:=BN) I (none,8,λkv h=>(by simp at h)) (λt Z H' _ h=>by
   let(_,_,rfl,_):=h
   show af) ?_ ?_
 ·rintro t k y Z H6 u ⟨g,rfl,rfl,N⟩
  let(x,ex):=hk _ (CU u);have Tu :k=.inr x:=ex;subst Tu;show(3,l,0,.inl (aY.of (by rwa[ah ld])),O,oQ _,0,2);show bH (λc=>?_) (λc=>?_)
  ·let B:(!ZD (.str x) ((X.map (·.1)).map V.str))=true:=c
   let nx:x∉X.map (·.1):=λz=>by
    erw[jz,Qd z] at B
   let WY:(upd J d .w) d==(.e_ o (.dK BN)):=af;let T:aZ d H (upd J d .w):=λb Y n e=>![ah n] (p\e)
   generalize upd J d .w=H8 at WY T ⊢;show(0,L1,iT.go λe H' sH nd he=>.inr (d,o,BN,sH\WY,(λY u' z=>by erw[L] at z),2));let dp:e≠d:=λz=>by erw[z,WY] at nd
   show hs t x y u nx N e _ (λb Y z=>?_) ?_ (by rwa[ah dp])
   ·by_cases n:b=d
    ·subst n
     rw[L] at z;rwa[af]
    ·rw[ah n]
     show sH\(T b Y n z)
   ·cases z:H e with
    | none=>rfl
    | some Y=>erw[T e Y dp z] at nd
  ·show(0,O,λkv h=>?_)
   rw[take_snoc u] at h
   rcases OB.mp h with h|h
   ·show N kv h
   ·rw[OK.mp h]
    let B:¬ (!ZD (.str x) ((X.map (·.1)).map V.str))=true:=c;show(x,2,O);by_cases hx:x∈X.map (·.1)
    ·show hx
    ·rw[jz,Sb hx] at B
     show CC rfl B
 ·rintro Z H6 ⟨g,rfl,rfl,N⟩
  rw[Vj] at N;show(d,o,BN,af,λY u' z=>(by have z':H d==(.e_ Y u'):=z;erw[L] at z'),2)
  let s2:aq H (upd (upd J d .w) d (.dK BN)):=λb Y e=>by
   by_cases n:b=d
   ·subst n
    rw[L] at e;rwa[af]
   ·rw[ah n,ah n]
    show p\e
  show q _ N s2
def xI :(qr r).1<=0 ↔ r<=0:=by
 let Y:=UR (q:=r);let Z:=an0 (q:=r);change r.num<=0 ↔ r<=0;constructor
 ·intro h
  by_cases c:r=0
  ·rw[c]
   show uY
  ·let n:¬ 0<=r:=λz=>c (Z.mp (by have:=Y.mpr z;omega))
   grind
 ·intro h
  by_cases c:r.num=0
  ·omega
  ·let n:¬ 0<=r.num:=λz=>c (Z.mpr (by have:=Y.mp z;grind))
   omega
def JM :0<=(qr r).1 ↔ 0<=r:=UR (q:=r)
def yX (r:Rat×Rat):Bool:=decide (r.1<=0) && decide (0<=r.2)
inductive RO (K:Frag)(vs:ε)(H:Hp)(Q:VK)(Z:XK):Prop
|mk (v:V)(r:Rat×Rat)(_:vs=[v])(_:gx K H v r)(_:Q (.bl (yX r)) H)
def abY:av ["two"] ["two"] (ae f9):=sq
def abV (D:Def K mg "has_nought" f9 ["two"]):!am 1 "has_nought" ["two"] (RO K):=by
 show D.op abY λf J A Z s H R Q E L h=>?_;let(v,r,rfl,(a,M,N,rfl,Y,(S,rfl,U),(T,rfl,X)),q):=h;show(_,(aj (aC (aiW ag5 ag5 (aH (aH .a)) ag (aH (aH .a))))),0,a,5,Y,iZ,S,5,U,iZ,1,0,2);show bH (λc=>?_) (λc=>?_)
 ·show(0,a,5,Y,i6,T,5,X,iZ,1,2)
  let e:decide ((0:Int)<=(qr r.2).1)=yX r:=by
   unfold yX;rw[Qd (xI.mp (RE c)),Bool.true_and];show decide_eq_decide.mpr JM
  change Q (.bl (decide ((0:Int)<=(qr r.2).1))) H;rwa[e]
 ·let e:yX r=false:=by
   unfold yX;rw[Sb (λz=>c (Qd (xI.mpr z))),at1]
  rwa[e] at q
theorem ahI :∀{X:List Y} {Z:List β} {a:Y} {b:β},Paired F X Z->F a b->Paired F (X++[a]) (Z++[b])
 | _,_,_,_,.nil,h=>.cons h .nil
 | _,_,_,_,.cons h t,h'=>.cons h (ahI t h')
def TZ (BN:δ)(B:Ν)(x:Str):Prop:=cj BN (.inr x)≠none/\yX (B x)=true
def uP (H:Hp)(E:XK)(Z:BQ)(ns:τ)(BN:δ)(B:Ν):Prop:=∀(t:Nat)(x:Str),ns[t]?==x->(∀y∈ns.take t,TZ BN B y)->¬ TZ BN B x->iT H E Z "bar" (.str x)
theorem uP.iz (h:uP H E CD ns BN B)(s:aq H H1):uP H1 E CD ns BN B:=λt x e k n=>(h t x e k n).iz s
def JN (h:yX r=true):r.1<=0/\0<=r.2:=by
 unfold yX at h;rw[EK] at h;show#[RE h.1,RE h.2]
inductive JO (K:Frag)(C X Y:BQ)(vs:ε)(H:Hp)(Q:VK)(E:XK):Prop
|mk (a d:BQ)(AP:Α)(BO:Μ)(BN:δ)(B:Ν)(_:vs=[.ref a,.ref d])(_:BK K H C a AP BO)(_:BO.length<=60)(_:H d==.dK BN)(_:(∀Z∈BN,∃x:Str,Z.1=.inr x))(_:(∀x v,cj BN (.inr x)==v->gx K H v (B x)))(_:iy H E X "bar" (BO.map (·.nm)) BN)(_:(KeysIn (BO.map (·.nm)) BN->uP H E Y (BO.map (·.nm)) BN B))(_:∀(l:BQ)(us:ε)(H':Hp),KeysIn (BO.map (·.nm)) BN->(∀b∈BO,TZ BN B b.nm)->aq H H' ->H l=none->H' l==.lst us->Paired (gx K H') us (BO.map λb=>B b.nm)->Q ⇑l H')
def kE:av zaT U0 (ae eZ):=sq
def aaM (D:Def K mg "all_bounds" eZ U0)(MB:!ce 1 C "bars" Ox (og K C))(JP:!am 4 "check_bars" ["F","told"] (j6 K C CB))(JQ:!am 1 "has_nought" ["two"] (RO K))
  (gj:mg "NoBound"==⇑CD) (uQ:Q3 K CD fD) (yY:!bv 1 fD fdD VQ (oa CD "bar")) (jG:Binds K fdD VQ []):!am 5 "all_bounds" U0 (JO K C CB CD):=by
 show D.okX kE (λvs H Q E h=>?_) (λf bx A S s H vs Q E L h=>?_)
 ·let(a,d,AP,X,G,B,rfl,_):=h
  rfl
 let(a,d,AP,X,G,B,rfl,R,lb,hd,hk,tb,hs,hbE,q):=h;let px:Passes (aR P w) (!nK zaT "all_bounds" (ae eZ) f bx A S s H E) E:=rm;let L1:1<=CM:=gM
 let N:((X.map λb=>(b.nm,(b.one.nm,b.jg.nm))).map (·.1))=X.map (·.nm):=by rw[Pp];rfl
 show(_,(cn (cW JP L.mo px (aE .a .b))>>aw 2 kE.nd (bJ ij)>>bV agn rfl (bT (fG (k:=1) .a L.mo px)) (cE 3 kE.nd) (bN (PW.pt (EC (m9 (lh (cD L) .d .b)) (xN (ail (qi (cW JQ L.mo px (aU (iR (cD L) .b .d (λ_ _=>O))))))))) (aj (um uQ yY L.mo jG gj (aU .d))) aQ>>aj (cn (nE Zn OW OS g6 .c (aU (iR (cD L) .b .d (λ_ _=>O))))))>>aj (aC .c)),2);sleep 3
 let(dx,pP,pW,pB,kP,kW,kB,F0,W0):=R.ex;show(3,a,dx,pP,pW,pB,d,9,kP,kW,kB,G,O,F0,hd,hk,by rw[CA];omega,by rwa[N],λH1 ki s1=>#[z0L,2]);rw[N] at ki;intros M n2 H2 s2 e2;let u:=s1>>>s2;let m:H M=none:=s1.free n2;let F2:=F0.iz u;show(0,a,C,dx,6,F2.obj,O,MB,a,dx,pP,pW,pB,9,kP,kW,kB,O,F2,λl H3 s3 nl el=>?_);rw[N] at el;let ne:l≠M:=λz=>by erw[z,e2] at nl
 show(l,O,#[_,aY.of el],let I:fM:=λi Z T=>QJ λ(o3:Β) (U:ε)=>Z=[cr a,cr d,cr M,o3]/\aq H T/\T l==.lst ((X.map (·.nm)).map V.str)/\T M==.lst U/\Paired (gx K T) U ((X.take i).map λb=>B b.nm)/\∀y∈(X.map (·.nm)).take i,TZ G B y;dG (K:=K) (a:=l) (xs:=(X.map (·.nm)).map V.str) I (none,[],O,u>>>s3,el,s3\e2,.nil,λy h=>(by simp at h)) (λi Z T _ h=>by
   let(_,_,_,_,h,_):=h
   show aY.of h) ?_ ?_)
 ·rintro i z Z H4 hi ⟨o3,U,rfl,Y,l4,j,p,x⟩
  obtain ⟨b,eb,rfl⟩:∃b,X[i]?==b/\z=.str b.nm:=by
   rw[Pp,Wp] at hi;let(b,e1,e2):=OR.mp hi;show(b,e1,e2.symm)
  let en:(X.map (·.nm))[i]?==b.nm:=by rw[Wp,eb];rfl
  let g:¬ TZ G B b.nm->iT H4 E CD "bar" (.str b.nm):=λn=>(hbE ki i b.nm en x n).iz Y;let J:∀T:Hp,aq H T ->gU T d (.str b.nm) (cj G (.inr b.nm)):=λT s'=>gU.k (k:=.inr b.nm) (s'\hd)
  let lu:U.length=(X.take i).length:=by
   have:=RY p;rwa[CA] at this
  rw[QT] at lu;cases ev:cj G (.inr b.nm) with
  | none=>
   rw[ev] at J;show(3,d,0,J _ Y,0,pJ (pJ (0,L1,(g λz=>z.1 ev).go)))
  | some v=>
   rw[ev] at J;let hv:=tb\ev;show(3,d,0,J _ Y,0,nF ?_);show(3,d,0,J _ Y,v,B b.nm,O,hv.iz Y,0,bH (λc=>(0,L1,(g λz=>by erw[z.2] at c).go)) (λc=>?_))
   let cc:yX (B b.nm)=true:=by
    cases e:yX (B b.nm) with
    | true=>rfl
    | false=>rw[e] at c;show CC rfl c
   show(0,.inl (O,_,aY.of j),3,d,0,J _ Y,M,1,j,K' (show U.length<=1000 by omega) gM,2);let st:bh H4 (upd H4 M (.lst (U++[v]))):=.list j;show(_,U++[v],O,λc o z=>?_,2,af,2,λy hy=>?_)
   ·rw[ah (ak z m)]
    show Y\z
   ·rw[ah ne]
    show l4
   ·rw[take_snoc eb,RL]
    show ahI (Paired.dP p λ_ _ z=>z.bC st) ((hv.iz Y).bC st)
   ·rw[take_snoc en] at hy
    rcases OB.mp hy with h|h
    ·show x y h
    ·rw[OK.mp h]
     show#[![ev] (aow _),cc]
 ·rintro Z H4 ⟨o3,U,rfl,Y,l4,j,p,x⟩
  rw[CA,CA,Vj] at p;rw[T4 gN] at x;show#[0,q M U H4 ki (λb hb=>x _ (CS.mpr (b,hb,O))) Y m j p]
theorem lJ :∀{us:ε} {zs:List Y},us.length=zs.length->(∀(i:Nat)(u:V),us[i]?==u->∃z,zs[i]?==z/\R u z)->Paired R us zs
 | [],[],_,_=>.nil
 | u::us,z::zs,l,h=>by
  let(Z,e,hz):=h 0 u rfl;cases e;show .cons hz (lJ (~~~l) λi u e=>h (i+1) u (~~~e))
inductive rY (K:Frag)(vs:ε)(H:Hp)(Q:VK)(X:XK):Prop
|mk (l:BQ)(us:ε)(rs:Υ)(_:vs=[.ref l])(_:H l==.lst us)(_:Paired (iE K H) us rs)(_:us.length<=100)(_:∀(Z:BQ)(Y :ε)(H':Hp),aq H H' ->H' Z==.lst Y->Paired (iE K H') Y (rs.map λr=> -r)->Q ⇑Z H')
def apC:av Vy Vy (ae Wc):=sq
def apD (D:Def K mg "signs_turned" Wc Vy):!am 1 "signs_turned" Vy (rY K):=by
 show D.oo apC λH Y h=>?_;let(l,M,J,rfl,N,S,ln,q):=h;let C:=RY S;show(_,(aj (aC (ix (tn:=["number"]) (fr:=[]) (mQ:=[]) (bT .a) (aJ (aE (gw dm .D) .D))))),0,l,O,#[_,aY.of N],λg G=>?_);show du (oC:=[]) (K:=K) (a:=l) (xs:=M) (λi v j=>∃r,J[i]?==r/\iE K j v (-r)) G (K' ln gM) (λX Z=>aY.of (Z\N)) (λi v b c T e B ⟨r,o,x⟩=>(r,o,x.bC (bh.ks e B))) ?_ ?_
 ·intro i u X R z Z k
  let(r,U,Y):=aV S z;obtain ⟨p,rfl,Q⟩:qU K X u (qr r):=Y.iz Z;show(0,p,5,Q,iZ,3,p,5,Q,i6,sZ,2);intros I f H3 L m;show k _ _ L (r,U,I,O,2);rw[IC];show cb.of m
 ·intro T X E A Z y
  show q g T X Z y (lJ (![E,C,CA]) λi v e=>?_);let(r,U,Y):=A i v e;show(-r,by rw[Wp,U];rfl,Y)
inductive RP (vs:ε)(H:Hp)(Q:VK)(Z:XK):Prop
|mk (u v:V)(x y:Int×Int)(_:vs=[u,v])(_:Nm H u x)(_:Nm H v y)(_:Okn 20000000 x)(_:Okn 20000000 y)(_:Q (.bl (decide (x.1*y.2<y.1*x.2))) H)
def aeX:av IS IS (ae jn):=sq
def acH (D:Def K mg "is_less" jn IS):!Fn CX 1 "is_less" IS RP:=by
 show D.oo aeX λH R h=>?_;let(u,v,x,y,rfl,(Y,rfl,S),(Z,rfl,T),U,X,q):=h;show(_,(aj (aC (jT kN (ax bQ (aH .a) (aH .b)) (ax bQ (aH .b) (aH .a)) (l_ _)))),2);let c:∀{i j:Int},intBits i<=20000000->intBits j<=20000000->xX i j:=λa b=>#[CP a gM,CP b gM];show(0,Y,5,cb.of S,iZ,0,Z,5,cb.of T,i6,1,c U.top X.bot,0,Z,5,cb.of T,iZ,0,Y,5,cb.of S,i6,1,c X.top U.bot,1,q)
inductive o_ (C:BQ)(vs:ε)(H:Hp)(Q:VK)(S:XK):Prop
|mk (a U Z X Y:BQ)(us:ε)(r c:Nat)(T:Px.Tb)(_:vs=[.ref a])(_:iY H C a U Z X Y us r c T)(_:c<=900)(_:∀(l:BQ)(H':Hp),aq H H' ->H l=none->H' l==.lst (((KA c).filter λj=>decide (T.L r j<0)).map λ(i:Nat)=>V.int (i:Int))->Q ⇑l H')
def adW:av Ox Ox (ae dA):=sq
def zaq (F:oN K "growing" "Table.growing" dA f fd)(Z:uG K C)(g:mg "range"=none)(b:mg "len"=none):!bv 1 f fd Ox (o_ C):=by
 show mx F adW (λB H Q E h=>?_) (λbx A X s H B Q E hr h=>?_)
 ·let(a,U,I,G,z,M,r,c,T,rfl,_):=h
  rfl
 let(a,U,I,G,z,M,r,c,T,rfl,R,x,q):=h;show(_,(aj (aC (uE (tn:=["column"]) (fr:=Ox) (mQ:=[0]) (fu rfl g (aU (aI ay rfl b cu (aU .y)))) (λ_ _ _ _=>(dh (i:=0) (show(["column","self"]:List Str).Nodup from by decide+kernel) rfl (V1 rfl))) (λ_ _ _ _=>(zai (bD kN (bP (rC (K:=K) rfl) (bP (rC (K:=K) rfl) (aly (K:=K) rfl .b rfl) (gw dm ag)) .a) ag))) .a))),0,a,C,U,4,R.obj,Z.cls,Z.qW,O,G,0,.inl (.inl (.inl R.qW)),2);rw[cJ];show(0,gu,gu,λD J=>?_);show ada (oC:=[some ⇑a]) (n:=c) (λj=>decide (T.L r j<0)) J (K' x gM) ?_ ?_ ?_
 ·intro i N R2 y Y k
  let S:=R.lC Y;let(p,m,o):=S.last;show(0,a,C,U,4,S.obj,Z.cls,Z.iL,7,I,M,1,.inl (.inl S.iL),m,0,p,5,.inl (.inl o),aof gu,1,0,k)
 ·intro i N R2 y Y k
  show#[0,by rwa[VM]]
 ·intro N Y u
  show q D N Y J u
def Two (H:Hp)(v:V)(a k:Nat):Prop:=∃p,v=⇑p/\H p==.tup [.int (a:Int),.int (k:Int)]
inductive rZ (C:BQ)(vs:ε)(H:Hp)(Q:VK)(S:XK):Prop
|mk (a U Z X Y:BQ)(us:ε)(r c B:Nat)(T:Px.Tb)(v:V)(x k:Nat)(_:vs=[.ref a,v])(_:iY H C a U Z X Y us r c T)(_:Two H v x k)(_:x<r)(_:k<c)(_:SzT r c B T)(_:B<=4000000)(_:∀(u:V)(H':Hp),aq H H' ->Nm H' u (-.N*T.L x c,T.L x k)->Q u H')
def zaI:av ["self","two","line"] ["self","two"] (ae ef):=sq
def agX (F:oN K "growth" "Table.growth" ef f fd)(Y:uG K C):!bv 1 f fd ["self","two"] (rZ C):=by
 show mx F zaI (λG H Q E h=>?_) (λbx A S s H G Q E hr h=>?_)
 ·let(a,L,N,u,y,X,r,c,B,T,v,x,k,rfl,_):=h
  rfl
 let(a,L,N,u,y,X,r,c,B,T,v,x,k,rfl,R,(U,rfl,M),b,hk,J,hB,q):=h
 show(_,(aw 2 zaI.nd (bP aG .y (aH .b))>>aj (aC (aJ (aE (ax bQ (gw dm (bP aG (bP aG .y (gw dm ag)) (aH .b))) (bP aG .c (gw dm ag))) (bP aG .c (aH .b)))))),2)
 let(D,i,j):=R.last;let(Z,o,I):=R.line (s:=x) gu;let b1:=J.2 r k gu gu;let g:=J.2 x c gu gu;show(0,a,C,L,4,R.obj,Y.cls,Y.iL,7,U,5,cb.of M,iZ,N,X,1,.inl (.inl R.iL),o,0,a,C,L,4,R.obj,Y.cls,Y.iL,7,N,X,1,.inl (.inl R.iL),i,0,U,5,cb.of M,i6,D,5,.inl (.inl j),mZ gu,3,0,Z,5,.inl (.inl I),rM,1,dZ (m:=B) (n:=B) (by rwa[vP]) g gu gu,3,U,5,cb.of M,i6,Z,5,.inl (.inl I),mZ gu,sZ,λp z=>?_);show q _ _ (ar z _) (p,O,af)
inductive r_ (C:BQ)(vs:ε)(H:Hp)(Q:VK)(S:XK):Prop
|mk (a U Z X Y:BQ)(us:ε)(r c B:Nat)(T:Px.Tb)(x y k:Nat)(_:vs=[.ref a,.int (x:Int),.int (y:Int),.int (k:Int)])(_:iY H C a U Z X Y us r c T)(_:x<r)(_:y<r)(_:k<c)(_:SzT r c B T)(_:B<=4000000)(_:Q (.bl (decide (T.L x c*T.L y k<T.L y c*T.L x k\/(T.L x c*T.L y k=T.L y c*T.L x k/\T.dn x<T.dn y)))) H)
def gZ:av ["self","at","best","column","one","other"] zaN (ae cQ):=sq
def afS (F:oN K "is_sooner" "Table.is_sooner" cQ f fd)(Z:uG K C):!bv 1 f fd zaN (r_ C):=by
 show mx F gZ (λg H Q E h=>?_) (λbx A J s H g Q E hr h=>?_)
 ·let(a,Y,S,b,I,U,r,c,B,T,x,y,k,rfl,_):=h
  rfl
 let(a,Y,S,b,I,U,r,c,B,T,x,y,k,rfl,R,hx,hy,hk,M,hB,q):=h
 show(_,(aw 4 gZ.nd (ax bQ (bP aG (bP aG .y .b) (gw dm ag)) (bP aG (bP aG .y .c) .d))>>aw 5 gZ.nd (ax bQ (bP aG (bP aG .y .c) (gw dm ag)) (bP aG (bP aG .y .b) .d))>>aj (aC (ams (jT kN .e .f (l_ _)) (QN (QO (jT dk .e .f (l_ _)) (QN (jT kN (bP aG .y .b) (bP aG .y .c) (l_ _)))))))),2);sleep 2
 let(p,i,j):=R.line (s:=x) gu;let(u,m,o):=R.line (s:=y) gu;let b1:=M.2 x c gu gu;let b2:=M.2 y k gu gu;let b3:=M.2 y c gu gu;let b4:=M.2 x k gu gu;show(0,a,C,Y,4,R.obj,Z.cls,Z.iL,7,S,U,1,.inl (.inl R.iL),i,0,p,5,.inl (.inl j),rM,0,a,C,Y,4,R.obj,Z.cls,Z.iL,7,S,U,1,.inl (.inl R.iL),m,0,u,5,.inl (.inl o),mZ gu,1,dZ b1 b2 gu gu,0,a,C,Y,4,R.obj,Z.cls,Z.iL,7,S,U,1,.inl (.inl R.iL),m,0,u,5,.inl (.inl o),rM,0,a,C,Y,4,R.obj,Z.cls,Z.iL,7,S,U,1,.inl (.inl R.iL),i,0,p,5,.inl (.inl j),mZ gu,1,dZ b3 b4 gu gu,3,1,2);show#[0,bH (λD=>?_) (λD=>?_)]
 ·have N :=RE D
  rwa[Qd (.inl N)] at q
 ·have N :=of_decide_eq_false (WR.mpr D)
  show(3,7,bH (λG=>?_) (λG=>?_))
  ·let X:T.L x c*T.L y k=T.L y c*T.L x k:= ~~~G
   show(0,a,C,Y,4,R.obj,Z.cls,Z.vU,7,I,5,.inl (.inl R.vU),mZ gu,0,a,C,Y,4,R.obj,Z.cls,Z.vU,7,I,5,.inl (.inl R.vU),mZ gu,1,2);by_cases z:T.dn x<T.dn y
   ·rw[Qd (.inr #[X,z])] at q
    let e:decide ((T.dn x:Int)<(T.dn y:Int))=true:=Qd (by exact_mod_cast z);change Q (.bl (decide ((T.dn x:Int)<(T.dn y:Int)))) H;rwa[e]
   ·rw[Sb (λh=>h.elim N λy=>z y.2)] at q
    let e:decide ((T.dn x:Int)<(T.dn y:Int))=false:=Sb (λy=>z (by exact_mod_cast y));change Q (.bl (decide ((T.dn x:Int)<(T.dn y:Int)))) H;rwa[e]
  ·let X:¬ T.L x c*T.L y k=T.L y c*T.L x k:= ~~~G
   rwa[Sb (λh=>h.elim N λy=>X y.1)] at q
inductive pe (C:BQ)(vs:ε)(H:Hp)(Q:VK)(S:XK):Prop
|mk (a U Z X Y:BQ)(us:ε)(r c B:Nat)(T:Px.Tb)(k:Nat)(_:vs=[.ref a,.int (k:Int)])(_:iY H C a U Z X Y us r c T)(_:r<=900)(_:k<c)(_:SzT r c B T)(_:B<=4000000)(_:((∀s,s<r->T.L s k<=0)->Q .cS H))(_:∀x,afx r c T k x->Q ↥(x:Int) H)
def RT (c n:Nat)(T:Px.Tb)(k a:Nat):Prop:=a<n/\0<T.L a k/\∀s,s<n->0<T.L s k->T.L a c*T.L s k<T.L s c*T.L a k\/(T.L a c*T.L s k=T.L s c*T.L a k/\T.dn a<=T.dn s)
def abc {S Y T Z U X:Int}(N:0<Y)(Q:0<Z)(R:0<X)(x:S*Z<=T*Y)(y:T*X<=U*Z):S*X<=U*Y/\(S*Z<T*Y\/T*X<U*Z->S*X<U*Y):=by
 let L:Z*(S*X)=S*Z*X:=by rw[<-v5,VY Z]
 let M:Z*(U*Y)=U*Z*Y:=by rw[<-v5,VY Z]
 let J:T*Y*X=T*X*Y:=by rw[v5,VY Y,<-v5]
 let u:=al7 x (EE R);let v:=al7 y (EE N);constructor
 ·show Int.le_of_mul_le_mul_left (a:=Z) ?_ Q
  rw[L,M];omega
 ·intro h
  show Int.lt_of_mul_lt_mul_left (a:=Z) ?_ (EE Q);rw[L,M]
  rcases h with h|h
  ·have:=amH h R
   omega
  ·have:=amH h N
   omega
def RT.next (h:RT c n T k a)(Y:¬ 0<T.L n k\/¬ (T.L n c*T.L a k<T.L a c*T.L n k\/(T.L n c*T.L a k=T.L a c*T.L n k/\T.dn n<T.dn a))):RT c (n+1) T k a:=by
 show(by have:=h.1;omega,h.2.1,λs U Z=>?_);by_cases z:s=n
 ·subst z
  rcases Y with y|y
  ·show CC Z y
  ·let X:¬ T.L s c*T.L a k<T.L a c*T.L s k:=λw=>y (.inl w)
   by_cases e:T.L s c*T.L a k=T.L a c*T.L s k
   ·show .inr #[e.symm,2]
    have:¬ T.dn s<T.dn a:=λw=>y (.inr #[e,w]);omega
   ·show .inl gu
 ·show h.2.2 s gu Z
def RT.take (h:RT c n T k a)(R:0<T.L n k)(U:T.L n c*T.L a k<T.L a c*T.L n k\/(T.L n c*T.L a k=T.L a c*T.L n k/\T.dn n<T.dn a)):RT c (n+1) T k n:=by
 show(V3 n,R,λs Q S=>?_);by_cases z:s=n
 ·subst z
  show .inr #[O,CK _]
 ·let q:=h.2.2 s gu S
  let x:T.L n c*T.L a k<=T.L a c*T.L n k:=by
   rcases U with w|w
   ·show EE w
   ·show apz w.1
  let y:T.L a c*T.L s k<=T.L s c*T.L a k:=by
   rcases q with w|w
   ·show EE w
   ·show apz w.1
  let Y:=abc R h.2.1 S x y;by_cases e:T.L n c*T.L s k=T.L s c*T.L n k
  ·show .inr #[e,2]
   let X:¬ (T.L n c*T.L a k<T.L a c*T.L n k\/T.L a c*T.L s k<T.L s c*T.L a k):=λw=>by
    have:=Y.2 w;omega
   rcases U with w|w
   ·show CC (.inl w) X
   ·rcases q with Z|Z
    ·show CC (.inr Z) X
    ·omega
  ·have:=Y.1
   show .inl gu
def fJ:av ["self","column","best","at"] za5 (ae c6):=sq
def adj (F:oN K "line_out" "Table.line_out" c6 f fd)(N:uG K C)(bE:mg "range"=none)(a_:mg "len"=none)(MS:!ce 1 C "is_sooner" zaN (r_ C)):!bv 2 f fd za5 (pe C):=by
 show mx F fJ (λm H Q E h=>?_) (λbx A J s H m Q E hr h=>?_)
 ·let(a,U,G,p,D,M,r,c,B,T,k,rfl,_):=h
  rfl
 let(a,U,G,p,D,M,r,c,B,T,k,rfl,R,hr9,hk,j,hB,q1,g):=h
 show(_,(aw 2 fJ.nd gO>>bV Pm rfl (fu rfl bE (aU (aI ay rfl a_ cu (aU .y)))) (cE 3 fJ.nd) (aj (bN (PW.pt (m_ (bD TC (bP aG (bP aG .y .d) .b) ag) (jS (PW.pt (EC (bD qj .c gO) (xN (qi (d5 (k:=1) .a hr.mo (pY P w) (bS .d .c .b))))))))) (aj (aw 2 fJ.nd .d)) aQ))>>aj (aC .c)),2);sleep 2
 show(0,a,C,U,4,R.obj,N.cls,N.vU,O,D,0,.inl (.inl (.inl R.vU)),2);rw[cJ];show(0,gu,gu,let I:fM:=λi Z q=>q=H/\∃(o:Β)(b:V),Z=[cr a,some ↥(k:Int),some b,o]/\((b=.cS/\∀s,s<i->T.L s k<=0)\/∃x:Nat,b=.int (x:Int)/\RT c i T k x);fU (n:=r) I (O,none,.cS,O,.inl #[O,λs h=>CC h (VA _)]) ?_ ?_)
 ·rintro i Z q hi ⟨rfl,o,b,rfl,Y⟩
  let(p1,e1,e2):=R.line (s:=i) gu;show(0,a,C,U,4,R.obj,N.cls,N.iL,7,G,M,1,.inl (.inl R.iL),(by rwa[VM]),0,p1,5,.inl (.inl e2),mZ gu,1,0,bH (λu=>?_) (λu=>?_))
  ·have S :0<T.L i k:=RE u
   rcases Y with ⟨rfl,Y⟩|⟨x,rfl,Y⟩
   ·show(0,7,bH (λ_=>?_) (λn=>CC gN n))
    show pJ (0,O,4,.inr (i,by simp,V3 i,S,λs hs hp=>?_));by_cases z:s=i
    ·rw[z]
     show .inr #[O,CK _]
    ·have:=Y s gu
     omega
   ·let hxi:=Y.1
    show(0,7,bH (λn=>CC n gN) (λ_=>?_));show(0,a,C,U,6,R.obj,O,MS,3,0,a,U,G,p,D,M,r,c,B,T,i,x,k,![VM],R,gu,gu,hk,j,hB,2);show#[0,bH (λy=>?_) (λy=>?_)]
    ·let X:=RE y
     show(0,O,4,.inr (i,by simp,Y.take S X))
    ·let X:=of_decide_eq_false (WR.mpr y)
     show(O,4,.inr (x,O,Y.next (.inr X)))
  ·have S :¬ 0<T.L i k:=of_decide_eq_false (WR.mpr u)
   show nF (O,4,2)
   rcases Y with ⟨rfl,Y⟩|⟨x,rfl,Y⟩
   ·show .inl #[O,λs hs=>?_]
    by_cases z:s=i
    ·rw[z]
     omega
    ·show Y s gu
   ·show .inr (x,O,Y.next (.inl S))
 ·rintro Z q ⟨rfl,o,b,rfl,Y⟩
  show#[0,2]
  rcases Y with ⟨rfl,Y⟩|⟨x,rfl,Y⟩
  ·show q1 Y
  ·show g x Y
abbrev ayx:Str:=(RH "Table.next_swap" (ae bu) 0 0 .none).qual++ "<lambda>"
abbrev ayy:Pos:=((242),(49),(242),(81))
def kJ (H:Hp)(Z:BQ):Prop:=PJ H Z ayy ayx
inductive yZ (C Z:BQ)(vs:ε)(H:Hp)(Q:VK)(R:XK):Prop
|mk (a S Y U X:BQ)(us:ε)(r c B:Nat)(T:Px.Tb)(_:vs=[.ref a])(_:iY H C a S Y U X us r c T)(_:r<=900)(_:c<64)(_:SzT r c B T)(_:B<=4000000)(_:(∀s,s<r->0<=T.L s c))(_:kJ H Z)(_:(∀H',aZ Z H H' ->kJ H' Z->(∀j,j<c->0<=T.L r j)->Q .cS H'))(_:(∀(p:BQ)(k:Nat)(H':Hp),aZ Z H H' ->kJ H' Z->H' p==.tup [.cS,.int (k:Int)]->k<c->T.L r k<0->(∀s,s<r->T.L s k<=0)->Q (.ref p) H'))(_:(∀(p:BQ)(x k:Nat)(H':Hp),aZ Z H H' ->kJ H' Z->H' p==.tup [.int (x:Int),.int (k:Int)]->k<c->T.L r k<0->afx r c T k x->(T.L x c=0->∀j,j<c->T.L r j<0->T.ac k<=T.ac j)->Q (.ref p) H'))
def sf (k:aZ D H H1)(s:aq H1 H2):aZ D H H2:=λb o n e=>s\(k b o n e)
def kJ.iz (h:kJ H P0)(s:aq H H'):kJ H' P0:=by
 rcases h with h|⟨c,Y,Z⟩
 ·show .inl (s\h)
 ·show .inr (c,s\Y,s\Z)
theorem kJ.mW (h:kJ H P0):∃ps,H P0==.mW ps:=by
 rcases h with h|⟨c,Z,_⟩
 ·show#[_,h]
 ·show#[_,Z]
def JR (h:iY H C a dx lL lA lD us r c T)(t:kJ H P0)(s:aZ P0 H H'):iY H' C a dx lL lA lD us r c T:=h.iz λb o n e=>s b o (λz=>by
 let(Y,Z):=t.mW;erw[z,Z] at e
 show n _ rfl) e
def abd {Z:θ}(h:Z.Pairwise (λp q=>p.1<=q.1))(e:Z[0]?==m0)(Y:m∈Z):m0.1<=m.1:=by
 cases Z with
 | nil=>cases Y
 | cons x r=>
  cases e
  rcases QQ.mp Y with z|z
  ·rw[z]
   show Int.le_refl _
  ·show(aoJ.mp h).1 m z
def c_:av ["self","best","column","at"] Ox (ae bu):=sq
def ae7 {oc kV dc pm ct:Value}{od an:χ}{sl:Ι}
  (lk:K.lookup f==(oc,od,.func (fnOf "next_swap" "Table.next_swap" (au bu) (ao bu) (ae bu) .none kV dc pm an ⇑cA ct),sl)) (m8:codeIn K ⇑cA "Table.next_swap"=true)
  (hC:Tx K cA P0=true) (hB:BMain mg gV) (tc:uG K C) (y6:mg "sorted"=none)
  (MG:!ce 1 C "growing" Ox (o_ C)) (MO:!ce 2 C "line_out" za5 (pe C)) (MW:!ce 1 C "growth" ["self","two"] (rZ C))
  (W5:!am 1 "is_less" IS RP):!bv 3 f (fnOf "next_swap" "Table.next_swap" (au bu) (ao bu) (ae bu) .none kV dc pm an ⇑cA ct) Ox (yZ C P0):=by
 show afs lk m8 c_ (λvs H Q E h=>?_) (λA outer s H vs Q E hr h=>?_)
 ·let(a,M,lL,lA,lD,us,r,c,B,T,rfl,_):=h
  rfl
 let(a,M,lL,lA,lD,us,r,c,B,T,rfl,R,hr9,hc,sz,hBB,fea,tb,q0,q1,q2):=h;let px:∀{X:Cx},Passes (aR P w) X.t_ E0:=λ{X}=>nI (X:=X) (aR.BP (P:=P) (w:=w))
 show(_,(aw 1 c_.nd gO>>bV Pm rfl (bT (aaC (si:=0) rfl y6 (fG (k:=1) .a hr.mo px) rfl rfl (ze (V1 rfl)) rfl hC hB (Ty.cp.two hr))) (cE 2 c_.nd) (aw 3 c_.nd (d5 (k:=2) .a hr.mo px (aU .c))>>bN (bD qj .d gO) (aj (aC (aJ (aE gO .c)))) aQ>>aj (bN (PW.pt (EC (bD qj .b gO) (xN (qi (cW W5 hr.mo px (aE (d5 (k:=1) .a hr.mo px (aU .b)) (d5 (k:=1) .a hr.mo px (aU (aJ (aE .d .c)))))))))) (aj (aw 1 c_.nd (aJ (aE .d .c)))) aQ))>>aj (aC .b)),2);sleep 2
 show(0,a,C,M,6,R.obj,O,MG,a,M,lL,lA,lD,us,r,c,T,O,R,gu,λl H1 s1 nl hl=>?_);let R1:=R.lC s1;let ayA:((KA c).filter λj=>decide (T.L r j<0)).length<64:=K' (T2 _ _) (~~~hc);let D:∀j,j∈(KA c).filter (λj=>decide (T.L r j<0)) ↔ j<c/\T.L r j<0:=λj=>by simp
 generalize hcs:(KA c).filter (λj=>decide (T.L r j<0))=cs at*;show(l,a,C,M,lA,cs,cs.map (λj=>(T.ac j:Int)),4,.inl (.inl hl),ayA,O,R1.obj,tc.cls,tc.qW,O,.inl (.inl R1.qW),by simp,λi x k e1 e2=>?_,tb.iz s1,λl' ms H2 k2 tb2 nl' pm pw hl'=>?_)
 ·rw[Wp,e1] at e2
  cases e2;show km ((D x).mp (CU e1)).1
 let g:aZ P0 H H2:=λb o n e=>k2 b o n (s1\e);let R2:=JR R tb g
 let ayC:∀m∈ms,∃j:Nat,j<c/\T.L r j<0/\m=((T.ac j:Int),(j:Int)):=λm hm=>by
  have:=pm.mem_iff.mp hm;rw[au3] at this;let(j,U,e):=CS.mp this;show(j,((D j).mp U).1,((D j).mp U).2,e.symm)
 let apE:∀j:Nat,j<c->T.L r j<0->((T.ac j:Int),(j:Int))∈ms:=λj h1 h2=>by
  show pm.mem_iff.mpr ?_;rw[au3];show CS.mpr (j,(D j).mpr #[h1,h2],O)
 let xH:∀(i:Nat)(v:V),(ms.map λp=>V.int p.2)[i]?==v->∃j:Nat,j<c/\T.L r j<0/\ms[i]?==((T.ac j:Int),(j:Int))/\v=.int (j:Int):=λi v e=>by
  rw[Wp] at e;let(m,em,rfl):=OR.mp e;let(j,h1,h2,rfl):=ayC m (CU em);show(j,h1,h2,em,O)
 let okn:∀x k:Nat,x<r->k<c->0<T.L x k->Okn 20000000 (-.N*T.L x c,T.L x k):=λx k hx hk hp=>(hp,by
  have:=mw (a:= -.N) (b:=T.L x c) (m:=B) (n:=B) (![vP] (sz.2 r k gu gu)) (sz.2 x c gu gu)
  show jW this gu,jW (sz.2 x k gu gu) gu)
 show(l',O,#[_,.inl (.inl hl')],let I:fM:=λi Z y=>aq H2 y/\∃(b:V)(o1 o2:Β),Z=[cr a,some b,o1,o2]/\((b=.cS/\i=0)\/∃x k:Nat,Two y b x k/\k<c/\T.L r k<0/\afx r c T k x/\(T.L x c=0->ms[0]?==((T.ac k:Int),(k:Int))));dG (K:=K) (a:=l') (xs:=ms.map λp=>V.int p.2) I
  (aq.refl _,.cS,none,none,O,.inl #[8]) (λi Z y _ ⟨S,_⟩=>S.seq (.inl (.inl hl'))) ?_ ?_)
 ·rintro i u Z y hu ⟨S,b,o1,o2,rfl,hb⟩
  let(j,U,hn,em,rfl):=xH i u hu;let R':=R2.lC S;let ks:aZ P0 H y:=sf g S;show(0,a,C,M,6,R'.obj,O,MO,0,a,M,lL,lA,lD,us,r,c,B,T,j,O,R',hr9,U,sz,hBB,λQY=>?_,λx hx=>?_)
  ·show(0,7,bH (λ_=>?_) (λn=>CC gN n))
   show(0,sZ,λp np=>?_);let sp:=ar np (.tup [.cS,.int (j:Int)]);show q1 p j _ (sf ks sp) (kJ.iz (kJ.iz tb2 S) sp) af U hn QY
  ·show(0,7,bH (λn=>CC n gN) (λ_=>?_))
   rcases hb with ⟨rfl,rfl⟩|⟨q,k0,⟨p0,rfl,G⟩,N,hn0,Y,hf0⟩
   ·show(0,7,bH (λ_=>?_) (λn=>CC gN n))
    show pJ (3,sZ,λp np=>?_);show(S>>>(ar np _),6,.inr (x,j,(p,O,af),U,hn,hx,λ_=>em))
   ·show(0,7,bH (λn=>CC n gN) (λ_=>?_))
    show(0,a,C,M,6,R'.obj,O,MW,0,a,M,lL,lA,lD,us,r,c,B,T,_,q,k0,O,R',(p0,O,G),Y.1,N,sz,hBB,λu1 H3 s3 n1=>?_);let R3:=R'.lC s3;show(0,a,C,M,6,R3.obj,O,MW,3,sZ,λp4 np4=>?_);let s4:=ar np4 (.tup [.int (x:Int),.int (j:Int)]);show(a,M,lL,lA,lD,us,r,c,B,T,_,x,j,O,R3.lC s4,(p4,O,af),hx.1,U,sz,hBB,λu2 H5 s5 n2=>?_);let J:=s4>>>s5;show(u1,u2,4,n1.iz J,n2,okn q k0 Y.1 N Y.2.1,okn x j hx.1 U hx.2.1,2);show#[0,bH (λc1=>?_) (λc1=>?_)]
    ·have v9 :=RE c1
     show(3,sZ,λp np=>?_);show(S>>>(s3>>>(J>>>(ar np _))),6,.inr (x,j,(p,O,af),U,hn,hx,λz=>?_));exfalso;let h1:0<= -(T.L r k0)*T.L q c*T.L x j:=Pw (Pw gu (fea q Y.1)) (EE hx.2.1);simp only[z,FJ,Int.zero_mul] at v9;omega
    ·show(S>>>(s3>>>J),6,.inr (q,k0,(p0,O,J\(s3 _ _ G)),N,hn0,Y,hf0))
 ·rintro Z y ⟨S,b,o1,o2,rfl,hb⟩
  let ks:aZ P0 H y:=sf g S;let tb':=kJ.iz tb2 S;show#[0,2]
  rcases hb with ⟨rfl,hz⟩|⟨q,k0,⟨p0,rfl,G⟩,N,hn0,Y,hf0⟩
  ·show q0 y ks tb' λj U=>?_
   apply VD;intro n;have:=apE j U gu;rw[CA] at hz;erw[Ub.mp hz] at this
  ·show q2 p0 q k0 y ks tb' G N hn0 Y λz j U hn=>?_
   have:=abd pw (hf0 z) (apE j U hn);simpa using this
def akb (d:Int)(F G:Nat->Int)(k j:Nat):Int:=if j=k then -(F k) else (G k*F j-F k*G j).fdiv d
inductive ph (C:BQ)(vs:ε)(H:Hp)(Q:VK)(S:XK):Prop
|mk (a T Y U X pl Z:BQ)(d:Int)(n k B:Nat)(F G:Nat->Int)(_:vs=[.ref a,.ref pl,.ref Z,.int (k:Int)])(_:H a==.ins C T (wJ Y U X d))(_:H pl==.lst (ln n F))(_:H Z==.lst (ln n G))(_:k<n)(_:n<=900)(_:d≠0)(_:B<=4000000)(_:(∀j,j<n->(F j).natAbs<=2^B))(_:(∀j,j<n->(G j).natAbs<=2^B))(_:∀(l:BQ)(H':Hp),aq H H' ->H l=none->H' l==.lst (ln n (akb d F G k))->Q (.ref l) H')
def gk:av ["self","line","lead","column","times","less","whole"] zaJ (ae dC):=sq
def za0 (ht:P.given.tree=none)(F:oN K "swapped" "Table.swapped" dC f fd)(u:uG K C)(dY:mg "zip"=none):!bv 33 f fd zaJ (ph C):=by
 show mx F gk (λvs H Q E h=>?_) (λbx A T s H vs Q E hr h=>?_)
 ·let(a,g,lL,lA,lD,X,U,d,n,k,B,F,G,rfl,_):=h
  rfl
 let(a,g,lL,lA,lD,X,U,d,n,k,B,F,G,rfl,ha,N,J,Y,hn,L,hB,bF,c,q):=h
 show(_,(aw 4 gk.nd (bP aG .c .d)>>aw 5 gk.nd (bP aG .b .d)>>Rm (i:=6) (tn:=IS) (fr:=["times","self","less"]) (mQ:=[4,0,5]) gk.nd (nN rfl dY (aE .b .c)) .n .o (ax (gG ht (Ty.cp.py hr gM) rfl rfl rfl rfl rfl) (ax eK (ax bQ .c .a) (ax bQ .e .b)) (aly (K:=K) rfl .d rfl))>>gQ (gw dm .f) (i8 .g .d set_list)>>aj (aC .g)),2)
 show(3,U,5,.inl (.inl J),mZ Y,3,X,5,.inl (.inl N),mZ Y,3,X,U,O,#[_,.inl (.inl N)],#[_,.inl (.inl J)],λD S=>?_);show nO (K:=K) (a:=X) (b:=U) (xs:=ln n F) (ys:=ln n G) (oC:=[some ↥(G k),some ⇑a,some ↥(F k)]) (λi v _=>v=.int ((G k*F i-F k*G i).fdiv d)) S (![cJ] (K' hn gM)) (![cJ,cJ]) (λz Z=>.inl (.inl (Z\N))) (λz Z=>.inl (.inl (Z\J))) (λ_ _ _ _ _ _ _ h=>h) ?_ ?_
 ·intro i x y z R I j Z k2
  let M:i<n:=by
   have:=(ir.mp I).1
   rwa[cJ] at this
  rw[km M] at I j;cases I;cases j;show(3,1,dZ (c k Y) (bF i M) gu gu,3,1,dZ (bF k Y) (c i M) gu gu,1,0,a,C,g,4,Z\ha,u.cls,u.bot,O,1,L,k2 _ _ .L rfl)
 ·intro zs z p gY Z m
  rw[cJ] at p;let ez:zs=ln n (λi=>(G k*F i-F k*G i).fdiv d):=yK p λi v _ e=>gY i v e;rw[ez] at m;show(3,3,D,9,k,8,m,![cJ] (rL Y),0,2);show q D _ (λb o e=>?_) S ?_
  ·rw[ah (ak e S)]
   show Z\e
  ·rw[af,IU Y]
   rfl
inductive JS (C:BQ)(vs:ε)(H:Hp)(Q:VK)(R:XK):Prop
|mk (a X U Y Z:BQ)(us:ε)(r c B:Nat)(T:Px.Tb)(x k:Nat)(_:vs=[.ref a,.int (x:Int),.int (k:Int)])(_:iY H C a X U Y Z us r c T)(_:x<r)(_:k<c)(_:r<=800)(_:c<=800)(_:SzT r c B T)(_:B<=4000000)(_:T.d≠0)(_:∀(l:BQ)(S :ε)(H':Hp),(∀b o,b≠a->b≠Y->b≠Z->H b==o->H' b==o)->iY H' C a X l Y Z S r c (Px.qV T x k)->Q .cS H')
def iU:av ["self","at","column","lead","lines","thing"] zaX (ae gh):=sq
def acg (F:oN K "swap" "Table.swap" gh f fd)(Y:uG K C)(cT:mg "list"=none)(MW:!ce 33 C "swapped" zaJ (ph C)):!bv 34 f fd zaX (JS C):=by
 show mx F iU (λvs H Q E h=>?_) (λbx A outer s H vs Q E hr h=>?_)
 ·let(a,X,lL,J,M,us,r,c,B,T,x,k,rfl,_):=h
  rfl
 let(a,X,lL,J,M,us,r,c,B,T,x,k,rfl,R,hx,hk,hr8,hc8,sz,hB,hd,q):=h
 show(_,(aa (aw 3 iU.nd (bP aG .y .b)) (aa (yF (i:=4) (tn:=FA) (fr:=["self","lead","column"]) (mQ:=[0,3,2]) iU.nd (bT .y) (aft (P:=P) (w:=w) (K:=K) (mg:=mg) (gV:=gV) (CX:=aR P w) rfl rfl rfl rfl rfl (k:=33) .b hr.mo (ahm (by first|assumption|show aR.BP) rfl) (bS .a .c .d)))
  (gQ (iK qB rfl cT nH (aU .d)) (i8 .e .b set_list)>>gQ .y (i8 (bP aG .e .b) .c set_list)>>ke .a .e rfl>>ke .a (bP aG .d .c) rfl>>aw 5 iU.nd (bP aG .y .b)>>gQ (bP aG .y .c) (i8 .y .b set_list)>>aj (gQ .f (i8 .y .c set_list))))),2);sleep 8
 let(pd,e1,e2):=R.line (s:=x) gu;show(0,a,C,X,4,R.obj,Y.cls,Y.iL,7,lL,us,1,.inl (.inl R.iL),e1,0,a,C,X,4,R.obj,Y.cls,Y.iL,O,lL,O,#[_,.inl (.inl R.iL)],λD nD=>?_);let ul:=R.row.1;show jx (K:=K) (a:=lL) (xs:=us) (oC:=[some ⇑a,some ⇑pd,some ↥(k:Int)]) (λi v H'=>∃l,v=⇑l/\l≠D/\H l=none/\H' l==.lst (ln (c+1) (akb T.d (T.L i) (T.L x) k))) nD (![ul] (K' (show r+1<=801 by omega) gM)) (λm S=>.inl (.inl (S\R.iL))) (λi v m H3 U hD ks ⟨l,e,G,fl,hl⟩=>(l,e,G,fl,ks _ _ G hl)) ?_ ?_
 ·intro i u m R2 eu S ⟨U,hD⟩ k2
  let hi:i<r+1:=by
   have:=(ir.mp eu).1;omega
  let(pi,f1,f2):=R.row.2 i hi;erw[f1] at eu;show(0,a,C,X,6,S\R.obj,O,MW,3,0,a,X,lL,J,M,pi,pd,T.d,c+1,k,B,T.L i,T.L x,O,S\R.obj,S\f2,S\e2,gu,gu,hd,hB,λj hj=>sz.2 i j hi hj,λj hj=>sz.2 x j gu hj,λl H3 s3 G hl=>?_);show k2 _ _ s3 (l,O,(λz=>by erw[z,hD] at G),S.free G,hl)
 ·intro U m hy gY S hD
  rw[ul] at hy;show(0,pd,0,.inl (.inl (S\e2)),λZ n2=>?_);let I:Z≠D:=λz=>by erw[z,hD] at n2
  let N:H Z=none:=S.free n2;show(3,D,U,_,x,8,(by rwa[ah (CV I)]),![hy] (rL gu),2);let a2:a≠Z:=ak R.obj N;let aD:a≠D:=ak R.obj nD;show(0,a,C,X,4,(![ah aD,ah a2] (S\R.obj)),Y.cls,Y.bot,O,3,D,9,(V.ref Z),8,.inl (.inl af),b9 ![VC,iB rfl,iB gu],0,Z,9,k,8,![ah I,af],![cJ] (rL gu),2);rw[IU (show k<c+1 by omega)]
  let k5:∀b o,b≠D->b≠Z->m b==o->(upd .U Z (.lst (ln (c+1) λj=>if j=k then T.d else T.L x j))) b==o:=λb o nb1 nb2 e=>by
   rwa[ah nb2,ah nb1,ah nb2]
  let D5:(upd .U Z (.lst (ln (c+1) λj=>if j=k then T.d else T.L x j))) D==.lst (U.set x ⇑Z):=by
   rw[ah (CV I),af]
  let l5:(upd .U Z (.lst (ln (c+1) λj=>if j=k then T.d else T.L x j))) Z==.lst (ln (c+1) λj=>if j=k then T.d else T.L x j):=af;generalize upd .U Z (.lst (ln (c+1) λj=>if j=k then T.d else T.L x j))=H5 at*;let RU:∀b o,H b==o->H5 b==o:=λb o e=>k5 b o (ak e nD) (ak e N) (S\e);let aA:a≠J:=λz=>by have:=R.qW;erw[<-z,R.obj] at this
  let aL:a≠M:=λz=>by have:=R.vU;erw[<-z,R.obj] at this
  let ap:a≠pd:=λz=>by erw[<-z,R.obj] at e2
  let AD:J≠D:=ak R.qW nD;let DD:M≠D:=ak R.vU nD;let A2:J≠Z:=ak R.qW N;let D2:M≠Z:=ak R.vU N;show(3,a,C,X,0,RU\R.obj,Y.cls,Y.iL,(by change 4<1000;decide),2);rw[ae4];show(3,pd,5,.inl (.inl (![ah (CV ap)] (RU\e2))),mZ gu,0,a,C,X,0,af,Y.cls,Y.bot,(by change 4<1000;decide),2);rw[ab_];generalize e7:upd (upd H5 a (.ins C X (wJ D J M T.d))) a (.ins C X (wJ D J M (T.L x k)))=H7;let o7:H7 a==.ins C X (wJ D J M (T.L x k)):=by rw[<-e7,af]
  let g:∀b o,b≠a->H5 b==o->H7 b==o:=λb o nb e=>by rwa[<-e7,ah nb,ah nb]
  show(0,a,C,X,4,o7,Y.cls,Y.vU,7,M,5,.inl (.inl (g _ _ (CV aL) (RU\R.vU))),mZ hx,0,a,C,X,4,o7,Y.cls,Y.qW,7,J,5,.inl (.inl (g _ _ (CV aA) (RU\R.qW))),mZ hk,0,a,C,X,4,o7,Y.cls,Y.vU,7,M,9,x,8,g _ _ (CV aL) (RU\R.vU),![cJ] (rL hx),2);rw[IU hx];show(3,a,C,X,4,(by rwa[ah aL]),Y.cls,Y.qW,7,J,9,k,8,(![ah R.neA] (g _ _ (CV aA) (RU\R.qW))),![cJ] (rL hk),2);rw[IU hk]
  let rp:∀s,s<r+1->∃p,(U.set x ⇑Z)[s]?==⇑p/\H p=none/\p≠D/\H5 p==.lst (ln (c+1) ((Px.qV T x k).L s)):=λs hs=>by
   by_cases z:s=x
   ·subst z
    show(Z,![VC,iB rfl,iB gu],N,I,2);rw[l5];congr 2;show nZ λj _=>?_;change _=(if s=s then (if j=k then T.d else T.L s j) else _);rw[iB rfl]
   ·let e:U[s]?==(U[s]'gu):=gE gu
    let(l,el,G,fl,hl):=gY s _ e;let ll:l≠Z:=λy=>by erw[y,n2] at hl
    show(l,![VC,iA (CV z),e,el],fl,G,2);rw[k5 l _ G ll hl];congr 2;show nZ λj _=>?_;change akb T.d (T.L s) (T.L x) k j=(if s=x then _ else if j=k then -(T.L s k) else (T.L x k*T.L s j-T.L s k*T.L x j).fdiv T.d);rw[iA z];rfl
  show q D (U.set x ⇑Z) _ (λb o n1 n2 n3 e=>![ah n2,ah n3] (g _ _ n1 (RU\e))) (2,2,#[by rwa[UL],λs hs=>?_],2,2,R.neA,λs z=>?_,λs z=>?_,CV AD,CV DD)
  ·rw[ah aA,ah aL]
   show o7
  ·rw[ah (CV AD),ah (CV DD)]
   show g _ _ (CV aD) D5
  ·let(p,h1,h2,h3,h4):=rp s hs
   show(p,h1,2);rw[ah (CV (ak R.qW h2)),ah (CV (ak R.vU h2))];show g _ _ (CV (ak R.obj h2)) h4
  ·rw[af]
   congr 2;show nZ λj _=>?_;change (if j=k then (T.dn x:Int) else (T.ac j:Int))=(((if j=k then T.dn x else T.ac j:Nat)):Int);split<;>rfl
  ·rw[ah (CV R.neA),af]
   congr 2;show nZ λj _=>?_;change (if j=x then (T.ac k:Int) else (T.dn j:Int))=(((if j=x then T.ac k else T.dn j:Nat)):Int);split<;>rfl
  ·let hs:s<r+1:=by
    have:=(ir.mp z).1;rw[UL] at this;omega
   let(p,h1,h2,_):=rp s hs;erw[h1] at z;erw[R.qW] at h2
  ·let hs:s<r+1:=by
    have:=(ir.mp z).1;rw[UL] at this;omega
   let(p,h1,h2,_):=rp s hs;erw[h1] at z;erw[R.vU] at h2
inductive JT (C:BQ)(vs:ε)(H:Hp)(Q:VK)(T:XK):Prop
|mk (a U Z:BQ)(us:ε)(r c:Nat)(L:Nat->Nat->Int)(_:vs=[.ref a,.ref Z])(_:H a==.ins C U [])(_:H Z==.lst us)(_:V4 H us (r+1) (c+1) L)(_:r<=800)(_:c<=800)(_:∀(X Y:BQ)(H':Hp),(∀b o,b≠a->H b==o->H' b==o)->H X=none->H Y=none->iY H' C a U Z X Y us r c (Px.tb0 c L)->Q .cS H')
def zaE:av ["self","lines","many"] Zi (ae gf):=sq
def aaV (F:oN K "__init__" "Table.__init__" gf f fd)(S:uG K C)(a_:mg "len"=none)(cT:mg "list"=none)(bE:mg "range"=none):!bv 1 f fd Zi (JT C):=by
 show mx F zaE (λvs H Q E h=>?_) (λbx A outer s H vs Q E hr h=>?_)
 ·let(a,Y,Z,k,r,c,L,rfl,_):=h
  rfl
 let(a,Y,Z,k,r,c,L,rfl,ha,I,U,hr8,hc8,q):=h
 show(_,(aw 2 zaE.nd (ax eK (aI ay rfl a_ cu (aU (bP aG .b (gw dm ag)))) ag)>>ke .a .b rfl>>ke .a ag rfl>>ke .a (aag rfl rfl cT rfl bE (aU .c)) rfl>>aj (ke .a (acP rfl rfl cT rfl bE (aE .c (ax eK (ax bW .c .R) ag))) rfl)),2);sleep 4
 let(p,e1,e2):=U.2 r (V3 r);have Q6 :oM k (-1)==.ref p:=IT (by rwa[U.1]);show(3,Z,k,1,.inl (.inl I),Q6,p,0,.inl (.inl (.inl e2)),2);rw[cJ];show#[1,2];dsimp only;rw[show((c+1:Nat):Int)-1=(c:Int) by omega];show(3,a,C,Y,0,ha,S.cls,S.iL,(by change 0<1000;decide),0,a,C,Y,0,af,S.cls,S.bot,(by change 1<1000;decide),2);rw[show fF "bottom" ↥1 (fF "lines" ⇑Z [])=([("lines",⇑Z),("bottom",↥1)]:List (Str×V)) from afu];generalize e3:upd (upd H a (.ins C Y (fF "lines" ⇑Z []))) a (.ins C Y [("lines",⇑Z),("bottom",↥1)])=H3;let o3:H3 a==.ins C Y [("lines",⇑Z),("bottom",↥1)]:=by rw[<-e3,af]
 let k3:∀b o,b≠a->H b==o->H3 b==o:=λb o n e=>by rwa[<-e3,ah n,ah n]
 let f3:∀b,H3 b=none->H b=none:=λb n=>by
  cases z:H b with
  | none=>rfl
  | some o=>
   by_cases y:b=a
   ·rw[y,o3] at n
    cases n
   ·rw[k3 b o y z] at n
    cases n
 show(0,c,O,gu,λX g=>(0,a,C,Y,0,(by rwa[ah (ak o3 g)]),S.cls,S.qW,(by change 2<1000;decide),2));rw[afv];let aA:a≠X:=ak o3 g;generalize e4:upd (upd H3 X (.lst ((KA c).map λ(i:Nat)=>V.int (i:Int)))) a (.ins C Y [("lines",⇑Z),("bottom",↥1),("across",⇑X)])=D;let o4:D a==.ins C Y [("lines",⇑Z),("bottom",↥1),("across",⇑X)]:=by rw[<-e4,af]
 let A4:D X==.lst (ln c λi=>(i:Int)):=by rw[<-e4,ah (CV aA),af];rfl
 let x:∀b o,b≠a->H b==o->D b==o:=λb o n e=>![<-e4,ah n,ah (ak (k3 b o n e) g)] (k3 b o n e)
 let f4:∀b,D b=none->H b=none:=λb n=>by
  cases z:H b with
  | none=>rfl
  | some o=>
   by_cases y:b=a
   ·rw[y,o4] at n
    cases n
   ·rw[x b o y z] at n
    cases n
 let M:Z≠a:=λz=>by erw[z,ha] at I
 show(3,0,Z,k,O,.inl (.inl (.inl (x _ _ M I))),1,1,2);rw[U.1];show(c,r,(show [V.int (c:Int),V.int ((c:Int)+((r+1:Nat):Int)-1)]=[V.int (c:Int),V.int ((c:Int)+r)] by rw[show(c:Int)+((r+1:Nat):Int)-1=(c:Int)+r by omega]),gu,gu,λJ B=>(0,a,C,Y,0,(by rwa[ah (ak o4 B)]),S.cls,S.vU,(by change 3<1000;decide),2));rw[afw];let aD:a≠J:=ak o4 B;let AD:X≠J:=ak A4 B;let N:=f3 X g;let R:=f4 J B
 let T:∀b o,b≠a->D b==o->(upd (upd D J (.lst ((KA r).map λ(i:Nat)=>V.int ((c:Int)+i)))) a (.ins C Y [("lines",⇑Z),("bottom",↥1),("across",⇑X),("down",⇑J)])) b==o:=λb o n e=>by
  rwa[ah n,ah (ak e B)]
 show q X J _ (λb o n e=>T b o n (x b o n e)) N R (af,T _ _ M (x _ _ M I),#[U.1,λs u=>?_],T _ _ (CV aA) A4,2,AD,λs z=>?_,λs z=>?_,ak I N,ak I R)
 ·let(j,m,G):=U.2 s u
  let pa:j≠a:=λz=>by erw[z,ha] at G
  show(j,m,T _ _ pa (x _ _ pa G))
 ·rw[ah (CV aD),af]
  rfl
 ·let u:s<r+1:=by
   have:=(ir.mp z).1;rwa[U.1] at this
  let(j,m,G):=U.2 s u;erw[m] at z;erw[N] at G
 ·let u:s<r+1:=by
   have:=(ir.mp z).1;rwa[U.1] at this
  let(j,m,G):=U.2 s u;erw[m] at z;erw[R] at G
structure eI (m:Nat)(S:Nat->Option (Int×Int))(qs:θ):Prop where
 len:qs.length=m
 get:∀t,t<m->qs[t]?==((S t).getD (0,1))
def eI.start :eI m (λ_=>none) (FZ m ((0:Int),(1:Int))):=#[by simp,λt Z=>by rw[qM,iB Z];rfl]
def eI.put (h:eI m S qs):eI m (λu=>if u=t then some q else S u) (qs.set t q):=by
 show#[![UL] h.len,λu Z=>?_];rw[VC,h.len];by_cases z:t=u
 ·rw[iB z,iB gu,iB z.symm]
  rfl
 ·rw[iA z,iA (CV z)]
  show h.get u Z
def eI.congr (h:eI m S qs)(e:∀t,t<m->S t=S' t):eI m S' qs:=#[h.len,λt Z=>![h.get t Z,e t Z]]
def sj (X:∀H:Hp,cb K H aN [↥0,↥1])(m:Nat):bY K H (FZ m .E) (FZ m ((0:Int),(1:Int))):=#[by simp,λi u q Z Y=>by
 rw[qM] at Z Y;by_cases z:i<m
 ·rw[iB z] at Z Y
  cases Z;cases Y;show(aN,O,X H)
 ·rw[iA z] at Z
  cases Z]
def qU.ks (h:qU K H v q)(e:H x==.lst xs)(k:aZ x H H'):qU K H' v q:=by
 let(p,Y,Z):=h;show(p,Y,2)
 rcases Z with (Z|⟨o,Z⟩)|Z
 ·show .inl (.inl (k _ _ (λz=>by erw[z,e] at Z) Z))
 ·show .inl (.inr #[o,k _ _ (λz=>by erw[z,e] at Z) Z])
 ·show .inr Z
def xJ (h:bY K H us qs)(e:H x==.lst xs)(k:aZ x H H'):bY K H' us qs:=#[h.1,λi u q Y Z=>qU.ks (h.2 i u q Y Z) e k]
def RV (n:Nat)(e:Nat->Nat)(F:Nat->Int×Int)(t:Nat):Option (Int×Int):=(KA n).foldl (λZ s=>if e s=t then some (F s) else Z) none
def i5 :RV (n+1) e F t=if t=e n then some (F n) else RV n e F t:=by
 unfold RV;rw[EF,apj];change (if e n=t then _ else _)=_;by_cases z:e n=t
 ·rw[iB z,iB z.symm]
 ·rw[iA z,iA (CV z)]
theorem JU :∀{n:Nat},(∀s,s<n->e s≠t)->RV n e F t=none
 | 0,_=>rfl
 | n+1,h=>by
  rw[i5,iA (CV (h n (V3 n)))];show JU λs Z=>h s gu
theorem RW :∀{n:Nat},(∀i j,i<n->j<n->e i=e j->i=j)->s<n->e s=t->RV n e F t==(F s)
 | 0,_,h,_=>CC h (VA _)
 | n+1,Y,h,Z=>by
  rw[i5];by_cases z:s=n
  ·rw[iB (![<-z] Z.symm),z]
  ·rw[iA (λy=>z (Y s n h (V3 n) (Z>>>y)))]
   show RW (λi j U X=>Y i j gu gu) gu Z
inductive uU (K:Frag)(C:BQ)(vs:ε)(H:Hp)(Q:VK)(S:XK):Prop
|mk (a U Z X Y:BQ)(us:ε)(r c:Nat)(T:Px.Tb)(_:vs=[.ref a])(_:iY H C a U Z X Y us r c T)(_:r<=800)(_:c<=800)(_:T.d≠0)(_:∀(x:BQ)(xs:ε)(qs:θ)(H':Hp),aq H H' ->H x=none->H' x==.lst xs->bY K H' xs qs->eI c (RV r T.dn λs=>low (T.L s c) T.d) qs->Q ⇑x H')
def gK:av ["table","x","at","thing"] ["table"] (ae d7):=sq
def adZ (hN:∀H:Hp,cb K H aN [↥0,↥1])(kr:mg "NOUGHT"==⇑aN)(a_:mg "len"=none)(bZ:mg "enumerate"=none)(Y:uG K C)(D:Def K mg "fitting_list" d7 ["table"])(jR:!am 33 "lowest_terms" VX c8):!am 34 "fitting_list" ["table"] (uU K C):=by
 show D.op gK λf bx A m s H vs Q E hr h=>?_;let(a,u,lL,lA,lD,us,r,c,T,rfl,R,hr8,hc8,hd,q):=h
 show(_,(aw 1 gK.nd (ax ug .Z (aI ay rfl a_ cu (aU .y)))>>bV Pm rfl (rG rfl bZ (aU .y)) (gy rfl (aK (cE 2 gK.nd) (aK (cE 3 gK.nd) cC))) (aj (bN (bD kN .d .R) (aj (gQ (a9 jR hr (aE (bP aG (bP aG .y .c) (gw dm ag)) .y)) (i8 .b .d set_list))) aQ))>>aj (aC .b)),2);sleep 2
 show#[tw,λp3 n3=>?_];let G:=ar n3 (.lst [V.ref aN]);show(0,a,C,u,4,G\R.obj,Y.cls,Y.qW,O,lA,0,.inl (.inl (.inl (G\R.qW))),2);rw[cJ];show(p3,1,af,gu,gu,CP (show 1*(c:Int).toNat<=1000 by omega) gM,λx n4=>?_);let er:(FZ (c:Int).toNat [V.ref aN]).flatten=FZ c (V.ref aN):=by simp
 rw[er];let s4:=ar n4 (.lst (FZ c .E));let nx:H x=none:=G.free n4;let mO:=G>>>s4;let R4:=R.lC mO;generalize hH4:upd (upd H p3 (.lst [V.ref aN])) x (.lst (FZ c .E))=H4 at*;let x4:H4 x==.lst (FZ c .E):=by rw[<-hH4,af]
 show(0,a,C,u,4,R4.obj,Y.cls,Y.vU,O,lD,O,#[_,.inl (.inl R4.vU)],let I:fM:=λi Z U=>aq H U/\∃(j k:Β)(xs:ε)(M:θ),Z=[cr a,cr x,j,k]/\U x==.lst xs/\bY K U xs M/\eI c (RV i T.dn λs=>low (T.L s c) T.d) M;nS (K:=K) (a:=lD) (xs:=ln r λs=>(T.dn s:Int)) I
  (mO,none,none,4,x4,sj hN c,eI.start) (λi Z U _ ⟨X,_⟩=>.inl (.inl (X\R.vU))) ?_ ?_)
 ·rintro i v Z U pt hv ⟨X,j,k,xs,M,rfl,hx,z,S⟩ g
  let hi:i<r:=by
   have:=(ir.mp hv).1
   rwa[cJ] at this
  erw[km hi] at hv;let N:=ar g (.tup [.int (i:Int),.int (T.dn i:Int)]);let p:=R.lC (X>>>N);have B :=N\hx;have EB :=z.iz N;let lx:xs.length=c:=z.1.trans S.len;let(p1,e1,e2):=p.line (s:=i) gu;show(pt,0,cb.of af,O,4,1,3,x,0,.inl (.inl (.inl B)),1,0,2);rw[lx];show bH (λc1=>?_) (λc1=>?_)
  ·have v9 :T.dn i<c:=by
    have:=RE c1;omega
   show(0,a,C,u,4,p.obj,Y.cls,Y.iL,7,lL,us,1,.inl (.inl p.iL),e1,0,p1,5,.inl (.inl e2),rM,0,a,C,u,4,p.obj,Y.cls,Y.bot,O,4,hd,λp5 H5 J h5=>?_);show(3,x,xs,_,T.dn i,8,J\B,![lx] (rL v9),2);let ks:aZ x H5 (upd H5 x (.lst (xs.set (T.dn i) ⇑p5))):=aZ.upd;show(λb o e=>?_,_,6,af,xJ ((EB.iz J).set (p5,O,cb.of h5)) (J\B) ks,S.put.congr λt _=>i5.symm);rw[ah (ak e nx)];show J\(N _ _ (X _ _ e))
  ·have v9 :¬ T.dn i<c:=λy=>by
    have:=of_decide_eq_false (WR.mpr c1);omega
   show(X>>>N,_,6,B,EB,S.congr λt ht=>?_);rw[i5,iA gu]
 ·rintro Z U ⟨X,j,k,xs,M,rfl,hx,z,S⟩
  rw[cJ] at S;show#[0,q x xs M U X nx hx z S]
def eS (i:Nat)(T:Px.Tb)(r k:Nat)(Z:Int)(t:Nat):Option (Int×Int):=(RV i T.dn (λs=>low (-(T.L s k)*Z) (-.N)) t).or (if t=T.ac k then some (low (T.d*Z) (-.N)) else none)
def alL :eS (i+1) T r k gb t=if t=T.dn i then some (low (-(T.L i k)*gb) (-.N)) else eS i T r k gb t:=by
 unfold eS;rw[i5];by_cases z:t=T.dn i
 ·rw[iB z,iB z]
  rfl
 ·rw[iA z,iA z]
inductive uV (K:Frag)(C:BQ)(vs:ε)(H:Hp)(Q:VK)(R:XK):Prop
|mk (a S Y U X:BQ)(us:ε)(r c B k:Nat)(T:Px.Tb)(Z:Int)(_:vs=[.ref a,.int (k:Int),.int Z])(_:iY H C a S Y U X us r c T)(_:r<=800)(_:c<=800)(_:k<c)(_:T.L r k≠0)(_:SzT r c B T)(_:Z.natAbs<=2^B)(_:B<=4000000)(_:∀(x:BQ)(xs:ε)(qs:θ)(H':Hp),aq H H' ->H x=none->H' x==.lst xs->bY K H' xs qs->eI c (eS r T r k Z) qs->Q (.ref x) H')
def dE:av zay rn (ae cK):=sq
def adG (hN:∀H:Hp,cb K H aN [↥0,↥1])(kr:mg "NOUGHT"==⇑aN)(a_:mg "len"=none)(bZ:mg "enumerate"=none)(X:uG K C)(D:Def K mg "endless_list" cK rn)(jR:!am 33 "lowest_terms" VX c8):!am 34 "endless_list" rn (uV K C):=by
 show D.op dE λf bx A G s H vs Q E hr h=>?_;let(a,z,lL,lA,lD,us,r,c,B,k,T,j,rfl,R,hr8,hc8,hk,hnz,sz,bg,hB,q):=h;let hd: -.N≠0:=gu
 let(pl,f1,f2):=R.last;let bd:=sz.1
 let loop:∃tt,tf (kO (aR P w) P w K mg gV zay "endless_list" (ae cK) f bx A G s H E).t_ ((ao cK).drop 4) tt/\∀(x:BQ)(U:Hp)(N:ε)(J:θ),H x=none->aq H U->U x==.lst N->bY K U N J->eI c (eS 0 T r k j) J->tt {nx:=λ_ S=>Q .cS S,rt:=Q} [some ⇑a,some ↥(k:Int),some ↥j,some ↥(c:Int),some ↥(-.N),some ⇑x,none,none] U:=by
  show(_,(bV Pm rfl (rG rfl bZ (aU .y)) (gy rfl (aK (cE 6 dE.nd) (aK (cE 7 dE.nd) cC))) (aj (bN (bD kN .h .d) (aj (gQ (a9 jR hr (aE (ax bQ (gw dm (bP aG (bP aG .y .g) .b)) .c) .e)) (i8 .f .h set_list))) aQ))>>aj (aC .f)),2);try dsimp only[nK,kO,Cx.t_,Cx.tZ];intro x U N J nx Y hx5 wI hf5
  show(0,a,C,z,4,Y\R.obj,X.cls,X.vU,O,lD,O,#[_,.inl (.inl (Y\R.vU))],let I:fM:=λi Z S=>aq H S/\∃(o1 o2:Β)(xs:ε)(qs:θ),Z=[cr a,some ↥(k:Int),some ↥j,some ↥(c:Int),some ↥(-.N),cr x,o1,o2]/\S x==.lst xs/\bY K S xs qs/\eI c (eS i T r k j) qs;nS (K:=K) (a:=lD) (xs:=ln r λs=>(T.dn s:Int)) I
   (Y,none,none,4,hx5,wI,hf5) (λi Z S _ ⟨M,_⟩=>.inl (.inl (M\R.vU))) ?_ ?_)
  ·rintro i v Z S pt hv ⟨M,o1,o2,xs,qs,rfl,hx,hn,p⟩ npt
   let hi:i<r:=by
    have:=(ir.mp hv).1
    rwa[cJ] at this
   erw[km hi] at hv;let sp:=ar npt (.tup [.int (i:Int),.int (T.dn i:Int)]);let R':=R.lC (M>>>sp);have qX :=sp\hx;have EB :=hn.iz sp;let lx:xs.length=c:=hn.1.trans p.len;let(p1,e1,e2):=R'.line (s:=i) gu;show(pt,0,cb.of af,O,4,1,3,1,0,2);show bH (λu=>?_) (λu=>?_)
   ·have g :T.dn i<c:=by
     have:=RE u;omega
    show(0,a,C,z,4,R'.obj,X.cls,X.iL,7,lL,us,1,.inl (.inl R'.iL),e1,0,p1,5,.inl (.inl e2),mZ gu,3,1,dZ (m:=B) (n:=B) (![vP] (sz.2 i k gu gu)) bg gu gu,0,4,hd,λp5 U Y h5=>?_);show(3,x,xs,_,T.dn i,8,Y\qX,![lx] (rL g),2);let ks:aZ x U (upd U x (.lst (xs.set (T.dn i) ⇑p5))):=aZ.upd;show(λb o e=>?_,_,6,af,xJ ((EB.iz Y).set (p5,O,cb.of h5)) (Y\qX) ks,p.put.congr λt _=>alL.symm);rw[ah (ak e nx)];show Y\(sp _ _ (M _ _ e))
   ·have g :¬ T.dn i<c:=λy=>by
     have:=of_decide_eq_false (WR.mpr u);omega
    show(M>>>sp,_,6,qX,EB,p.congr λt ht=>?_);rw[alL,iA gu]
  ·rintro Z S ⟨M,o1,o2,xs,qs,rfl,hx,hn,p⟩
   rw[cJ] at p;show#[0,q x xs qs S M nx hx hn p]
 let(tt,p2,q2):=loop;show(_,(aw 3 dE.nd (aI ay rfl a_ cu (aU .y))>>aw 4 dE.nd (gw dm (bP aG (bP aG .y (gw dm ag)) .b))>>aw 5 dE.nd (ax ug .Z .d)>>bN (bD kN (bP aG .y .b) .d) (aj (gQ (a9 jR hr (aE (ax bQ .y .c) .e)) (i8 .f (bP aG .y .b) set_list))) aQ>>p2),0,a,C,z,4,R.obj,X.cls,X.qW,O,lA,0,.inl (.inl (.inl R.qW)),2);rw[cJ];show(0,a,C,z,4,R.obj,X.cls,X.iL,7,lL,us,1,.inl (.inl R.iL),f1,0,pl,5,.inl (.inl f2),mZ gu,0,tw,λp3 n3=>?_);let s3:=ar n3 (.lst [V.ref aN]);show(0,p3,1,af,gu,gu,CP (show 1*(c:Int).toNat<=1000 by omega) gM,λx n4=>?_);let er:(FZ (c:Int).toNat [V.ref aN]).flatten=FZ c (V.ref aN):=by simp
 rw[er];let s4:=ar n4 (.lst (FZ c .E));let nx:H x=none:=s3.free n4;let mO:=s3>>>s4;let R4:=R.lC mO;generalize hH4:upd (upd H p3 (.lst [V.ref aN])) x (.lst (FZ c .E))=H4 at*;let x4:H4 x==.lst (FZ c .E):=by rw[<-hH4,af]
 let f0:eI c (λ_=>none) (FZ c ((0:Int),(1:Int))):=eI.start;let lx:(FZ c .E).length=c:=by simp
 show(0,a,C,z,4,R4.obj,X.cls,X.qW,7,lA,5,.inl (.inl R4.qW),mZ hk,0,1,0,2);show bH (λu=>?_) (λu=>?_)
 ·have g :T.ac k<c:=by
   have:=RE u;omega
  show(0,a,C,z,4,R4.obj,X.cls,X.bot,7,1,dZ bd bg gu gu,0,4,hd,λp5 U Y h5=>?_);show(3,a,C,z,4,Y\R4.obj,X.cls,X.qW,7,lA,5,.inl (.inl (Y\R4.qW)),mZ hk,x,9,T.ac k,8,Y\x4,![lx] (rL g),2);let ks:aZ x U (upd U x (.lst ((FZ c .E).set (T.ac k) ⇑p5))):=aZ.upd;show q2 x _ _ _ nx (λb o e=>?_) af (xJ (((sj hN c).iz Y).set (p5,O,cb.of h5)) (Y\x4) ks) (f0.put.congr λt _=>?_)
  ·rw[ah (ak e nx)]
   show Y\(mO _ _ e)
  ·unfold eS
   rw[show RV 0 T.dn (λs=>low (-(T.L s k)*j) (-.N)) t=none from rfl];rfl
 ·have g :¬ T.ac k<c:=λy=>by
   have:=of_decide_eq_false (WR.mpr u);omega
  show q2 x _ _ _ nx mO x4 (sj hN c) (f0.congr λt ht=>?_);unfold eS;rw[show RV 0 T.dn (λs=>low (-(T.L s k)*j) (-.N)) t=none from rfl,iA gu];rfl
def Whs (H:Hp)(ws:ε)(r:Nat)(b:Nat->Int):Prop:=ws.length=r/\∀i,i<r->∃p l,ws[i]?==⇑p/\H p==.tup [⇑l,.int (b i)]
def Whs.iz (h:Whs H ws r b)(s:aq H H'):Whs H' ws r b:=#[h.1,λi Z=>by
 let(p,l,X,Y):=h.2 i Z
 show(p,l,X,s\Y)]
inductive y8 (K:Frag)(C:BQ)(vs:ε)(H:Hp)(Q:VK)(N:XK):Prop
|mk (a R X S U Y:BQ)(us ws:ε)(r c B:Nat)(T:Px.Tb)(b:Nat->Int)(Z:Int)(_:vs=[.ref a,.ref Y,.int Z])(_:iY H C a R X S U us r c T)(_:H Y==.lst ws)(_:Whs H ws r b)(_:r<=800)(_:c<=800)(_:T.d*Z≠0)(_:(∀j,j<c->T.ac j<c+r))(_:SzT r c B T)(_:Z.natAbs<=2^B)(_:(∀i,i<r->(b i).natAbs<=2^B))(_:B<=4000000)(_:∀(x:BQ)(xs:ε)(qs:θ)(H':Hp),aq H H' ->H x=none->H' x==.lst xs->bY K H' xs qs->eI r (λt=>RV c T.ac (λj=>low (T.L r j*b (T.ac j-c)) (T.d*Z)) (c+t)) qs->Q ⇑x H')
def fE:av ["table","wholes","bottom","many","prices","column","thing","times"] rj (ae fZ):=sq
def aan (hN:∀H:Hp,cb K H aN [↥0,↥1])(kr:mg "NOUGHT"==⇑aN)(a_:mg "len"=none)(bZ:mg "enumerate"=none)(X:uG K C)(D:Def K mg "price_list" fZ rj)(jR:!am 33 "lowest_terms" VX c8):!am 34 "price_list" rj (y8 K C):=by
 show D.op fE λf bx A outer s H vs Q E hr h=>?_;let(a,u,lL,lA,lD,g,us,ws,r,c,B,T,b,gb,rfl,R,hw,hW,hr8,hc8,hd,B_,sz,bg,bb,hB,q):=h
 show(_,(aw 3 fE.nd (aI ay rfl a_ cu (aU .y))>>aw 4 fE.nd (ax ug .Z .R)>>bV Pm rfl (rG rfl bZ (aU .y)) (gy rfl (aK (cE 5 fE.nd) (aK (cE 6 fE.nd) cC))) (aj (bN (bD Zk .g .d) (aw 7 fE.nd (aH (bP aG .b (ax eK .g .d)))>>aj (gQ (a9 jR hr (aE (ax bQ (bP aG (bP aG .y (gw dm ag)) .f) .h) (ax bQ .y .c))) (i8 .e (ax eK .g .d) set_list))) aQ))>>aj (aC .e)),2);sleep 3
 show(0,a,C,u,4,R.obj,X.cls,X.qW,O,lA,0,.inl (.inl (.inl R.qW)),2);rw[cJ];show#[tw,λp3 n3=>?_];let m:=ar n3 (.lst [V.ref aN]);show(0,g,0,.inl (.inl (.inl (m\hw))),2);rw[hW.1];show(p3,1,af,gu,gu,CP (show 1*(r:Int).toNat<=1000 by omega) gM,λx n4=>?_);let er:(FZ (r:Int).toNat [V.ref aN]).flatten=FZ r (V.ref aN):=by simp
 rw[er];let s4:=ar n4 (.lst (FZ r .E));let nx:H x=none:=m.free n4;let mO:=m>>>s4;let R4:=R.lC mO;generalize hH4:upd (upd H p3 (.lst [V.ref aN])) x (.lst (FZ r .E))=H4 at*;let x4:H4 x==.lst (FZ r .E):=by rw[<-hH4,af]
 show(0,a,C,u,4,R4.obj,X.cls,X.qW,O,lA,O,#[_,.inl (.inl R4.qW)],let I:fM:=λi Z S=>aq H S/\∃(o1 o2 o3:Β)(xs:ε)(M:θ),Z=[cr a,cr g,some ↥gb,some ↥(c:Int),cr x,o1,o2,o3]/\S x==.lst xs/\bY K S xs M/\eI r (λt=>RV i T.ac (λj=>low (T.L r j*b (T.ac j-c)) (T.d*gb)) (c+t)) M;nS (K:=K) (a:=lA) (xs:=ln c λs=>(T.ac s:Int)) I
  (mO,none,none,none,4,x4,sj hN r,eI.start) (λi Z S _ ⟨Y,_⟩=>.inl (.inl (Y\R.qW))) ?_ ?_)
 ·rintro i v Z S pt hv ⟨Y,o1,o2,o3,xs,M,rfl,hx,G,N⟩ npt
  let hi:i<c:=by
   have:=(ir.mp hv).1
   rwa[cJ] at this
  erw[km hi] at hv;let U:=ar npt (.tup [.int (i:Int),.int (T.ac i:Int)]);let p:=R.lC (Y>>>U);let hW':=hW.iz (Y>>>U);let hw':=U\(Y _ _ hw);have k :=U\hx;have EB :=G.iz U;let lx:xs.length=r:=G.1.trans N.len;let(p1,e1,e2):=p.last;show(pt,0,cb.of af,O,4,1,3,1,0,2);show bH (λc1=>?_) (λc1=>?_)
  ·have v9 :c<=T.ac i:=by
    have:=RE c1;omega
   let lt:=B_ i hi;let(p6,l6,w1,w2):=hW'.2 (T.ac i-c) gu;let sub:(T.ac i:Int)-(c:Int)=((T.ac i-c:Nat):Int):=gu
   show(3,0,1,g,5,.inl (.inl hw'),(show oM ws ((T.ac i:Int)-(c:Int))==.ref p6 by rw[sub];show b9 w1),p6,5,cb.of w2,i6,0,a,C,u,4,p.obj,X.cls,X.iL,7,lL,us,1,.inl (.inl p.iL),e1,0,p1,5,.inl (.inl e2),mZ gu,0,1,dZ (sz.2 r i gu gu) (bb _ gu) gu gu,0,a,C,u,4,p.obj,X.cls,X.bot,7,1,dZ sz.1 bg gu gu,4,hd,λp5 H5 J h5=>?_);show(3,0,1,x,xs,_,T.ac i-c,8,J\k,(show TL xs.length ((T.ac i:Int)-(c:Int))==(T.ac i-c) by rw[lx,sub];show rL gu),2);let ks:aZ x H5 (upd H5 x (.lst (xs.set (T.ac i-c) ⇑p5))):=aZ.upd;show(λb' o e=>?_,9,6,af,xJ ((EB.iz J).set (p5,O,cb.of h5)) (J\k) ks,N.put.congr λt _=>?_)
   ·rw[ah (ak e nx)]
    show J\(U _ _ (Y _ _ e))
   ·rw[i5]
    by_cases z:t=T.ac i-c
    ·rw[iB z,iB gu]
    ·rw[iA z,iA gu]
  ·have v9 :¬ c<=T.ac i:=λy=>by
    have:=of_decide_eq_false (WR.mpr c1);omega
   show(Y>>>U,9,6,k,EB,N.congr λt ht=>?_);rw[i5,iA gu]
 ·rintro Z S ⟨Y,o1,o2,o3,xs,M,rfl,hx,G,N⟩
  rw[cJ] at N;show#[0,q x xs M S Y nx hx G N]
def qf (qs:θ)(t:Nat):Rat:=vl (qs.getD t (0,1))
def aF (Z:ο)(i t:Nat):Rat:=qf (Z.getD i []) t
structure ayJ (gs:θ)(aX:ο)(B:Nat)(w:Int×Int)(xq yq:θ):Prop where
 xl:xq.length=gs.length
 yl:yq.length=aX.length
 xs:∀q∈xq,Sm B B q
 ys:∀q∈yq,Sm B B q
 ws:Sm B B w
 opt:∀t,t<gs.length->qf gs t<=Ty.sumTo aX.length (λi=>qf yq i*aF aX i t)
 yc:∃d:Int,d≠0/\d.natAbs<=2^B/\∀q∈yq,∃n:Int,n.natAbs<=2^B/\vl q=(n:Rat) / (d:Rat)
structure ayK (gs:θ)(aX:ο)(B:Nat)(xq:θ):Prop where
 xl:xq.length=gs.length
 xs:∀q∈xq,Sm B B q
 fin:Px.afo aX.length gs.length (qf gs) (aF aX) (qf xq)
def Yc (K:Frag)(H:Hp)(rs:ε)(Z:ο):Prop:=rs.length=Z.length/\∀i,i<Z.length->∃p Y,rs[i]?==⇑p/\H p==.lst Y/\bY K H Y (Z.getD i [])
theorem Yc.iz (h:Yc K H rs aX)(s:aq H H'):Yc K H' rs aX:=#[h.1,λi Y=>by
 let(p,Z,T,U,X):=h.2 i Y
 show(p,Z,T,s\U,X.iz s)]
def bz (r M:Nat):Nat:=(r+1)*(r+1)+M*(r+1)
theorem alH:∀n,Px.fact n<=2^(n*n)
 | 0=>by simp[Px.fact]
 | n+1=>by
  change (n+1)*Px.fact n<=_;let h:n+1<=2^(n+1):=RK Nat.lt_two_pow_self;show CP (VF h (alH n)) ?_;rw[<-Zq];show Vd gM ?_;rw[show(n+1)*(n+1)=n*n+n+(n+1) by rw[Pn,aqE];omega];omega
def Pj (G:Px.Good r c A T)(S:∀i j,i<r+1->j<=c->(A i j).natAbs<=2^M):SzT r c (bz r M) T:=by
 let h:=G.bound (X:=2^M) W9 (λi j U Z=>by
  let R:=S i j U Z;generalize (2^M:Nat)=X at R ⊢
  omega)
 let e:Px.fact (r+1)*(2^M)^(r+1)<=2^bz r M:=by
  unfold bz;rw[Zq 2 ((r+1)*(r+1)) (M*(r+1)),Nat.pow_mul 2 M (r+1)];show EM _ (alH _)
 show#[CP h.1 e,λs j Y Z=>CP (h.2 s j Y gu) e]
def oj (r c:Nat)(Z:Nat->List Int)(Y:ρ)(i j:Nat):Int:=if i<r then (Z i).getD j 0 else if j<c then -(Y.getD j 0) else 0
def uW (h:kX ts qs b)(X:j<qs.length):((ts.getD j 0:Int):Rat)=vl (qs.getD j (0,1))*b:=by
 let U:=h.1;let Y:ts[j]?==(ts[j]'gu):=gE gu;let Z:qs[j]?==qs[j]:=gE X;rw[GO,GO,Y,Z];show h.2 j _ _ Y Z
def abe {qs:θ}(h:j<qs.length):(qs++[x]).getD j (0,1)=qs.getD j (0,1):=by
 rw[GO,GO,PR h]
def abf {qs:θ}:(qs++[x]).getD qs.length (0,1)=x:=by
 rw[GO,RF (CK _),EA];rfl
def akc {X R:θ}{Y:ο}(Q:kX gts X gb)(N:0<gb)
  (S:∀i,i<Y.length->0<bF i/\kX (tsF i) (Y.getD i []++[R.getD i (0,1)]) (bF i)) (U:∀i,i<Y.length->(Y.getD i []).length=X.length):
  Px.Lay Y.length X.length (oj Y.length X.length tsF gts) (qf X) (aF Y) (qf R) bF gb:=by
 show(λi Z=>(S i Z).1,N,λi t Z T=>?_,λi Z=>?_,λt T=>?_,2)
 ·let h:=uW (S i Z).2 (j:=t) (by rw[GY,U i Z];omega)
  rw[abe (by rwa[U i Z])] at h;unfold oj;rwa[iB Z]
 ·let h:=uW (S i Z).2 (j:=X.length) (by rw[GY,U i Z];simp)
  rw[<-U i Z,abf,U i Z] at h;unfold oj;rwa[iB Z]
 ·let h:=uW Q T
  unfold oj;rw[iA (Sa _),iB T];unfold qf;rw[<-h];push_cast;rfl
 ·unfold oj
  rw[iA (Sa _),iA (Sa _)]
theorem so :∀{n:Nat},RV n e F t==q->∃s,s<n/\e s=t/\q=F s
 | 0,h=>nomatch h
 | n+1,h=>by
  rw[i5] at h;by_cases z:t=e n
  ·rw[iB z] at h
   cases h;show(n,V3 n,z.symm,O)
  ·rw[iA z] at h
   let(s,X,Y,Z):=so h;show(s,gu,Y,Z)
def alE:vl ((0:Int),(1:Int))=0:=by
 unfold vl;decide+kernel
def sy (h:eI m S qs)(Z:t<m):qf qs t=vl ((S t).getD (0,1)):=by
 unfold qf;rw[GO,h.get t Z];rfl
def eI.sm (h:eI m S qs)(U:∀t q,t<m->S t==q->Sm B B q):∀q∈qs,Sm B B q:=λq X=>by
 let(t,e):=OV X
 let Z:t<m:=by
  have:=(ir.mp e).1;rwa[h.len] at this
 erw[h.get t Z] at e;cases z:S t with
 | none=>show(gM,gM,RQ _,W9)
 | some Y=>show U t Y Z z
def eI.cd {d:Int}(h:eI m S qs)(U:∀t q,t<m->S t==q->∃n:Int,n.natAbs<=2^B/\vl q=(n:Rat) / (d:Rat)):∀q∈qs,∃n:Int,n.natAbs<=2^B/\vl q=(n:Rat) / (d:Rat):=λq X=>by
 let(t,e):=OV X
 let Z:t<m:=by
  have:=(ir.mp e).1;rwa[h.len] at this
 erw[h.get t Z] at e;cases z:S t with
 | none=>
  show((0),RQ _,2);change ((0:Int):Rat) / ((1:Int):Rat)=((0:Int):Rat) / (d:Rat);let T:((0:Int):Rat)=0:=rfl;rw[T,FC,FC,Rat.zero_mul,Rat.zero_mul]
 | some Y=>show U t Y Z z
def smL (Z:b≠0)(X:t.natAbs<=2^B)(Y:b.natAbs<=2^B):Sm B B (low t b):=(oO Z,rf Z,CP (ju Z) X,CP (jv Z) Y)
section
variable {r c:Nat}{A:Nat->Nat->Int}{T:Px.Tb}{g:Nat->Rat}{a:Nat->Nat->Rat}{l:Nat->Rat}{b:Nat->Int}{gb:Int}
def akd (G:Px.Good r c A T)(L:Px.Lay r c A g a l b gb)(U:∀j,j<c->0<=T.L r j)(H:eI r (λt=>RV c T.ac (λj=>low (T.L r j*b (T.ac j-c)) (T.d*gb)) (c+t)) yq)(X:t<c):g t<=Ty.sumTo r (λi=>qf yq i*a i t):=by
 let R:T.d*gb≠0:=VB (VR G.pos L.gp);let(π,I,J,M,N,_):=G.axD;let B:=Px.IP L.gp;let x:=G.dR;let u:0<(T.d:Rat)⁻¹:=Qa.mpr x;let C:=ZR _ (show(gb:Rat)≠0 by grind)
 let dg:∀z:Int,(z:Rat) / ((T.d*gb:Int):Rat)=(gb:Rat)⁻¹*((T.d:Rat)⁻¹*(z:Rat)):=λz=>by
  have:((T.d*gb:Int):Rat)=(T.d:Rat)*(gb:Rat):=by push_cast;rfl
  rw[this];grind
 let Q:∀i,i<r->qf yq i=(gb:Rat)⁻¹*(π i*(b i:Rat)):=λi Y=>by
  rw[sy H Y]
  rcases G.cov (c+i) gu with ⟨j,Z,e⟩|⟨s,S,e⟩
  ·rw[RW (s:=j) (λi j D E=>G.acI i j D E) Z e,I j i Z Y e]
   change vl (low (T.L r j*b (T.ac j-c)) (T.d*gb))=_;rw[mq R,e,ajM,dg];push_cast;grind
  ·rw[JU (λj Z y=>G.PK j s Z gu (y>>>e.symm)),J s i S Y e]
   change vl (0,1)=_;rw[alE];grind
 let h:0<=Ty.sumTo r (λi=>π i*(A i t:Rat))+(A r t:Rat):=by
  rcases G.cov t gu with ⟨j,Z,e⟩|⟨s,S,e⟩
  ·rw[M j t Z X e]
   have:(0:Rat)<=(T.L r j:Rat):=by exact_mod_cast U j Z
   show Vn (vN u) this
  ·rw[N s t S X e]
   show uY
 rw[L.afp t X,Px.fj r (λi=>π i*(A i t:Rat)) (λi=>(gb:Rat)*(qf yq i*a i t)) (λi Y=>by
  rw[L.row i t Y X,Q i Y];have:(gb:Rat)*((gb:Rat)⁻¹*(π i*(b i:Rat))*a i t)=((gb:Rat)⁻¹*(gb:Rat))*(π i*(b i:Rat)*a i t):=by grind
  rw[this,C]
  grind),Ty.sumTo_mul] at h
 show Px.FG B ?_;grind
def ake (G:Px.Good r c A T)(L:Px.Lay r c A g a l b gb)(U:k<c)(R:T.L r k<0)(free:∀s,s<r->T.L s k<=0)(Z:eI c (eS r T r k gb) xq):Px.afo r c g a (qf xq):=by
 let S: -.N≠0:=gu
 show G.afq L U R free λt Y=>(λe=>?_,λs X e=>?_,λh Q=>?_)
 ·rw[sy Z Y]
  unfold eS;rw[JU (λs X N=>G.PK k s U gu (e>>>N.symm)),iB e.symm];show mq S
 ·rw[sy Z Y]
  unfold eS;rw[RW (s:=s) (λi j J M=>G.dnI i j gu gu) X e];show mq S
 ·rw[sy Z Y]
  unfold eS;rw[JU Q,iA (CV h)];show alE
end
def abg (H:Hp)(v:V)(r c:Nat)(T:Px.Tb):Prop:=(v=.cS/\∀j,j<c->0<=T.L r j)\/(∃(p:BQ)(k:Nat),v=⇑p/\H p==.tup [.cS,.int (k:Int)]/\k<c/\T.L r k<0/\∀s,s<r->T.L s k<=0)\/
 (∃(p:BQ)(x k:Nat),v=⇑p/\H p==.tup [.int (x:Int),.int (k:Int)]/\k<c/\T.L r k<0/\afx r c T k x/\(T.L x c=0->∀j,j<c->T.L r j<0->T.ac k<=T.ac j))
def alG (R:iY H C a dx lL lA lD us r c T)(I:r<=900)(G:c<64)(J:SzT r c B T)(D:B<=4000000)(N:∀s,s<r->0<=T.L s c)(M:kJ H P0)
  (q:∀v H',aZ P0 H H' ->kJ H' P0->abg H' v r c T->Q v H'):yZ C P0 [⇑a] H Q E:=
 (a,dx,lL,lA,lD,us,r,c,B,T,O,R,I,G,J,D,N,M,λH' k t h=>q _ _ k t (.inl #[O,h]),λp k H' Z t S U X Y=>q _ _ Z t (.inr (.inl (p,k,O,S,U,X,Y))),λp x k H' Z t S U X Y A=>q _ _ Z t (.inr (.inr (p,x,k,O,S,U,X,Y,A))))
def apI (Z:ρ):Z.map V.int=ln Z.length (λj=>Z.getD j 0):=yK gN λi v Y e=>by
 erw[Wp,gE Y] at e;rw[GO,gE Y];rfl
def apJ (K:Frag)(H H':Hp)(R:θ)(Q:ο)(B:Nat)(v:V):Prop:=
 (∃(p Z X:BQ)(T:V)(xs S:ε)(w:Int×Int)(Y U:θ),v=⇑p/\H' p==.tup [.str "most",T,⇑Z,⇑X]/\Nm H' T w/\H' Z==.lst xs/\bY K H' xs Y/\H' X==.lst S/\bY K H' S U/\H Z=none/\H X=none/\Z≠X/\ayJ R Q B w Y U)\/
 (∃(p Z:BQ)(xs:ε)(Y:θ),v=⇑p/\H' p==.tup [.str "endless",⇑Z]/\H' Z==.lst xs/\bY K H' xs Y/\H Z=none/\ayK R Q B Y)
inductive RX (K:Frag)(T:BQ)(vs:ε)(H:Hp)(Q:VK)(L:XK):Prop
|mk (M S N:BQ)(rs R:ε)(Y U:θ)(Z:ο)(T0 X:Nat)(_:vs=[.ref M,.ref S,.ref N])(_:ajd K H M Y)(_:aY K H S rs)(_:Yc K H rs Z)(_:aY K H N R)(_:bY K H R U)(_:U.length=Z.length)(_:(∀i,i<Z.length->(Z.getD i []).length=Y.length))(_:(∀q∈Y,Sm T0 X q))(_:(∀q∈U,Sm T0 X q/\0<=q.1))(_:(∀i,i<Z.length->∀q∈Z.getD i [],Sm T0 X q))(_:Y.length<60)(_:Z.length<=60)(_:X*(Y.length+1)<=1900000)(_:bz Z.length (T0+X*(Y.length+1))<=1900000)(_:kJ H T)(_:∀v H',aZ T H H' ->kJ H' T->apJ K H H' Y Z (bz Z.length (T0+X*(Y.length+1))+(T0+X*(Y.length+1))) v->Q v H')
def fT:av ["gains","rows","limits","gain","wholes","lines","table","two","worth"] pX (ae jo):=sq
def acZ (tc:uG K C)(dY:mg "zip"=none)(JV:mg "Table"==⇑C)(JW:Mk K C fi)(JX:!bv 1 fi fdi Zi (JT C))(mD:Binds K fdi Zi [])
  (MN:!ce 3 C "next_swap" Ox (yZ C P0)) (MW:!ce 34 C "swap" zaX (JS C)) (D:Def K mg "most_of" jo pX)
  (JD:!am 33 "whole_row" uT (WM K)) (jR:!am 33 "lowest_terms" VX c8) (y_:!am 34 "fitting_list" ["table"] (uU K C))
  (JY:!am 34 "price_list" rj (y8 K C)) (zd:!am 34 "endless_list" rn (uV K C)):!am 36 "most_of" pX (RX K P0):=by
 show D.op fT λf bx A outer s H vs Q E hr h=>?_;let(ga,ra,la,rs,ls,gs,N,aX,T0,B0,rfl,hG,hR,hRw,hL,hN,hll,hrc,smG,apM,smR,hc6,hr6,hB8,hbz,tb,q):=h
 show(_,(aw 3 fT.nd (a9 JD hr (aU .a))>>Rm (i:=4) (tn:=["row","limit"]) (fr:=[]) (mQ:=[]) fT.nd (nN rfl dY (aE .b .c)) .n .o (vD JD hr (aU (ax gS .a (bJ (aU .b)))))>>yF (i:=5) (tn:=["whole"]) (fr:=[]) (mQ:=[]) fT.nd (bT .e) .D>>cn (nE Zn OW OS g6 .f (aU (ax gS (ix (tn:=["top"]) (fr:=[]) (mQ:=[]) (bT (aH .d)) (gw dm .a)) (bJ (aU ag)))))>>aw 6 fT.nd (aep JW JX hr.mo rfl JV mD .nil (pY P w) (aU .f))>>aw 7 fT.nd (fG (k:=3) .g hr.mo (pY P w))>>qY Pm (bD ago .h gO) (bN (bD qj (aH .h) gO) (aj (aC (aJ (aE dQ (a9 zd hr (bS .g (aH .h) (aH .d))))))) aQ>>cn (d5 (k:=34) .g hr.mo (pY P w) (aE (aH .h) (aH .h)))>>aj (aw 7 fT.nd (fG (k:=3) .g hr.mo (pY P w))))>>aw 8 fT.nd (a9 jR hr (aE (bP aG (bP aG (bf .g rfl) (gw dm ag)) (gw dm ag)) (ax bQ (bf .g rfl) (aH .d))))>>aj (aC (aJ (Q7 dQ (bS .i (a9 y_ hr (aU .g)) (a9 JY hr (bS .g .e (aH .d)))))))),2);sleep 8
 generalize hM:T0+B0*(gs.length+1)=M at hbz q
 let M1:M<=1900000:=by
  unfold bz at hbz;have:=UY M (show 0<aX.length+1 by omega);omega
 let M2:M<=bz aX.length M:=by
  unfold bz;have:=UY M (show 0<aX.length+1 by omega);omega
 let B0c:B0*gs.length<=B0*(gs.length+1):=aos _ gu;let B01:B0<=B0*(gs.length+1):=UY _ gu;show(0,ga,gs,T0,B0,B0*gs.length,O,hG,smG,yM λq hq=>(smG q hq).bot,gu,gu,gu,gu,λpg lg gts gb H1 s1 nlg hpg hlg gbp gbs hgW hgs=>?_);show(3,ra,la,O,#[_,s1.seq hR],#[_,s1.seq hL],λD1 nD1=>?_);show ur (K:=K) (a:=ra) (b:=la) (xs:=rs) (ys:=ls) (oC:=[]) (λi v H'=>∃(p l:BQ)(ts:ρ)(b:Int),v=⇑p/\H' p==.tup [⇑l,↥b]/\H' l==.lst (ts.map V.int)/\l≠D1/\0<b/\b.natAbs<=2^M/\kX ts (aX.getD i []++[N.getD i (0,1)]) b/\∀t∈ts,t.natAbs<=2^M) nD1 (![hRw.1] (K' hr6 gM)) (![hRw.1,hN.1,hll]) (λH2 s2=>s2.seq (s1.seq hR)) (λH2 s2=>s2.seq (s1.seq hL)) ?_ ?_ ?_
 ·rintro i v H2 H3 ys hD ks ⟨p,l,ts,b,e,h1,h2,h3,h4⟩
  show(p,l,ts,b,e,ks _ _ (λz=>by erw[z,hD] at h1) h1,ks _ _ h3 h2,h3,h4)
 ·intro i x y H2 R ex ey s2 ⟨ys,hD⟩ k2
  let Y:i<aX.length:=by
   have:=(ir.mp ex).1;rwa[hRw.1] at this
  let(pr,X,r1,r2,r3):=((hRw.iz s1).iz s2).2 i Y;erw[ex] at r1;let hli:i<N.length:=gu
  let el:N[i]?==N[i]:=gE hli;let nl:=((hN.iz s1).iz s2).2 i y _ ey el;let eg:N.getD i (0,1)=N[i]:=by rw[GO,el];rfl
  show(3,tw,λp3 n3=>?_);let s3:=ar n3 (.lst [y]);let ul:X.length=gs.length:=r3.1.trans (hrc i Y);show(pr,p3,X,0,O,s3\r2,af,CP (show X.length+1<=100 by omega) gM,λp4 n4=>?_);let s4:=ar n4 (.lst (X++[y]));let s34:=s3>>>s4
  let smX:∀n∈aX.getD i []++[N[i]],Sm T0 B0 n:=λn hn=>by
   rcases OB.mp hn with z|z
   ·show smR i Y n z
   ·rw[OK.mp z]
    show(apM _ (Sk _)).1
  show(p4,aX.getD i []++[N[i]],T0,B0,B0*(gs.length+1),O,(X++[y],.inl (.inl af),#[by rw[GY,GY,r3.1];rfl,λj u n e1 e2=>?_]),λn hn=>?_,2,gu,gu,gu,2,λp l ts b H5 s5 nl5 hp5 hl5 bp bs hW hts=>?_)
  ·by_cases z:j<X.length
   ·rw[PR z] at e1
    rw[PR (by rwa[<-r3.1])] at e2;show(r3.2 j u n e1 e2).iz s34
   ·rw[RF gu] at e1
    rw[RF (by rw[<-r3.1];omega)] at e2
    let z0:j-X.length=0:=by
     have:=(ir.mp e1).1;simp at this;omega
    rw[z0] at e1;rw[<-r3.1,z0] at e2;cases e1;cases e2;show nl.iz s34
  ·show smX n hn
  ·have:=yM (B:=B0) λq hq=>(smX q hq).bot
   rwa[GY,hrc i Y] at this
  ·rw[GY,hrc i Y]
   change gs.length+1<=1000;omega
  ·show k2 _ _ (s34>>>s5) (p,l,ts,b,O,hp5,hl5,λz=>?_,bp,iW bs (by change B0*(gs.length+1)<=M;omega),by rwa[eg],λt ht=>iW (hts t ht) (by change T0+B0*(gs.length+1)<=M;omega))
   erw[z,s34\hD] at nl5
 intro zs H2 hz gY s2 hD1;rw[hRw.1] at hz;generalize hrr:aX.length=r at*;generalize QM:gs.length=c at*
 let(σ,hZ):=Classical.axiomOfChoice (r:=λ(i:Nat) (z:BQ×BQ×List Int×Int)=>i<r->zs[i]?==⇑z.1/\H2 z.1==.tup [⇑z.2.1,↥z.2.2.2]/\H2 z.2.1==.lst (z.2.2.1.map V.int)/\0<z.2.2.2/\z.2.2.2.natAbs<=2^M/\kX z.2.2.1 (aX.getD i []++[N.getD i (0,1)]) z.2.2.2/\∀t∈z.2.2.1,t.natAbs<=2^M) (λi=>by
  by_cases Y:i<r
  ·let e:zs[i]?==(zs[i]'gu):=gE gu
   let(p,l,ts,b,h0,h1,h2,h3,h4,h5,h6,h7):=gY i _ e;show#[(p,(l,(ts,b))),λ_=>(![e,h0],h1,h2,h4,h5,h6,h7)]
  ·show#[(0,(0,([],0))),λh=>CC h Y])
 show(0,D1,O,#[_,.inl (.inl hD1)],λD2 nD2=>?_);show du (K:=K) (a:=D1) (xs:=zs) (oC:=[]) (λi v _=>v=.ref (σ i).2.1) nD2 (![hz] (K' hr6 gM)) (λH3 s3=>.inl (.inl (s3\hD1))) (λ_ _ _ _ _ _ _ h=>h) ?_ ?_
 ·intro i u H3 R eu s3 k3
  let Y:i<r:=by
   have:=(ir.mp eu).1;omega
  let(z1,z2,_):=hZ i Y;erw[z1] at eu;show(0,_,5,cb.of (s3\z2),iZ,k3 _ _ .L rfl)
 intro ys H3 hy aa1 s3 hD2;rw[hz] at hy;let Pq:=s2>>>s3;let ayM:=Pq\hpg;let apN:=Pq\hlg;let gtl:gts.length=c:=by rw[hgW.1,QM]
 show(0,.inl (O,_,aY.of hD2),0,pg,5,cb.of ayM,iZ,lg,O,#[_,.inl (.inl apN)],λD3 nD3=>?_);show du (K:=K) (a:=lg) (xs:=gts.map V.int) (oC:=[]) (λi v _=>v=.int (-(gts.getD i 0))) nD3 (![CA,gtl] (Qi hc6 gM)) (λH4 s4=>.inl (.inl (s4\apN))) (λ_ _ _ _ _ _ _ h=>h) ?_ ?_
 ·intro i u H4 R eu s4 k4
  rw[Wp] at eu;let(t,et,rfl):=OR.mp eu;show#[3,k4 _ _ .L ?_];rw[GO,et];rfl
 intro ns H4 Oo apO s4 hD3;rw[CA,gtl] at Oo;show#[tw,λp4 n4=>?_];let s5:=ar n4 (.lst [V.int 0]);show(D3,p4,1,s5\hD3,af,CP (show ns.length+1<=100 by omega) gM,λI n5=>?_);let s6:=ar n5 (.lst (ns++[V.int 0]));let s46:=s4>>>(s5>>>s6);have ayN :=s46\hD2;let l46:upd (upd H4 p4 (.lst [V.int 0])) I (.lst (ns++[V.int 0])) I==.lst (ns++[V.int 0]):=af;let nl4:H3 I=none:=s4.free (s5.free n5);generalize upd (upd H4 p4 (.lst [V.int 0])) I (.lst (ns++[V.int 0]))=H6 at*;show(D2,ys,0,O,ayN,![hy] (K' hr6 gM),2);let D2l:I≠D2:=λz=>by erw[z,hD2] at nl4
 let abh:∀b o,H2 b==o->upd H6 D2 (.lst (ys++[⇑I])) b==o:=λb o e=>by
  rw[ah (ak e nD2)];show s46\(s3 _ _ e)
 let D7:upd H6 D2 (.lst (ys++[⇑I])) D2==.lst (ys++[⇑I]):=af;let l7:upd H6 D2 (.lst (ys++[⇑I])) I==.lst (ns++[V.int 0]):=by rwa[ah D2l]
 generalize upd H6 D2 (.lst (ys++[⇑I]))=H7 at*;let S7:aq H H7:=λb o e=>abh\(s2 _ _ (s1 _ _ e));generalize hA:oj r c (λi=>(σ i).2.2.1) gts=AA
 let UI:V4 H7 (ys++[⇑I]) (r+1) (c+1) AA:=by
  show#[by rw[GY,hy];rfl,λs hs=>?_];by_cases z:s<r
  ·let(z1,z2,z3,z4,z5,z6,z7):=hZ s z
   let e:ys[s]?==(ys[s]'gu):=gE gu;show((σ s).2.1,![PR gu,e,aa1 s _ e],2);rw[abh\z3,apI];let tl:(σ s).2.2.1.length=c+1:=by rw[z6.1,GY,hrc s gu];rfl
   rw[tl];congr 2;show nZ λj _=>?_;rw[<-hA];unfold oj;rw[iB z]
  ·have:s=r:=gu
   subst this;show(I,by rw[RF gu,hy,EA];rfl,2);rw[l7];congr 2;show yK (by rw[GY,Oo];rfl) λi v Y e=>?_;rw[<-hA];unfold oj;rw[iA (Sa _)];by_cases y:i<c
   ·rw[PR gu] at e
    rw[iB y];show apO i v e
   ·rw[RF gu,Oo] at e
    rw[iA y];have:i-c=0:=gu
    erw[this] at e;rfl
 let lay:Px.Lay r c AA (qf gs) (aF aX) (qf N) (λi=>(σ i).2.2.2) gb:=by
  rw[<-hA,<-hrr,<-QM];show akc hgW gbp (λi Y=>#[(hZ i gu).2.2.2.1,(hZ i gu).2.2.2.2.2.1]) (λi Y=>![hrc i gu,QM])
 let bA:∀i j,i<r+1->j<=c->(AA i j).natAbs<=2^M:=λi j Y hj=>by
  rw[<-hA];change (if i<r then (σ i).2.2.1.getD j 0 else if j<c then -(gts.getD j 0) else 0).natAbs<=2^M;by_cases z:i<r
  ·rw[iB z]
   let h7:=(hZ i z).2.2.2.2.2.2;by_cases y:j<(σ i).2.2.1.length
   ·rw[GO,gE y]
    show h7 _ (Sk _)
   ·rw[GO,IF gu]
    show RQ _
  ·rw[iA z]
   by_cases y:j<c
   ·rw[iB y,vP,GO,gE gu]
    show iW (hgs _ (Sk _)) gu
   ·rw[iA y]
    show RQ _
 let apP:∀s,s<r->0<=AA s c:=λs hs=>by
  let h1:=lay.lim s hs
  let h2:0<=(N.getD s (0,1)).1/\0<(N.getD s (0,1)).2:=by
   let hl:s<N.length:=gu
   rw[GO,gE hl];have:=apM _ (Sk hl);show#[this.2,this.1.pos]
  let h3:(0:Rat)<=qf N s:=by
   unfold qf vl;let a1:(0:Rat)<=((N.getD s (0,1)).1:Rat):=by exact_mod_cast h2.1
   let a2:(0:Rat)<((N.getD s (0,1)).2:Rat):=by exact_mod_cast h2.2
   rw[FC];show Vn a1 (vN (Qa.mpr a2))
  let h4:(0:Rat)<=(AA s c:Rat):=by
   rw[h1];show Vn h3 (vN (Px.IP (lay.bp s hs)))
  exact_mod_cast h4
 let U:gb.natAbs<=2^M:=iW gbs gu;let apQ:=abh\(s2 _ _ hpg);let apR:=abh\hD1;let wh7:Whs H7 zs r (λi=>(σ i).2.2.2):=#[hz,λi Y=>((σ i).1,(σ i).2.1,(hZ i Y).1,abh _ _ (hZ i Y).2.1)];let G0:=Px.good0 apP;let szG:∀T,Px.Good r c AA T->SzT r c (bz r M) T:=λT G=>Pj G bA;show#[0,λa J na ndx ne=>?_]
 let S8:aq H7 (upd (upd H7 J (.own a)) a (.ins C J [])):=λb o e=>by
  rwa[ah (ak e na),ah (ak e ndx)]
 show(a,J,D2,_,r,c,AA,O,af,S8\D7,UI.iz λb xs _ e=>S8\e,gu,gu,λlA lD H8 k8 nA nD R8=>#[O,2]);let S78:aq H7 H8:=λb o e=>k8 b o (ak e na) (S8\e);let nA7:=S8.free nA;let nD7:=S8.free nD;let tb8:kJ H8 P0:=kJ.iz (kJ.iz tb S7) S78;show(0,a,C,J,6,R8.obj,O,MN,2);dsimp only[vR,md,ma,jU];show alG R8 gu gu (szG _ G0) gu apP tb8 λv2 H9 k9 tb9 ayQ=>?_;let R9:=JR R8 tb8 k9;let nP:∀b o,b≠P0->H7 b==o->H9 b==o:=λb o n e=>k9 b o n (S78\e)
 show(λm Z H'=>Ex4 λ(T:Px.Tb) (lL:BQ) (X:ε) (v2:V)=>Z=[cr ga,cr ra,cr la,cr pg,cr D1,cr D2,cr a,some v2,none]/\Px.Good r c AA T/\Px.FE r c m T/\(∀b o,b≠P0->H7 b==o->H' b==o)/\iY H' C a J lL lA lD X r c T/\kJ H' P0/\abg H' v2 r c T,
  (9,6,G0,Px.halts G0,nP,R9,tb9,ayQ),2)
 rintro m Z H' ⟨T,lL,X,v2,rfl,G,hm,nP',R',tb',apT⟩
 let akf:∀{b o},H7 b==o->(∀ps,o≠.mW ps)->b≠P0:=λ{b o} e n z=>by
  let(ps,e'):=kJ.mW (kJ.iz tb S7);erw[z,e'] at e;show n _ rfl
 have akg :=nP' _ _ (akf apQ (λ_ z=>nomatch z)) apQ;have ayR :=nP' _ _ (akf apR (λ_ z=>nomatch z)) apR
 let wh':Whs H' zs r (λi=>(σ i).2.2.2):=#[hz,λi Y=>by
  let(p,l,e1,e2):=wh7.2 i Y
  show(p,l,e1,nP' _ _ (akf e2 (λ_ z=>nomatch z)) e2)]
 let KS:aZ P0 H H':=λb o n e=>nP' b o n (S7\e);let S:=szG _ G
 let abi:∀b,H' b=none->H b=none:=λb n=>by
  cases z:H b with
  | none=>rfl
  | some o=>
   by_cases y:b=P0
   ·let(ps,e'):=kJ.mW tb'
    erw[y,e'] at n
   ·rw[KS b o y z] at n
    cases n
 let pB:∀{x y:Int},x.natAbs<=2^bz r M->y.natAbs<=2^M->(x*y).natAbs<=2^(bz r M+M):=λ{x y} h1 h2=>by
  show mw h1 h2
 let oB:∀{x:Int},x.natAbs<=2^bz r M->x.natAbs<=2^(bz r M+M):=λ{x} h=>iW h gu;show(0,7,bH (λc1=>?_) (λc1=>?_))
 ·show(λZ' H''=>∃m',m'<m/\∃(T:Px.Tb)(lL:BQ)(X:ε)(v2:V),Z' =[some ⇑ga,some ⇑ra,some ⇑la,some ⇑pg,some ⇑D1,some ⇑D2,some ⇑a,some v2,none]/\Px.Good r c AA T/\Px.FE r c m' T/\(∀b o,b≠P0->H7 b==o->H'' b==o)/\iY H'' C a J lL lA lD X r c T/\kJ H'' P0/\abg H'' v2 r c T,λ_ _ ⟨m',h1,T',lL',jh,v2',h⟩=>(m',h1,T',lL',jh,v2',h),2)
  rcases apT with ⟨rfl,_⟩|⟨p,k,rfl,hp,hk,hn,free⟩|⟨p,x,k,rfl,hp,hk,hn,out,apU⟩
  ·show CC c1 gN
  ·show(0,p,5,cb.of hp,iZ,7,bH (λ_=>?_) (λn=>CC gN n))
   show(3,p,5,cb.of hp,i6,0,pg,5,cb.of akg,i6,a,J,lL,lA,lD,X,r,c,bz r M,k,T,gb,O,R',gu,gu,hk,gu,S,iW U M2,gu,λlx xs xq Vz BV nx hx hxn hf=>?_);show#[sZ,λpt npt=>?_];let sp:=ar npt (.tup [.str "endless",⇑lx]);show q _ _ (sf (sf KS BV) sp) (kJ.iz (kJ.iz tb' BV) sp) (.inr (pt,lx,xs,xq,O,af,sp\hx,hxn.iz sp,abi _ nx,(![hf.len,QM],hf.sm λt qq ht e=>?_,2)))
   ·unfold eS at e
    cases z:RV r T.dn (λs=>low (-(T.L s k)*gb) (-.N)) t with
    | some q'=>
     erw[z] at e;let(s,hs,_,rfl):=so z;show smL gu (pB (![vP] (S.2 s k gu gu)) U) (oB (![vP] (S.2 r k gu gu)))
    | none=>
     rw[z] at e;by_cases y:t=T.ac k
     ·rw[iB y] at e
      cases e;show smL gu (pB S.1 U) (oB (![vP] (S.2 r k gu gu)))
     ·rw[iA y] at e
      cases e
   ·rw[hrr,QM]
    show ake G lay hk hn free hf
  ·show(0,p,5,cb.of hp,iZ,7,bH (λn=>CC n gN) (λ_=>?_))
   show(0,a,C,J,6,R'.obj,O,MW,0,p,5,cb.of hp,iZ,0,p,5,cb.of hp,i6,a,J,lL,lA,lD,X,r,c,bz r M,T,x,k,O,R',out.1,hk,gu,gu,S,gu,by have:=G.pos;omega,λlL2 vW Vz k10 R10=>?_);let stp:Px.Uy r c T (Px.qV T x k) x k:=(out.1,hk,hn,out.2.1,out.2.2,apU,O);let G10:=stp.good G;let o10:∀b o,H7 b==o->H' b==o->Vz b==o:=λb o e e'=>k10 b o (ak e na) (ak e nA7) (ak e nD7) e'
   let akh:kJ Vz P0:=by
    let nn:∀b o,(∀fs C J,o≠.ins C J fs)->(∀xs,o≠.lst xs)->H' b==o->Vz b==o:=λb o h1 h2 e=>k10 b o (λz=>by erw[z,R'.obj] at e;show h1 _ _ _ rfl) (λz=>by erw[z,R'.qW] at e;show h2 _ rfl) (λz=>by erw[z,R'.vU] at e;show h2 _ rfl) e
    rcases tb' with e|⟨cc',e1,e2⟩
    ·show .inl (nn _ _ (λ_ _ _ z=>nomatch z) (λ_ z=>nomatch z) e)
    ·show .inr (cc',nn _ _ (λ_ _ _ z=>nomatch z) (λ_ z=>nomatch z) e1,nn _ _ (λ_ _ _ z=>nomatch z) (λ_ z=>nomatch z) e2)
   show(0,a,C,J,6,R10.obj,O,MN,2);dsimp only[vR,md,ma,jU];show alG R10 gu gu (szG _ G10) gu G10.fea akh λv3 wB k11 ayW apV=>?_
   obtain ⟨m',rfl,hm'⟩:∃m',m=m'+1/\Px.FE r c m' (Px.qV T x k):=by
    cases m with
    | zero=>show CC (x,k,stp) (hm _)
    | succ m'=>show(m',O,hm _ (x,k,stp))
   show(m',V3 _,_,6,G10,hm',λb o n e=>k11 b o n (o10 b o e (nP' b o n e)),JR R10 akh k11,ayW,apV)
 ·let hv2:v2=.cS:= ~~~c1
  subst hv2
  let opt:∀j,j<c->0<=T.L r j:=by
   rcases apT with ⟨_,h⟩|⟨p,k,z,_⟩|⟨p,x,k,z,_⟩
   ·show h
   ·cases z
   ·cases z
  let(pl,f1,f2):=R'.last;let g:T.d*gb≠0:=VB (VR G.pos gbp);show(0,a,C,J,4,R'.obj,tc.cls,tc.iL,7,lL,X,1,.inl (.inl R'.iL),f1,0,pl,5,.inl (.inl f2),rM,0,a,C,J,4,R'.obj,tc.cls,tc.bot,7,pg,5,cb.of akg,i6,1,dZ S.1 U gu gu,4,g,λpw Vz BV h10=>?_);show(3,a,J,lL,lA,lD,X,r,c,T,O,R'.lC BV,gu,gu,by have:=G.pos;omega,λlx xs xq wB HX nx hx hxn hf=>?_);let FK:=BV>>>HX;show(3,0,pg,5,cb.of (FK\akg),i6,a,J,lL,lA,lD,D1,X,zs,r,c,bz r M,T,λi=>(σ i).2.2.2,gb,O,R'.lC FK,FK\ayR,wh'.iz FK,gu,gu,g,G.B_,S,iW U M2,λi Y=>iW (hZ i Y).2.2.2.2.1 M2,gu,λlp ps pq H12 rS np hp hpn hfp=>?_);show#[z4L,λpt npt=>?_];let sp:=ar npt (.tup [.str "most",⇑pw,⇑lx,⇑lp]);let apW:=FK>>>rS;show q _ _ (sf (sf KS apW) sp) (kJ.iz (kJ.iz tb' apW) sp) (.inl (pt,lx,lp,⇑pw,xs,ps,_,xq,pq,O,af,(pw,O,sp\(rS _ _ (HX _ _ h10))),sp\(rS _ _ hx),(hxn.iz rS).iz sp,sp\hp,hpn.iz sp,abi _ (BV.free nx),abi _ (FK.free np),λz=>?_,(![hf.len,QM],![hfp.len,hrr],hf.sm λt qq ht e=>?_,hfp.sm λt qq ht e=>?_,2,2,T.d*gb,g,pB S.1 U,hfp.cd λt qq ht e=>?_)))
  ·rw[<-z,hx] at np
   cases np
  ·let(s,hs,_,rfl):=so e
   show smL (by have:=G.pos;omega) (oB (S.2 s c gu gu)) (oB S.1)
  ·let(j,hj,ej,rfl):=so e
   have:=G.B_ j hj;show smL g (pB (S.2 r j gu gu) (hZ _ gu).2.2.2.2.1) (pB S.1 U)
  ·show smL g (oB (S.2 r c gu gu)) (pB S.1 U)
  ·rw[hrr,QM]
   show λt ht=>akd G lay opt hfp ht
  ·let(j,hj,ej,rfl):=so e
   have:=G.B_ j hj;show(T.L r j*(σ (T.ac j-c)).2.2.2,pB (S.2 r j gu gu) (hZ _ gu).2.2.2.2.1,![gA g,iI])
def uX (h:gB K H cB aX)(R:Shape T B m aX)(L:j<m):bY K H (m4 cB j) (dj aX j):=by
 show#[by simp[m4,dj,h.1],λi u q Y Z=>?_];unfold m4 at Y;unfold dj at Z;rw[Wp] at Y Z;let(S,ev,rfl):=OR.mp Y;let(X,U,rfl):=OR.mp Z;let N:=h.2 i S X ev U;let M:=(R X (CU U)).1;let Q:=N.1;show N.2 j _ _ ?_ ?_
 ·rw[GO,gE gu];rfl
 ·rw[GO,gE gu];rfl
inductive aki (K:Frag)(vs:ε)(H:Hp)(Q:VK)(Y:XK):Prop
|mk (u v:V)(Z us:ρ)(b c:Int)(m n:Nat)(_:vs=[u,v])(_:Line H u Z b)(_:Line H v us c)(_:us.length=Z.length)(_:Z.length<CM)(_:(∀t∈Z,t.natAbs<=2^m))(_:(∀t∈us,t.natAbs<=2^n))(_:m<=29000000)(_:n<=29000000)(_:0<b)(_:0<c)(_:b.natAbs<=2^m)(_:c.natAbs<=2^n)(_:gives H Q (low (axa Z us) (b*c)))
def abj {Z us:ρ}{ys:ε}(R:us.length=Z.length)(S:ys.length=Z.length)(h:∀(i:Nat)(v:V),ys[i]?==v->∃t u,Z[i]?==t/\us[i]?==u/\v=.int (t*u)):ys=(Rr (λa b=>a*b) Z us).map V.int:=by
 show VH λi=>?_;by_cases X:i<ys.length
 ·let Y:ys[i]?==ys[i]:=gE X
  let(t,u,T,U,ev):=h i _ Y;rw[Y,ev,Wp,vS,T,U];rfl
 ·rw[IF gu,IF (by simp;omega)]
def zaP:av ["one","other","top"] IS (ae dz):=sq
def ajP (D:Def K mg "whole_product" dz IS)(T:mg "sum"=none)(dY:mg "zip"=none)(f:!am 33 "lowest_terms" VX c8):!am 34 "whole_product" IS (aki K):=by
 show D.oo zaP λH hr h=>?_;let(u,v,U,X,b,c,m,n,rfl,(N,g,rfl,E,L),(Q,j,rfl,G,M),I,hz,ht,hu,hm,hn,hb,hc,bb,bc,q):=h
 show(_,(aw 2 zaP.nd (aI (ahi rfl) rfl T anq (aU (uE (tn:=["left","right"]) (fr:=[]) (mQ:=[]) (nN rfl dY (aE (aH .a) (aH .b))) .n .o (ax bQ .a .b))))>>aj (aC (a9 f hr (aE .c (ax bQ (aH .a) (aH .b)))))),2)
 show(0,N,5,cb.of E,iZ,0,Q,5,cb.of G,iZ,g,j,O,#[_,aY.of L],#[_,aY.of M],λD o=>?_);show nO (oC:=[]) (K:=K) (xs:=U.map V.int) (ys:=X.map V.int) (λi v _=>∃t u,U[i]?==t/\X[i]?==u/\v=.int (t*u)) o (~~~hz) (~~~I) (λS Z=>aY.of (Z\L)) (λS Z=>aY.of (Z\M)) (λ_ _ _ _ _ _ _ h=>h) ?_ ?_
 ·intro i x y S R C Y Z k
  rw[Wp] at C Y;let(t,A,rfl):=OR.mp C;let(u,B,rfl):=OR.mp Y;show(3,1,dZ (ht t (CU A)) (hu u (CU B)) gu gu,k _ _ .L (t,u,A,B,O))
 ·intro ys S J gY Z hD
  rw[CA] at J;let Y:=abj I J gY;show(D,Rr (λa b=>a*b) U X,O,![<-Y] (aY.of hD),2);let g1:=Z\E;let g2:=Z\G;show(3,N,5,cb.of g1,i6,0,Q,5,cb.of g2,i6,1,dZ bb bc gu gu,4,VB (VR hb hc),λp H3 z e3=>q p H3 (Z>>>z) e3)
inductive akj (K:Frag)(vs:ε)(H:Hp)(Q:VK)(R:XK):Prop
|mk (a r:BQ)(m:Nat)(qs:θ)(S:Δ)(X:List (List V:_))(Z:ο)(T B U Y:Nat)(_:vs=[.ref a,.ref r,.int (m:Int)])(_:ajd K H a qs)(_:ku H r S X)(_:gB K H X Z)(_:m<=100)(_:Shape T B m Z)(_:qs.length=Z.length)(_:qs.length<=100)(_:(∀q∈qs,Sm U Y q))(_:U+Y*qs.length<=28000000)(_:T+B*qs.length<=28000000)(_:Y<=28000000)(_:B<=28000000)(_:∀(l:BQ)(us:ε)(rs:Υ)(H':Hp),aq H H' ->H' l==.lst us->Paired (iE K H') us rs->rs.length=m->Q (.ref l) H')
theorem adP :∀{ys:ε},(∀(i:Nat)(v:V),ys[i]?==v->∃r,iE K H v r)->∃rs,Paired (iE K H) ys rs
 | [],_=>#[[],.nil]
 | y::t,h=>by
  let(r,e):=h 0 y rfl;let(rs,p):=adP (ys:=t) λi v ev=>h (i+1) v (~~~ev);show#[r::rs,.cons e p]
def zaD:av ["shares","rows","many","whole"] mP (ae fX):=sq
def acD (D:Def K mg "mixed_rows" fX mP)(JD:!am 33 "whole_row" uT (WM K))(wd:!am 34 "whole_product" IS (aki K))(RG:!am 1 "turned" wz lH):
  am P w K mg gV 35 "mixed_rows" mP (akj K):=by
 show D.op zaD λf bx A z s H vs Q E S h=>?_;let(a,r,m,Y,ls,L,J,T,B,Tq,Bq,rfl,ra,M,N,m1,G,hl,hn,sq,hT,hB,hB1,hB2,q):=h
 show(_,(aw 3 zaD.nd (a9 JD S (aU .a))>>aj (aC (ix (tn:=["column"]) (fr:=["whole"]) (mQ:=[3]) (bT (a9 RG S (aE .b .c))) (vD wd S (aE .b (vD JD S (aU .a))))))),2)
 let lv:=N.1;let lm:=M.2.1;show(0,a,Y,Tq,Bq,Bq*Y.length,O,ra,sq,yM λq g=>(sq q g).bot,gu,gu,gu,gu,λI l1 ts b1 H1 s1 nl1 k QI U bb1 w1 z1=>?_);show(3,r,ls,L,m,O,M.iz s1,gu,gu,gu,λvs x=>?_,λc cs H2 s2 C=>?_)
 ·let(i,hi):=OV x
  have vO :i<L.length:=(ir.mp hi).1;let e2:J[i]?==(J[i]'gu):=gE gu;have:=(N.2 i vs _ hi e2).1;have:=(G _ (CU e2)).1;omega
 let rS:=s1>>>s2;let lc:cs.length=m:=by have:=C.2.1;simpa[iJ] using this
 show(c,O,#[_,aY.of C.1],λD nD=>?_);show du (oC:=[some ⇑I]) (K:=K) (a:=c) (xs:=cs.map V.ref) (λj v X=>∃r,iE K X v r) nD (![CA,lc] (K' (show m<=1000 by omega) gM)) (λX Z=>aY.of (Z\C.1)) (λi v H2 X ys e ks ⟨r,nm⟩=>#[r,nm.bC (bh.ks e ks)]) ?_ ?_
 ·intro j u X R hu Z kk
  rw[Wp] at hu;let(l,el,rfl):=OR.mp hu;let b:j<m:=by have:=(ir.mp el).1;omega
  let xv:=C.2.2 j l (m4 L j) el (by simp[iJ,qL b]);let y:(dj J j).length=Y.length:=by simp[dj,hl]
  let sc:=JA G b;show(3,l,dj J j,T,B,B*Y.length,O,(m4 L j,aY.of (Z\xv),(uX N G b).iz (rS>>>Z)),sc,![<-y] (yM λq g=>(sc q g).bot),gu,gu,gu,gu,λv2 l2 us b2 H4 s4 nl2 o EN Ui bb2 w2 z2=>?_);let ne:b1*b2≠0:=VB (VR U Ui);let lt:=w1.1;let lu:=w2.1;let k4:=s2>>>Z>>>s4;show(⇑I,⇑v2,ts,us,b1,b2,Tq+Bq*Y.length,T+B*Y.length,O,(I,l1,O,k4\k,k4\QI),(v2,l2,O,o,EN),gu,K' (show ts.length<=1000 by omega) gM,z1,z2,gu,gu,U,Ui,iW bb1 gu,iW bb2 gu,λp H5 s5 e5=>?_);rw[gA ne] at e5;show kk _ _ (s4>>>s5) (_,p,O,cb.of e5)
 ·intro ys X hy gY Z hD
  rw[CA,lc] at hy;let(rs,P3):=adP gY;show q D ys rs X (rS>>>Z) hD P3 (![<-P3.length,hy])
theorem df:∀(n:Nat)(f:Nat->Rat),Ty.sumTo (n+1) f=Ty.sumTo n f+f n
 | 0,f=>by
  change f 0+0=0+f 0;grind
 | n+1,f=>by
  change f 0+Ty.sumTo (n+1) (λi=>f (i+1))=f 0+Ty.sumTo n (λi=>f (i+1))+f (n+1);rw[df n];grind
theorem cy:∀(m:Nat)(f g:Nat->Rat),(∀j,j<m->f j=g j)->Ty.sumTo m f=Ty.sumTo m g
 | 0,_,_,_=>rfl
 | m+1,f,g,h=>by
  rw[df,df];rw[cy m f g λj Z=>h j gu,h m gu]
theorem jI (k:Nat)(f:Nat->Rat):∀n,Ty.sumTo (k+n) f=Ty.sumTo k f+Ty.sumTo n (λj=>f (k+j))
 | 0=>by
  change Ty.sumTo k f=Ty.sumTo k f+0;grind
 | n+1=>by
  rw[<-Nat.add_assoc,df,df,jI k f n];grind
theorem alD (f:Nat->Rat):∀n,Ty.sumTo (2*n) f=Ty.sumTo n (λb=>f (2*b)+f (2*b+1))
 | 0=>rfl
 | n+1=>by
  rw[show 2*(n+1)=2*n+1+1 by omega,df,df,df,alD f n];grind
theorem qN (f:Nat->Nat->Rat)(n:Nat):∀m,Ty.sumTo m (λi=>Ty.sumTo n (λj=>f i j))=Ty.sumTo n (λj=>Ty.sumTo m (λi=>f i j))
 | 0=>(Ty.sumTo_zero n _ λ_=>O).symm
 | m+1=>by
  rw[df,qN f n m,<-Ty.sumTo_add];show cy _ _ _ λj _=>(df _ _).symm
structure JZ (k nb:Nat)(G:Nat->Rat)(B:Nat->Nat->Rat)(g:Nat->Rat)(a:Nat->Nat->Rat):Prop where
 g0:∀t,t<k->g t=G t/\g (k+t)= -G t
 a0:∀b t,b<nb->t<k->a (2*b) t=B t b/\a (2*b) (k+t)= -B t b/\a (2*b+1) t= -B t b/\a (2*b+1) (k+t)=B t b
variable {k nb:Nat}{G:Nat->Rat}{B:Nat->Nat->Rat}{g:Nat->Rat}{a:Nat->Nat->Rat}
def JZ.afp (h:JZ k nb G B g a)(x:Nat->Rat):Ty.sumTo (k+k) (λt=>g t*x t)=Ty.sumTo k (λj=>G j*(x j-x (k+j))):=by
 rw[jI,<-Ty.sumTo_add];show cy _ _ _ λj Z=>?_;let(X,Y):=h.g0 j Z;rw[X,Y];grind
def JZ.row (h:JZ k nb G B g a)(x:Nat->Rat)(Y:b<nb):Ty.sumTo (k+k) (λt=>a (2*b) t*x t)=Ty.sumTo k (λj=>B j b*(x j-x (k+j)))/\Ty.sumTo (k+k) (λt=>a (2*b+1) t*x t)= -Ty.sumTo k (λj=>B j b*(x j-x (k+j))):=by
 constructor
 ·rw[jI,<-Ty.sumTo_add]
  show cy _ _ _ λj Z=>?_;let(S,T,_,_):=h.a0 b j Y Z;rw[S,T];grind
 ·rw[jI,<-Ty.sumTo_add,show -Ty.sumTo k (λj=>B j b*(x j-x (k+j)))=(-1)*Ty.sumTo k (λj=>B j b*(x j-x (k+j))) by grind,<-Ty.sumTo_mul]
  show cy _ _ _ λj Z=>?_;let(_,_,U,X):=h.a0 b j Y Z;rw[U,X];grind
def JZ.prc (h:JZ k nb G B g a){y:Nat->Rat}(Z:∀t,t<k+k->g t<=Ty.sumTo (2*nb) (λi=>y i*a i t))(Y:j<k):Ty.sumTo nb (λb=>(y (2*b)-y (2*b+1))*B j b)=G j:=by
 let T:=Z j gu;let U:=Z (k+j) gu;let(L,M):=h.g0 j Y;rw[alD] at T U
 let I:Ty.sumTo nb (λb=>y (2*b)*a (2*b) j+y (2*b+1)*a (2*b+1) j)=Ty.sumTo nb (λb=>(y (2*b)-y (2*b+1))*B j b):=cy _ _ _ λb X=>by
  let(N,_,R,_):=h.a0 b j X Y;rw[N,R];grind
 let J:Ty.sumTo nb (λb=>y (2*b)*a (2*b) (k+j)+y (2*b+1)*a (2*b+1) (k+j))= -Ty.sumTo nb (λb=>(y (2*b)-y (2*b+1))*B j b):=by
  rw[show -Ty.sumTo nb (λb=>(y (2*b)-y (2*b+1))*B j b)=(-1)*Ty.sumTo nb (λb=>(y (2*b)-y (2*b+1))*B j b) by grind,<-Ty.sumTo_mul];show cy _ _ _ λb X=>?_;let(_,Q,_,S):=h.a0 b j X Y;rw[Q,S];grind
 rw[I,L] at T;rw[J,M] at U;grind
def JZ.never (h:JZ k nb G B g a)(Z:Px.afo (2*nb) (k+k) g a x)(S:∀X:Nat->Rat,(∀b,b<nb->Ty.sumTo k (λj=>B j b*X j)=0)->Ty.sumTo k (λj=>G j*X j)=0):False:=by
 let e:=Z.wth;rw[h.afp,S _ λb T=>?_] at e
 ·show CC e gM
 ·let(U,Y):=h.row x T
  let Q:=Z.fit (2*b) gu;let R:=Z.fit (2*b+1) gu;rw[U] at Q;rw[Y] at R;grind
theorem ahL :∀{X:List Y} {Z:List β} {T:List Y} {U:List β},Paired F X Z->Paired F T U->Paired F (X++T) (Z++U)
 | _,_,_,_,.nil,h=>h
 | _,_,_,_,.cons h t,h'=>.cons h (ahL t h')
inductive R_ (K:Frag)(vs:ε)(H:Hp)(Q:VK)(X:XK):Prop
|mk (l:BQ)(us:ε)(rs:Υ)(_:vs=[.ref l])(_:H l==.lst us)(_:Paired (iE K H) us rs)(_:us.length<=50)(_:∀(Z:BQ)(Y :ε)(H':Hp),aq H H' ->H Z=none->H' Z==.lst Y->Paired (iE K H') Y (rs++rs.map λr=> -r)->Q ⇑Z H')
def ab5:av Vy Vy (ae hJ):=sq
def acG (D:Def K mg "both_ways" hJ Vy)(S:!am 1 "signs_turned" Vy (rY K)):!am 2 "both_ways" Vy (R_ K):=by
 show D.oo ab5 λH C h=>?_;let(l,Z,J,rfl,L,U,ln,q):=h;let y:=U.length;show(_,(aj (aC (ax gS .a (a9 S C (aU .a))))),3,l,Z,J,O,L,U,gu,λE Y x X A N=>?_);let T:=N.length;rw[CA] at T;show(l,E,Z,Y,8,X\L,A,CP (show Z.length+Y.length<=100 by omega) gM,λI M=>?_);let R:=ar M (.lst (Z++Y));let Q:=X>>>R;show q I (Z++Y) _ Q (X.free M) af (ahL (Paired.dP U λ_ _ z=>z.iz Q) (Paired.dP N λ_ _ z=>z.iz R))
inductive KC (K:Frag)(vs:ε)(H:Hp)(Q:VK)(U:XK):Prop
|mk (l m:BQ)(us ws:ε)(rs Z:Υ)(_:vs=[.ref l,.ref m])(_:H l==.lst us)(_:H m==.lst ws)(_:Paired (iE K H) us rs)(_:Paired (iE K H) ws Z)(_:rs.length=Z.length)(_:us.length<=50)(_:(∀r∈rs,Ty.Sz 20000000 r))(_:(∀r∈Z,Ty.Sz 20000000 r))(_:∀(Y:BQ)(X :ε)(H':Hp),aq H H' ->H Y=none->H' Y==.lst X->Paired (iE K H') X (Rr (λa b=>a-b) rs Z)->Q ⇑Y H')
def aoB:av U2 U2 (ae fC):=sq
def alz (D:Def K mg "differences" fC U2)(dY:mg "zip"=none)(Q:!am 34 "difference_of" IS (jE K λa b=>a-b)):!am 35 "differences" U2 (KC K):=by
 show D.oo aoB λH hr h=>?_;let(l,m,z,A,o,u,rfl,I,J,M,N,c,ln,C,E,q):=h;let lu:=M.length;let lw:=N.length;show(_,(aj (aC (uE (tn:=IS) (fr:=[]) (mQ:=[]) (nN rfl dY (aE .a .b)) .n .o (vD Q hr (aE .a .b))))),3,l,m,O,#[_,aY.of I],#[_,aY.of J],λD1 L=>?_);show nO (oC:=[]) (K:=K) (xs:=z) (ys:=A) (λi v H'=>∃r t,o[i]?==r/\u[i]?==t/\iE K H' v (r-t)) L (K' ln gM) gu (λU Z=>aY.of (Z\I)) (λU Z=>aY.of (Z\J)) (λi v H6 H7 ys e ks ⟨r,t,h1,h2,h3⟩=>(r,t,h1,h2,h3.bC (bh.ks e ks))) ?_ ?_
 ·intro i x y U R ex ey Z k
  let(r,X,S):=aV M ex;let(t,Y,T):=aV N ey;show(3,x,y,r,t,O,S.iz Z,T.iz Z,C r (CU X),E t (CU Y),λj H3 p e3=>?_);show k _ _ p (r,t,X,Y,j,O,cb.of e3)
 ·intro ys U f hy Z hD
  show q D1 ys U Z L hD (lJ (by rw[f,zq];omega) λi v e=>?_);let(r,t,X,Y,hv):=hy i v e;show(r-t,![vS,X,Y],hv)
def uZ {T B:Nat}(h:Sm T B q):q=qr (vl q):=yz h.pos h.low
def u0 {T B:Nat}(h:bY K H us qs)(s:∀q∈qs,Sm T B q):Paired (iE K H) us (qs.map vl):=lJ (![CA] h.1) λi u e=>by
 let Z:i<qs.length:=by have:=(ir.mp e).1;have:=h.1;omega
 let Y:qs[i]?==qs[i]:=gE Z;show(vl qs[i],by rw[Wp,Y];rfl,2);have:=h.2 i u _ e Y;rwa[uZ (s _ (Sk Z))] at this
def zi {us:ε}{rs:Υ}(p:Paired (iE K H) us rs):bY K H us (rs.map qr):=#[![CA] p.length,λi u q X Y=>by
 let(r,Z,h):=aV p X;erw[Wp,Z] at Y
 show h]
def Yc.snoc (h:Yc K H rs aX)(e:H p==.lst us)(n:bY K H us qs):Yc K H (rs++[⇑p]) (aX++[qs]):=#[by rw[GY,GY,h.1];rfl,λi Z=>by
 let U:=h.1;by_cases z:i<aX.length
 ·let(Y,X,R,T,S):=h.2 i z
  show(Y,X,by rwa[PR gu],T,2);rwa[GO,PR z,<-GO]
 ·rw[GY] at Z
  have:i=aX.length:=by simp at Z;omega
  subst this;show(p,us,by rw[<-U,RF (CK _),EA];rfl,e,2);rw[GO,RF (CK _),EA]
  show n]
def Ow (rs:Υ):List Rat:=rs++rs.map λr=> -r
def kF (Z:ο)(c:Nat):List Rat:=(dj Z c).map vl
def jJ (Z:ο)(c:Nat):(kF Z c).length=Z.length:=by unfold kF dj;rw[CA,CA]
def KG (h:t<aX.length):(kF aX c)[t]?==(aF aX t c):=by
 unfold kF dj aF qf;rw[Wp,Wp,gE h,GO (l:=aX),gE h];rfl
def abm (h:rs[t]?==r):qf ((Ow rs).map qr) t=r/\qf ((Ow rs).map qr) (rs.length+t)= -r:=by
 let Z:=(ir.mp h).1;unfold qf Ow;rw[GO,GO,Wp,Wp,PR Z,h,RF gu,ajM,Wp,h];show#[iI r,iI (-r)]
theorem FO {Y:Type}(f g:Nat->Y):∀n,((KA n).flatMap λb=>[f b,g b]).length=2*n/\∀b,b<n->((KA n).flatMap λb=>[f b,g b])[2*b]?==(f b)/\((KA n).flatMap λb=>[f b,g b])[2*b+1]?==(g b)
 | 0=>#[O,λb h=>CC h (VA _)]
 | n+1=>by
  let(Z,X):=FO f g n;rw[EF,EO];let e:(List.flatMap (λb=>[f b,g b]) [n])=[f n,g n]:=rfl;rw[e];show#[by rw[GY,Z];rfl,λb S=>?_];by_cases z:b<n
  ·let(T,U):=X b z
   rw[PR gu,PR gu];show#[T,U]
  ·have:b=n:=gu
   subst this;rw[RF gu,RF gu,Z,EA,ajM];show#[8]
def gH (Z:ο)(W n:Nat):List (List (Int×Int)):=(KA n).flatMap λb=>[(Ow (kF Z (W+1+b))).map qr,(Ow ((kF Z (W+1+b)).map λr=> -r)).map qr]
def zk (Z:Η)(n:Nat):List (Int×Int):=(KA n).flatMap λb=>[qr (Z.getD b (0,0)).2,qr (-(Z.getD b (0,0)).1)]
def ad_ (Z:ο)(W n:Nat):gH Z W (n+1)=gH Z W n++[(Ow (kF Z (W+1+n))).map qr]++[(Ow ((kF Z (W+1+n)).map λr=> -r)).map qr]:=by
 unfold gH;rw[EF,EO,EJ];rfl
def acY (Z:Η)(n:Nat):zk Z (n+1)=zk Z n++[qr (Z.getD n (0,0)).2]++[qr (-(Z.getD n (0,0)).1)]:=by
 unfold zk;rw[EF,EO,EJ];rfl
def af3 (Z:ο)(W nb:Nat):JZ Z.length nb (λj=>aF Z j W) (λj b=>aF Z j (W+1+b)) (qf ((Ow (kF Z W)).map qr)) (aF (gH Z W nb)) where
 g0:=λt Y=>by
  have:=abm (KG (c:=W) Y);rwa[jJ] at this
 a0:=λb t T Y=>by
  let(R,S):=(FO (λb=>(Ow (kF Z (W+1+b))).map qr) (λb=>(Ow ((kF Z (W+1+b)).map λr=> -r)).map qr) nb).2 b T;let U:=abm (KG (c:=W+1+b) Y);let X:=abm (rs:=(kF Z (W+1+b)).map λr=> -r) (t:=t) (by rw[Wp,KG Y];rfl);rw[CA,jJ] at X;rw[jJ] at U;unfold aF;let N:(gH Z W nb).getD (2*b) []=(Ow (kF Z (W+1+b))).map qr:=by rw[GO];unfold gH;rw[R];rfl
  let Q:(gH Z W nb).getD (2*b+1) []=(Ow ((kF Z (W+1+b)).map λr=> -r)).map qr:=by rw[GO];unfold gH;rw[S];rfl
  rw[N,Q];show(U.1,U.2,X.1,by rw[X.2];unfold aF;grind)
def xK {T B:Nat}(h:Sm T B (qr r)):Sm T B (qr (-r)):=(dq _,nY _,by rw[IC];change (-(qr r).1).natAbs<=_;rw[vP];show h.top,![IC] h.bot)
def abn {T B:Nat}(h:∀r∈rs,Sm T B (qr r)):∀q∈(Ow rs).map qr,Sm T B q:=λq X=>by
 let(r,Y,rfl):=CS.mp X
 rcases OB.mp Y with z|z
 ·show h r z
 ·let(Z,U,rfl):=CS.mp z
  show xK (h Z U)
def abo {T B m c:Nat}(Y:Shape T B m S)(U:c<m):∀r∈kF S c,Sm T B (qr r):=λr Z=>by
 unfold kF at Z;let(q,X,rfl):=CS.mp Z;have:=JA Y U q X;rw[<-uZ this];show this
inductive KH (K:Frag)(U:BQ)(vs:ε)(H:Hp)(Q:VK)(E:XK):Prop
|mk (J M:BQ)(W:Nat)(I:Δ)(L:List (List V:_))(Z:ο)(us:ε)(Y:Η)(T0:Nat)(_:vs=[.ref J,.int (W:Int),.ref M])(_:ku H J I L)(_:gB K H L Z)(_:Shape T0 T0 (W+1+Y.length) Z)(_:H M==.lst us)(_:Paired (gx K H) us Y)(_:(∀p∈Y,p.1<=0/\0<=p.2/\Sm T0 T0 (qr p.1)/\Sm T0 T0 (qr p.2)))(_:Z.length<=12)(_:Y.length<=8)(_:W<=20)(_:T0*(Z.length+Z.length+1)<=1900000)(_:bz (2*Y.length) (T0+T0*(Z.length+Z.length+1))<=1900000)(_:kJ H U)(_:(∀X:Nat->Rat,(∀b,b<Y.length->Ty.sumTo Z.length (λj=>aF Z j (W+1+b)*X j)=0)->Ty.sumTo Z.length (λj=>aF Z j W*X j)=0))(_:∀(p R S:BQ)(T:V)(xs ys:ε)(w:Rat)(X α:Υ)(N:Nat)(H':Hp),aZ U H H' ->kJ H' U->H' p==.tup [T,⇑R,⇑S]->iE K H' T w->N=bz (2*Y.length) (T0+T0*(Z.length+Z.length+1))+(T0+T0*(Z.length+Z.length+1))->Sm N N (qr w)->H' R==.lst xs->Paired (iE K H') xs X->X.length=Z.length->(∀r∈X,Sm (2*N+1) (2*N) (qr r))->H' S==.lst ys->Paired (iE K H') ys α->α.length=Y.length->(∀r∈α,Sm (N+1) N (qr r))->(∀j,j<Z.length->Ty.sumTo Y.length (λb=>α.getD b 0*aF Z j (W+1+b))=aF Z j W)->Q ⇑p H')
def af4 (h:bY K H us qs)(t:bh H H'):bY K H' us qs:=#[h.1,λi u q Y Z=>qU.bC (h.2 i u q Y Z) t]
theorem Yc.upd (h:Yc K H rs aX)(n:∀v∈rs,v≠⇑d)(e:H d==.lst xs):Yc K (upd H d o) rs aX:=#[h.1,λi X=>by
 let(p,Y,Z,T,U):=h.2 i X
 show(p,Y,Z,![ah (λz=>n _ (CU Z) ![z])] T,af4 U (bh.list e))]
theorem ahM :∀{X:List Y} {Z:List β} (k:Nat),Paired F X Z->Paired F (X.take k) (Z.take k)
 | _,_,0,_=>![auM,auM] (.nil)
 | _,_,k+1,.nil=>.nil
 | _,_,k+1,.cons h t=>.cons h (ahM k t)
theorem ahN :∀{X:List Y} {Z:List β} (k:Nat),Paired F X Z->Paired F (X.drop k) (Z.drop k)
 | _,_,0,h=>h
 | _,_,k+1,.nil=>.nil
 | _,_,k+1,.cons h t=>ahN k t
def apX {xs:ε}{rs:Υ}(a:Nat)(h:Paired (iE K H) xs rs):Paired (iE K H) (IV a xs) (IV a rs):=by
 let Z:=h.length;show lJ (![gJ,gJ,Z]) λi u e=>?_
 let Y:i<(xs.length+1-a) / 2:=by
  have:=(ir.mp e).1
  rwa[gJ] at this
 rw[oW a xs Y] at e;let(r,X,z):=aV h e;show(r,![oW a rs (by rwa[<-Z])] X,z)
def szN (h:Sm N N q)(l:N<20000000):Ty.Sz 20000000 (vl q):=by
 let e:=uZ h;show#[![<-e] (jW h.top l),![<-e] (jW h.bot l)]
def akk (Y:Sm N N (qr x))(Z:Sm N N (qr y)):Sm (2*N+1) (2*N) (qr (x-y)):=by
 show(dq _,nY _,2,2)
 ·rw[<-ID]
  show CP (ju (VB (VR Y.pos Z.pos))) ?_;let a:=mw Y.top Z.bot;let b:=mw Z.top Y.bot;rw[<-vI] at a b;show CP (ane _ _) ?_;rw[v7];omega
 ·rw[<-ID]
  show CP (jv (VB (VR Y.pos Z.pos))) ?_;let a:=mw Y.bot Z.bot;rwa[<-vI] at a
def apY {d n Y:Int}(Z:d≠0)(X:d.natAbs<=2^N)(R:n.natAbs<=2^N)(S:Y.natAbs<=2^N)(T:x=(n:Rat) / (d:Rat))(U:y=(Y:Rat) / (d:Rat)):Sm (N+1) N (qr (x-y)):=by
 let e:x-y=((n-Y:Int):Rat) / (d:Rat):=by
  rw[T,U,FC,FC,FC];push_cast;grind
 show(dq _,nY _,2,2)
 ·rw[e,<-gA Z]
  show CP (ju Z) (CP (ane _ _) ?_);rw[v7];omega
 ·rw[e,<-gA Z]
  show CP (jv Z) X
def abp (t:kJ H P0)(k:aZ P0 H H'):bh H H':=λb xs e=>by
 let(Y,Z):=t.mW
 rcases e with e|⟨o,e⟩
 ·show .inl (k _ _ (λz=>by erw[z,Z] at e) e)
 ·show .inr #[o,k _ _ (λz=>by erw[z,Z] at e) e]
def cX:av ["states","ways","lows_and_highs","columns","rows","limits","column","two","told","shares"] ZJ (ae f_):=sq
def ab3 (dY:mg "zip"=none)(a_:mg "len"=none)(D:Def K mg "most_borne" f_ ZJ)(RG:!am 1 "turned" wz lH)(om:!am 2 "both_ways" Vy (R_ K))(abl:!am 1 "signs_turned" Vy (rY K))(W7:!am 36 "most_of" pX (RX K P0))(qb:!am 35 "differences" U2 (KC K)):
  am P w K mg gV 37 "most_borne" ZJ (KH K P0):=by
 show D.op cX λf bx A outer s H vs Q E hr h=>?_;let(bo,lb,W,ls,cB,X,us,U,T0,rfl,M,NN,sh,hlb,pu,hbn,lk,lbn,lW,hB,hbz,tb,hE,q):=h;let lv:=M.2.1;let ln:=NN.1;let lu:=pu.length
 show(_,(aw 3 cX.nd (a9 RG hr (aE .a (ax bW (ax bW .b ag) (aI ay rfl a_ cu (aU .c)))))>>aw 4 cX.nd (bJ ij)>>aw 5 cX.nd (bJ ij)>>bV Pm rfl (nN rfl dY (aE (dH fW .d (eO (ax bW .b ag)) fV) .c)) (gy rfl (aK (cE 6 cX.nd) (aK (cE 7 cX.nd) cC))) (cn (nE Zn PySem.F.slot_list_extend PySem.F.type_list_extend agY .e (aU (bJ (aE (a9 om hr (aU .g)) (a9 om hr (aU (a9 abl hr (aU .g))))))))>>aj (cn (nE Zn PySem.F.slot_list_extend PySem.F.type_list_extend agY .f (aU (bJ (aE (aH .h) (aJ (aE (gw dm (aH (aH .h))) (aH (aH .h))))))))))>>aw 8 cX.nd (a9 W7 hr (bS (a9 om hr (aU (bP aG .d .b))) .e .f))>>aw 9 cX.nd (a9 qb hr (aE (dH fW (aH .i) fV (eO (aI ay rfl a_ cu (aU .a)))) (dH fW (aH .i) (eO (aI ay rfl a_ cu (aU .a))) fV)))>>aj (aC (aJ (bS (aH .i) .j (a9 qb hr (aE (aaO (K:=K) rfl (aH .i) ag ag) (aaO (K:=K) rfl (aH .i) ag ag))))))),2);sleep 6
 show(3,1,0,lb,0,.inl (aY.of hlb),1,bo,ls,cB,0,M,gu,gu,gu,λvs hvs=>?_,λc cs H1 s1 C=>?_)
 ·let(i,hi):=OV hvs
  have vO :i<cB.length:=(ir.mp hi).1;let e2:X[i]?==(X[i]'gu):=gE gu;have:=(NN.2 i vs _ hi e2).1;have:=(sh _ (CU e2)).1;omega
 let hm:((W:Int)+1+(us.length:Int)).toNat=W+1+U.length:=gu
 rw[hm] at C;let lc:cs.length=W+1+U.length:=by have:=C.2.1;simpa[iJ] using this
 show#[RQ _,2];intros L n4 H2 s4 e4;show#[RQ _,2];intros l5 n5 H3 s5 e5;let e43:=s5\e4;let Pq:=s4>>>s5;let s03:=s1>>>Pq;show(3,1,0,c,0,aY.of (Pq\C.1),2);intros p6 n6 H6 s6 e6;rw[show((W:Int)+1)=((W+1:Nat):Int) from by omega,jr (by rw[CA];omega)] at e6;let s06:=s03>>>s6;let s16:=Pq>>>s6;let rl:L≠l5:=λz=>by rw[z] at e4;erw[e4] at n5
 let old:∀{b o},H1 b==o->b≠L/\b≠l5:=λ{b o} e=>#[ak e n4,ak (s4\e) n5];let p6r:p6≠L:=λz=>by erw[z,e43] at n6
 let p6l:p6≠l5:=λz=>by erw[z,e5] at n6
 let apZ:∀{i:Nat} {l:BQ},cs[i]?==l->H1 l==.lst (m4 cB i)/\Paired (iE K H1) (m4 cB i) (kF X i)/\(m4 cB i).length=X.length:=λ{i l} e=>by
  let hi:i<W+1+U.length:=by have:=(ir.mp e).1;omega
  show(C.2.2 i l _ e (by simp[iJ,qL hi]),u0 ((uX NN sh hi).iz s1) (JA sh hi),by simp[m4,ln])
 show(0,p6,lb,O,#[_,aY.of e6],#[_,aY.of (s06\hlb)],2)
 show let I:fM:=λi Z H'=>Ex4 λ(o6 o7:Β) (R S:ε)=>Z=[cr bo,some ↥(W:Int),cr lb,cr c,cr L,cr l5,o6,o7,none,none]/\(∀b o,b≠L->b≠l5->H6 b==o->H' b==o)/\H' L==.lst R/\Yc K H' R (gH X W i)/\(∀v∈R,v≠⇑L/\v≠⇑l5)/\H' l5==.lst S/\bY K H' S (zk U i);afc (K:=K) (a:=p6) (b:=lb) (xs:=(cs.map V.ref).drop (W+1)) (ys:=us) I (none,none,[],[],O,λ_ _ _ _ e=>e,s6\e43,#[O,λi h=>CC h (VA _)],(λv h=>nomatch h),s6\e5,#[O,λi u q e=>by simp at e]) (λi Z H' h=>by
   let(_,_,_,_,_,k',_):=h;let(a1,a2):=old (s1\hlb)
   show#[aY.of (k' _ _ p6r p6l e6),aY.of (k' _ _ a1 a2 (s06\hlb))]) ?_ ?_
 ·rintro i x y Z H7 p7 ex ey ⟨o6,o7,R,S,rfl,k7,hr7,R7,nr7,hl7,L7⟩ np
  let s7:=ar np (.tup [x,y]);let e7:(upd H7 p7 (.tup [x,y])) p7==.tup [x,y]:=af;generalize upd H7 p7 (.tup [x,y])=H8 at s7 e7 ⊢;rw[am2,Wp] at ex;let(ci,eci,rfl):=OR.mp ex;let(hci,pci,lci):=apZ eci;let(bd,ebd,pbd):=aV pu ey;let hib:i<U.length:=(ir.mp ebd).1;let gbd:U.getD i (0,0)=bd:=by rw[GO,ebd];rfl
  let tt:bh H6 H7:=λb xs e=>by
   rcases e with e|⟨o',e⟩
   ·show .inl (k7 _ _ (λz=>by erw[z,s6\e43] at e) (λz=>by erw[z,s6\e5] at e) e)
   ·show .inr #[o',k7 _ _ (λz=>by erw[z,s6\e43] at e) (λz=>by erw[z,s6\e5] at e) e]
  let t18:bh H1 H8:=((bh.of s16).trans tt).trans (bh.of s7);let(c1,c2):=old hci;let ap1:=s7\(k7 _ _ c1 c2 (s16 _ _ hci));let ap2:Paired (iE K H8) (m4 cB (W+1+i)) (kF X (W+1+i)):=Paired.dP pci λ_ _ z=>z.bC t18;let(pt,a1,a2,rfl,hpt,na1,na2):=pbd;let(pa,rfl,hpa):=na1;show(p7,0,cb.of e7,O,4,1,0,.inl (O,_,aY.of (s7\hr7)),0,ci,4,ap1,ap2,gu,λl9 us9 H9 s9 n9 e9 p9=>?_);let pc9:Paired (iE K H9) (m4 cB (W+1+i)) (kF X (W+1+i)):=Paired.dP ap2 λ_ _ z=>z.iz s9;show(0,ci,4,s9\ap1,pc9,gu,λl10 ayY Vz BV WQ p10=>?_);let ayZ:=p10.length;rw[CA,jJ] at ayZ;show(l10,ayY,0,WQ,p10,gu,λSd aQx wB HX n11 e11 p11=>?_);show#[sZ,2];intros l12 n12 m rS e12;let s9c:=s9>>>(BV>>>(HX>>>rS));let abq:=s7>>>s9c;show(L,l12,R,0,O,abq\hr7,e12,2,2)
  ·let h1:=R7.1
   rw[(show(gH X W i).length=2*i from (FO\i).1)] at h1;show CP (show R.length+2<=100 by omega) gM
  let rs2:∀v∈R ++[V.ref l9]++[V.ref Sd],v≠⇑L/\v≠.ref l5:=λv hv=>by
   let h9:l9≠L/\l9≠l5:=#[(λz=>by erw[z,s7\hr7] at n9),(λz=>by erw[z,s7\hl7] at n9)];let ap3:=s7>>>(s9>>>BV);let h11:Sd≠L/\Sd≠l5:=#[(λz=>by erw[z,ap3\hr7] at n11),(λz=>by erw[z,ap3\hl7] at n11)]
   rcases OB.mp hv with hv|hv
   ·rcases OB.mp hv with hv|hv
    ·show nr7 v hv
    ·rw[OK.mp hv]
     show#[λz=>h9.1 (V.ref.inj z),λz=>h9.2 (V.ref.inj z)]
   ·rw[OK.mp hv]
    show#[λz=>h11.1 (V.ref.inj z),λz=>h11.2 (V.ref.inj z)]
  let R12:Yc K m (R ++[V.ref l9]++[V.ref Sd]) (gH X W (i+1)):=by
   rw[ad_];show((R7.iz abq).snoc ((BV>>>(HX>>>rS)) _ _ e9) (zi (Paired.dP p9 λ_ _ z=>z.iz (BV>>>(HX>>>rS))))).snoc (rS\e11) (zi (Paired.dP p11 λ_ _ z=>z.iz rS))
  let ay2:=abq\hl7;let ap4:=abq\hr7;let RA:=R12.upd (o:=.lst (R ++[V.ref l9]++[V.ref Sd])) (λv hv=>(rs2 v hv).1) ap4;let tA:bh m (upd m L (.lst (R ++[V.ref l9]++[V.ref Sd]))):=bh.list ap4;let hrA:(upd m L (.lst (R ++[V.ref l9]++[V.ref Sd]))) L==.lst (R ++[V.ref l9]++[V.ref Sd]):=af;let hlA:(upd m L (.lst (R ++[V.ref l9]++[V.ref Sd]))) l5==.lst S:=by rwa[ah (CV rl)]
  let kA:∀b o,b≠L->b≠l5->H6 b==o->(upd m L (.lst (R ++[V.ref l9]++[V.ref Sd]))) b==o:=λb o h1 h2 e=>![ah h1] (abq\(k7 b o h1 h2 e))
  change DB _ _ _ _ (upd m L (.lst (R ++[V.ref l9,V.ref Sd])));rw[show R ++[V.ref l9,V.ref Sd]=R ++[V.ref l9]++[V.ref Sd] from by rw[EJ];rfl];generalize upd m L (.lst (R ++[V.ref l9]++[V.ref Sd]))=HA at RA tA hrA hlA kA ⊢;let tH:bh H HA:=(((bh.of s1).trans t18).trans (bh.of s9c)).trans tA;let akm:=bh.iM tH hpt;let ap5:=bh.iM tH hpa;show(0,.inl (O,_,aY.of hlA),0,pt,5,akm,i6,0,pt,5,akm,iZ,pa,5,ap5,iZ,3,pt,5,akm,iZ,pa,5,ap5,i6,sZ,2);intros pn nn HB sn en;show#[sZ,2];intros lq nq HC sq eq;let sAC:=sn>>>sq;let hlC:=sAC\hlA;let hrC:=sAC\hrA;show(l5,lq,S,0,O,hlC,eq,2,2)
  ·let h1:=L7.1
   rw[(show(zk U i).length=2*i from (FO\i).1)] at h1;show CP (show S.length+2<=100 by omega) gM
  show(9,R ++[V.ref l9]++[V.ref Sd],S++[a2]++[⇑pn],O,λb o h1 h2 e=>![ah h2] (sAC\(kA b o h1 h2 e)),by rwa[ah rl],(RA.iz sAC).upd (λv hv=>(rs2 v hv).2) hlC,rs2,by rw[af,EJ];rfl,2);let tC:bh HA (upd HC l5 (.lst (S++[a2,⇑pn]))):=(bh.of sAC).trans (bh.list hlC);rw[acY,gbd];let t7A:bh H7 HA:=((bh.of s7).trans (bh.of s9c)).trans tA;show bY.snoc (bY.snoc (af4 L7 (t7A>>>tC)) (qU.bC na2 (tH>>>tC))) (pn,O,2);rw[IC];show bh.iM ((bh.of sq).trans (bh.list hlC)) (cb.of en)
 ·rintro Z H7 ⟨o6,o7,R,S,rfl,k7,hr7,R7,nr7,hl7,L7⟩
  let ay4:min ((cs.map V.ref).drop (W+1)).length us.length=U.length:=by rw[ZX,CA];omega
  rw[ay4] at R7 L7
  let S07:aq H H7:=λb o e=>by
   let(a1,a2):=old (s1\e);show k7 _ _ a1 a2 (s06\e)
  let S17:aq H1 H7:=λb o e=>by
   let(a1,a2):=old e;show k7 _ _ a1 a2 (s16\e)
  obtain ⟨cw,ecw⟩:∃l,cs[W]?==l:=#[_,gE gu];let(hcw,pcw,lcw):=apZ ecw;show(3,c,5,aY.of (S17\C.1),b9 (by rw[Wp,ecw];rfl),cw,4,S17\hcw,Paired.dP pcw (λ_ _ z=>z.iz S17),gu,λl12 aQF H8 s8 n8 e8 p8=>?_);let S08:=S07>>>s8;let lg:((Ow (kF X W)).map qr).length=X.length+X.length:=by unfold Ow;rw[CA,GY,CA,jJ]
  let lr:(gH X W U.length).length=2*U.length:=(FO _ _ _).1
  let ap7:∀i,i<(gH X W U.length).length->((gH X W U.length).getD i []).length=X.length+X.length/\∀q∈(gH X W U.length).getD i [],Sm T0 T0 q:=λi hi=>by
   let e:(gH X W U.length)[i]?==(gH X W U.length)[i]:=gE hi;let hm':=Sk hi;rw[GO,e];change (gH X W U.length)[i].length=_/\∀q∈(gH X W U.length)[i],Sm T0 T0 q;generalize (gH X W U.length)[i]=row at hm';let(b,hb,T):=FQ.mp hm';have iD :=Rb.mp hb;let sc:=abo sh (c:=W+1+b) gu
   rcases QQ.mp T with rfl|T
   ·show#[by unfold Ow;rw[CA,GY,CA,jJ],abn sc]
   ·rw[OK.mp T]
    show#[by unfold Ow;rw[CA,GY,CA,CA,CA,jJ],abn λr hr=>?_];let(r',h',rfl):=CS.mp hr;show xK (sc r' h')
  let ay6:∀q∈zk U U.length,Sm T0 T0 q/\0<=q.1:=λq hq=>by
   let(b,hb,T):=FQ.mp hq;have iD :=Rb.mp hb;let e:U.getD b (0,0)=U[b]:=by rw[GO,gE iD];rfl
   let(b1,b2,b3,b4):=hbn _ (Sk iD);rw[e] at T
   rcases QQ.mp T with rfl|T
   ·show#[b4,UR.mpr b2]
   ·rw[OK.mp T]
    show#[xK b3,UR.mpr (by grind)]
  show(3,l12,L,l5,R,S,(Ow (kF X W)).map qr,zk U U.length,gH X W U.length,T0,T0,O,(_,aY.of e8,zi p8),aY.of (s8\hr7),R7.iz s8,aY.of (s8\hl7),L7.iz s8,by rw[lr];show(FO _ _ _).1,λi hi=>by rw[lg];show(ap7 i hi).1,abn (abo sh gu),ay6,λi hi=>(ap7 i hi).2,gu,gu,by rwa[lg],by rwa[lg,lr],tb.iz S08,λv H9 k9 t9 J=>?_);rw[lg,lr] at J;generalize hNN:bz (2*U.length) (T0+T0*(X.length+X.length+1))+(T0+T0*(X.length+X.length+1))=N at J q
  let N1:N<=5700000:=by
   have:T0<=T0*(X.length+X.length+1):=UY _ gu;omega
  let two:=af3 X W U.length
  rcases J with J|⟨p,lx,xs,xq,rfl,hp,hlx,nxs,_,Y⟩
  rotate_left
  ·let of:=Y.fin
   rw[lg,lr] at of;show(two.never of hE).elim
  let(p,lx,lp,uw,xs,ps,wq,xq,yq,rfl,hp,nw,hlx,nxs,hlp,nps,_,_,nxp,Y):=J;let opt:=Y.opt;rw[lg,lr] at opt;let lxq:=Y.xl;let lyq:=Y.yl;rw[lg] at lxq;rw[lr] at lyq;let tb8:=tb.iz S08
  let nP:∀{b xs'},H8 b==.lst xs'->H9 b==.lst xs':=λ{b xs'} e=>k9 _ _ (λz=>by
   let(ps',e'):=tb8.mW;rw[z,e'] at e
   cases e) e
  let ap9:=nP (S08\M.1);let pxs:=u0 nxs Y.xs;let Ov:=u0 nps Y.ys;let lls:(ls.map V.ref).length=X.length:=by rw[CA];omega
  let lxs:xs.length=X.length+X.length:=by have:=nxs.1;omega
  let lps:ps.length=2*U.length:=by have:=nps.1;omega
  show(0,p,5,cb.of hp,b9 (j:=2) rfl,0,bo,0,.inl (aY.of ap9),0,lx,0,aY.of hlx,2);intros p10 n10 Vz BV WQ;show(0,p,5,cb.of (BV\hp),b9 (j:=2) rfl,0,bo,0,.inl (aY.of (BV\ap9)),0,lx,0,aY.of (BV\hlx),2);intros p11 n11 wB HX e11;rw[lls,oX gu] at WQ;rw[lls,jr gu] at e11;let ap':=BV>>>HX;let aqa:Paired (iE K wB) xs (xq.map vl):=Paired.dP pxs λ_ _ z=>z.iz ap'
  let szx:∀r∈xq.map vl,Ty.Sz 20000000 r:=λr T =>by
   let(q',pI,rfl):=CS.mp T;show szN (Y.xs q' pI) gu
  let szy:∀r∈yq.map vl,Ty.Sz 20000000 r:=λr T =>by
   let(q',pI,rfl):=CS.mp T;show szN (Y.ys q' pI) gu
  show(p10,p11,_,6,HX\WQ,e11,ahM X.length aqa,ahN X.length aqa,by rw[QT,ZX,CA];omega,by rw[QT];omega,λr T =>szx r (ama T),λr T =>szx r (alC T),λl13 ay7 H13 ay8 n13 e13 p13=>?_);let af5:=ap'>>>ay8;let akn:=af5\hp;show(0,p,5,cb.of akn,b9 (j:=1) rfl,3,p,5,cb.of akn,b9 (j:=3) rfl,(0),lp,0,8,aY.of (af5\hlp),2);intros p14 n14 H14 Yb e14;show(0,p,5,cb.of (Yb\akn),b9 (j:=3) rfl,(1),lp,0,8,aY.of (Yb\(af5 _ _ hlp)),2);intros p15 n15 H15 s15 e15;let aqb:=af5>>>(Yb>>>s15);let aqc:Paired (iE K H15) ps (yq.map vl):=Paired.dP Ov λ_ _ z=>z.iz aqb;let lyv:(yq.map vl).length=2*U.length:=by rwa[CA]
  let evm:∀(a:Nat)(r:Rat),r∈IV a (yq.map vl)->r∈yq.map vl:=λa r T =>by
   unfold IV at T;let(k',_,e):=v8.mp T;show CU e
  show(p14,p15,_,6,s15\e14,e15,apX 0 aqc,apX 1 aqc,by rw[gJ,gJ,lyv];omega,by rw[gJ];omega,λr T =>szy r (evm 0 r T),λr T =>szy r (evm 1 r T),λl16 ay9 H16 ay' n16 e16 p16=>?_);show#[z3L,2];intros p17 n17 H17 s17 e17;let ahO:=ay'>>>s17;let akp:=aqb>>>ahO;let ahP:=Yb>>>s15>>>ahO;let KS:aZ P0 H H17:=λb o n e=>akp\(k9 b o n (S08 _ _ e));let lX:(Rr (λa b=>a-b) ((xq.map vl).take X.length) ((xq.map vl).drop X.length)).length=X.length:=by rw[zq,QT,ZX,CA];omega
  let lY:(Rr (λa b=>a-b) (IV 0 (yq.map vl)) (IV 1 (yq.map vl))).length=U.length:=by rw[zq,gJ,gJ,lyv];omega
  let qx:∀j,j<X.length+X.length->(xq.map vl)[j]?==(qf xq j):=λj hj=>by
   rw[Wp,gE gu];unfold qf;rw[GO,gE gu];rfl
  let qy:∀j,j<2*U.length->(yq.map vl)[j]?==(qf yq j):=λj hj=>by
   rw[Wp,gE gu];unfold qf;rw[GO,gE gu];rfl
  let atX:∀j,j<X.length->(Rr (λa b=>a-b) ((xq.map vl).take X.length) ((xq.map vl).drop X.length))[j]?==(qf xq j-qf xq (X.length+j)):=λj hj=>by
   rw[vS,yw,iB hj,am2,qx j gu,qx _ gu]
  let atY:∀b,b<U.length->(Rr (λa b=>a-b) (IV 0 (yq.map vl)) (IV 1 (yq.map vl)))[b]?==(qf yq (2*b)-qf yq (2*b+1)):=λb hb=>by
   rw[vS,oW 0 _ (by rw[lyv];omega),oW 1 _ (by rw[lyv];omega),apB,qy _ gu,vx 1,qy _ gu]
  let nwr:iE K H17 uw (vl wq):=by
   let(pw,rfl,hpw):=nw;show(pw,O,2);rw[<-uZ Y.ws];show cb.of (akp\hpw)
  let(d,d0,db,dn):=Y.yc;show q p17 l13 l16 uw ay7 ay9 (vl wq) _ _ N H17 KS ((t9.iz akp)) e17 nwr rfl (![<-uZ Y.ws] Y.ws) (ahP\e13) (Paired.dP p13 λ_ _ z=>z.iz ahP) lX (λr T =>?_) (s17\e16) (Paired.dP p16 λ_ _ z=>z.iz s17) lY (λr T =>?_) (λj hj=>?_)
  ·let(j,ej):=OV T
   let hj:j<X.length:=by have:=(ir.mp ej).1;omega
   erw[atX j hj] at ej
   let sx:∀t,t<X.length+X.length->Sm N N (qr (qf xq t)):=λt ht=>by
    unfold qf;rw[GO,gE gu];have:=Y.xs _ (Sk (l:=xq) (n:=t) gu);change Sm N N (qr (vl xq[t]));rw[<-uZ this];show this
   show akk (sx j gu) (sx _ gu)
  ·let(b,eb):=OV T
   let hb:b<U.length:=by have:=(ir.mp eb).1;omega
   erw[atY b hb] at eb
   let ny:∀t,t<2*U.length->∃n:Int,n.natAbs<=2^N/\qf yq t=(n:Rat) / (d:Rat):=λt ht=>by
    unfold qf;rw[GO,gE gu];show dn _ (Sk _)
   let(n1,h1,e1):=ny (2*b) gu;let(n2,h2,e2):=ny (2*b+1) gu;show apY d0 db h1 h2 e1 e2
  ·rw[<-two.prc opt hj]
   show cy _ _ _ λb hb=>?_;rw[GO,atY b hb];rfl
def fsum (l:List Nat)(f:Nat->Rat):Rat:=(l.map f).sum
def eC (a:Nat)(l:List Nat)(f:Nat->Rat):fsum (a::l) f=f a+fsum l f:=by simp[fsum]
theorem aoq (p:Nat->Bool)(f:Nat->Rat):∀l:List Nat,fsum l f=fsum (l.filter p) f+fsum (l.filter λi=> !p i) f
 | []=>by simp[fsum];grind
 | a::l=>by
  let Z:=aoq p f l;cases h:p a
  ·rw[alU (by simp[h]),alT (by simp[h]),eC,eC,Z]
   grind
  ·rw[alT h,alU (by simp[h]),eC,eC,Z]
   grind
theorem aiT (f:Nat->Rat):∀l:List Nat,(∀i∈l,f i=0)->fsum l f=0
 | [],_=>rfl
 | a::l,h=>by
  rw[eC,h a Pz,aiT f l (λi Z=>h i (OX _ Z))];grind
theorem zo (f:Nat->Rat)(j:Nat):∀l:List Nat,l.Nodup->j∈l->(∀i∈l,i≠j->f i=0)->fsum l f=f j
 | [],_,h,_=>nomatch h
 | a::l,n,h,z=>by
  rw[VS] at n;rw[eC];by_cases e:a=j
  ·subst e
   rw[aiT f l (λi Z=>z i (OX _ Z) (λy=>n.1 (by rwa[<-y])))];grind
  ·let Y:j∈l:=by
    rcases QQ.mp h with y|y
    ·show CC y.symm e
    ·show y
   rw[z a Pz e,zo f j l n.2 Y (λi Z=>z i (OX _ Z))];grind
theorem alO :∀l:List Nat,(∀i∈l,f i=g i)->fsum l f=fsum l g
 | [],_=>rfl
 | a::l,h=>![eC,eC,h a Pz,alO l (λi Z=>h i (OX _ Z))]
theorem adN (c:Rat)(f:Nat->Rat):∀l:List Nat,fsum l (λi=>c*f i)=c*fsum l f
 | []=>by simp[fsum]
 | a::l=>by
  rw[eC,eC,adN c f l];grind
def ad7 (g:Nat->Nat)(f:Nat->Rat)(l:List Nat):fsum (l.map g) f=fsum l (λi=>f (g i)):=by
 unfold fsum;rw[Pp];rfl
theorem qO:∀(n:Nat)(f:Nat->Rat),sumTo n f=fsum (KA n) f
 | 0,_=>rfl
 | n+1,f=>by
  rw[anO,eC,ad7,<-qO n];rfl
def KI :vl (0,1)=0:=by
 unfold vl;simp;grind
def Se :vl (1,1)=1:=by
 unfold vl;simp;grind
def alW {os lv:η}{ss:υ}(R:Red os m m b Z lv)(N:ss.map (·.1)=(KA m).filter (free Z))(A:∀x∈ss,jD x.1 m Z.length Z x.2)(hz:∀o∈os,ev o D=0)(H:j<m)(C:∀x∈ss,∀q,x.2[j]?==q->g x.1=vl q):fsum (ss.map (·.1)) (λc=>D c*g c)=D j:=by
 let L:=((R.sol D).mpr hz).1
 let U:∀c,c∈ss.map (·.1)->c<m/\(∀y∈Z,y.1≠c)/\∃x∈ss,x.1=c:=λc h=>by
  let h':=h;rw[N] at h';let(h1,p):=ZQ.mp h';let(x,Y,e):=CS.mp h;show(Rb.mp h1,i0.mp p,x,Y,e)
 let X:(ss.map (·.1)).Nodup:=by
  rw[N];show UO.filter _
 by_cases M:free Z j=true
 ·let f:=i0.mp M
  let jm:j∈ss.map (·.1):=by
   rw[N];show ZQ.mpr #[Rb.mpr H,M]
  rw[zo _ j _ X jm ?_]
  ·let(_,_,x,Y,e):=U j jm
   let f1:=(A x Y).2.1;rw[e] at f1;have:=C x Y _ f1;rw[e,Se] at this;rw[this];grind
  ·intro c S nc
   let(_,_,x,Y,e):=U c S;let f0:=(A x Y).2.2.2 j H (![e] (CV nc)) (λi _ y Q=>f y (CU Q));have:=C x Y _ f0;rw[e,KI] at this;rw[this];grind
 ·let nf:∃y∈Z,y.1=j:=by
   apply VD;intro z;show M (i0.mpr λy T e=>z (y,T,e))
  let(y,T,Q):=nf;let(t,et):=OV T;let ht:t<Z.length:=(ir.mp et).1;let e0:=L y T;rw[jy m y.2 D (![R.uK y T] (CK _)),qO,aoq (free Z),<-N] at e0;let E:=R.here y T;rw[Q] at E;let hh':=fS E
  let e1:fsum ((KA m).filter λi=> !free Z i) (λi=>((y.2.getD i 0:Int):Rat)*D i)=((y.2.getD j 0:Int):Rat)*D j:=by
   show zo _ j _ (UO.filter _) (ZQ.mpr #[Rb.mpr H,by simp[M]]) ?_;intro i hi ni;let(h1,p):=ZQ.mp hi
   let J:∃u∈Z,u.1=i:=by
    apply VD;intro z;have:free Z i=true:=i0.mpr λu I e=>z (u,I,e);erw[this] at p
   let(u,I,eu):=J;rw[<-eu,R.off y T u I (![Q,eu] (CV ni))];simp
  rw[e1] at e0
  let e2:fsum (ss.map (·.1)) (λc=>D c*g c)=(-1 / ((y.2.getD j 0:Int):Rat))*fsum (ss.map (·.1)) (λi=>((y.2.getD i 0:Int):Rat)*D i):=by
   rw[<-adN];show alO _ λc S=>?_;let(_,_,x,Y,e):=U c S;let f2:=(A x Y).2.2.1 t ht y et;rw[Q] at f2;let k:=C x Y _ f2;rw[e,mq E] at k;rw[k];push_cast;grind
  rw[e2];grind
structure SpZ (nd:ν)(c:Nat)(z:Nat->Rat):Prop where
 one:z c=1
 at':∀y∈nd,z y.1=(-(y.2.getD c 0):Int) / ((y.2.getD y.1 0:Int):Rat)
 no:∀j,j≠c->(∀y∈nd,y.1≠j)->z j=0
theorem SpZ.sol {os T:η}(R:Red os L m b X T)(M:c<m)(h:SpZ X c z)(fr:∀y∈X,y.1≠c):∀o∈os,ev o z=0:=by
 show(R.sol z).mp #[λx Y=>?_,λl Q=>?_]
 ·let e:z=λj=>(if j=c then 1 else 0)+(if j=c then 0 else z j):=by
   funext j;by_cases q:j=c
   ·rw[iB q,iB q,q,h.one]
    grind
   ·rw[iA q,iA q]
    grind
  rw[e,Rc,qD x.2 (λj=>if j=c then 1 else 0) c (λj Z=>by rw[iA Z];grind),qD x.2 (λj=>if j=c then 0 else z j) x.1 (λj Z=>?_)]
  ·let N:=fS (R.here x Y)
   rw[iB rfl,iA (fr x Y),h.at' x Y];push_cast;grind
  ·by_cases q:j=c
   ·rw[iB q]
    grind
   ·rw[iA q]
    by_cases y:∃u∈X,u.1=j
    ·let(u,U,rfl):=y
     rw[R.off x Y u U (CV Z)];simp
    ·rw[h.no j q (λu U e=>y (u,U,e))]
     grind
 ·show xA l z λj=>?_
  by_cases Z:j<m
  ·rw[R.zero l Q j Z]
   simp
  ·rw[h.no j gu (λy S e=>by have:=R.cols y S;omega)]
   grind
def SpZ.behind {os X:η}(R:Red os L m b Y X)(h:SpZ Y c z)(U:c<j):z j=0:=by
 by_cases q:∃y∈Y,y.1=j
 ·let(y,Z,rfl):=q
  rw[h.at' y Z,R.low y Z c U];simp[FC]
 ·show h.no j gu (λy Z e=>q (y,Z,e))
theorem al':∀(m:Nat)(f g:Nat->Rat),(∀j,j<m->f j=g j)->Ty.sumTo m f=Ty.sumTo m g
 | 0,_,_,_=>rfl
 | m+1,f,g,h=>by
  simp only[Ty.sumTo];rw[h 0 gu,al' m (λi=>f (i+1)) (λi=>g (i+1)) (λj Z=>h (j+1) gu)]
def akq (h:kX ts qs b)(X:qs.length=m)(z:Nat->Rat):ev ts z=(b:Rat)*sumTo m (λj=>vl (qs.getD j (0,1))*z j):=by
 let U:=h.1;rw[jy m ts z gu,<-sumTo_mul];show al' m _ _ λj T=>?_;let Y:ts[j]?==(ts[j]'gu):=gE gu;let Z:qs[j]?==(qs[j]'gu):=gE gu;let w:=h.2 j _ _ Y Z;rw[getD_mem Y,w,GO,Z];change _=(b:Rat)*(vl (qs[j]'gu)*z j);grind
def alF (h:kX ts qs b)(X:0<b)(Z:qs.length=m)(z:Nat->Rat):ev ts z=0 ↔ sumTo m (λj=>vl (qs.getD j (0,1))*z j)=0:=by
 rw[akq h Z z];have Y :=fS (show b≠0 by omega);constructor<;>intro q<;>grind
def afi {T B m:Nat}{os:η}(S:aa3 T B m X os)(Y:∀qs∈X,qs.length=m)(z:Nat->Rat):(∀o∈os,ev o z=0) ↔ ∀qs∈X,sumTo m (λj=>vl (qs.getD j (0,1))*z j)=0:=by
 let L:=S.1;constructor
 ·intro h qs Q
  let(i,e):=OV Q;let M:i<X.length:=(ir.mp e).1;let Z:os[i]?==(os[i]'gu):=gE gu;let(b,R,U):=S.2 i _ qs Z e;show(alF U R (Y qs Q) z).mp (h _ (CU Z))
 ·intro h o N
  let(i,e):=OV N;let M:i<os.length:=(ir.mp e).1;let Z:X[i]?==(X[i]'gu):=gE gu;let(b,R,U):=S.2 i o _ e Z;show(alF U R (Y _ (CU Z)) z).mpr (h _ (CU Z))
def getD_some {qs:θ}(e:qs[j]?==q):qs.getD j (0,1)=q:=by
 rw[GO,e];rfl
theorem jD.z {os Y:η}(R:Red os L m b nd Y)(F:jD c m nd.length nd qs):SpZ nd c (λj=>vl (qs.getD j (0,1))) where
 one:=by
  change vl (qs.getD c (0,1))=1;rw[getD_some F.2.1,Se]
 at':=λy Z=>by
  let(i,e):=OV Z;let U:i<nd.length:=(ir.mp e).1;change vl (qs.getD y.1 (0,1))=_;rw[getD_some (F.2.2.1 i U y e),mq (R.here y Z)]
 no:=λj X h=>by
  change vl (qs.getD j (0,1))=0;by_cases z:j<m
  ·rw[getD_some (F.2.2.2 j z X (λi _ x e=>h x (CU e))),KI]
  ·rw[GO,IF (by rw[F.1];omega)]
   show KI
def cI (ss:υ)(j:Nat):Nat:=(ss.getD j (0,[])).1
theorem al5 {Y:Type}:∀{ss:List (Nat×Y)} {x y:Nat×Y},(ss.map (·.1)).Nodup->x∈ss->y∈ss->x.1=y.1->x=y
 | [],_,_,_,h,_,_=>nomatch h
 | a::t,x,y,n,T,U,e=>by
  rw[O_,VS] at n
  rcases QQ.mp T with X|X<;>rcases QQ.mp U with Z|Z
  ·rw[X,Z]
  ·show CC (CS.mpr (y,Z,![<-e,X])) n.1
  ·show CC (CS.mpr (x,X,![e,Z])) n.1
  ·show al5 n.2 X Z e
def vJ (ss:υ):List (List (Int×Int)):=ss.map λx=>x.2
def al0 (ss:υ):(vJ ss).length=ss.length:=by unfold vJ;rw[CA]
def u3 (e:ss[j]?==x)(c:Nat):aF (vJ ss) j c=vl (x.2.getD c (0,1))/\cI ss j=x.1:=by
 unfold aF qf vJ cI;rw[GO (l:=ss.map λx=>x.2),Wp,e,GO (l:=ss),e];show#[8]
section
variable {os lv:η}{m σ:Nat}{nd:ν}{ss:υ}
structure KJ (os lv:η)(m σ:Nat)(nd:ν)(ss:υ):Prop where
 R:Red os m m σ nd lv
 hc:ss.map (·.1)=(KA m).filter (free nd)
 hF:∀x∈ss,jD x.1 m nd.length nd x.2
 ol:∀o∈os,o.length<=m
def KJ.mem (S:KJ os lv m σ nd ss)(h:x∈ss):x.1<m/\∀y∈nd,y.1≠x.1:=by
 have:x.1∈(KA m).filter (free nd):=![<-S.hc] (List.mem_map_of_mem h)
 let(Y,Z):=ZQ.mp this;show#[Rb.mp Y,i0.mp Z]
theorem KJ.z (S:KJ os lv m σ nd ss)(Y:j<ss.length):SpZ nd (cI ss j) (λc=>aF (vJ ss) j c)/\cI ss j<m/\∀y∈nd,y.1≠cI ss j:=by
 let e:ss[j]?==ss[j]:=gE Y;let Z:=Sk Y;let z:=jD.z S.R (S.hF _ Z);let h:=S.mem Z;rw[(u3 e 0).2];show#[2,h];rw[show(λc=>aF (vJ ss) j c)=(λc=>vl (ss[j].2.getD c (0,1))) from funext λc=>(u3 e c).1];show z
def KJ.own (S:KJ os lv m σ nd ss)(Z:j<ss.length):∀o∈os,ev o (λc=>aF (vJ ss) j c)=0:=(S.z Z).1.sol S.R (S.z Z).2.1 (S.z Z).2.2
def KJ.mix (S:KJ os lv m σ nd ss)(X:Nat->Rat):∀o∈os,ev o (λc=>Ty.sumTo ss.length (λj=>aF (vJ ss) j c*X j))=0:=λo Z=>by
 rw[jy m o _ (S.ol o Z)];let e:(λc=>((o.getD c 0:Int):Rat)*Ty.sumTo ss.length (λj=>aF (vJ ss) j c*X j))=λc=>Ty.sumTo ss.length (λj=>((o.getD c 0:Int):Rat)*(aF (vJ ss) j c*X j)):=funext λc=>(Ty.sumTo_mul _ _ _).symm;rw[e,qN];rw[cy ss.length _ (λ_=>0) λj Y=>?_,Ty.sumTo_zero _ _ λ_=>O];let h:=S.own Y o Z;rw[jy m o _ (S.ol o Z)] at h;rw[cy m _ (λc=>X j*(((o.getD c 0:Int):Rat)*aF (vJ ss) j c)) λc _=>by grind,Ty.sumTo_mul,h];grind
def KJ.span (S:KJ os lv m σ nd ss){z:Nat->Rat}(hz:∀o∈os,ev o z=0)(N :c<m):z c=Ty.sumTo ss.length (λj=>aF (vJ ss) j c*z (cI ss j)):=by
 let Y:(ss.map (·.1)).Nodup:=![S.hc] (UO.filter _)
 obtain ⟨g,Q⟩:∃g:Nat->Rat,∀x∈ss,g x.1=vl (x.2.getD c (0,1)):=by
  show#[λn=>vl (((ss.find? λx=>x.1⊆n).getD (0,[])).2.getD c (0,1)),λx Z=>?_]
  have:ss.find? (λy=>y.1⊆x.1)==x:=by
   obtain ⟨y,X⟩:∃y,ss.find? (λy=>y.1⊆x.1)==y:=aja.mp (List.find?_isSome.mpr (x,Z,by simp));let J:=List.find?_some X;let L:=List.mem_of_find?_eq_some X;let M:y.1=x.1:= ~~~J
   rw[X,(al5 Y L Z M)]
  change vl (((ss.find? λy=>y.1⊆x.1).getD (0,[])).2.getD c (0,1))=_;rw[this];rfl
 let h:=alW S.R S.hc S.hF hz N (g:=g) λx Z q e=>by rw[Q x Z,getD_some e]
 rw[<-h]
 let em:ss.map (·.1)=(KA ss.length).map (cI ss):=by
  show VH λi=>?_;rw[Wp,Wp];by_cases T:i<ss.length
  ·let e:ss[i]?==ss[i]:=gE T
   rw[e,qL T];change some ss[i].1==(cI ss i);rw[(u3 e 0).2]
  ·rw[IF gu,IF (by simp;omega)]
   rfl
 rw[em,ad7,<-qO];show cy _ _ _ λj U=>?_;let e:ss[j]?==ss[j]:=gE U;rw[(u3 e c).1,(u3 e 0).2,Q _ (Sk U)];grind
def KJ.need (S:KJ os lv m σ nd ss){z:Nat->Rat}(hz:∀o∈os,ev o z=0)(X :c<m)(Y:c∉ss.map (·.1))(Q:∀j,c<j->j<m->z j=0):z c=0:=by
 rw[S.hc] at Y;have:¬ free nd c=true:=λh=>Y (ZQ.mpr #[Rb.mpr X,h]);let U:∃y∈nd,y.1=c:=VD λh=>this (i0.mpr λy Z e=>h (y,Z,e));let(y,Z,rfl):=U;let e:=((S.R.sol z).mpr hz).1 y Z;let N:=S.R.uK y Z;rw[qD y.2 z y.1 λj T=>?_] at e
 ·let M:=fS (S.R.here y Z)
  grind
 ·rcases aoH T with h|h
  ·rw[S.R.low y Z j h]
   simp
  ·by_cases q:j<m
   ·rw[Q j h q]
    grind
   ·rw[GO,IF gu]
    simp
def KJ.aqd (S:KJ os lv m σ nd ss)(Y:m=W+1+nb)(Z:W∉ss.map (·.1))(X:Nat->Rat)(h:∀b,b<nb->Ty.sumTo ss.length (λj=>aF (vJ ss) j (W+1+b)*X j)=0):Ty.sumTo ss.length (λj=>aF (vJ ss) j W*X j)=0:=
 S.need (S.mix X) gu Z λj T U=>by
  have:=h (j-(W+1)) gu;rwa[show W+1+(j-(W+1))=j by omega] at this
variable {W nb:Nat}{α:Nat->Rat}
def KJ.Ux (S:KJ os lv m σ nd ss)(X:m=W+1+nb)(Y:∀j,j<ss.length->Ty.sumTo nb (λb=>α b*aF (vJ ss) j (W+1+b))=aF (vJ ss) j W){z:Nat->Rat}(hz:∀o∈os,ev o z=0):z W=Ty.sumTo nb (λb=>α b*z (W+1+b)):=by
 rw[S.span hz (c:=W) gu,cy nb _ (λb=>Ty.sumTo ss.length (λj=>α b*(aF (vJ ss) j (W+1+b)*z (cI ss j)))) λb U=>![S.span hz (c:=W+1+b) gu,<-Ty.sumTo_mul],qN];show cy _ _ _ λj Z=>?_;rw[<-Y j Z,show Ty.sumTo nb (λb=>α b*aF (vJ ss) j (W+1+b))*z (cI ss j)=z (cI ss j)*Ty.sumTo nb (λb=>α b*aF (vJ ss) j (W+1+b)) by grind,<-Ty.sumTo_mul];show cy _ _ _ λb _=>by grind
def KJ.few (S:KJ os lv m σ nd ss)(M:m=W+1+nb)(J:W∉ss.map (·.1))(I:∀z:Nat->Rat,(∀o∈os,ev o z=0)->(∀j,W<=j->j<m->z j=0)->∀j,j<W->z j=0):ss.length<=nb:=by
 let U:∀c∈ss.map (·.1),W<c:=λc Y=>by
  let(x,N,rfl):=CS.mp Y;let(j,e):=OV N;let T:=(ir.mp e).1;let(X,A,E):=S.z T;rw[(u3 e 0).2] at X A E
  rcases Nat.lt_or_ge W x.1 with h|h
  ·show h
  rcases Nat.lt_or_ge x.1 W with Q|Q
  ·have:=I _ (S.own T) (λi y _=>X.behind S.R gu) x.1 Q
   rw[X.one] at this;show CC this gM
  ·show CC (show x.1=W by omega) λC=>J (C ▸Y)
 let H:(ss.map (·.1)).length<=nb:=by
  rw[S.hc,M,List.range_add,zH,GY]
  let D:(KA (W+1)).filter (free nd)=[]:=List.filter_eq_nil_iff.mpr λc Z L=>by
   have:c∈ss.map (·.1):=by
    rw[S.hc];show ZQ.mpr #[Rb.mpr (by have:=Rb.mp Z;omega),L]
   have:=U c this;have:=Rb.mp Z;omega
  rw[D];have:=T2 (free nd) ((KA nb).map λx=>W+1+x);rw[CA,OE] at this;simpa using this
 rwa[CA] at H
end
def dt (a b:Rat×Rat):Rat:=a.1*b.1+a.2*b.2
def sP (as bs:Υ):Rat:=(Rr (·*·) as bs).sum
def u4 (bs:Υ):sP [] bs=0:=by simp[sP]
def iV (a b:Rat)(as bs:Υ):sP (a::as) (b::bs)=a*b+sP as bs:=by simp[sP]
theorem abr:∀{a c:Υ} (b d:Υ),a.length=c.length->sP (a++b) (c++d)=sP a c+sP b d
 | [],[],b,d,_=>by
  rw[anV,anV,u4];grind
 | x::a,y::c,b,d,h=>by
  rw[UQ,UQ,iV,iV,abr b d (~~~h)];grind
 | [],_::_,_,_,h=>by simp at h
 | _::_,[],_,_,h=>by simp at h
theorem ajr:∀(ys cs:θ),rE ys cs=sP (ys.map vl) (cs.map vl)
 | [],_=>by simp[rE,sP]
 | _::_,[]=>by simp[rE,sP]
 | y::ys,c::cs=>![acF,O_,O_,iV,ajr ys cs]
def Sf (x:Str)(w:Rat×Rat)(y:Str):mv (CI x w) y=if y=x then w else (0,0):=by
 unfold mv CI;by_cases e:y=x
 ·rw[iB e,iB e]
  rfl
 ·rw[iA e,iA e]
  rfl
theorem KL (F:ξ):∀{AP:Α} {k:Nat} {p:bK},AP[k]?==p->vl ((ie F AP).getD (2*k) (0,1))=(mv F p.nm).1/\vl ((ie F AP).getD (2*k+1) (0,1))=(mv F p.nm).2
 | q::ps,0,p,h=>by
  cases h;unfold ie;rw[Vb];show#[iI _,iI _]
 | q::ps,k+1,p,h=>by
  let Z:=KL F (AP:=ps) (k:=k) (p:=p) (~~~h);unfold ie at Z ⊢;rwa[Vb]
def gm (h:1<=k):Sz k 0:=by
 have:=IE (i:=0) (k:=k) (~~~aq_ k) h;simpa using this
def ahQ (h:Sz k r)(Z:k<=50):Sm 50 50 (qr r):=
 (dq r,nY r,RK (Qi (intBits_le_iff.mp h.top) (Vd gM Z)),RK (Qi (intBits_le_iff.mp h.bot) (Vd gM Z)))
def ajI (h:∀x,Sz 50 (mv F x).1/\Sz 50 (mv F x).2)(AP:Α):∀q∈ie F AP,Sm 50 50 q:=λq Z=>by
 unfold ie at Z;let(p,_,Z):=FQ.mp Z;let z:=h p.nm
 rcases QQ.mp Z with e|Z
 ·rw[e]
  show ahQ z.1 (CK _)
 ·rw[OK.mp Z]
  show ahQ z.2 (CK _)
def akr {w:Rat×Rat}(h:Sz 50 w.1/\Sz 50 w.2)(y:Str):Sz 50 (mv (CI x w) y).1/\Sz 50 (mv (CI x w) y).2:=by
 rw[Sf];by_cases c:y=x
 ·rw[iB c]
  show h
 ·rw[iA c]
  show#[gm gM,gm gM]
def aks (g:jZ AP BO)(R:b∈BO)(y:Str):Sz 50 (mv (CJ b) y).1/\Sz 50 (mv (CJ b) y).2:=by
 let(S,T,_):=g.ends b R;let Y:=g.sz _ S;let Z:=g.sz _ T;unfold mv CJ;by_cases U:y=b.one.nm
 ·rw[iB U]
  show#[(Z.1.sub Y.1).up gM,(Z.2.1.sub Y.2.1).up gM]
 ·rw[iA U]
  by_cases X:y=b.jg.nm
  ·rw[iB X]
   show#[(Y.1.sub Z.1).up gM,(Y.2.1.sub Z.2.1).up gM]
  ·rw[iA X]
   show#[gm gM,gm gM]
def qP (g:jZ AP BO):∀qs∈eh AP BO,qs.length=2*AP.length/\∀q∈qs,Sm 50 50 q:=λqs Z=>by
 unfold eh at Z
 rcases OB.mp Z with h|h
 ·let(p,X,h):=FQ.mp h
  unfold uO at h;let(w,Y,rfl):=CS.mp h;let z:=(g.sz p X).2.2 w Y;show#[jF _ _,ajI (akr #[z.1.up gM,z.2.up gM]) AP]
 ·let(b,U,rfl):=CS.mp h
  show#[jF _ _,ajI (aks g U) AP]
def allR (AP:Α)(BO:Μ)(F:ξ):List (List (Int×Int)):=(eh AP BO).take (bj AP)++[ie F AP]++(eh AP BO).drop (bj AP)
def i_ (AP:Α)(BO:Μ)(F:ξ):List (List (Int×Int)):=(KA (2*AP.length)).map λj=>dj (allR AP BO F) j
def aqe {Y β:Type}{P:Y->β->Prop}{xs:List Y}{ys:List β}{a:Y}{b:β}(R:xs.length=ys.length)(h:∀(i:Nat) x y,xs[i]?==x->ys[i]?==y->P x y)(N:P a b):(xs.take W++[a]++xs.drop W).length=(ys.take W++[b]++ys.drop W).length/\∀(i:Nat) x y,(xs.take W++[a]++xs.drop W)[i]?==x->(ys.take W++[b]++ys.drop W)[i]?==y->P x y:=by
 let lt:(xs.take W).length=(ys.take W).length:=by rw[QT,QT,R]
 let U:(xs.take W++[a]).length=(ys.take W++[b]).length:=by rw[GY,GY,lt];rfl
 show#[by simp[R],λi x y X Z=>?_];by_cases S:i<(xs.take W++[a]).length
 ·rw[PR S] at X
  rw[PR gu] at Z;by_cases T:i<(xs.take W).length
  ·rw[PR T] at X
   rw[PR gu] at Z;let Q:i<W:=by rw[QT] at T;omega
   rw[yw,iB Q] at X Z;show h i x y X Z
  ·rw[RF gu] at X Z
   rw[<-lt] at Z;rw[GY] at S;let z:i-(xs.take W).length=0:=by simp at S T ⊢;omega
   rw[z] at X Z;cases X;cases Z;show N
 ·rw[RF gu] at X Z
  rw[<-U] at Z;rw[am2] at X Z;show h _ x y X Z
def KN (h:Ty.Sz k r):Sm k k (qr r):=(dq r,nY r,RK (intBits_le_iff.mp h.top),RK (intBits_le_iff.mp h.bot))
def UW {T B Z Y:Nat}(h:Sm T B q)(U:T<=Z)(X:B<=Y):Sm Z Y q:=(h.pos,h.low,CP h.top (Vd gM U),CP h.bot (Vd gM X))
section
variable {AP:Α}{BO:Μ}{F:ξ}
def akl:(allR AP BO F).length=bj AP+1+BO.length:=by
 let Z:(eh AP BO).length=bj AP+BO.length:=oZ AP BO;unfold allR;rw[GY,GY,QT,ZX,Z];change min (bj AP) (bj AP+BO.length)+1+_=_;omega
def ai_ (Y:∀x,Ty.Sz 50 (mv F x).1/\Ty.Sz 50 (mv F x).2):∀q∈ie F AP,Sm 50 50 q:=λq Z=>by
 unfold ie at Z;let(p,_,Z):=FQ.mp Z
 rcases QQ.mp Z with e|Z
 ·rw[e]
  show KN (Y p.nm).1
 ·rw[OK.mp Z]
  show KN (Y p.nm).2
def alJ (g:jZ AP BO)(U:∀x,Ty.Sz 50 (mv F x).1/\Ty.Sz 50 (mv F x).2):Shape 50 50 (2*AP.length) (allR AP BO F):=λY Z=>by
 let X:∀Y∈eh AP BO,Y.length=2*AP.length/\∀q∈Y,Sm 50 50 q:=λY h=>#[(qP g Y h).1,λq Z=>UW ((qP g Y h).2 q Z) gM gM];unfold allR at Z
 rcases OB.mp Z with Z|Z
 ·rcases OB.mp Z with Z|Z
  ·show X Y (ama Z)
  ·rw[OK.mp Z]
   show#[jF _ _,ai_ U]
 ·show X Y (alC Z)
def abt (g:jZ AP BO)(R:∀x,Ty.Sz 50 (mv F x).1/\Ty.Sz 50 (mv F x).2)(E:AP.length<=4)(D:BO.length<=5):Shape 50 50 (bj AP+1+BO.length) (i_ AP BO F)/\∀qs∈i_ AP BO F,pB qs<=2^700:=by
 let Q:=alJ g R;let H:bj AP<=2*AP.length:=rX AP g.lw;constructor<;>intro qs Y<;>(unfold i_ at Y;let(j,M,rfl):=CS.mp Y;let U:=Rb.mp M)
 ·show#[by unfold dj;rw[CA];show akl,JA Q U]
 ·let N:(eh AP BO).length=bj AP+BO.length:=oZ AP BO
  let Z:∀{ds:ο},(∀d∈ds,d∈eh AP BO)->pB (dj ds j)<=2^(50*ds.length):=λ{ds} h=>by
   have:=yM (B:=50) (qs:=dj ds j) λq Y=>by
    unfold dj at Y;let(d,X,rfl):=CS.mp Y;let(dl,T):=qP g d (h d X);rw[GO,gE gu];show(T _ (Sk _)).bot
   rwa[show(dj ds j).length=ds.length from by unfold dj;rw[CA]] at this
  unfold allR;let e:∀a b:List (List (Int×Int)),dj (a++b) j=dj a j++dj b j:=λa b=>by unfold dj;rw[RL]
  rw[e,e,uH,uH];let I:=Z (ds:=(eh AP BO).take (bj AP)) λd X=>ama X;let L:=Z (ds:=(eh AP BO).drop (bj AP)) λd X=>alC X
  let J:pB (dj [ie F AP] j)<=2^50:=by
   change ((ie F AP).getD j (0,1)).2.natAbs*1<=_;rw[UA,GO,gE (by rwa[jF])];show(ai_ R _ (Sk _)).bot
  let S:=VF (VF I J) L;rw[<-Zq,<-Zq] at S;show CP S (Vd gM ?_);rw[QT,ZX,N];omega
end
def jD.azc {os Q:η}(R:Red os L m b nd Q)(F:jD c m nd.length nd qs):∀q∈qs,Sm b b q:=by
 intro q N;let(j,Z):=OV N;let X:j<m:=by have:=(ir.mp Z).1;rw[<-F.1];show this
 by_cases T:j=c
 ·subst T
  erw[F.2.1] at Z;show(gM,gM,W9,W9)
 by_cases S:∃(i:Nat)(x:Nat×List Int),nd[i]?==x/\x.1=j
 ·let(i,x,e,rfl):=S
  let M:i<nd.length:=(ir.mp e).1;let U:=F.2.2.1 i M x e;erw[Z] at U;let Y:=CU e;show I_ (R.here x Y) (![vP] (R.Ya x Y c)) (R.Ya x Y x.1)
 ·let U:=F.2.2.2 j X T (λi _ x e z=>S (i,x,e,z))
  erw[Z] at U;show(gM,gM,RQ _,W9)
def af6 (AP:Α)(BO:Μ)(F:ξ)(z:Nat->Rat):Prop:=∀Z∈i_ AP BO F,Ty.sumTo (bj AP+1+BO.length) (λj=>vl (Z.getD j (0,1))*z j)=0
theorem Sg:∀(rs:Υ)(qs:θ),rs.length=qs.length->Ty.sumTo qs.length (λj=>vl (qs.getD j (0,1))*rs.getD j 0)=sP rs (qs.map vl)
 | [],[],_=>by simp[Ty.sumTo,sP]
 | r::rs,q::qs,h=>by
  rw[O_,iV,<-Sg rs qs (~~~h),VN];change vl q*r+Ty.sumTo qs.length (λj=>vl (qs.getD j (0,1))*rs.getD j 0)=_;grind
def ah_ (h:ys.length=qs.length):rE ys qs=Ty.sumTo qs.length (λj=>vl (qs.getD j (0,1))*(ys.map vl).getD j 0):=by
 rw[ajr,Sg\(by rwa[CA])]
def abu {C a U:BQ}(h:BK K H C a AP BO)(t:kJ H U)(k:aZ U H H'):BK K H' C a AP BO:=by
 let(A,Q,S,pB,M,N,L,R,W):=h.ex;let(X,J):=t.mW
 let Z:∀{b o},H b==o->(∀X,o≠.mW X)->H' b=H b:=λ{b o} e n=>by
  rw[k b o (λz=>by erw[z,J] at e;show n _ rfl) e,e]
 let Y:=abp t k;show(A,Q,S,pB,M,N,L,R.Pf Y (Z R.obj (λ_ z=>nomatch z)) (Z R.pl (λ_ z=>nomatch z)) (Z R.wy (λ_ z=>nomatch z)) (Z R.br (λ_ z=>nomatch z)),Paired.dP W λ_ _ z=>#[z.1,2]);let(l,T,D,E,I):=z.2;show(l,T,D,by rwa[Z E (λ_ z=>nomatch z)],I.bC Y)
inductive KO (K:Frag)(C U R M N:BQ)(vs:ε)(H:Hp)(Q:VK)(E:XK):Prop
|mk (a S T:BQ)(AP:Α)(BO:Μ)(Z Y:δ)(Bd:Ν)(F:ξ)(_:vs=[.ref a,.ref S,.ref T])(_:BK K H C a AP BO)(_:jZ AP BO)(_:AP.length<=4)(_:BO.length<=5)(_:H S==.dK Z)(_:(∀X∈Z,∃x:Str,X.1=.inr x))(_:(∀x v,cj Z (.inr x)==v->gx K H v (Bd x)))(_:(∀x,Ty.Sz 400 (Bd x).1/\Ty.Sz 400 (Bd x).2))(_:H T==.dK Y)(_:vB K H Y F)(_:(∀X∈Y,∃x:Str,X.1=.inr x))(_:(∀x,Ty.Sz 50 (mv F x).1/\Ty.Sz 50 (mv F x).2))(_:(∀z:Nat->Rat,af6 AP BO F z->(∀j,bj AP<=j->j<bj AP+1+BO.length->z j=0)->∀j,j<bj AP->z j=0))(_:kJ H U)(_:iy H E R "pin" (AP.map (·.nm)) Y)(_:(KeysIn (AP.map (·.nm)) Y->iy H E M "bar" (BO.map (·.nm)) Z))(_:(KeysIn (AP.map (·.nm)) Y->KeysIn (BO.map (·.nm)) Z->uP H E N (BO.map (·.nm)) Z Bd))(_:(∀(v:V)(H':Hp),KeysIn (AP.map (·.nm)) Y->KeysIn (BO.map (·.nm)) Z->(∀b∈BO,TZ Z Bd b.nm)->aZ U H H' ->kJ H' U->Q v H'))
def bO:av zae Zz (ae dX):=sq
def ajR (hNn:∀H:Hp,cb K H aN [↥0,↥1])(kr:mg "NOUGHT"==⇑aN)(hO:∀H:Hp,cb K H aO [↥1,↥1])(WT:mg "ONE"==⇑aO)(a_:mg "len"=none)(cT:mg "list"=none)(D:Def K mg "greatest_of" dX Zz)(azd:!am 4 "load_row" ["F","load"] (mC K C CN))(mE:!am 5 "all_bounds" U0 (JO K C CB CD))(aze:!am 38 "draw_rows" ["F"] (qK K C))(RG:!am 1 "turned" wz lH)(we:!am 36 "spare_columns" wz (yP K))(aqf:!am 3 "pulls_and_pushes" ye (aj7 K C))(KP:!am 37 "most_borne" ZJ (KH K P0))(KQ:!am 35 "mixed_rows" mP (akj K))(abl:!am 1 "signs_turned" Vy (rY K))(azf:!am 37 "solve_rows" lK (JC K))(azg:!am 2 "motion_from" ye (yW K C)):
  am P w K mg gV 39 "greatest_of" Zz (KO K C P0 CN CB CD):=by
 show D.okX bO (λvs H Q E h=>?_) (λf bx A outer s H vs Q E I h=>?_)
 ·let(a,dB,dL,Y,Z,kB,kL,Bd,F,rfl,_):=h
  rfl
 let(a,dB,dL,Y,Z,kB,kL,Bd,F,rfl,R,g,lp,lb,hdB,hkB,hvB,szB,hdL,hP,hkL,szF,hI,tb,sN,sB0,sD,q0):=h;let px:Passes (aR P w) (!nK zae "greatest_of" (ae dX) f bx A outer s H E) E:=rm;let wl:bj Y<=2*Y.length:=rX Y g.lw;let ql:(eh Y Z).length=bj Y+Z.length:=oZ Y Z;let big:(100:Nat)<=CM:=gM
 show(_,(aw 3 bO.nd (cW azd I.mo px (aE .a .c))>>aw 4 bO.nd (cW mE I.mo px (aE .a .b))>>aw 5 bO.nd (cW aze I.mo px (aU .a))>>aw 6 bO.nd (ax eK (aI ay rfl a_ cu (aU .f)) (aI ay rfl a_ cu (aU .e)))>>aw 7 bO.nd (ax gS (ax gS (dH fW .f fV (eO .g)) (bJ (aU .d))) (dH fW .f (eO .g) fV))>>aw 8 bO.nd (cW we I.mo px (aE (cW RG I.mo px (aE .h (aI ay rfl a_ cu (aU .d)))) (aI ay rfl a_ cu (aU .h))))>>bN (m9 (Q9 (cD I) .g .i)) (aj (aC (aJ (aE dQ (aH (cW aqf I.mo px (aE .a (dH fW (iR (cD I) .i .g (λ_ _=>O)) fV (eO .g))))))))) aQ>>aw 9 bO.nd (zad rfl rfl cT .i)>>aw 10 bO.nd (cW KP I.mo px (bS .j .g .e))>>aw 11 bO.nd (cW KQ I.mo px (bS (aH .k) .j (aI ay rfl a_ cu (aU .h))))>>aw 12 bO.nd (cW aqf I.mo px (aE .a (ax gS (dH fW .m fV (eO .g)) (dH fW .m (eO (ax bW .g ag)) fV))))>>aw 13 bO.nd (ax gS (ax gS (ax ug .Z .g) (bJ (aU (eJ (v:=⇑aO) rfl WT rfl)))) (cW abl I.mo px (aU (aH .k))))>>aw 14 bO.nd (cW azg I.mo px (aE .a (aH (cW azf I.mo px (bS .h (pv 13) (aI ay rfl a_ cu (aU .d)))))))>>aj (aC (aJ (Q7 dQ (Q7 (aH .k) (bS (aH (pv 12)) (aH (pv 12)) (pv 14))))))),2);sleep 13
 show(3,a,dL,Y,Z,kL,F,O,R,gu,hdL,hP,hkL,sN,λl us H1 kiL s1 nl el nm=>?_);show(3,a,dB,Y,Z,kB,Bd,O,R.iz s1,gu,s1\hdB,hkB,λx v e=>(hvB x v e).iz s1,(sB0 kiL).iz s1,λkiB=>(sD kiL kiB).iz s1,λlo2 vW H2 kiB okb s2 nlb elb pb=>?_);let q:=λv H'=>q0 v H' kiL kiB okb;let rS:=s1>>>s2;show(0,a,Y,Z,O,R.iz rS,g,λr ls cB H3 s3 nr RR=>?_);let lls:ls.length=bj Y+Z.length:=by rw[RR.xH.2.1,RR.num.1,ql]
 let lu2:vW.length=Z.length:=by have:=pb.length;rwa[CA] at this
 show(0,r,0,.inl (aY.of RR.xH.1),0,lo2,0,.inl (aY.of (s3\elb)),1,2);let eW:(((ls.map V.ref).length:Nat):Int)-((vW.length:Nat):Int)=((bj Y:Nat):Int):=by rw[CA];omega
 rw[eW];generalize hW:bj Y=W at wl ql lls eW ⊢;show(3,0,r,0,aY.of RR.xH.1,2);intros p4 n4 H4 s4 e4;rw[oX (by rw[CA];omega)] at e4;show(0,tw,2);intros p5 n5 H5 s5 e5;let s35:=s4>>>s5;show(p4,p5,1,s5\e4,e5,(by rw[QT,CA];change _+1<=CM;omega),2);intros p6 n6 H6 s6 e6;let s36:=s35>>>s6;show(3,0,r,0,aY.of (s36\RR.xH.1),2);intros p7 n7 H7 s7 e7;rw[jr (by rw[CA];omega)] at e7;show(p6,p7,1,s7\e6,e7,(by rw[GY,QT,ZX,CA];change _+1+_<=CM;omega),2);intros r8 n8 H8 s8 e8;let s38:=s36>>>s7>>>s8;let s18:=s2>>>s3>>>s38;let s08:=s1>>>s18;let lsv:ls.length=cB.length:=RR.xH.2.1;let lvq:cB.length=(eh Y Z).length:=RR.num.1;let im:=aqe (P:=λ(x:BQ) (y:ε)=>H8 x==.lst y) (W:=W) (a:=l) (b:=us) lsv (λi x y T U=>s38\(RR.xH.2.2 i x y T U)) (s18\el);let inn:=aqe (P:=λ(y:ε) (z:θ)=>bY K H8 y z) (W:=W) (a:=us) (b:=ie F Y) lvq (λi x y T U=>(RR.num.2 i x y T U).iz s38) (nm.iz s18);let eA:allR Y Z F=(eh Y Z).take W++[ie F Y]++(eh Y Z).drop W:=by unfold allR;rw[hW]
 rw[<-eA] at inn
 let e8':H8 r8==.lst ((ls.take W++[l]++ls.drop W).map V.ref):=by
  rw[e8,RL,RL,List.map_take,List.map_drop];rfl
 generalize hLA:ls.take W++[l]++ls.drop W=J at im e8';generalize hVA:cB.take W++[us]++cB.drop W=M at im inn;let M8:ku H8 r8 J M:=(e8',im.1,im.2);let N8:gB K H8 M (allR Y Z F):=inn;let lA:(allR Y Z F).length=W+1+Z.length:=by rw[akl,hW]
 let lvA:=N8.1;let llA:=M8.2.1;let shA:=alJ g szF;let(shC,pbC):=abt g szF lp lb;rw[hW] at shC;let lus:us.length=2*Y.length:=by rw[nm.1,jF]
 show(3,l,0,.inl (aY.of (s18\el)),r8,J,M,0,M8,gu,gu,gu,λvs hvs=>?_,λc cs H9 s9 Cm=>?_)
 ·let(i,hi):=OV hvs
  have vO :i<M.length:=(ir.mp hi).1;let U:(allR Y Z F)[i]?==((allR Y Z F)[i]'gu):=gE gu;have:=(N8.2 i vs _ hi U).1;have:=(shA _ (CU U)).1;omega
 rw[lus,show(((2*Y.length:Nat):Int)).toNat=2*Y.length by omega] at Cm
 let N9:gB K H9 (iJ M (2*Y.length)) (i_ Y Z F):=#[by unfold iJ i_;rw[CA,CA],λi vs qs T U=>by
  let hi:i<2*Y.length:=by have:=(ir.mp T).1;simpa[iJ] using this
  let a1:(iJ M (2*Y.length))[i]?==(m4 M i):=by simp[iJ,qL hi]
  let a2:(i_ Y Z F)[i]?==(dj (allR Y Z F) i):=by unfold i_;rw[Wp,qL hi];rfl
  rw[a1] at T;rw[a2] at U;cases T;cases U
  show(uX N8 shA hi).iz s9]
 let lcR:(i_ Y Z F).length=2*Y.length:=by unfold i_;rw[CA,OE]
 let elA:((J.map V.ref).length:Nat)=W+1+Z.length:=by rw[CA];omega
 show(0,r8,0,.inl (aY.of (s9\M8.1)),c,(J.map V.ref).length,cs,_,i_ Y Z F,(50),(50),(700),(9527),O,Cm,N9,by rwa[elA],pbC,gu,gu,gM,gM,gM,2,gM,λsd BN L os lv nd HA sA nsd esd spr iL red hss hF=>?_)
 ·unfold bb
  show CP (VF (show min (J.map V.ref).length (i_ Y Z F).length+1<=9 by omega) (CK _)) gM
 rw[elA] at iL red hss hF
 let lsR:∀z:Nat->Rat,(∀o∈os,ev o z=0) ↔ af6 Y Z F z:=λz=>by
  unfold af6;rw[hW];show afi iL (λqs hq=>(shC qs hq).1) z
 let S:KJ os lv (W+1+Z.length) 9527 nd L:=(red,hss,hF,λo ho=>by
  let(i,e):=OV ho;let hi:=(ir.mp e).1;let hl:=iL.1;let T:(i_ Y Z F)[i]?==((i_ Y Z F)[i]'gu):=gE gu;let(b,hb,wh):=iL.2 i o _ e T;rw[wh.1,(shC _ (CU T)).1]
  show CK _)
 let sk:=spr.keys
 let azn:(BN.map (·.1)).Nodup:=by
  rw[sk,show(L.map λx=>(W8 (x.1:Int):Key))=(L.map (·.1)).map (λn=>(W8 ((n:Nat):Int):Key)) from by rw[Pp];rfl,hss];show anm _ (λa b hab e=>hab ?_) (UO.filter _);have:=FF e;omega
 let sAt:∀{j:Nat} {x:Nat×List (Int×Int)},L[j]?==x->∃p jh,BN[j]?==(.inl (x.1:Int),⇑p)/\HA p==.lst jh/\bY K HA jh x.2:=λ{j x} e=>by
  let hj:=(ir.mp e).1;let hl:=spr.1;let ek:BN[j]?==(BN[j]'gu):=gE gu;let(h1,p,jh,h2,h3,h4):=spr.2 j _ x ek e;show(p,jh,2,h3,h4);rw[ek,<-h1,<-h2]
 let s0A:=s08>>>(s9>>>sA);let RA:=R.iz s0A;show(3,sd,0,gU.k (k:=.inl (W:Int)) esd,0,2);by_cases hin:W∈L.map (·.1)
 ·let(x,hx,xW):=CS.mp hin
  let(j,ej):=OV hx;let hj:=(ir.mp ej).1;let(p,jh,ek,hp,nq):=sAt ej;let xW':x.1=W:=xW;rw[xW'] at ek;let ev':=an' azn ek;rw[ev'];show pJ ?_;let fl:=(S.hF x hx).1;have aQ9 :jh.length=W+1+Z.length:=by rw[nq.1,fl]
  show(3,0,sd,0,ev' ▸gU.k (k:=.inl (W:Int)) esd,3,p,0,aY.of hp,2);intros pB1 nB1 HB sB1 eB1;rw[oX gu] at eB1;show(a,pB1,Y,Z,0,RA.iz sB1,g,eB1,by rw[hW,QT];omega,by rw[QT];omega,λpp dT dU HC sC hpp=>?_);show(pp,5,cb.of hpp,i6,sZ,2);intros pt nt HD st et;let sAD:=s0A>>>(sB1>>>(sC>>>st));show q _ HD (λb o _ e=>sAD\e) (tb.iz sAD)
 let evn:cj BN (.inl (W:Int))=none:=fw λh=>hin (by
  rw[sk] at h;let(x,hx,e):=CS.mp h;have:=FF e
  show CS.mpr (x,hx,gu))
 rw[evn];show nF ?_
 let few:=S.few rfl hin (λz hz h=>by
  have:=hI z ((lsR z).mp hz);rw[hW] at this
  show this h)
 show(0,sd,BN,O,esd,2);intros bo nbo HB sB ebo
 let(ws,lws,hws):=lG (P:=λi (kv:Key×V) (w:BQ×List V)=>kv.2=⇑w.1/\HA w.1==.lst w.2/\∀x,L[i]?==x->bY K HA w.2 x.2) BN λi kv e=>by
  let hi:=(ir.mp e).1;let hl:=spr.1;let ex:L[i]?==(L[i]'gu):=gE gu;let(h1,p,jh,h2,h3,h4):=spr.2 i kv _ e ex;show((p,jh),h2,h3,λx hx=>by erw[ex] at hx;show h4)
 let lkv:=spr.1
 let xF:BN.map (λkv=>kv.2)=(ws.map (·.1)).map V.ref:=by
  show VH λi=>?_;rw[Wp,Wp,Wp];by_cases hi:i<BN.length
  ·let T:BN[i]?==BN[i]:=gE hi
   let U:ws[i]?==(ws[i]'gu):=gE gu;rw[T,U];change some BN[i].2==(V.ref (ws[i]'gu).1);rw[(hws i _ _ T U).1]
  ·rw[IF gu,IF gu]
   rfl
 rw[xF] at ebo
 let MB:ku HB bo (ws.map (·.1)) (ws.map (·.2)):=(ebo,![CA,CA],λi l' vs T U=>by
  rw[Wp] at T U;let(w1,ew,rfl):=OR.mp T;erw[ew] at U;let hi:=(ir.mp ew).1
  show sB _ _ (hws i _ _ (gE gu) ew).2.1)
 let NB:gB K HB (ws.map (·.2)) (vJ L):=#[by rw[CA,al0];omega,λi vs qs T U=>by
  unfold vJ at U;rw[Wp] at T U;let(w1,ew,rfl):=OR.mp T;let(x,ex,rfl):=OR.mp U;let hi:=(ir.mp ew).1
  show((hws i _ _ (gE gu) ew).2.2 x ex).iz sB]
 let sBA:=s9>>>(sA>>>sB);let s0B:=s08>>>sBA;let lst:=al0 L;let lbd:(Z.map λb=>Bd b.nm).length=Z.length:=CA ..
 let shS:Shape 9527 9527 (W+1+Z.length) (vJ L):=λqs hq=>by
  unfold vJ at hq;let(x,hx,rfl):=CS.mp hq;show#[(hF x hx).1,jD.azc red (hF x hx)]
 let s3B:=s38>>>sBA;let k5:L.length<=5:=gu
 let M1:9527+9527*(L.length+L.length+1)<=114324:=gu
 let bz1:bz (2*Z.length) (9527+9527*(L.length+L.length+1))<=1257685:=by
  unfold bz;let a1:=VF (show 2*Z.length+1<=11 by omega) (show 2*Z.length+1<=11 by omega);let a2:=VF M1 (show 2*Z.length+1<=11 by omega);omega
 show(3,0,bo,lo2,W,9,vJ L,vW,Z.map (λb=>Bd b.nm),(9527),O,MB,NB,by rwa[lbd],(s3>>>s3B) _ _ elb,Paired.dP pb (λ_ _ z=>z.iz (s3>>>s3B)),λp hp=>?_,gu,gu,gu,by rw[lst];omega,by rw[lst,lbd];omega,tb.iz s0B,2,λp lx ly uw xs ys w' X α N HC kC tC hp nw hN smw hlx zaF lX sX hly pY lY sY Bq=>?_)
 ·let(b,hb,rfl):=CS.mp hp
  let(h1,h2):=JN (okb b hb).2;let(z1,z2):=szB b.nm;show(h1,h2,UW (KN z1) gM gM,UW (KN z2) gM gM)
 ·rw[lst,lbd]
  show λX h=>S.aqd rfl hin X h
 rw[lst,lbd] at hN;rw[lst] at lX;rw[lbd] at lY;rw[lst,lbd] at Bq;let N1:N<=1372009:=gu
 let tbB:=tb.iz s0B;let RC:=abu (R.iz s0B) tbB kC;let ttC:=abp tbB kC
 let Qc:∀{b xs'},HB b==.lst xs'->HC b==.lst xs':=λ{b xs'} e=>kC _ _ (λz=>by
  let(ps',e'):=tbB.mW;rw[z,e'] at e
  cases e) e
 let MC:ku HC bo (ws.map (·.1)) (ws.map (·.2)):=(Qc MB.1,MB.2.1,λi x y T U=>Qc (MB.2.2 i x y T U));let NC:gB K HC (ws.map (·.2)) (vJ L):=#[NB.1,λi x y T U=>af4 (NB.2 i x y T U) ttC];let M8C:ku HC r8 J M:=(Qc (sBA\M8.1),M8.2.1,λi x y T U=>Qc (sBA\(M8.2.2 i x y T U)));let N8C:gB K HC M (allR Y Z F):=#[N8.1,λi x y T U=>af4 ((N8.2 i x y T U).iz sBA) ttC];let elC:=Qc ((s18>>>sBA) _ _ el);show(0,p,5,cb.of hp,b9 (j:=1) rfl,3,r8,0,.inl (aY.of M8C.1),lx,bo,(J.map V.ref).length,X.map qr,9,vJ L,(9527),(9527),2*N+1,2*N,O,(xs,aY.of hlx,zi zaF),MC,NC,gu,by rwa[elA],![CA,lX,lst],by rw[CA];omega,λq' pI =>?_,2,2,gu,gM,λl2 us3 rs3 HD sD eD pD lD=>?_)
 ·let(r',sG,rfl):=CS.mp pI
  show sX r' sG
 ·rw[CA,lX]
  have:=VF (show 2*N<=2744018 by omega) k5;omega
 ·rw[CA,lX]
  have:=VF (CK 9527) k5;omega
 let l3u:us3.length=W+1+Z.length:=by rw[pD.length,lD,elA]
 show(3,3,l2,0,aY.of eD,2);intros pa na HE sa ea;rw[oX gu] at ea;show(3,1,0,l2,0,aY.of (sa\eD),2);intros pb2 nb2 HF sb eb;rw[show((W:Nat):Int)+1=((W+1:Nat):Int) from by omega,jr gu] at eb;show(pa,pb2,1,sb\ea,eb,(by rw[QT,ZX];omega),2);intros pc nc HG sc ec;let sCG:=sD>>>sa>>>(sb>>>sc);show(a,pc,Y,Z,0,RC.iz sCG,g,ec,by rw[hW,GY,QT,ZX];omega,by rw[GY,QT,ZX];omega,λpf dT dU HI sI hpf=>?_);show#[tw,2];intros q5 nq1 HJ sq1 eq1;show(0,q5,1,eq1,gu,gu,(by change 1*W<=CM;omega),2);intros q6 nq6 HK sq6 eq6;let azq:(FZ ((W:Nat):Int).toNat [V.ref aN]).flatten=FZ W (V.ref aN):=by simp
 rw[azq] at eq6;show#[tw,2];intros q7 nq7 HL sq7 eq7;show(q6,q7,1,sq7\eq6,eq7,(by rw[vT];change _+1<=CM;omega),2);intros q8 nq8 HM sq8 eq8;let sIM:=sq1>>>sq6>>>(sq7>>>sq8);let sCM:=sCG>>>sI>>>sIM;let hpM:=sCM\hp;let lYy:=pY.length;show(0,p,5,cb.of hpM,b9 (j:=2) rfl,ly,ys,α,O,sCM\hly,Paired.dP pY (λ_ _ z=>z.iz sCM),gu,λq9 us9 HN2 sN eN pN=>?_);let l9:=pN.length;rw[CA] at l9;show(q8,q9,1,sN\eq8,eN,(by rw[GY,vT];change W+1+_<=CM;omega),2);intros qd nd2 HO2 sd2 ed;let sCO:=sCM>>>(sN>>>sd2);let lYb:α.length=Z.length:=lY;let M8O:=M8C.iz sCO;let N8O:=N8C.iz sCO
 let nds:bY K HO2 (FZ W .E++[V.ref aO]++us9) (FZ W (0,1)++[(1,1)]++(α.map λr=> -r).map qr):=by
  let n1:bY K HO2 (FZ W .E++[V.ref aO]) (FZ W (0,1)++[(1,1)]):=by
   show bY.snoc #[by simp,λi u q T U=>?_] (aO,O,hO _);rw[qM] at T U;split at T
   ·rename_i c
    rw[iB c] at U;cases T;cases U;show(aN,O,hNn _)
   ·cases T
  let n2:=zi (Paired.dP pN λ_ _ z=>z.iz sd2);show#[![GY (as:=FZ W .E++[V.ref aO]),GY (as:=FZ W ((0,1):Int×Int)++[(1,1)]),n1.1,n2.1],λi u q T U=>?_];let ll:=n1.1;by_cases ci:i<(FZ W .E++[V.ref aO]).length
  ·rw[PR ci] at T
   rw[PR gu] at U;show n1.2 i u q T U
  ·rw[RF gu] at T U
   rw[<-ll] at U;show n2.2 _ u q T U
 let lds:(FZ W ((0,1):Int×Int)++[(1,1)]++(α.map λr=> -r).map qr).length=W+1+Z.length:=by rw[GY,GY,vT,CA,CA,lYb];rfl
 let N0:400<=N:=gu
 let smd:∀d∈FZ W ((0,1):Int×Int)++[(1,1)]++(α.map λr=> -r).map qr,Sm (N+1) N d:=λd hd=>by
  rcases OB.mp hd with hd|hd
  ·rcases OB.mp hd with hd|hd
   ·rw[(List.mem_replicate.mp hd).2]
    show(gM,gM,RQ _,W9)
   ·rw[OK.mp hd]
    show(gM,gM,W9,W9)
  ·let(r1,h1,rfl):=CS.mp hd
   let(r2,h2,rfl):=CS.mp h1;show xK (sY r2 h2)
 show(3,3,l,0,.inl (aY.of (sCO\elC)),r8,qd,us.length,J,M,allR Y Z F,_,FZ W (0,1)++[(1,1)]++(α.map λr=> -r).map qr,N+1,N,2400+N,bb (N+1+(2400+N)) 9,O,M8O,N8O,ed,nds,![lds,lA],2,smd,2,gu,gu,gu,gu,gu,IY _ gu,2,2,2)
 ·rw[lus]
  show λqs hq=>#[(shA qs hq).1,λq pI =>UW ((shA qs hq).2 q pI) gu gu]
 ·intro i qs d T U
  let(h1,h2):=shA qs (CU T);let hd:=smd d (CU U);rw[uH,Zq];show VF (CP (yM λq hq=>(h2 q hq).bot) (Vd gM (by rw[h1];omega))) ?_;change d.2.natAbs*1<=_;rw[UA];show hd.bot
 ·unfold bb
  omega
 ·intro p2 x jh xs' HP sP hp2 hx nx lx2 zx
  let sCP:=sCO>>>sP;show(p2,5,cb.of hp2,i6,a,x,Y,Z,jh,O,RC.iz sCP,g,hx,![nx.1,lx2,lus],λdM HQ sQ=>?_);let sCQ:=sCP>>>sQ;let sIQ:=((sIM>>>(sN>>>sd2)).trans sP).trans sQ;let aqi:=sIQ\hpf;show(0,p,5,cb.of (sCQ\hp),b9 (j:=0) rfl,0,pf,5,cb.of aqi,iZ,0,pf,5,cb.of aqi,i6,0,z5L,2);intros pt nt HR st et;let sCR:=sCQ>>>st;show q _ HR (λb o n e=>sCR\(kC b o n (s0B _ _ e))) (tC.iz sCR)
 ·intro p2 y jh m HP sP hp2 hy ny ly2 zy h0 h1
  exfalso;rw[lA] at ly2
  let ker:∀o∈os,ev o (λj=>(m.map vl).getD j 0)=0:=(lsR _).mpr λqs hq=>by
   unfold i_ at hq;let(j,hj,rfl):=CS.mp hq;let hj':=Rb.mp hj;let lcq:(dj (allR Y Z F) j).length=W+1+Z.length:=by unfold dj;rw[CA,lA]
   have:=h0 j (by rwa[lus]);rw[ah_ ![ly2,lcq],lcq] at this;rw[hW];show this
  let pr:=S.Ux rfl Bq ker;rw[ah_ ![ly2,lds],lds,jI,df] at h1
  let e0:Ty.sumTo W (λj=>vl ((FZ W ((0,1):Int×Int)++[(1,1)]++(α.map λr=> -r).map qr).getD j (0,1))*(m.map vl).getD j 0)=0:=by
   rw[cy W _ (λ_=>0) λj hj=>?_,Ty.sumTo_zero _ _ λ_=>O];rw[GO (l:=FZ W ((0,1):Int×Int)++[(1,1)]++_),PR (by simp;omega),PR (~~~hj),qM,iB hj];change vl ((0,1):Int×Int)*_=0;rw[KI];grind
  let eW1:vl ((FZ W ((0,1):Int×Int)++[(1,1)]++(α.map λr=> -r).map qr).getD W (0,1))=1:=by
   rw[GO,PR gN,RF gN];simp only[vT,EA];show Se
  let eB1:Ty.sumTo Z.length (λb=>vl ((FZ W ((0,1):Int×Int)++[(1,1)]++(α.map λr=> -r).map qr).getD (W+1+b) (0,1))*(m.map vl).getD (W+1+b) 0)= -Ty.sumTo Z.length (λb=>α.getD b 0*(m.map vl).getD (W+1+b) 0):=by
   rw[show -Ty.sumTo Z.length (λb=>α.getD b 0*(m.map vl).getD (W+1+b) 0)=(-1)*Ty.sumTo Z.length (λb=>α.getD b 0*(m.map vl).getD (W+1+b) 0) by grind,<-Ty.sumTo_mul];show cy _ _ _ λb hb=>?_;let ey:α[b]?==(α[b]'gu):=gE gu;rw[GO (l:=FZ W ((0,1):Int×Int)++[(1,1)]++_),RF (![GY,vT] (Nat.le_add_right _ _)),GO (l:=α),ey];simp only[GY,vT,al6,ajM];rw[Wp,Wp,ey];change vl (qr (-α[b]))*_= -1*(α[b]*_);rw[iI];grind
  rw[e0,eW1,eB1,<-pr] at h1;grind
def aqj (M:ξ):Prop:=∀x,Sz 100 (mv M x).1/\Sz 100 (mv M x).2
def af7 (M:ξ)(b:cZ):Rat:=ajW (WW b.one b.jg) ((mv M b.jg.nm).1-(mv M b.one.nm).1,(mv M b.jg.nm).2-(mv M b.one.nm).2)
inductive abv (K:Frag)(C:BQ)(vs:ε)(H:Hp)(Q:VK)(Z:XK):Prop
|mk (a d:BQ)(AP:Α)(BO:Μ)(BN:δ)(M:ξ)(_:vs=[.ref a,.ref d])(_:BK K H C a AP BO)(_:jZ AP BO)(_:H d==.dK BN)(_:vB K H BN M)(_:aqj M)(_:∀(e:BQ)(sV:δ)(H':Hp),aq H H' ->H e=none->H' e==.dK sV->sV.map (·.1)=BO.map (λb=>(Rq b.nm:Key))->(∀b∈BO,∃v,cj sV (.inr b.nm)==v/\iE K H' v (af7 M b))->Q ⇑e H')
def fm:av ["F","motion","longer","bar","two","apart"] vC (ae d6):=sq
def adF (hM:∀H:Hp,gx K H ⇑aM (0,0))(RI:mg "NO_MOVE"==⇑aM)(D:Def K mg "lengthenings" d6 vC)(MB:!ce 1 C "bars" Ox (og K C))(ME:!ce 1 C "ends" VQ (yR K C))
  (afZ:!am 36 "arm_between" wu (UJ K C)) (aj1:!am 35 "pair_difference" IS (JG K λa b=>a-b)) (zA:!am 35 "pair_product" IS (aa5 K)):
  am P w K mg gV 37 "lengthenings" vC (abv K C):=by
 show D.oo fm λH S h=>?_;let(a,d,AP,Y,BN,M,rfl,R,g,hd,hP,zM,q):=h
 show(_,(aw 2 fm.nd fh>>bV Pm rfl (bT (fG (k:=1) .a S.mo (q_Y P w))) (cE 3 fm.nd) (aw 4 fm.nd (d5 (k:=1) .a S.mo (q_Y P w) (aU .d))>>aw 5 fm.nd (a9 aj1 S (aE (yr (cD S) .b (aH .e) (eJ (v:=⇑aM) rfl RI rfl) #[8,8]) (yr (cD S) .b (aH .e) (eJ (v:=⇑aM) rfl RI rfl) #[8,8])))>>aj (d3 (cD S) .c .d (a9 zA S (aE (a9 afZ S (bS .a (aH .e) (aH .e))) .f)) rfl))>>aj (aC .c)),2);sleep 2
 intro e ne;let s1:=ar ne (.dK []);let e1:(upd H e (.dK [])) e==.dK []:=af;generalize upd H e (.dK [])=H1 at s1 e1 ⊢;let R1:=R.iz s1;let(u,pP,pW,pB,kP,kW,kB,F1,W1):=R1.ex;show(0,a,C,u,6,F1.obj,O,MB,a,u,pP,pW,pB,9,kP,kW,kB,O,F1,λl H2 s2 nl el=>?_);let nmb:((Y.map λb=>(b.nm,(b.one.nm,b.jg.nm))).map (·.1))=Y.map (·.nm):=by rw[Pp];rfl
 rw[nmb] at el
 show(l,O,#[_,aY.of el],let I:fM:=λi Z f=>Ex4 λ(o3 o4 o5:Β) (X :δ)=>Z=[cr a,cr d,cr e,o3,o4,o5]/\aq H f/\f l==.lst ((Y.map (·.nm)).map V.str)/\f e==.dK X/\X.map (·.1)=(Y.take i).map (λb=>(Rq b.nm:Key))/\ ∀b∈Y.take i,∃v,cj X (.inr b.nm)==v/\iE K f v (af7 M b);dG (K:=K) (a:=l) (xs:=(Y.map (·.nm)).map V.str) I (none,none,none,[],O,λb o z=>s2\(s1 _ _ z),el,s2\e1,O,λb T=>by simp at T) (λi Z f _ h=>by
   let(_,_,_,_,_,_,h,_):=h
   show aY.of h) ?_ ?_)
 ·rintro i z Z Q hi ⟨o3,o4,o5,X,rfl,J,l4,e4,E,tl⟩
  rw[Wp,Wp] at hi;let(x,hx,rfl):=OR.mp hi;let(b,T,rfl):=OR.mp hx;let il:i<Y.length:=(ir.mp T).1;let mb:b∈Y:=CU T;let(m1,m2,m3):=g.ends b mb;let R4:=R.iz J;let(u,pP,pW,pB,kP,kW,kB,F4,W4):=R4.ex;show(0,a,C,u,6,F4.obj,O,ME,0,a,u,pP,pW,pB,9,kP,kW,kB,b.nm,b.one.nm,b.jg.nm,O,F4,ahG g.nb,CS.mpr (b,mb,O),λp rd=>?_);let tp:cb K Q p [.str b.one.nm,.str b.jg.nm]:=.inl rd;let d4:=J\hd;let P4:=hP.iz J;show(0,d,O,.inl #[_,.inl d4],0,p,5,tp,i6,_,gU.k (k:=.inr b.jg.nm) d4,0,d,O,.inl #[_,.inl d4],0,p,5,tp,iZ,_,gU.k (k:=.inr b.one.nm) d4,2);let g1:gx K Q ((cj BN (.inr b.jg.nm)).getD ⇑aM) (mv M b.jg.nm):=P4.ajj (hM Q);let g2:gx K Q ((cj BN (.inr b.one.nm)).getD ⇑aM) (mv M b.one.nm):=P4.ajj (hM Q);generalize (cj BN (.inr b.jg.nm)).getD ⇑aM=v1 at g1 ⊢;generalize (cj BN (.inr b.one.nm)).getD ⇑aM=v2 at g2 ⊢;let z1:=zM b.jg.nm;let z2:=zM b.one.nm;show(v1,v2,4,g1,g2,z1.1.up gM,z1.2.up gM,z2.1.up gM,z2.2.up gM,λv3 H5 s5 h5=>?_);let R5:=R4.iz s5;let y:=Ty.aq.iM s5 tp;show(3,p,5,y,iZ,0,p,5,y,i6,a,AP,Y,b.one,b.jg,O,R5,g,m1,m2,λv6 H6 s6 h6=>?_);let y1:=g.sz _ m1;let y2:=g.sz _ m2;show(0,v6,v3,4,h6,h5.iz s6,(y2.1.sub y1.1).up gM,(y2.2.1.sub y1.2.1).up gM,(z1.1.sub z2.1).up gM,(z1.2.sub z2.2).up gM,λm H7 s7 h7=>?_);let e7:=s7\(s6 _ _ (s5 _ _ e4))
  let lk:X.length<=8:=by
   let z:=sU uz E;rw[CA,CA,QT] at z;have:=g.lb;omega
  show(3,e,0,jP.k (k:=.inr b.nm) e7 (K' (show X.length<=1000 by omega) gM),2)
  let fresh:(Rq b.nm:Key)∉X.map (·.1):=by
   rw[E];intro z;let(L,U,eb'):=CS.mp z;let en:L.nm=b.nm:=Zp eb';let(j,hj,A):=OC.mp U;rw[al2] at A;rw[QT] at hj;let q1:(Y.map (·.nm))[j]?==b.nm:=by rw[Wp,gE gu,A];change some L.nm=_;rw[en]
   let q2:(Y.map (·.nm))[i]?==b.nm:=by rw[Wp,T];rfl
   have:=(UB (by rw[CA];omega) g.nb).mp (q1>>>q2.symm);omega
  let pk:putK X (.inr b.nm) ⇑m=X ++[(.inr b.nm,⇑m)]:=iq _ (fw fresh);let t7:bh H7 (upd H7 e (.dK (putK X (.inr b.nm) ⇑m))):=.dict e7;let N:aq Q H7:=λb o z=>s7\(s6 _ _ (s5 _ _ z));let tk:Y.take (i+1)=Y.take i++[b]:=by rw[al3,T];rfl
  show(_,6,λc o z=>?_,2,af,2,λL U =>?_)
  ·rw[ah (ak z ne)]
   show N\(J _ _ z)
  ·rw[ah (λz=>by erw[z,e4] at l4)]
   show N\l4
  ·rw[pk,RL,E,tk,RL]
   rfl
  ·rw[yk]
   by_cases c:L.nm=b.nm
   ·rw[iB ![c]]
    show(⇑m,O,2)
    let eb:L=b:=by
     let(j,hj,A):=OC.mp U;rw[al2] at A;rw[QT] at hj;let q1:(Y.map (·.nm))[j]?==b.nm:=by rw[Wp,gE gu,A];change some L.nm=_;rw[c]
     let q2:(Y.map (·.nm))[i]?==b.nm:=by rw[Wp,T];rfl
     let ji:=(UB (by rw[CA];omega) g.nb).mp (q1>>>q2.symm);subst ji;rw[gE il] at T;rw[<-A];show VE T
    rw[eb];show iE.bC (m,O,cb.of h7) t7
   ·rw[iA (λz=>c (Zp z))]
    rw[tk,OB] at U
    rcases U with U|U
    ·let(v,h1,h2):=tl L U
     show(v,h1,(h2.iz N).bC t7)
    ·rw[OK] at U
     show CC (![U]) c
 ·rintro Z Q ⟨o3,o4,o5,X,rfl,J,l4,e4,E,tl⟩
  rw[CA,CA,Vj] at E tl;show#[0,q e X Q J ne e4 E tl]
def akt :0<(qr r).1 ↔ 0<r:=by
 let Y:=UR (q:=r);let Z:=an0 (q:=r);change 0<r.num ↔ 0<r;constructor
 ·intro h
  let a:0<=r:=Y.mp gu;let b:r≠0:=λz=>by rw[Z.mpr z] at h;omega
  grind
 ·intro h
  let a:0<=r.num:=Y.mpr (by grind);let b:r.num≠0:=λz=>by rw[Z.mp z] at h;grind
  omega
def abw (b:cZ):af7 (λ_=>none) b=0:=by
 unfold af7 ajW mv;simp;grind
inductive u5 (K:Frag)(C X Y:BQ)(vs:ε)(H:Hp)(Q:VK)(E:XK):Prop
|mk (a d e:BQ)(AP:Α)(BO:Μ)(BN:δ)(B:Ν)(_:vs=[.ref a,.ref d,.ref e])(_:BK K H C a AP BO)(_:jZ AP BO)(_:BO.length<=5)(_:H d==.dK BN)(_:(∀Z∈BN,∃x:Str,Z.1=.inr x))(_:(∀x v,cj BN (.inr x)==v->gx K H v (B x)))(_:(∀x,Sz 400 (B x).1/\Sz 400 (B x).2))(_:H e==.dK [])(_:iy H E X "bar" (BO.map (·.nm)) BN)(_:(KeysIn (BO.map (·.nm)) BN->uP H E Y (BO.map (·.nm)) BN B))(_:∀(v:V)(H':Hp),KeysIn (BO.map (·.nm)) BN->(∀b∈BO,TZ BN B b.nm)->aq H H' ->Q v H')
def ia:av zau mM (ae gX):=sq
def acV (hN:∀H:Hp,iE K H ⇑aN 0)(kr:mg "NOUGHT"==⇑aN)(dY:mg "zip"=none)(D:Def K mg "price_of" gX mM)(mE:!am 5 "all_bounds" U0 (JO K C CB CD))(zC:!am 37 "lengthenings" vC (abv K C))(yQ:!am 34 "sum_of" IS (jE K λa b=>a+b))(je:!am 34 "product_of" IS (jE K λa b=>a*b)):
  am P w K mg gV 38 "price_of" mM (u5 K C CB CD):=by
 show D.okX ia (λvs H Q E h=>?_) (λf bx A U s H vs Q E j h=>?_)
 ·let(a,d,e,AP,Y,BN,B,rfl,_):=h
  rfl
 let(a,d,e,AP,Y,BN,B,rfl,R,g,lb,hd,ky,tb,zB,he,sB,hbE,q):=h;let p:Passes (aR P w) (!nK zau "price_of" (ae gX) f bx A U s H E) E:=rm
 show(_,(aw 3 ia.nd (cW mE j.mo p (aE .a .b))>>aw 4 ia.nd (eJ (v:=⇑aN) rfl kr rfl)>>bV agn rfl (afF rfl dY (cW zC j.mo p (aE .a .c)) (aU .d)) (gy rfl (aK (cE 5 ia.nd) (aK (cE 6 ia.nd) cC))) (aj (aw 4 ia.nd (cW yQ j.mo p (aE .e (cW je j.mo p (aE .f (xO (bD TC (aH .f) ag) (aH .g) (aH .g))))))))>>aj (aC .e)),2);sleep 3
 show(3,a,d,AP,Y,BN,B,O,R,gu,hd,ky,tb,sB,hbE,λl us H1 ki okb u nl el pu=>?_)
 let lu:us.length=Y.length:=by
  have:=RY pu;rwa[CA] at this
 show(3,a,e,AP,Y,[],λ_=>none,O,R.iz u,g,u\he,λ_=>.inl #[8],λ_=>#[gm gM,gm gM],λdl X T J nd ed ks tl=>?_)
 let lk:X.length=Y.length:=by
  have:=sU uz ks;rwa[CA,CA] at this
 show(dl,O,#[_,ed],0,l,X,O,#[_,aY.of (J\el)],ed,λo=>?_)
 let st:bh T (upd T dl (.e_ o (.dK X))):=λb zs r=>by
  rcases r with r|⟨o',r⟩
  ·show .inl (by rw[ah (λz=>by erw[z,ed] at r)];show r)
  ·show .inr #[o',by rw[ah (λz=>by erw[z,ed] at r)];show r]
 let nd0:H dl=none:=u.free nd;let s3:aq H (upd T dl (.e_ o (.dK X))):=λb o' z=>![ah (ak z nd0)] (J\(u _ _ z))
 let e3:(upd T dl (.e_ o (.dK X))) dl==(.e_ o (.dK X)):=af;let l3:(upd T dl (.e_ o (.dK X))) l==.lst us:=by rw[ah (λz=>by erw[z,nd] at el)];show J\el
 generalize upd T dl (.e_ o (.dK X))=H3 at st s3 e3 l3 ⊢
 let nk:(X.map (·.1)).Nodup:=by
  rw[ks];have:=g.nb;let h2:Y.map (λb=>(Rq b.nm:Key))=(Y.map (·.nm)).map Rq:=by rw[Pp];rfl
  rw[h2];show anm _ (λa b h z=>h (by injection z)) this
 show let I:fM:=λi Z H'=>Ex3 λ(v:V) (o5 o6:Β)=>Z=[cr a,cr d,cr e,cr l,some v,o5,o6]/\aq H3 H'/\iE K H' v 0;aaP (K:=K) (d:=dl) (b:=l) (o:=o) (BN:=X) (ys:=us) I gu (⇑aN,none,none,O,aq.refl _,hN _) (λi Z H' _ h=>by
   let(_,_,_,_,s',_):=h
   show#[s'\e3,aY.of (s'\l3)]) ?_ ?_
 ·rintro i k x y Z H4 m ek ey ⟨v,o5,o6,rfl,L,hv⟩ np
  let M:=ar np (.tup [x,y]);let e5:(upd H4 m (.tup [x,y])) m==.tup [x,y]:=af;generalize upd H4 m (.tup [x,y])=H5 at M e5 ⊢
  let hi:i<Y.length:=by
   have:=(ir.mp ek).1;omega
  let eb:Y[i]?==Y[i]:=gE hi;generalize Y[i]=b at eb;let mb:b∈Y:=CU eb
  let kb:k=.inr b.nm:=by
   let h1:(X.map (·.1))[i]?==k:=by rw[Wp,ek];rfl
   rw[ks,Wp,eb] at h1;show(VE h1).symm
  subst kb;let(x',Tu,hx):=tl b mb;erw[an' nk ek] at Tu;let(r,er,hy):=aV pu ey;erw[Wp,eb] at er;let t5:bh T H5:=st>>>(.of (L>>>M));let N:=hx.bC t5;let hy5:=(hy.iz J).bC t5;let zb:=zB b.nm;rw[abw] at N;let z0:Sz 400 (0:Rat):=gm gM;show(m,0,cb.of e5,O,4,1,2);let(xa,rfl,S):=N;let(ya,y1,y2,rfl,hsy,hy1,hy2):=hy5;show(3,0,xa,5,S,iZ,1,0,2);show bH (λc=>?_) (λc=>?_)
  ·show CC (akt.mp (RE c)) gM
  ·show(0,ya,5,hsy,iZ,2)
   dsimp only[vR,md,ma,jU];change jE K (λa b=>a*b) [_,_] _ _ E;show(⇑xa,y1,4,(xa,O,S),hy1,z0.up gM,zb.1.up gM,λp6 H6 s6 e6=>?_);let e6:H6 p6==.tup [.int (qr (0*(B b.nm).1)).1,.int (qr (0*(B b.nm).1)).2]:=e6;rw[show(0:Rat)*(B b.nm).1=0 by grind] at e6;let n6:iE K H6 ⇑p6 0:=(p6,O,cb.of e6);show(v,⇑p6,4,hv.iz (M>>>s6),n6,z0.up gM,z0.up gM,λp7 H7 s7 e7=>?_);let e7:H7 p7==.tup [.int (qr (0+0)).1,.int (qr (0+0)).2]:=e7;rw[show(0:Rat)+0=0 by grind] at e7;show(6,L>>>(M>>>(s6>>>s7)),p7,O,cb.of e7)
 ·rintro Z H4 ⟨v,o5,o6,rfl,L,hv⟩
  show#[0,q v H4 ki okb (s3>>>L)]
def cell (ns:ρ)(k:Int):Int:=if k<(ns.length:Int) then (ns[k.toNat]?).getD 0 else ((((k+5)*(k+5)*48271).fmod 2147483647)*(((k+5)*(k+5)*48271).fmod 2147483647)).fmod 2147483629
def pj {x m:Int}(h:0<m):0<=x.fmod m/\x.fmod m<m:=#[ajZ x h,amI x h]
inductive qQ (K:Frag)(vs:ε)(H:Hp)(Q:VK)(Z:XK):Prop
|mk (a:BQ)(ns:ρ)(k:Int)(_:vs=[.ref a,.int k])(_:aY K H a (ns.map V.int))(_:0<=k)(_:k<=1000)(_:Q ↥(cell ns k) H)
def cell_in {ns:ρ}{k:Int}(X:0<=k)(h:k<(ns.length:Int)):oM (ns.map V.int) k==.int (cell ns k):=by
 let Z:k.toNat<ns.length:=gu
 let Y:k=((k.toNat:Nat):Int):=gu
 let q:oM (ns.map V.int) ((k.toNat:Nat):Int)==.int (cell ns k):=b9 (by
  unfold cell;rw[iB h,Wp,gE Z]
  rfl)
 rwa[<-Y] at q
def qR (h:i.natAbs<2^k):intBits i<=k:=intBits_le_iff.mpr h
def ahT:av ["_law_script","_law_k","_law_part"] yt (ae Wm):=sq
def aqk (D:Def K mg "_law_cell_at" Wm yt)(Q:mg "len"=none):!Fn CX 1 "_law_cell_at" yt (qQ K):=by
 show D.oo ahT λH N h=>?_;let(a,Z,k,rfl,T,R,M,q):=h
 show(_,(bN (bD kN .b (aI ay rfl Q cu (aU .a))) (aj (aC (bP aG .a .b))) aQ>>aw 2 ahT.nd (ax iQ (ax bQ (ax bQ (ax bW .b ag) (ax bW .b ag)) ag) ag)>>aj (aC (ax iQ (ax bQ .c .c) ag))),2)
 let U:(Z.map V.int).length=Z.length:=CA _;show(3,a,0,.inl T,1,0,2);show bH (λc=>?_) (λc=>?_)
 ·let Y:k<(((Z.map V.int).length:Nat):Int):=RE c
  rw[U] at Y;show(3,a,_,k,0,O,T,cell_in R Y,q)
 ·let Y:¬ k<(((Z.map V.int).length:Nat):Int):=of_decide_eq_false (WR.mpr c)
  rw[U] at Y;let X:intBits (k+5)<=11:=qR (by change _<2048;omega);let L:=pj (x:=(k+5)*(k+5)*48271) (m:=2147483647) gM;let S:intBits (((k+5)*(k+5)*48271).fmod 2147483647)<=31:=qR (by change _<2147483648;omega);show(0,1,0,1,1,#[CP X gM,CP X gM],1,#[CP (wc X X) gM,by decide+kernel],1,nz gM,3,1,#[CP S gM,CP S gM],1,nz gM,2)
  let e:cell Z k=((((k+5)*(k+5)*48271).fmod 2147483647)*(((k+5)*(k+5)*48271).fmod 2147483647)).fmod 2147483629:=by
   unfold cell;rw[iA Y]
  rwa[e] at q
def field (c p m:Int):Int:=(((c.fmod p+11)*48271).fmod p).fmod m
def bw (h:0<m):0<=field c p m/\field c p m<m:=pj h
inductive gL (vs:ε)(H:Hp)(Q:VK)(Z:XK):Prop
|mk (c p m:Int)(_:vs=[.int c,.int p,.int m])(_:0<p)(_:p<=2000000)(_:0<m)(_:Q ↥(field c p m) H)
def aql:av Vi Vi (ae Wn):=sq
def aqm (D:Def K mg "_law_field" Wn Vi):!Fn CX 1 "_law_field" Vi gL:=by
 show D.oo aql λH X h=>?_;let(c,p,m,rfl,Y,Z,U,q):=h;show(_,(aj (aC (ax iQ (ax iQ (ax bQ (ax bW (ax iQ .a .b) ag) ag) .b) .c))),2);let T:=pj (x:=c) Y;show(3,1,nz gu,1,1,#[CP (qR (k:=22) (by change _<4194304;omega)) gM,by decide+kernel],0,1,nz gu,0,1,nz gu,q)
inductive gI (vs:ε)(H:Hp)(Q:VK)(Z:XK):Prop
|mk (t b:Int)(_:vs=[.int t,.int b])(_:0<b)(_:gives H Q (low t b))
def UZ:av ["_law_top","_law_bottom","_law_one","_law_other"] Pc (ae Wo):=sq
def aqn (T:P.given.tree=none)(D:Def K mg "_law_lowest" Wo Pc)(J:mg "abs"=none):!am 33 "_law_lowest" Pc gI:=by
 show D.oo UZ λH S h=>?_;let(t,b,rfl,E,q):=h
 show(_,(aw 2 UZ.nd (aI ahS rfl J ahb (aU .a))>>aw 3 UZ.nd .b>>qY Pm (bD OD .d ag) (aj (ait (i:=2) (j:=3) rfl UZ.nd rfl rfl gM rfl rfl (aE .d (ax iQ .c .d)) rfl))>>aj (aC (aJ (aE (ax (gG T (Ty.cp.py S gM) rfl rfl rfl rfl rfl) .a .c) (ax (gG T (Ty.cp.py S gM) rfl rfl rfl rfl rfl) .b .c))))),2)
 show(0,t,7,2);show ahu (λZ U=>∃x y:Int,Z=[some ↥t,some ↥b,some ↥x,some ↥y]/\U=H/\0<=x/\0<=y/\Po x y=Po t b) (λZ _=>match Z with|[_,_,_,some ↥y]=>y.natAbs|_=>0) (_,b,8,2,gu,2) ?_ ?_
 ·split<;>omega
 ·split
  ·show Int.neg_gcd
  ·rfl
 ·rintro Z U ⟨x,y,rfl,rfl,I,R,g⟩
  show(0,7,2);show bH (λc=>?_) (λc=>?_)
  ·let Y:y≠0:=by
    intro z;subst z;simp at c
   show(3,0,1,Y,4,(1,R,ajZ _ gu,by rwa[agg]),ag4 Y)
  ·let Y:y=0:=by
    have:=WR.mpr c;simp at this;show this
   subst Y
   let e:x=sg t b:=by
    rw[aoI] at g;unfold sg;rw[iA gu];unfold gz;rw[<-g];omega
   subst e;let X:b≠0:=gu
   let c:=xV (t:=t) X;show(3,1,c,3,1,c,sZ,λp Q=>?_);show q p _ (ar Q _) af
 ·rintro Z U A C h ⟨v,L,M,k,N,z⟩
  show(v,L,M,k,N,h\z)
structure Ns (n:Nat)(q:Int×Int):Prop where
 top:q.1.natAbs<=2^n
 bot:q.2.natAbs<=2^n
def Ut (x y:Int×Int):Int×Int:=(x.1*y.2+y.1*x.2,x.2*y.2)
inductive Sh (K:Frag)(f:Int×Int->Int×Int->Int×Int)(vs:ε)(H:Hp)(Q:VK)(Z:XK):Prop
|mk (u v:V)(x y:Int×Int)(m n:Nat)(_:vs=[u,v])(_:qU K H u x)(_:qU K H v y)(_:Ns m x)(_:Ns n y)(_:m+n<=130000000)(_:gives H Q (f x y))
def aqo:av Tz Tz (ae Wq):=sq
def aqp (D:Def K mg "_law_sum" Wq Tz):!am 1 "_law_sum" Tz (Sh K Ut):=by
 show D.oo aqo λH J h=>?_;let(u,v,x,y,m,n,rfl,(U,rfl,S),(X,rfl,T),Y,Z,l,q):=h;show(_,(aj (aC (aJ (aE (ax bW (ax xB (aH .a) (aH .b)) (ax xB (aH .b) (aH .a))) (ax xB (aH .a) (aH .b)))))),0,U,5,S,iZ,0,X,5,T,i6,1,rH Y.top Z.bot gu,0,X,5,T,iZ,0,U,5,S,i6,1,rH Z.top Y.bot gu,1,0,U,5,S,i6,0,X,5,T,i6,1,rH Y.bot Z.bot gu,sZ,2);intros Q L M R N;show q Q M R N
def nameOf (st a k:Int):Str:=if st=0 then Txt.mul "p" (k+1) else if st=1 then Txt.mul "p" a++#[(List.toArray [(oM (Rj "bcdefghijklm").cps.toList k).getD 0])]++Txt.mul "p" (5-a) else Txt.slice "12345" none (some a)++(toString k:String)
def aka:∀st:Fin 3,∀a:Fin 6,∀k:Fin 12,∀j:Fin 12,k≠j->nameOf (st.val:Int) (a.val:Int) (k.val:Int)≠nameOf (st.val:Int) (a.val:Int) (j.val:Int):=d_k
def aku:∀n:Fin 20,MulOk "p" (n.val:Int):=by
 intro n;unfold MulOk
 revert n
 decide+kernel
def akv:∀k:Fin 12,oM (Rj "bcdefghijklm").cps.toList (k.val:Int)==((oM (Rj "bcdefghijklm").cps.toList (k.val:Int)).getD 0):=d_k
def aby:∀a:Fin 6,∀k:Fin 12,(Txt.mul "p" (a.val:Int)).length+(#[(List.toArray [(oM (Rj "bcdefghijklm").cps.toList (k.val:Int)).getD 0])]:Str).length<=1000/\
  (Txt.mul "p" (a.val:Int)++(#[(List.toArray [(oM (Rj "bcdefghijklm").cps.toList (k.val:Int)).getD 0])]:Str)).length+(Txt.mul "p" (5-(a.val:Int))).length<=1000/\(Txt.slice "12345" none (some (a.val:Int))).length+(Rj (toString (k.val:Int))).length<=1000:=d_k
inductive KR (vs:ε)(H:Hp)(Q:VK)(Z:XK):Prop
|mk (c k:Int)(_:vs=[.int c,.int k])(_:0<=k)(_:k<12)(_:Q (.str (nameOf (field c 3001 3) (field c 4001 6) k)) H)
def abz:av zaL U3 (ae Rx):=sq
def aqq (u:xZ CX)(D:Def K mg "_law_name" Rx U3)(M:mg "str"=none)(I:!Fn CX 1 "_law_field" Vi gL):!Fn CX 2 "_law_name" U3 KR:=by
 show D.op abz λf j A Y s H vs Q E J h=>?_;let(c,k,rfl,h0,o,q):=h;let L:=nI (X:=kO CX P w K mg gV zaL "_law_name" (ae Rx) f j A Y s H E) u
 show(_,(aw 2 abz.nd (cW I J.mo L (bS .a ag ag))>>aw 3 abz.nd (cW I J.mo L (bS .a ag ag))>>bN (bD dk .c ag) (aj (aC (ax HY dQ (ax bW .b ag)))) aQ>>bN (bD dk .c ag) (aj (aC (ax qk (ax qk (ax HY dQ .d) (bP aiD dQ .b)) (ax HY dQ (ax eK ag .d))))) aQ>>aj (aC (ax qk (dH ai0 dQ fV (eO .d)) (iK abb rfl M am0 (aU .b))))),2)
 let x:=bw (c:=c) (p:=3001) (m:=3) gM;let y:=bw (c:=c) (p:=4001) (m:=6) gM;show(0,6,gM,gM,gM,0,6,gM,gM,gM,2);generalize field c 3001 3=st at x q ⊢;generalize field c 4001 6=a at y q ⊢;obtain ⟨U,rfl⟩:∃n:Nat,k=(n:Int):=#[k.toNat,gu];obtain ⟨N,rfl⟩:∃n:Nat,a=(n:Int):=#[a.toNat,gu]
 let mk:∀i:Int,0<=i->i<20->MulOk "p" i:=λi a b=>by
  have:=aku #[i.toNat,gu]
  rwa[show((#[i.toNat,gu]:Fin 20).val:Int)=i by change ((i.toNat:Nat):Int)=i;omega] at this
 show(0,7,2);show bH (λz=>?_) (λz=>?_)
 ·let S:st=0:=by simpa[xr] using z
  subst S;show(0,1,1,mk _ gu gu,q)
 let S:¬ st=0:=by simpa[xr] using z
 let R:=aby #[N,gu] #[U,gu];show(0,7,2);show bH (λT=>?_) (λT=>?_)
 ·let Z:st=1:=by simpa[xr] using T
  subst Z;show(0,1,mk _ gu gu,0,5,d_k,akv #[U,gu],1,CP R.1 gM,0,1,1,mk _ gu gu,1,CP R.2.1 gM,q)
 ·let Z:¬ st=1:=by simpa[xr] using T
  show(3,0,d_k,2);let C:(U:Int).natAbs.log2<1920:=K' (Nat.log2_le_self _) (by change U<1920;omega);show(3,C,1,CP R.2.2 gM,2)
  let e:nameOf st (N:Int) (U:Int)=Txt.slice "12345" none (some (N:Int))++Rj (toString (U:Int)):=by
   unfold nameOf;rw[iA S,iA Z]
  rwa[e] at q
def oq (ws:Η):Prop:=ws=[]\/(∃x y:Rat,ws=[(x,y)]/\¬ (x=0/\y=0)/\Sz 22 x/\Sz 22 y)\/ws=[(1,0),(0,1)]
def qS (i:Int)(h:H p==.tup [↥i,↥1]):iE K H ⇑p (i:Rat):=(p,O,![yA] (cb.of h))
def qc (h:H p==.tup [.int (qr r).1,.int (qr r).2]):iE K H ⇑p r:=(p,O,cb.of h)
def sJ (h:H p==.tup [u,v])(Y:iE K H u r)(Z:iE K H v s):gx K H ⇑p (r,s):=(p,u,v,O,cb.of h,Y,Z)
def sL {i:Int}(h:i.natAbs<1048576)(Z:20<=k):Sz k (i:Rat):=IE (Qi h (show 2^20<=2^k from Vd gM Z)) gu
def pC {t b:Int}(h:0<b)(Y:t.natAbs<1048576)(Z:b<1048576):Sz 20 ((t:Rat) / (b:Rat)):=yB (VB h) (intBits_le_iff.mpr (by change _<1048576;omega)) (intBits_le_iff.mpr (by change _<1048576;omega))
inductive KU (K:Frag)(vs:ε)(H:Hp)(Q:VK)(Z:XK):Prop
|mk (c k:Int)(_:vs=[.int c,.int k])(_:∀(p:BQ)(x y:Rat)(H':Hp),aq H H' ->Sz 20 x->Sz 20 y->gx K H' (.ref p) (x,y)->Q (.ref p) H')
def abB:av ["_law_cell","_law_kind","_law_x"] n_ (ae Ws):=sq
def aqr (D:Def K mg "_law_spot" Ws n_)(X:!am 1 "_law_field" Vi gL)(L:!am 33 "_law_lowest" Pc gI):!am 34 "_law_spot" n_ (KU K):=by
 show D.oo abB λH Z h=>?_;let(c,k,rfl,q):=h;let L2:2<=CM:=gM
 show(_,(bN (bD dk .b ag) (aj (aC (aJ (aE (aJ (aE (a9 X Z (bS .a ag ag)) ag)) (aJ (aE (a9 X Z (bS .a ag ag)) ag)))))) aQ>>bN (bD dk .b ag) (aw 2 abB.nd .K>>aj (aC (aJ (aE .c .K)))) aQ>>aw 2 abB.nd .K>>aj (aC (aJ (aE .c .K)))),2);sleep 3
 show(0,7,2);show bH (λ_=>?_) (λ_=>?_)
 ·let A:=bw (c:=c) (p:=1009) (m:=4) gM
  let C:=bw (c:=c) (p:=2003) (m:=4) gM;show(0,6,gM,gM,gM,L2,2);intros I j y R S;show(0,6,gM,gM,gM,L2,2);intros J o z U T;show#[L2,2];intros Q E M Y N;show q Q _ _ M (R>>>U>>>Y) (sL gu gM) (sL gu gM) (sJ N (((qS _ S).iz U).iz Y) ((qS _ T).iz Y))
 show(0,7,2);show bH (λ_=>?_) (λ_=>?_)
 ·let A:=bw (c:=c) (p:=1009) (m:=13) gM
  let C:=bw (c:=c) (p:=3001) (m:=3) gM;let u:=bw (c:=c) (p:=2003) (m:=13) gM;let x:=bw (c:=c) (p:=4001) (m:=2) gM;show(0,6,gM,gM,gM,1,0,6,gM,gM,gM,1,4,gu,λI y R S=>?_);rw[gA gu] at S;show(3,6,gM,gM,gM,1,0,6,gM,gM,gM,1,4,gu,λJ z U T=>#[L2,2]);rw[gA gu] at T;intros Q E M Y N;show q Q _ _ M (R>>>U>>>Y) (pC gu gu gu) (pC gu gu gu) (sJ N (((qc S).iz U).iz Y) ((qc T).iz Y))
 ·let A:=bw (c:=c) (p:=1000003) (m:=1000003) gM
  let C:=bw (c:=c) (p:=3001) (m:=997) gM;let u:=bw (c:=c) (p:=1000033) (m:=1000003) gM;let x:=bw (c:=c) (p:=4001) (m:=997) gM;show(0,6,gM,gM,gM,1,0,6,gM,gM,gM,1,4,gu,λI y R S=>?_);rw[gA gu] at S;show(3,6,gM,gM,gM,1,0,6,gM,gM,gM,1,4,gu,λJ z U T=>#[L2,2]);rw[gA gu] at T;intros Q E M Y N;show q Q _ _ M (R>>>U>>>Y) (pC gu gu gu) (pC gu gu gu) (sJ N (((qc S).iz U).iz Y) ((qc T).iz Y))
inductive KW (K:Frag)(vs:ε)(H:Hp)(Q:VK)(Z:XK):Prop
|mk (c:Int)(_:vs=[.int c])(_:∀(l:BQ)(us:ε)(ws:Η)(H':Hp),oq ws->aq H H' ->H l=none->H' l==.lst us->pM K H' us ws->Q (.ref l) H')
def af8 :(qr r).1=0 ↔ r=0:=#[JI,λe=>![e,cR]]
def Qf:av ["_law_cell","_law_kind","_law_x","_law_y"] vA (ae Wt):=sq
def aqs (D:Def K mg "_law_ways" Wt vA)(cU:!am 1 "_law_field" Vi gL)(C_:!am 33 "_law_lowest" Pc gI):!am 34 "_law_ways" vA (KW K):=by
 show D.op Qf λf bx A outer s H vs Q E R h=>?_;let(c,rfl,q):=h;let L0:0<=CM:=gM
 let L1:1<=CM:=gM
 let L2:2<=CM:=gM
 show(_,(aw 1 Qf.nd (a9 cU R (bS .a ag ag))>>bN (bD kN .b ag) (aj (aC (bJ ij))) aQ>>bN (bD kN .b ag) (aj (aC (bJ (aE .B .B)))) aQ>>aw 2 Qf.nd (a9 C_ R (aE (ax eK (a9 cU R (bS .a ag ag)) ag) (ax bW ag (a9 cU R (bS .a ag ag)))))>>aw 3 Qf.nd (a9 C_ R (aE (ax eK (a9 cU R (bS .a ag ag)) ag) (ax bW ag (a9 cU R (bS .a ag ag)))))>>bN (PW.pt (m_ (bD dk (aH .c) ag) (jS (bD dk (aH .d) ag)))) (aj (aw 3 Qf.nd (aJ (aE ag ag)))) aQ>>aj (aC (bJ (aU (aJ (aE .c .d)))))),2);sleep 6
 show(0,6,gM,gM,gM,0,1,0,2);show bH (λ_=>?_) (λ_=>?_)
 ·show#[L0,2]
  intros l nl H1 s1 I;show q l [] [] H1 .V s1 nl I .nil
 show(0,1,0,2);show bH (λ_=>?_) (λ_=>?_)
 ·show#[L2,2]
  intros p1 n1 H1 s1 I;show#[L2,2];intros p2 n2 H2 s2 J;show#[L2,2];intros p3 n3 T U e3;show#[L2,2];intros o n4 H4 Y L;show#[L2,2];intros p5 j X Z M;show#[L2,2];intros p6 n6 H6 u e6;show#[L2,2];intros p7 n7 H7 S e7;let sh:=s1>>>(s2>>>(U>>>(Y.trans (Z.trans u))));let w1:gx K H7 ⇑p3 (1,0):=vH uN cR (S\(u _ _ (Z _ _ (Y _ _ e3)))) (S\(u _ _ (Z _ _ (Y _ _ (U _ _ (s2 _ _ I)))))) (S\(u _ _ (Z _ _ (Y _ _ (U _ _ J)))));let w2:gx K H7 ⇑p6 (0,1):=vH cR uN (S\e6) (S\(u _ _ (Z _ _ L))) (S\(u _ _ M));show q p7 _ [(1,0),(0,1)] _ (.inr (.inr rfl)) (sh>>>S) (sh.free n7) e7 (.cons w1 (.cons w2 .nil))
 let i1:=bw (c:=c) (p:=6007) (m:=7) gM;let i2:=bw (c:=c) (p:=7001) (m:=3) gM;let i3:=bw (c:=c) (p:=8009) (m:=7) gM;let i4:=bw (c:=c) (p:=9001) (m:=2) gM;show(0,6,gM,gM,gM,1,0,6,gM,gM,gM,1,4,gu,λp1 H1 s1 I=>?_);rw[gA gu] at I;show(0,6,gM,gM,gM,1,0,6,gM,gM,gM,1,4,gu,λp2 H2 s2 J=>?_);rw[gA gu] at J;let z1:=pC (t:=field c 6007 7-3) (b:=1+field c 7001 3) gu gu gu;let z2:=pC (t:=field c 8009 7-3) (b:=1+field c 9001 2) gu gu gu;generalize ((field c 6007 7-3:Int):Rat) / ((1+field c 7001 3:Int):Rat)=x at I z1 ⊢;generalize ((field c 8009 7-3:Int):Rat) / ((1+field c 9001 2:Int):Rat)=y at J z2 ⊢;have Q6 :=s2\I;let rS:=s1>>>s2
 let N:∀(v:V)(C:Rat)(T:Hp),aq H2 T->iE K T v C ->Sz 22 C ->¬ (x=0/\C=0)->∀(p:BQ)(l:BQ)(X:Hp),aq T X->T l=none->X p==.tup [⇑p1,v]->X l==.lst [⇑p]->Q ⇑l X:=λv C T U hv zy hn p l X Z nl ep el=>
  q l [⇑p] [(x,C)] X (.inr (.inl (x,C,O,hn,z1.up gM,zy))) (rS>>>(U>>>Z)) ((rS>>>U).free nl) el (.cons (sJ ep (((qc Q6).iz U).iz Z) (hv.iz Z)) .nil)
 show(0,p1,5,cb.of Q6,iZ,7,2);show bH (λc1=>?_) (λc1=>?_)
 ·have v9 :x=0:=af8.mp (~~~RE c1)
  show(0,p2,5,cb.of J,iZ,7,2);show bH (λc2=>?_) (λc2=>?_)
  ·show#[L2,2]
   intros p3 n3 T U e3;show(3,L2,2);intros o n4 H4 Y L;show#[L1,2];intros l5 j X Z M;show N ⇑p3 1 T U (qS 1 e3) (sL (i:=1) gM gM) (λz=>CC z.2 gM) o l5 X (Y>>>Z) (Y.free j) (Z\L) M
  ·let c2':¬ y=0:=λz=>c2 (by rw[z,cR];decide)
   show(3,L2,2);intros o n4 H4 Y L;show#[L1,2];intros l5 j X Z M;show N ⇑p2 y H2 .L (qc J) (z2.up gM) (λz=>c2' z.2) o l5 X (Y>>>Z) (Y.free j) (Z\L) M
 ·have v9 :¬ x=0:=λz=>c1 (by rw[z,cR];decide)
  show nF ?_;show(3,L2,2);intros o n4 H4 Y L;show#[L1,2];intros l5 j X Z M;show N ⇑p2 y H2 .L (qc J) (z2.up gM) (λz=>v9 z.1) o l5 X (Y>>>Z) (Y.free j) (Z\L) M
inductive sO (K:Frag)(H:Hp)(d:BQ)(v:V)(p:bK):Prop
|mk (a l:BQ)(s:V)(us:ε)(_:v=.ref a)(_:cb K H a [.str p.nm,s,.ref l])(_:gx K H s p.sp)(_:H l==.lst us)(_:pM K H us p.ws)(_:l≠d)
inductive zD (K:Frag)(H:Hp)(v:V)(p:bK):Prop
|mk (a l:BQ)(s:V)(us:ε)(_:v=.ref a)(_:cb K H a [.str p.nm,s,.ref l])(_:gx K H s p.sp)(_:H l==.lst us)(_:pM K H us p.ws)
inductive u6 (K:Frag)(H:Hp)(AP:Α)(v:V)(b:cZ):Prop
|mk (a:BQ)(i j:Nat)(_:v=.ref a)(_:cb K H a [.str b.nm,.int (i:Int),.int (j:Int)])(_:AP[i]?==b.one)(_:AP[j]?==b.jg)
section
variable {K:Frag}{H H':Hp}{v:V}{p:bK}{d:BQ}
theorem sO.iz (h:sO K H d v p)(s:aq H H'):sO K H' d v p:=by
 let(a,l,Y,Z,e,R,S,T,U,X):=h;show(a,l,Y,Z,e,Ty.aq.iM s R,S.iz s,s\T,U.iz s,X)
theorem sO.upd (h:sO K H d v p)(e:H d==.lst xs):sO K (L2.upd H d o) d v p:=by
 let(a,l,X,Y,ev,S,T,R,U,Z):=h;let t:bh H (L2.upd H d o):=.list e;show(a,l,X,Y,ev,t.iM S,T.bC t,by rwa[ah Z],U.bC t,Z)
def sO.r (h:sO K H d v p):zD K H v p:=by
 let(a,l,Y,Z,e,S,T,U,X,_):=h;show(a,l,Y,Z,e,S,T,U,X)
theorem zD.iz (h:zD K H v p)(s:aq H H'):zD K H' v p:=by
 let(a,l,Y,Z,e,S,T,U,X):=h;show(a,l,Y,Z,e,Ty.aq.iM s S,T.iz s,s\U,X.iz s)
def u6.iz (h:u6 K H AP v b)(s:aq H H'):u6 K H' AP v b:=by
 let(a,i,j,e,X,Y,Z):=h;show(a,i,j,e,Ty.aq.iM s X,Y,Z)
end
structure zE (AP:Α):Prop where
 np:(AP.map (·.nm)).Nodup
 ns:(AP.map (·.sp)).Nodup
 sz:∀p∈AP,Sz 24 p.sp.1/\Sz 24 p.sp.2
 ws:∀p∈AP,oq p.ws
def oq.sz (h:oq ws):∀w∈ws,Sz 22 w.1/\Sz 22 w.2:=λw Z=>by
 rcases h with rfl|⟨x,y,rfl,_,T,U⟩|rfl
 ·cases Z
 ·have:w=(x,y):= ~~~Z
  rw[this];show#[T,U]
 ·let Y:Sz 22 (1:Rat):=sL (k:=22) (i:=1) gM gM
  let X:Sz 22 (0:Rat):=gm gM;have:w=(1,0)\/w=(0,1):= ~~~Z
  rcases this with rfl|rfl
  ·show#[Y,X]
  ·show#[X,Y]
def oq.len (h:oq ws):ws.length<=2:=by
 rcases h with rfl|⟨x,y,rfl,_⟩|rfl<;>simp
def zE.snoc (g:zE AP)(R:p.nm∉AP.map (·.nm))(S:p.sp∉AP.map (·.sp))(T:Sz 24 p.sp.1/\Sz 24 p.sp.2)(U:oq p.ws):zE (AP++[p]):=by
 show(2,2,λq Z=>?_,λq Z=>?_)
 ·rw[RL,ano]
  show(g.np,by simp,λa X b Y e=>R ?_);have:b=p.nm:= ~~~Y
  rwa[<-this,<-e]
 ·rw[RL,ano]
  show(g.ns,by simp,λa X b Y e=>S ?_);have:b=p.sp:= ~~~Y
  rwa[<-this,<-e]
 ·rcases OB.mp Z with z|z
  ·show g.sz q z
  ·rw[OK.mp z]
   show T
 ·rcases OB.mp Z with z|z
  ·show g.ws q z
  ·rw[OK.mp z]
   show U
structure zF (AP:Α)(BO:Μ):Prop where
 nb:(BO.map (·.nm)).Nodup
 ends:∀b∈BO,b.one∈AP/\b.jg∈AP/\b.one.nm≠b.jg.nm
theorem j7 :∀{X:List Y} {Z:List β} {a:Y} {b:β},Paired F X Z->F a b->Paired F (X++[a]) (Z++[b])
 | _,_,_,_,.nil,h=>.cons h .nil
 | _,_,_,_,.cons h t,h'=>.cons h (j7 t h')
def fo (inv:L2.St->Hp->Prop)(U:∀N:L2.St->Hp->Prop,(∀Y H',inv Y H' ->N Y H')->t {D with nx:=N} Z H)(X:∀Y H',inv Y H' ->u D Y H'):DB t u D Z H:=U _ X
def aqt (g:zE AP)(b:zF AP BO)(Y:AP.length<=7)(X:BO.length<=8):jZ AP BO:=
 (g.np,b.nb,b.ends,λp Z=>((g.sz p Z).1,(g.sz p Z).2,(g.ws p Z).sz),Y,X,λp Z=>(g.ws p Z).len)
def aqu:V0 "min"==.builtin "min":=d_k
def cnt (AP:Α)(x:Rat):Nat:=(AP.filter λp=>decide (x<=p.sp.1)).length
theorem abC (x:Rat):∀AP:List bK,cnt AP (x+1)<=cnt AP x
 | []=>CK _
 | p::ps=>by
  let Z:=abC x ps;unfold cnt at Z ⊢;rw[al8,al8];by_cases c:x+1<=p.sp.1
  ·let Y:x<=p.sp.1:=by grind
   rw[iB (Qd c),iB (Qd Y)];simpa using Z
  ·rw[iA (~~~c)]
   split
   ·rw[VN]
    omega
   ·show Z
theorem abD :∀{AP:Α},(∃p∈AP,p.sp.1=x)->cnt AP (x+1)<cnt AP x
 | [],⟨p,h,_⟩=>by simp at h
 | p::ps,⟨q,U,e⟩=>by
  unfold cnt;rw[al8,al8];by_cases T:p.sp.1=x
  ·let c:¬ x+1<=p.sp.1:=by grind
   let Y:x<=p.sp.1:=by grind
   rw[iA (~~~c),iB (Qd Y),VN];have:=abC x ps;unfold cnt at this;omega
  ·have X :q∈ps:=by
    rcases QQ.mp U with z|z
    ·show CC (by rwa[<-z]) T
    ·show z
   let Z:=abD (AP:=ps) (q,X,e);unfold cnt at Z;by_cases c:x+1<=p.sp.1
   ·let Y:x<=p.sp.1:=by grind
    rw[iB (Qd c),iB (Qd Y)];simpa using Z
   ·rw[iA (~~~c)]
    split
    ·rw[VN]
     omega
    ·show Z
def af9 (AP:Α)(x:Rat):cnt AP x<=AP.length:=T2 _ _
def af' (r:Rat):Ut (qr r) (1,1)=qr (r+1):=by
 let e:Ut (qr r) (1,1)=((qr r).1+(qr r).2,(qr r).2):=by
  unfold Ut;simp
 let g:Po ((qr r).1+(qr r).2) (qr r).2=1:=by
  have:=nY r;rw[<-this];simp
 rw[e,yz (q:=((qr r).1+(qr r).2,(qr r).2)) (dq r) g];congr 1;let z:=Ph (r:=r);let v:=iI r;unfold vl at v ⊢;push_cast;grind
def aqv (h:Sz k r):Ns k (qr r):=#[RK (intBits_le_iff.mp h.top),RK (intBits_le_iff.mp h.bot)]
def aga:∀i:Fin 8,∃N:Fin 5,oM [V.int 0,↥1,↥2,↥2,↥3,↥3,↥3,↥4] (i.val:Int)==.int (N.val:Int):=d_k
def akw:∀s:Fin 3,∀a:Fin 6,∀k:Fin 5,nameOf (s.val:Int) (a.val:Int) (k.val:Int)≠ "zz":=d_k
inductive KY (K:Frag)(vs:ε)(H:Hp)(Q:VK)(Y:XK):Prop
|mk (Z:BQ)(ns:ρ)(_:vs=[.ref Z])(_:aY K H Z (ns.map V.int))(_:∀(l:BQ)(us:ε)(AP:Α)(H':Hp),aq H H' ->H l=none->H' l==.lst us->Paired (zD K H') us AP->zE AP->AP.length<=4->("zz":Str)∉AP.map (·.nm)->Q (.ref l) H')
def cg:av ["_law_script","_law_cell","_law_many","_law_kind","_law_pins","_law_k","_law_spot_here"] Pe (ae d9):=sq
def adD (D:Def K mg "_law_few_pins" d9 Pe)(bE:mg "range"=none)(abE:mg "min"=none)(sR:!am 1 "_law_cell_at" yt (qQ K))(cU:!am 1 "_law_field" Vi gL)
  (azw:!am 34 "_law_spot" n_ (KU K)) (azx:!am 34 "_law_ways" vA (KW K)) (akx:!am 2 "_law_name" U3 KR) (azy:!am 1 "_law_sum" Tz (Sh K Ut)):
  am P w K mg gV 35 "_law_few_pins" Pe (KY K):=by
 show D.oo cg λH E h=>?_;let(y,ns,rfl,hS,q):=h;let L2:2<=CM:=gM
 let L3:3<=CM:=gM
 show(_,(aw 1 cg.nd (a9 sR E (aE .a ag))>>aw 2 cg.nd (bP aG (bJ (Q7 ag (Q7 ag (Q7 ag (Q7 ag (Q7 ag (bS ag ag ag))))))) (a9 cU E (bS .b ag ag)))>>aw 3 cg.nd (a9 cU E (bS .b ag ag))>>bN (bD dk .d ag) (aj (aw 2 cg.nd (aI (zab rfl) rfl abE aqu (aE .c ag)))) aQ>>aw 4 cg.nd (bJ ij)>>bV Pm rfl (fu rfl bE (aU .c)) (cE 5 cg.nd) (aw 6 cg.nd (a9 azw E (aE (a9 sR E (aE .a (ax bW ag .f))) .d))>>qY Pm (oK (afb E.units) .g (ix (tn:=["_law_pin"]) (fr:=[]) (mQ:=[]) (bT .e) .D) rfl) (aj (aw 6 cg.nd (aJ (aE (a9 azy E (aE (aH .g) (aJ (aE ag ag)))) (aH .g)))))>>aj (cn (nE Zn OW OS g6 .e (aU (aJ (bS (a9 akx E (aE .b .f)) .g (a9 azx E (aU (a9 sR E (aE .a (ax bW ag .f)))))))))))>>aj (aC .e)),2);try dsimp only[nK,kO,Cx.t_,Cx.tZ]
 show(0,y,ns,(0),O,hS,gM,gM,2);generalize cell ns 0=Y;show#[z8L,2];intros t0 nt0 H0 st0 et0;let i1:=bw (c:=Y) (p:=1009) (m:=8) gM;show(0,6,gM,gM,gM,2);generalize field Y 1009 8=fi at i1 ⊢;obtain ⟨fn,rfl⟩:∃n:Nat,fi=(n:Int):=#[fi.toNat,gu];let(N,eN):=aga #[fn,gu];show(t0,5,aY.of et0,eN,0,6,gM,gM,gM,2);generalize field Y 2003 3=T;dsimp only[lU,oI];show fo (λZ' S=>∃N:Nat,N<=4/\Z' =[some ⇑y,some ↥Y,some ↥(N:Int),some ↥T,none,none,none]/\S=H0) (λNx mF=>?_) ?_
 ·show(0,7,2)
  show bH (λ_=>?_) (λ_=>?_)
  ·let hN:=N.isLt
   show(0,4,mF\(min N.val 3,gu,2,O))
   have:(if (3:Int)<(N.val:Int) then (3:Int) else (N.val:Int))=((min N.val 3:Nat):Int):=by
    split<;>omega
   rw[this];rfl
  ·show mF\(N.val,by have:=N.isLt;omega,8)
 rintro Z' S ⟨N,hN,rfl,rfl⟩;show#[z0L,2];intros Q np H1 sp ep;let s01:=st0>>>sp;let UK:H Q=none:=st0.free np;show(0,(N:Int),O,gu,gu,let I:fM:=λi Z S=>Ex4 λ(o5 o6:Β) (J:ε) (X:Α)=>Z=[cr y,some ↥Y,some ↥(N:Int),some ↥T,cr Q,o5,o6]/\aq H S/\S Q==.lst J/\Paired (sO K S Q) J X/\zE X/\X.length=i/\∀p∈X,∃j,j<i/\p.nm=nameOf (field Y 3001 3) (field Y 4001 6) (j:Int);fU (lo:=0) (n:=N) I (none,none,[],[],O,s01,ep,.nil,(by simp,by simp,by simp,by simp),O,by simp) ?_ ?_)
 ·rintro i Z H2 hi ⟨o5,o6,J,X,rfl,s2,e2,pp,gp,lpi,nm⟩
  let ei:(0:Int)+(i:Int)=(i:Int):=VM _;rw[ei];let lu:J.length=X.length:=RY pp;show(3,1,y,ns,0,s2.seq hS,gu,gu,0,4,λp3 U L H3 s3 zx zy h3=>?_);let s23:=s2>>>s3
  let h30:gx K H3 ⇑p3 (U+((0:Nat):Rat),L):=by
   let e:U+((0:Nat):Rat)=U:=by
    have:((0:Nat):Rat)=0:=by rfl
    rw[this];grind
   rwa[e]
  dsimp only[lU,oI];show fo (λZ' S=>QJ λ(M:V) (x:Rat)=>Z' =[some ⇑y,some ↥Y,some ↥(N:Int),some ↥T,some ⇑Q,some ↥(i:Int),some M]/\aq H3 S/\gx K S M (x,L)/\Sz 24 x/\(x,L)∉X.map (·.sp)) (λNx mF=>?_) ?_
  ·show(λm Z S=>QJ λ(M:V) (j:Nat)=>Z=[cr y,some ↥Y,some ↥(N:Int),some ↥T,cr Q,some ↥(i:Int),some M]/\aq H3 S/\gx K S M (U+(j:Rat),L)/\m=cnt X (U+(j:Rat))/\j+cnt X (U+(j:Rat))<=X.length,(9,(0),O,aq.refl _,h30,O,by have:=af9 X (U+((0:Nat):Rat));omega),2)
   rintro m Z H4 ⟨M,j,rfl,s4,h4,rfl,hj⟩;let e4:=(s3>>>s4) _ _ e2;let pp4:Paired (sO K H4 Q) J X:=Paired.dP pp λ_ _ z=>z.iz (s3>>>s4);let zj:Sz 24 (U+(j:Rat)):=(zx.add (IE (i:=(j:Int)) (k:=3) (show _<8 by omega) gM)).up gM;show(3,Q,O,#[_,aY.of e4],λD1 n1=>?_)
   show du (oC:=[]) (K:=K) (a:=Q) (xs:=J) (λi v H=>∃p,X[i]?==p/\gx K H v p.sp) n1 (![lu] (K' (show X.length<=1000 by omega) gM)) (λH2 s2=>aY.of (s2\e4)) (λ_ _ _ _ _ h0 ks h=>by
     let(p,h1,h2):=h;show(p,h1,h2.bC λb xs r=>?_)
     rcases r with r|⟨o',r⟩
     ·show .inl (ks _ _ (λe=>by erw[e,h0] at r) r)
     ·show .inr #[o',ks _ _ (λe=>by erw[e,h0] at r) r]) ?_ ?_
   ·intro jj u H6 R hu s6 k
    let(p,QL,A):=aV pp4 hu;let(a,l,M,jh,rfl,h1,h2,_):=A;show(0,a,5,Ty.aq.iM s6 h1,O,k _ _ .L (p,QL,h2.iz s6))
   intro ys H6 hy gY s6 hD
   let pq:pM K H6 ys (X.map (·.sp)):=g_ (![CA,hy,lu]) λj u q' Q6 e2'=>by
    let(p,h1,h2):=gY j u Q6;erw[Wp,h1] at e2';show h2
   let h6:=h4.iz s6;show((U+(j:Rat),L),D1,ys,0,aY.of hD,h6,pq,0,2);show bH (λcc=>?_) (λcc=>?_)
   ·let mem:(U+(j:Rat),L)∈X.map (·.sp):= ~~~cc
    let(p,A,QL):=CS.mp mem;let lt:=abD (x:=U+(j:Rat)) (p,A,![QL])
    let f:U+(j:Rat)+1=U+((j+1:Nat):Rat):=by
     push_cast;grind
    rw[f] at lt;show(λZ' S=>∃(M:V),Z' =[some ⇑y,some ↥Y,some ↥(N:Int),some ↥T,some ⇑Q,some ↥(i:Int),some M]/\aq H3 S/\gx K S M (U+((j+1:Nat):Rat),L),λZ' S ⟨sv',h1,h2,h3⟩=>(_,lt,sv',j+1,h1,h2,h3,O,gu),2);let(sa,u1,u2,rfl,P7,hn1,Om):=h6;show(0,sa,5,P7,iZ,L2,2);intros p7 n7 H7 s7 e7;show(u1,⇑p7,qr (U+(j:Rat)),(1,1),(50),(1),O,hn1.iz s7,(p7,O,cb.of e7),aqv (zj.up gM),#[gM,gM],gM,λp8 H8 s8 e8=>?_);rw[af',f] at e8;show(0,sa,5,Ty.aq.iM (s7>>>s8) P7,i6,L2,2);intros p9 n9 H9 s9 e9;let s69:=s7>>>s8>>>s9;show(⇑p9,O,s4>>>s6>>>s69,sJ e9 ((qc e8).iz s9) (Om.iz s69))
   ·let fresh:(U+(j:Rat),L)∉X.map (·.sp):= ~~~cc
    show mF\(M,U+(j:Rat),O,s4>>>s6,h6,zj,fresh)
  rintro Z' H4 ⟨M,x,rfl,s4,h4,zx',fresh⟩;let s24:=s3>>>s4;let mO:=s2>>>s24;let e4:=s24\e2;let pp4:Paired (sO K H4 Q) J X:=Paired.dP pp λ_ _ z=>z.iz s24;show(0,.inl (O,_,aY.of e4),3,4,gu,gu,3,0,1,y,ns,0,mO.seq hS,gu,gu,0,λl8 us8 ws H8 wk s8 n8 e8 p8=>#[L3,2]);intros p9 n9 H9 s9 e9;let C:=s8>>>s9;let e49:=C\e4;let pp9:Paired (sO K H9 Q) J X:=Paired.dP pp4 λ_ _ z=>z.iz C;show(Q,1,e49,(![lu] (K' (show X.length<=1000 by omega) gM)),2);let ue:sO K H9 Q ⇑p9 (nameOf (field Y 3001 3) (field Y 4001 6) (i:Int),(x,L),ws):=(p9,l8,M,us8,O,cb.of e9,h4.iz C,s9\e8,p8.iz s9,λz=>by erw[z,e4] at n8);show(9,_,X++[(nameOf (field Y 3001 3) (field Y 4001 6) (i:Int),(x,L),ws)],O,λb o z=>?_,af,j7 (Paired.dP pp9 λ_ _ z=>z.upd e49) (ue.upd e49),gp.snoc (λz=>?_) fresh #[zx',zy.up gM] wk,by simp[lpi],λp A=>?_)
  ·rw[ah (ak z UK)]
   show C\(mO _ _ z)
  ·let(p,A,QL):=CS.mp z
   let(j,hj,f):=nm p A;let i3:=bw (c:=Y) (p:=3001) (m:=3) gM;let i4:=bw (c:=Y) (p:=4001) (m:=6) gM
   have:=aka #[(field Y 3001 3).toNat,gu] #[(field Y 4001 6).toNat,gu] #[j,gu] #[i,gu] (λz=>by
    have:=sU Fin.val z;simp at this
    omega)
   show this ?_;change nameOf (((field Y 3001 3).toNat:Nat):Int) (((field Y 4001 6).toNat:Nat):Int) (j:Int)=nameOf (((field Y 3001 3).toNat:Nat):Int) (((field Y 4001 6).toNat:Nat):Int) (i:Int);rwa[show(((field Y 3001 3).toNat:Nat):Int)=field Y 3001 3 by omega,show(((field Y 4001 6).toNat:Nat):Int)=field Y 4001 6 by omega,<-f]
  ·rcases OB.mp A with z|z
   ·let(j,hj,f):=nm p z
    show(j,gu,f)
   ·rw[OK.mp z]
    show(i,gu,O)
 ·rintro Z H2 ⟨o5,o6,J,X,rfl,s2,e2,pp,gp,lpi,nm⟩
  show#[0,q Q J X H2 s2 UK e2 (Paired.dP pp λ_ _ z=>z.r) gp gu λz=>?_];let(p,A,e):=CS.mp z;let(j,hj,f):=nm p A;let i3:=bw (c:=Y) (p:=3001) (m:=3) gM;let i4:=bw (c:=Y) (p:=4001) (m:=6) gM;show akw #[(field Y 3001 3).toNat,gu] #[(field Y 4001 6).toNat,gu] #[j,gu] ?_;change nameOf (((field Y 3001 3).toNat:Nat):Int) (((field Y 4001 6).toNat:Nat):Int) (j:Int)="zz";rwa[show(((field Y 3001 3).toNat:Nat):Int)=field Y 3001 3 by omega,show(((field Y 4001 6).toNat:Nat):Int)=field Y 4001 6 by omega,<-f]
inductive KZ (K:Frag)(vs:ε)(H:Hp)(Q:VK)(U:XK):Prop
|mk (Z Y:BQ)(ns:ρ)(us:ε)(AP:Α)(_:vs=[.ref Z,.ref Y])(_:aY K H Z (ns.map V.int))(_:H Y==.lst us)(_:us.length=AP.length)(_:(AP.map (·.nm)).Nodup)(_:AP.length<=6)(_:∀(l:BQ)(X :ε)(BO:Μ)(H':Hp),aq H H' ->H l=none->H' l==.lst X->Paired (u6 K H' AP) X BO->zF AP BO->BO.length<=5->Q (.ref l) H')
def zF.snoc (g:zF AP BO)(U:b.nm∉BO.map (·.nm))(X:b.one∈AP/\b.jg∈AP/\b.one.nm≠b.jg.nm):zF AP (BO++[b]):=by
 show#[2,λq Z=>?_]
 ·rw[RL,ano]
  show(g.nb,by simp,λa T c Y e=>U ?_);have:c=b.nm:= ~~~Y
  rwa[<-this,<-e]
 ·rcases OB.mp Z with z|z
  ·show g.ends q z
  ·rw[OK.mp z]
   show X
def vK:av ["_law_script","_law_pins","_law_cell","_law_many","_law_bars_here","_law_k","_law_one","_law_step"] qa (ae Wu):=sq
def aqx (D:Def K mg "_law_bars" Wu qa)(bE:mg "range"=none)(a_:mg "len"=none)(sR:!am 1 "_law_cell_at" yt (qQ K))(cU:!am 1 "_law_field" Vi gL)(akx:!am 2 "_law_name" U3 KR):
  am P w K mg gV 3 "_law_bars" qa (KZ K):=by
 show D.oo vK λH M h=>?_;let(C,J,Q,U,X,rfl,hS,hp,lu,np,lp,q):=h;let L3:3<=CM:=gM
 show(_,(aw 2 vK.nd (a9 sR M (aE .a ag))>>aw 3 vK.nd (a9 cU M (bS .c ag ag))>>bN (bD kN .R ag) (aj (aw 3 vK.nd ag)) aQ>>aw 4 vK.nd (bJ ij)>>bV Pm rfl (fu rfl bE (aU .d)) (cE 5 vK.nd) (aw 6 vK.nd (a9 cU M (bS (a9 sR M (aE .a (ax bW ag .f))) ag .R))>>aw 7 vK.nd (ax bW ag (a9 cU M (bS (a9 sR M (aE .a (ax bW ag .f))) ag (ax eK .R ag))))>>aj (cn (nE Zn OW OS g6 .e (aU (aJ (bS (a9 akx M (aE .c .f)) .g (ax iQ (ax bW .g .h) .R)))))))>>aj (aC .e)),2);try dsimp only[nK,kO,Cx.t_,Cx.tZ]
 show(0,C,Q,(1),O,hS,gM,gM,2);generalize cell Q 1=Y;let i1:=bw (c:=Y) (p:=1009) (m:=6) gM;show(0,6,gM,gM,gM,2);generalize field Y 1009 6=fi at i1 ⊢;obtain ⟨fn,rfl⟩:∃n:Nat,fi=(n:Int):=#[fi.toNat,gu];dsimp only[lU,oI];show fo (λZ' H'=>∃N:Nat,N<=5/\(0<N->2<=X.length)/\Z' =[some ⇑C,some ⇑J,some ↥Y,some ↥(N:Int),none,none,none,none]/\H'=H) (λNx mF=>?_) ?_
 ·show(0,J,0,.inl (aY.of hp),1,0,2)
  show bH (λ_=>?_) (λc=>?_)
  ·show mF\((0),gu,gu,8)
  ·let c':¬ (U.length:Int)<2:=λz=>c (Qd z)
   show mF\(fn,gu,λ_=>gu,8)
 rintro Z' Hy ⟨N,hN,hN2,rfl,rfl⟩;show#[z0L,2];intros E nb H1 sb eb;show(0,(N:Int),O,gu,gu,let I:fM:=λi Z H'=>Ex5 λ(o5 o6 o7:Β) (R :ε) (T:Μ)=>Z=[cr C,cr J,some ↥Y,some ↥(N:Int),cr E,o5,o6,o7]/\aq Hy H'/\H' E==.lst R/\Paired (u6 K H' X) R T/\zF X T/\T.length=i/\∀b∈T,∃j,j<i/\b.nm=nameOf (field Y 3001 3) (field Y 4001 6) (j:Int);fU (lo:=0) (n:=N) I (none,none,none,[],[],O,sb,eb,.nil,#[by simp,by simp],O,by simp) ?_ ?_)
 ·rintro i Z H2 hi ⟨o5,o6,o7,R,T,rfl,L,e2,pb,gb,u,nm⟩
  let ei:(0:Int)+(i:Int)=(i:Int):=VM _;rw[ei];let n2:2<=X.length:=hN2 gu;let lv:R.length=T.length:=RY pb;let sp:=aY.of (K:=K) (L\hp);show(3,1,C,Q,0,L.seq hS,gu,gu,0,J,0,.inl sp,6,gM,gM,gu,2);let j1:=bw (c:=cell Q (8+(i:Int))) (p:=1009) (m:=(U.length:Int)) gu;let j2:=bw (c:=cell Q (8+(i:Int))) (p:=2003) (m:=(U.length:Int)-1) gu;show(3,1,C,Q,0,L.seq hS,gu,gu,0,J,0,.inl sp,1,6,gM,gM,gu,1,2);generalize field (cell Q (8+(i:Int))) 1009 (U.length:Int)=y at j1 ⊢;generalize field (cell Q (8+(i:Int))) 2003 ((U.length:Int)-1)=step at j2 ⊢;obtain ⟨on,rfl⟩:∃n:Nat,y=(n:Int):=#[y.toNat,gu]
  let oo:∃m:Nat,((on:Int)+(1+step)).fmod (U.length:Int)=(m:Int)/\m<U.length/\m≠on:=by
   let f:=pj (x:=(on:Int)+(1+step)) (m:=(U.length:Int)) gu;show((((on:Int)+(1+step)).fmod (U.length:Int)).toNat,gu,gu,λz=>?_);let e:((on:Int)+(1+step)).fmod (U.length:Int)=(on:Int):=gu
   rw[Int.fmod_eq_emod_of_nonneg _ gu] at e;by_cases c:(on:Int)+(1+step)<(U.length:Int)
   ·rw[apF gu c] at e
    omega
   ·rw[<-Int.sub_emod_right,apF gu gu] at e
    omega
  let(S,e2',l2',ne2):=oo;show(0,.inl (O,_,aY.of e2),3,4,gu,gu,3,0,1,0,J,0,.inl sp,1,nz gu,L3,2);intros A n9 H9 s9 e9;let e9:H9 A==.tup [.str (nameOf (field Y 3001 3) (field Y 4001 6) (i:Int)),.int (on:Int),.int (((on:Int)+(1+step)).fmod (U.length:Int))]:=e9;rw[e2'] at e9;let e29:=s9\e2;show(E,1,e29,(![lv] (K' (show T.length<=1000 by omega) gM)),2);let l1:on<X.length:=gu
  let l2:S<X.length:=gu
  let st:bh H9 (upd H9 E (.lst (R ++[⇑A]))):=.list e29
  let ns9:∀(v:V)(b:cZ),u6 K H2 X v b->u6 K (upd H9 E (.lst (R ++[⇑A]))) X v b:=λv b h=>by
   let(a,i',j',e,h1,h2,h3):=h.iz s9;show(a,i',j',e,st.iM h1,h2,h3)
  show(9,_,R ++[⇑A],T++[(nameOf (field Y 3001 3) (field Y 4001 6) (i:Int),X[on],X[S])],O,λb o z=>?_,af,j7 (Paired.dP pb λ_ _ z=>ns9\z) ?_,gb.snoc (λz=>?_) (Sk l1,Sk l2,λz=>?_),by simp[u],λb hb=>?_)
  ·rw[ah (ak z nb)]
   show s9\(L _ _ z)
  ·show(A,on,S,O,st.iM (cb.of e9),gE l1,gE l2)
  ·let(b,hb,QL):=CS.mp z
   let(j,hj,ej):=nm b hb;let i3:=bw (c:=Y) (p:=3001) (m:=3) gM;let i4:=bw (c:=Y) (p:=4001) (m:=6) gM
   have:=aka #[(field Y 3001 3).toNat,gu] #[(field Y 4001 6).toNat,gu] #[j,gu] #[i,gu] (λz=>by
    have:=sU Fin.val z;simp at this
    omega)
   show this ?_;change nameOf (((field Y 3001 3).toNat:Nat):Int) (((field Y 4001 6).toNat:Nat):Int) (j:Int)=nameOf (((field Y 3001 3).toNat:Nat):Int) (((field Y 4001 6).toNat:Nat):Int) (i:Int);rwa[show(((field Y 3001 3).toNat:Nat):Int)=field Y 3001 3 by omega,show(((field Y 4001 6).toNat:Nat):Int)=field Y 4001 6 by omega,<-ej]
  ·let q1:(X.map (·.nm))[on]?==X[on].nm:=by rw[Wp,gE l1];rfl
   let q2:(X.map (·.nm))[S]?==X[on].nm:=![Wp,gE l2] (sU some z.symm)
   show ne2 ((UB (by rw[CA];omega) np).mp (q1>>>q2.symm)).symm
  ·rcases OB.mp hb with z|z
   ·let(j,hj,ej):=nm b z
    show(j,gu,ej)
   ·rw[OK.mp z]
    show(i,gu,O)
 ·rintro Z H2 ⟨o5,o6,o7,R,T,rfl,L,e2,pb,gb,u,nm⟩
  show#[0,q E R T H2 L nb e2 pb gb gu]
def agb (v:V):VL ("ways":Str) [(("way":Str),v)]=none:=by
 let h:(("ways":Str)⊆"way")=false:=d_k
 simp[VL,h]
inductive zG (K:Frag)(C:BQ)(vs:ε)(H:Hp)(Q:VK)(U:XK):Prop
|mk (Z X:BQ)(us Y :ε)(AP:Α)(BO:Μ)(_:vs=[.ref Z,.ref X])(_:H Z==.lst us)(_:Paired (zD K H) us AP)(_:H X==.lst Y)(_:Paired (u6 K H AP) Y BO)(_:zE AP)(_:zF AP BO)(_:AP.length<=6)(_:BO.length<=8)(_:∀(a:BQ)(H':Hp),aq H H' ->BK K H' C a AP BO->Q (.ref a) H')
def vL:av ["_law_pins","_law_bars_here","_law_frame_here","_law_name_here","_law_spot_here","_law_ways_here","_law_one","_law_other"] ZA (ae Wv):=sq
def aqy {C CR CF fI fR:BQ}(D:Def K mg "_law_frame" Wv ZA)(a_:mg "len"=none)(aky:Mk K C fI)(akz:mg "Frame"==⇑C)(azC:!bv 1 fI fdI Ox (JH K C))(akA:Binds K fdI Ox [])
  (akB:mg "Roller"==⇑CR) (akC:mg "Fixed"==⇑CF) (akD:Mk0 K CF) (akE:Mk K CR fR) (azD:!bv 1 fR fdR U1 (JJ K CR)) (akF:Binds K fdR U1 [])
  (wR:!ce 2 CR "ways" Ox (rT K CR)) (wF:!ce 2 CF "ways" Ox (rV K))
  (MPb:!ce 3 C "put_bar" yu (rW K C)) (MPp:!ce 3 C "put_pin" ZE (!iO C)) (MPd:!Rg (aR P w) 3 C "put_pin" ZE [.none] (!iO C)):
  am P w K mg gV 4 "_law_frame" ZA (zG K C):=by
 show D.op vL λf bx A outer s H vs Q E hr h=>?_;let(pA,bA,us,jb,N,BO,rfl,hp,pp,hb,pb,gp,gb,lp6,lb8,q):=h;let lu:us.length=N.length:=RY pp
 show(_,(aw 2 vL.nd (ahk aky azC hr.mo rfl akz akA .nil (pY P w))>>bV Pm rfl (bT .a) (gy rfl (aK (cE 3 vL.nd) (aK (cE 4 vL.nd) (aK (cE 5 vL.nd) cC)))) (bN (bD dk (aI ay rfl a_ cu (aU .f)) ag) (aj (cn (afa (k:=3) .c hr.mo (pY P w) (bS .d (aH .e) (aH .e))))) aQ>>bN (bD dk (aI ay rfl a_ cu (aU .f)) ag) (aj (cn (d5 (k:=3) .c hr.mo (pY P w) (Q7 .d (bS (aH .e) (aH .e) (aep akE azD hr.mo rfl akB akF .nil (pY P w) (aE (aH (ahy .f)) (aH (ahy .f))))))))) aQ>>aj (bN (bD dk (aI ay rfl a_ cu (aU .f)) ag) (aj (cn (d5 (k:=3) .c hr.mo (pY P w) (Q7 .d (bS (aH .e) (aH .e) (aiY akD rfl akC)))))) aQ))>>bV Pm rfl (bT .b) (gy rfl (aK (cE 3 vL.nd) (aK (cE 6 vL.nd) (aK (cE 7 vL.nd) cC)))) (aj (cn (d5 (k:=3) .c hr.mo (pY P w) (bS .d (aH (bP aG .a .g)) (aH (bP aG .a .h))))))>>aj (aC .c)),2);sleep 3
 intro a S na ndx nad;let sF:aq H (upd (upd H S (.own a)) a (.ins C S [])):=λb o e=>by rwa[ah (ak e na),ah (ak e ndx)]
 show(a,S,O,af,λpP pW pB H1 k1 nP nW nB R1=>#[O,2]);let s1:aq H H1:=λb o e=>k1 b o (ak e na) (sF\e);let nP:=uD sF nP;let nW:=uD sF nW;let nB:=uD sF nB
 show(0,pA,O,#[_,aY.of (s1\hp)],let I:fM:=λi Z U=>Ex5 λ(o4 o5 o6:Β) (kP kW:δ)=>Z=[cr pA,cr bA,cr a,o4,o5,o6,none,none]/\aq H U/\jO K U C a S pP pW pB ((N.take i).map λp=>(p.nm,Pk p.sp)) [] kP kW []/\QH K U ((N.take i).map λp=>(p.nm,p.ws)) kW;dG (K:=K) (a:=pA) (xs:=us) I (none,none,none,[],[],O,s1,R1,.nil) (λi Z U _ h=>by
   let(_,_,_,_,_,_,s,_):=h
   show aY.of (s\hp)) ?_ ?_)
 ·rintro i u Z R hu ⟨o4,o5,o6,kP,kW,rfl,s2,R2,W2⟩
  let(p,ep,hpr):=aV pp hu;let mp:p∈N:=CU ep;let(ta,l,sv,ws,rfl,h1,h2,h3,h4):=hpr.iz s2;let(sa,x1,y1,rfl,P7,hn1,Om):=h2;show(ta,0,h1,O,4,4,1,2);let tk:=take_snoc ep;let il:i<N.length:=(ir.mp ep).1;let nlP:l≠pP:=λz=>by erw[z,R2.pl] at h3
  let nlW:l≠pW:=λz=>by erw[z,R2.wy] at h3
  let L:∀(hv:V)(H5:Hp)(Q5:VK)(E5:XK),aq R H5->!ahD H5 hv p.ws->
    (∀U x y,aq H U ->U l==.lst ws->jO K U C a S pP pW pB ((N.take (i+1)).map λp=>(p.nm,Pk p.sp)) [] x y []->QH K U ((N.take (i+1)).map λp=>(p.nm,p.ws)) y ->Q5 .cS U)->!iO C [⇑a,.str p.nm,x1,y1,hv] H5 Q5 E5:=λhv H5 Q5 E5 M hY L=>by
   show(a,S,pP,pW,pB,9,kP,kW,9,p.nm,x1,y1,hv,Pk p.sp,p.ws,O,R2.iz M,W2.iz M,by rw[Pp,Pp];rfl,hn1.iz M,Om.iz M,λz=>?_,λz hz e=>?_,2,hY,λU x y k' R' W'=>?_)
   ·rw[Pp] at z
    let(p',hp',e'):=CS.mp z;show yC (nm:=bK.nm) gp.np ep hp' e'
   ·let(p',hp',e'):=CS.mp hz
    rw[<-e'] at e;let e1:=sU avj e;let e2:=sU avk e;let e3:p'.sp=p.sp:=Pl (qE e1) (qE e2);let(j,hj,ej):=OC.mp hp';rw[al2] at ej;rw[QT] at hj;let q1:(N.map (·.sp))[j]?==p.sp:=by rw[Wp,gE gu,ej,<-e3];rfl
    let q2:(N.map (·.sp))[i]?==p.sp:=by rw[Wp,ep];rfl
    have:=(UB (by rw[CA];omega) gp.ns).mp (q1>>>q2.symm);omega
   ·rw[CA,QT]
    omega
   ·show L U x y (λb o z=>k' b o (ak z nP) (ak z nW) (M\(s2 _ _ z))) (k' _ _ nlP nlW (M\h3)) ?_ ?_
    ·rw[tk,RL]
     show R'
    ·rw[tk,RL]
     show W'
  let l2:=aY.of (K:=K) h3;let J:ws.length=p.ws.length:=RY h4;show(0,l,0,.inl l2,7,2)
  rcases gp.ws p mp with hw|⟨wx,wy,hw,wn,_,_⟩|hw
  ·rw[hw] at J
   show bH (λ_=>?_) (λc=>by rw[J] at c;simp at c);show(0,a,C,S,6,R2.obj,O,MPd,3,sa,5,P7,iZ,0,sa,5,P7,i6,2);dsimp only[vR,md,ma,jU];show L .cS R _ _ .L (.inl #[O,hw]) λU x y s' l' R' W'=>?_;let l':=aY.of (K:=K) l';show(0,l,0,.inl l',7,bH (λc=>by rw[J] at c;simp at c) (λ_=>?_));show(0,l,0,.inl l',7,bH (λc=>by rw[J] at c;simp at c) (λ_=>?_));show(9,_,x,y,O,s',R',W')
  ·rw[hw] at J h4
   let(w0,rfl):=anU.mp J
   let hw0:gx K R w0 (wx,wy):=by
    cases h4 with
    | cons h _=>show h
   let(wa,y2,y3,rfl,hsw,hm1,hm2):=hw0;show bH (λc=>by simp at c) (λ_=>?_);show(0,l,0,.inl l2,7,bH (λ_=>?_) (λc=>CC rfl c));show(0,a,C,S,6,R2.obj,O,MPp,3,sa,5,P7,iZ,0,sa,5,P7,i6,0,l,5,l2,O,wa,5,hsw,iZ,0,l,5,l2,O,wa,5,hsw,i6,2);intro Y X m nd1 ne1;let s4:aq R (upd (upd R X (.own Y)) Y (.ins CR X [])):=λb o e=>by rwa[ah (ak e m),ah (ak e nd1)]
   let e4:(upd (upd R X (.own Y)) Y (.ins CR X [])) Y==.ins CR X []:=af;generalize upd (upd R X (.own Y)) Y (.ins CR X [])=H4 at s4 e4 ⊢;show(Y,X,y2,y3,wx,wy,O,e4,hm1.iz s4,hm2.iz s4,wn,λT n5=>#[O,2]);let Vu:T≠Y :=λz=>by erw[z,e4] at n5
   let M:aq R (upd (upd H4 T (.tup [y2,y3])) Y (.ins CR X [("way",⇑T)])):=λb o e=>by
    let z:b≠Y :=λz=>by erw[z,m] at e
    rw[ah z];show ar n5 _ _ _ (s4\e)
   let e5:(upd (upd H4 T (.tup [y2,y3])) Y (.ins CR X [("way",⇑T)])) Y==.ins CR X [("way",⇑T)]:=af;let t5:(upd (upd H4 T (.tup [y2,y3])) Y (.ins CR X [("way",⇑T)])) T==.tup [y2,y3]:=by rw[ah Vu,af]
   generalize upd (upd H4 T (.tup [y2,y3])) Y (.ins CR X [("way",⇑T)])=H5 at M e5 t5 ⊢;let azI:gx K H5 ⇑T (wx,wy):=sJ t5 (hm1.iz M) (hm2.iz M);dsimp only[vR,md,ma,jU];show L ⇑Y H5 _ _ M (.inr (Y,CR,X,_,Ox,rT K CR,O,e5,agb _,wR,λH6 e6 t6 Q' an=>(Y,X,T,(wx,wy),O,e6,azI.bC t6,by rwa[hw] at an))) λU x y s' l' R' W'=>?_;show(0,l,0,.inl (aY.of (K:=K) l'),7,bH (λc=>by simp at c) (λ_=>?_));show(9,_,x,y,O,s',R',W')
  ·rw[hw] at J
   show bH (λc=>by rw[J] at c;simp at c) (λ_=>?_);show(0,l,0,.inl l2,7,bH (λc=>by rw[J] at c;simp at c) (λ_=>?_));show(0,l,0,.inl l2,7,bH (λ_=>?_) (λc=>by rw[J] at c;simp at c));show(0,a,C,S,6,R2.obj,O,MPp,3,sa,5,P7,iZ,0,sa,5,P7,i6,2);intro Y X m nd1 ne1;let s4:aq R (upd (upd R X (.own Y)) Y (.ins CF X [])):=λb o e=>by rwa[ah (ak e m),ah (ak e nd1)]
   let e4:(upd (upd R X (.own Y)) Y (.ins CF X [])) Y==.ins CF X []:=af;generalize upd (upd R X (.own Y)) Y (.ins CF X [])=H4 at s4 e4 ⊢;dsimp only[vR,md,ma,jU];show L ⇑Y H4 _ _ s4 (.inr (Y,CF,X,_,Ox,rV K,O,e4,O,wF,λH6 _ _ Q' an=>(Y,O,by rwa[hw] at an))) λU x y s' l' R' W'=>?_;show(9,_,x,y,O,s',R',W')
 ·rintro Z R ⟨o4,o5,o6,kP,kW,rfl,s2,R2,W2⟩
  rw[lu,Vj] at R2 W2;let lv:jb.length=BO.length:=RY pb
  show(0,bA,O,#[_,aY.of (s2\hb)],let I:fM:=λi Z U=>Ex4 λ(o3 o7 o8:Β) (kB:δ)=>Z=[cr pA,cr bA,cr a,o3,o5,o6,o7,o8]/\aq H U/\jO K U C a S pP pW pB (N.map λp=>(p.nm,Pk p.sp)) ((BO.take i).map λb=>(b.nm,(b.one.nm,b.jg.nm))) kP kW kB/\QH K U (N.map λp=>(p.nm,p.ws)) kW;dG (K:=K) (a:=bA) (xs:=jb) I (_,none,none,[],O,s2,R2,W2) (λi Z U _ h=>by
    let(_,_,_,_,_,s,_):=h
    show aY.of (s\hb)) ?_ ?_)
  ·rintro i u Z H3 hu ⟨o3,o7,o8,kB,rfl,s3,R3,W3⟩
   let(b,ebr,hbr):=aV pb hu;let mb:b∈BO:=CU ebr;let(ta,i1,j1,rfl,h1,g1,g2):=hbr.iz s3;let(m1,m2,m3):=gb.ends b mb;let tk:=take_snoc ebr;let il:i<BO.length:=(ir.mp ebr).1
   have aqz :∀(k:Nat)(p:bK),N[k]?==p->∃(c la:BQ)(sv:V),oM us (k:Int)==⇑c/\cb K H3 c [.str p.nm,sv,⇑la]:=λk p ek=>by
    let(u',eu',hu'):=aV (jY pp) ek;let(c,la,sv,ws,rfl,q1,_):=zD.iz hu' s3;show(c,la,sv,b9 eu',q1)
   let(c1,la1,sv1,ea1,q1):=aqz\g1;let(c2,la2,sv2,ea2,q2):=aqz\g2;show(ta,0,h1,O,4,4,1,2);let lp3:=aY.of (K:=K) (s3\hp);show(0,a,C,S,6,R3.obj,O,MPb,3,0,pA,5,lp3,ea1,c1,5,q1,O,3,pA,5,lp3,ea2,c2,5,q2,O,2);show(a,S,pP,pW,pB,9,kP,kW,kB,b.nm,b.one.nm,b.jg.nm,O,R3,λz=>?_,2,2,m3,2,λU kB' k' R'=>?_)
   ·rw[Pp] at z
    let(b',iD,e'):=CS.mp z;show yC (nm:=cZ.nm) gb.nb ebr iD e'
   ·rw[Pp]
    show CS.mpr (_,m1,O)
   ·rw[Pp]
    show CS.mpr (_,m2,O)
   ·rw[CA,QT]
    omega
   ·show(9,_,kB',O,λc o z=>k' c o (ak z nB) (s3\z),2,2)
    ·rw[tk,RL]
     show R'
    ·show Paired.dP W3 λp' kv z=>#[z.1,2]
     let(l',jh,z1,z2,z3):=z.2;show(l',jh,z1,k' _ _ (λz=>by erw[z,R3.br] at z2) z2,z3.bC λc xs r=>?_)
     rcases r with r|⟨o',r⟩
     ·show .inl (k' _ _ (λe=>by erw[e,R3.br] at r) r)
     ·show .inr #[o',k' _ _ (λe=>by erw[e,R3.br] at r) r]
  ·rintro Z H3 ⟨o3,o7,o8,kB,rfl,s3,R3,W3⟩
   rw[lv,Vj] at R3;show#[0,q a H3 s3 (S,pP,pW,pB,kP,kW,kB,R3,W3)]
def abF (h:0<q.2):0<q.1 ↔ 0<vl q:=by
 let z:((q.2:Int):Rat)≠0:=fS (VB h)
 let e:((q.1:Int):Rat)=vl q*((q.2:Int):Rat):=by
  unfold vl;grind
 let p:(0:Rat)<((q.2:Int):Rat):=by exact_mod_cast h
 constructor
 ·intro k
  let Y:(0:Rat)<((q.1:Int):Rat):=by exact_mod_cast k
  apply VD;intro n;let Z:vl q<=0:=by grind
  have:=Rat.mul_le_mul_of_nonneg_right Z (vN p);grind
 ·intro k
  have:=FD k p;rw[<-e] at this
  exact_mod_cast this
def p6:amF 10 6:=(gM,gM,gM)
def abG {t b:Int}(h:t<=0)(Z:0<b):(t:Rat) / (b:Rat)<=0:=by
 apply VD;intro n;let p:0<vl (t,b):=by unfold vl;grind
 have:=(abF (q:=(t,b)) Z).mpr p;have:0<t:=this;omega
def abH {t b:Int}(h:0<=t)(Z:0<b):0<=(t:Rat) / (b:Rat):=by
 by_cases c:t=0
 ·rw[c]
  have:((0:Int):Rat)=0:=by rfl
  rw[this];grind
 ·have:=(abF (q:=(t,b)) Z).mp (show 0<t by omega)
  unfold vl at this;show vN this
def zaW {t b:Int}(h:0<b)(Y:t.natAbs<512)(Z:b<512):Sz 9 ((t:Rat) / (b:Rat)):=yB (VB h) (intBits_le_iff.mpr (by change _<512;omega)) (intBits_le_iff.mpr (by change _<512;omega))
structure akH (K:Frag)(H:Hp)(lv hv:V)(r:Rat×Rat):Prop where
 lo:iE K H lv r.1
 hi:iE K H hv r.2
 l0:r.1<=0
 h0:0<=r.2
 zl:Sz 9 r.1
 zh:Sz 9 r.2
theorem alP :∀{l:List Y} {xs:List β},Paired R l xs->(∀a b,b∈xs->R a b->S a b)->Paired S l xs
 | _,_,.nil,_=>.nil
 | _,_,.cons h t,k=>.cons (k _ _ Pz h) (alP t λa b m=>k a b (OX _ m))
def KvP (K:Frag)(H:Hp)(f:Ν)(Z:Key×V)(x:Str):Prop:=Z.1=.inr x/\gx K H Z.2 (f x)
def KvR (K:Frag)(H:Hp)(d:BQ)(BN:δ)(xs:τ)(f:Ν):Prop:=H d==.dK BN/\Paired (KvP K H f) BN xs
section
variable {K:Frag}{H H':Hp}{d:BQ}{BN:δ}{xs:τ}{f:Ν}
def zaR (h:Paired (KvP K H f) BN xs):BN.map (·.1)=xs.map (λx=>(Rq x:Key)):=by
 induction h with
 | nil=>rfl
 | cons h _ Z=>rw[O_,O_,h.1,Z]
def KvR.val (h:KvR K H d BN xs f)(Y:xs.Nodup)(U:x∈xs):∃v,cj BN (.inr x)==v/\gx K H v (f x):=by
 let(i,Q):=OV U;let(X,R,S,T):=aV (jY h.2) Q
 let Z:(BN.map (·.1)).Nodup:=by
  rw[zaR h.2];show anm _ (λa b n z=>n (by injection z)) Y
 show(X.2,rQ Z ![R,<-S],T)
end
inductive u9 (K:Frag)(vs:ε)(H:Hp)(Q:VK)(T:XK):Prop
|mk (Z X:BQ)(ns:ρ)(Y :ε)(AP:Α)(BO:Μ)(_:vs=[.ref Z,.ref X])(_:aY K H Z (ns.map V.int))(_:H X==.lst Y)(_:Paired (u6 K H AP) Y BO)(_:(BO.map (·.nm)).Nodup)(_:BO.length<=5)(_:∀(d:BQ)(U:δ)(B:Ν)(H':Hp),aq H H' ->H d=none->KvR K H' d U (BO.map (·.nm)) B->(∀x,(B x).1<=0/\0<=(B x).2/\Sz 9 (B x).1/\Sz 9 (B x).2)->Q (.ref d) H')
def cY:av ["_law_script","_law_bars_here","_law_bounds_here","_law_k","_law_cell","_law_low","_law_high"] ZF (ae f'):=sq
def lead (D:Def K mg "_law_bounds" f' ZF)(bE:mg "range"=none)(a_:mg "len"=none)(sR:!am 1 "_law_cell_at" yt (qQ K))(J:!am 1 "_law_field" Vi gL)(C_:!am 33 "_law_lowest" Pc gI):
  am P w K mg gV 34 "_law_bounds" ZF (u9 K):=by
 show D.oo cY λH X h=>?_;let(sA,f,ns,L,AP,BO,rfl,hS,hB,pb,nb,lb,q):=h;let L2:2<=CM:=gM
 let lv:L.length=BO.length:=RY pb;let z0:Sz 9 (0:Rat):=gm gM
 show(_,(aw 2 cY.nd fh>>bV Pm rfl (fu rfl bE (aU .R)) (cE 3 cY.nd) (aw 4 cY.nd (a9 sR X (aE .a (ax bW ag .d)))>>aw 5 cY.nd (a9 C_ X (aE (ax eK ag (ax iQ (a9 J X (bS .e ag (ax zaZ ag ag))) ag)) (ax bW ag (a9 J X (bS .e ag ag)))))>>aw 6 cY.nd (a9 C_ X (aE (ax iQ (a9 J X (bS .e ag (ax zaZ ag ag))) ag) (ax bW ag (a9 J X (bS .e ag ag)))))>>bN (bD dk (a9 J X (bS .e ag ag)) ag) (aj (aw 5 cY.nd (aJ (aE ag ag)))) aQ>>bN (bD dk (a9 J X (bS .e ag ag)) ag) (aj (aw 6 cY.nd (aJ (aE ag ag)))) aQ>>aj (d3 (cD X) .c (aH (bP aG .b .d)) (aJ (aE .f .g)) rfl))>>aj (aC .c)),2);try dsimp only[nK,kO,Cx.t_,Cx.tZ]
 intros d n1 H1 s1 e1;show(0,f,0,.inl (aY.of (s1\hB)),((L.length:Nat):Int),O,gu,gu,let I:fM:=λi Z S=>Ex6 λ(o3 o4 o5 o6:Β) (R:δ) (B:Ν)=>Z=[cr sA,cr f,cr d,o3,o4,o5,o6]/\aq H S/\S d==.dK R/\Paired (KvP K S B) R ((BO.take i).map (·.nm))/\∀x,(B x).1<=0/\0<=(B x).2/\Sz 9 (B x).1/\Sz 9 (B x).2;fU (lo:=0) (n:=((L.length:Nat):Int).toNat) I (none,none,none,none,[],λ_=>(0,0),O,s1,e1,.nil,λx=>(uY,uY,z0,z0)) ?_ ?_)
 ·rintro i Z H2 hi ⟨o3,o4,o5,o6,R,B,rfl,s2,e2,M,tB⟩
  let ek:(0:Int)+(i:Int)=(i:Int):=VM _;rw[ek];let o:i<L.length:=gu
  show(3,1,sA,ns,0,s2.seq hS,gu,gu,2);generalize cell ns (28+(i:Int))=c;let i1:=bw (c:=c) (p:=2003) (m:=7) gM;let i2:=bw (c:=c) (p:=3001) (m:=7) gM;let f1:=pj (x:=field c 1009 ((10:Int)^(6:Int).toNat)) (m:=401) gM;let f2:=pj (x:=field c 1000003 ((10:Int)^(6:Int).toNat)) (m:=401) gM;show(0,1,p6,6,gM,gM,by decide+kernel,1,nz gM,1,0,6,gM,gM,gM,1,4,gu,λp3 H3 s3 e3=>?_);rw[gA gu] at e3;let z3:=zaW (t:=0-(field c 1009 ((10:Int)^(6:Int).toNat)).fmod 401) (b:=1+field c 2003 7) gu gu gu;let l3:=abG (t:=0-(field c 1009 ((10:Int)^(6:Int).toNat)).fmod 401) (b:=1+field c 2003 7) gu gu;show(0,1,p6,6,gM,gM,by decide+kernel,1,nz gM,0,6,gM,gM,gM,1,4,gu,λp4 H4 s4 e4=>?_);rw[gA gu] at e4;let z4:=zaW (t:=(field c 1000003 ((10:Int)^(6:Int).toNat)).fmod 401) (b:=1+field c 3001 7) gu gu gu;let l4:=abH (t:=(field c 1000003 ((10:Int)^(6:Int).toNat)).fmod 401) (b:=1+field c 3001 7) gu gu;let s24:=s3>>>s4;let T:akH K H4 ⇑p3 ⇑p4 (_,_):=((qc e3).iz s4,qc e4,l3,l4,z3,z4);dsimp only[dF,lU];show fo (λZ' S=>QJ λ(lv:V) (r:Rat×Rat)=>Z' =[some ⇑sA,some ⇑f,some ⇑d,some ↥(i:Int),some ↥c,some lv,some ⇑p4]/\aq H4 S/\akH K S lv ⇑p4 r) (λNx A=>?_) ?_
  ·show(0,6,gM,gM,gM,7,bH (λ_=>?_) (λ_=>A\(4,aq.refl _,T)))
   show#[L2,2];intros q6 n6 H6 s6 e6;show A\(_,(0,_),O,s6,(qS 0 e6,T.hi.iz s6,uY,T.h0,z0,T.zh))
  rintro Z' H6 ⟨y,r6,rfl,s6,U⟩;show fo (λZ' S=>QJ λ(hv:V) (r:Rat×Rat)=>Z' =[some ⇑sA,some ⇑f,some ⇑d,some ↥(i:Int),some ↥c,some y,some hv]/\aq H6 S/\akH K S y hv r) (λNx A=>?_) ?_
  ·show(0,6,gM,gM,gM,7,bH (λ_=>?_) (λ_=>A\(4,aq.refl _,U)))
   show#[L2,2];intros p7 n7 H7 s7 e7;show A\(_,(r6.1,0),O,s7,(U.lo.iz s7,qS 0 e7,U.l0,uY,U.zl,z0))
  rintro Z' H7 ⟨hv7,r7,rfl,s7,Y⟩;let Q:=s24>>>(s6>>>s7);let s07:=s2>>>Q;let(b,eb,hbr):=aV pb (gE o);let tk:=take_snoc eb;show(3,L2,2);intros va n8 H8 E e8;let N:=s07>>>E;let(ta,i',j',eu,h1,_):=hbr.iz N;let ai:oM L (i:Int)==.ref ta:=b9 (![gE o,eu]);let j:=E\(Q _ _ e2);let lk:=RY M;rw[CA,QT] at lk;show(3,0,f,5,aY.of (N\hB),ai,ta,5,h1,O,d,0,jP.k (k:=.inr b.nm) j (K' (show R.length<=1000 by omega) gM),2);let t9:bh H8 (upd H8 d (.dK (R++[(.inr b.nm,⇑va)]))):=.dict j;let hv:gx K H8 ⇑va r7:=sJ e8 (Y.lo.iz E) (Y.hi.iz E)
  let C:∀x∈(BO.take i).map (·.nm),x≠b.nm:=λx u e=>by
   let(b',iD,e'):=CS.mp u;show yC (nm:=cZ.nm) nb eb iD (e'>>>e)
  let new:cj R (.inr b.nm)=none:=fw (by
   rw[zaR M];intro z;let(x,u,e'):=CS.mp z
   show C x u (by injection e'))
  rw[iq _ new];show(9,9,_,λnm=>if nm=b.nm then r7 else B nm,O,λc o' z=>?_,af,2,λx=>?_)
  ·rw[ah (ak z n1)]
   show N\z
  ·rw[tk,RL]
   show j7 (alP M λkv x u z=>#[z.1,2]) #[O,2]
   ·dsimp only
    rw[iA (C x u)];show((z.2.iz Q).iz E).bC t9
   ·dsimp only
    rw[iB rfl];show hv.bC t9
  ·dsimp only
   split
   ·show(Y.l0,Y.h0,Y.zl,Y.zh)
   ·show tB x
 ·rintro Z H2 ⟨o3,o4,o5,o6,R,B,rfl,s2,e2,M,tB⟩
  let en:((L.length:Nat):Int).toNat=BO.length:=gu
  rw[en,Vj] at M;show#[0,q d R B H2 s2 n1 #[e2,M] tB]
theorem zaO:∀(as l:Υ),(∀y∈l,y=0)->sP as l=0
 | [],_,_=>u4 _
 | a::as,[],_=>by simp[sP]
 | a::as,y::l,h=>by
  rw[iV,h y Pz,zaO as l λz hz=>h z (OX _ hz)];grind
theorem zaA:∀(as l:Υ),(∀y∈as,y=0)->sP as l=0
 | [],_,_=>u4 _
 | a::as,[],_=>by simp[sP]
 | a::as,y::l,h=>by
  rw[iV,h a Pz,zaA as l λz hz=>h z (OX _ hz)];grind
def agc (ws:Η):Prop:=∀Z:List Rat,Z.length=ws.length->sP Z (ws.map (·.1))=0->sP Z (ws.map (·.2))=0->∀u∈Z,u=0
def agd (h:oq ws):agc ws:=λT Y U X u Z=>by
 rcases h with rfl|⟨x,y,rfl,S,_,_⟩|rfl
 ·rw[Ub.mp Y] at Z
  cases Z
 ·let(a,rfl):=anU.mp Y
  let e:u=a:= ~~~Z
  let M:a*x=0:=by
   have:=U;rw[O_,FN,iV,u4] at this;grind
  let N:a*y=0:=by
   have:=X;rw[O_,FN,iV,u4] at this;grind
  rw[e];by_cases c:x=0
  ·have:y≠0:=λz=>S #[c,z]
   grind
  ·grind
 ·match T,Y with
  | [a,b],_=>
   rw[O_,O_,FN,iV,iV,u4] at U X;let Q:a=0:=by grind
   let R:b=0:=by grind
   rcases QQ.mp Z with z|z
   ·rwa[z]
   ·rwa[OK.mp z]
def wm (c:Rat×Rat->Rat)(x:Str)(q:bK):List Rat:=q.ws.map λw=>c (mv (CI q.nm w) x)
def abI (Y:c (0,0)=0)(h:x≠q.nm):∀y∈wm c x q,y=0:=λy Z=>by
 let(w,_,rfl):=CS.mp Z;rwa[Sf,iA h]
def abJ :wm c q.nm q=q.ws.map c:=UU λw _=>![Sf,iB rfl]
theorem aiC:∀{ps:Α},(ps.map (·.nm)).Nodup->(∀p∈ps,agc p.ws)->∀us:List Rat,us.length=bj ps->(∀p∈ps,sP us (ps.flatMap (wm (·.1) p.nm))=0/\sP us (ps.flatMap (wm (·.2) p.nm))=0)->∀u∈us,u=0
 | [],_,_,us,S,_=>λu Z=>by
  erw[Ub.mp S] at Z
 | q::ps,X,N,us,S,h=>λu Z=>by
  rw[O_,VS] at X
  let I:us.length=q.ws.length+bj ps:=by
   rw[S];unfold bj;rw[Vb,GY]
  let L:us=us.take q.ws.length++us.drop q.ws.length:=(akG _ _).symm;let lt:(us.take q.ws.length).length=q.ws.length:=by rw[QT];omega
  let M:∀(c:Rat×Rat->Rat)(x:Str),sP us ((q::ps).flatMap (wm c x))=sP (us.take q.ws.length) (wm c x q)+sP (us.drop q.ws.length) (ps.flatMap (wm c x)):=λc x=>by
   rw[Vb]
   conv=>lhs;rw[L]
   show abr\(by rw[lt];unfold wm;rw[CA])
  let Y:∀(c:Rat×Rat->Rat),c (0,0)=0->sP (us.drop q.ws.length) (ps.flatMap (wm c q.nm))=0:=λc H=>zaO _ _ λy U=>by
   let(r,J,U):=FQ.mp U;show abI H (λe=>X.1 (CS.mpr (r,J,e.symm))) y U
  let own:∀y∈us.take q.ws.length,y=0:=by
   let(Q,R):=h q Pz;rw[M,Y _ rfl,abJ] at Q R;show N q Pz _ lt (by grind) (by grind)
  rw[L] at Z
  rcases OB.mp Z with z|z
  ·show own u z
  ·show aiC X.2 (λp T=>N p (OX _ T)) (us.drop q.ws.length) (by rw[ZX];omega) (λp T=>?_) u z
   let(Q,R):=h p (OX _ T);rw[M,zaA\own] at Q R;show#[by grind,by grind]
section
variable {AP:Α}{BO:Μ}{F F':ξ}
def ajK (a b:ο)(j:Nat):dj (a++b) j=dj a j++dj b j:=by unfold dj;rw[RL]
def age {k:Nat}{p:bK}(j:Nat)(c:Rat×Rat->Rat)(S:∀F,vl ((ie F AP).getD j (0,1))=c (mv F p.nm)):(dj ((eh AP BO).take (bj AP)) j).map vl=AP.flatMap (wm c p.nm):=by
 let Y:∀Z:List bK,((Z.flatMap λq=>uO AP q).map λU=>vl (U.getD j (0,1)))=Z.flatMap (wm c p.nm):=λZ=>by
  induction Z with
  | nil=>rfl
  | cons q Z X=>
   rw[Vb,Vb,RL,X];congr 1;unfold uO;rw[Pp];show UU λw _=>S _
 let T:(AP.flatMap λq=>uO AP q).length=bj AP:=by
  unfold bj
  have:∀Z:List bK,(Z.flatMap λq=>uO AP q).length=(Z.flatMap λq=>q.ws).length:=λZ=>by
   induction Z with
   | nil=>rfl
   | cons q Z X=>
    rw[Vb,Vb,GY,GY,X];unfold uO;rw[CA]
  show this AP
 unfold eh;rw[<-T,List.take_left];unfold dj;rw[Pp];show Y AP
def abK:((eh AP BO).take (bj AP)).length=bj AP:=by
 let Z:(eh AP BO).length=bj AP+BO.length:=oZ AP BO;rw[QT];omega
def azL (i:Nat):dj (allR AP BO F) i=dj ((eh AP BO).take (bj AP)) i++((ie F AP).getD i (0,1)::dj ((eh AP BO).drop (bj AP)) i):=by
 unfold allR;rw[ajK,ajK,EJ];rfl
def aih (i:Nat):(dj ((eh AP BO).take (bj AP)) i).length=bj AP:=by unfold dj;rw[CA,abK]
def akI (i j:Nat):(dj (allR AP BO F) i).getD j (0,1)=if j<bj AP then (dj ((eh AP BO).take (bj AP)) i).getD j (0,1) else if j=bj AP then (ie F AP).getD i (0,1) else (dj ((eh AP BO).drop (bj AP)) i).getD (j-bj AP-1) (0,1):=by
 let l:=aih (AP:=AP) (BO:=BO) i;rw[azL,GO,GO,GO];by_cases c:j<bj AP
 ·rw[iB c,PR gu]
 ·rw[iA c,RF gu,l]
  by_cases e:j=bj AP
  ·rw[iB e,e,EA]
   rfl
  ·rw[iA e,show j-bj AP=(j-bj AP-1)+1 by omega,List.getElem?_cons_succ,Nat.add_sub_cancel,GO]
def abL (S:(AP.map (·.nm)).Nodup)(T:∀p∈AP,agc p.ws)(hz:af6 AP BO F z)(N:∀j,bj AP<=j->j<bj AP+1+BO.length->z j=0):∀j,j<bj AP->z j=0:=by
 let Y:∀(i:Nat)(c:Rat×Rat->Rat)(p:bK),i<2*AP.length->(∀F,vl ((ie F AP).getD i (0,1))=c (mv F p.nm))->sP ((KA (bj AP)).map z) (AP.flatMap (wm c p.nm))=0:=λi c p Q Z=>by
  let U:=hz (dj (allR AP BO F) i) (by unfold i_;show CS.mpr (i,Rb.mpr Q,O));rw[show bj AP+1+BO.length=bj AP+(1+BO.length) by omega,Px.oV,Px.fj (1+BO.length) _ (λ_=>0) (λj Z=>by rw[N (bj AP+j) gu gu];grind),Ty.sumTo_zero\(λ_=>O)] at U;let l:=aih (AP:=AP) (BO:=BO) i;let e:=Sg ((KA (bj AP)).map z) (dj ((eh AP BO).take (bj AP)) i) (![CA,OE,l]);rw[l] at e;rw[age (k:=0) (p:=p) i c Z] at e;rw[<-e,Px.fj _ _ (λj=>vl ((dj (allR AP BO F) i).getD j (0,1))*z j) (λj Z=>?_)]
  ·grind
  ·rw[akI,iB Z,GO (l:=(KA (bj AP)).map z),Wp,qL Z]
   rfl
 let all:=aiC S T ((KA (bj AP)).map z) (![CA,OE]) λp R=>by
  let(k,X):=OV R;let U:=(ir.mp X).1;show#[Y (2*k) (·.1) p gu λF=>(KL F X).1,Y (2*k+1) (·.2) p gu λF=>(KL F X).2]
 show λj Z=>all _ (CS.mpr (j,Rb.mpr Z,O))
end
def vB.put (h:vB K H BN F)(n:gx K H v q):vB K H (putK BN (.inr x) v) (λnm=>if nm=x then some q else F nm):=λnm=>by
 change (cj (putK BN (.inr x) v) (.inr nm)=none/\(if nm=x then some q else F nm)=none)\/∃Z p,cj (putK BN (.inr x) v) (.inr nm)==Z/\(if nm=x then some q else F nm)==p/\gx K H Z p;rw[yk];by_cases c:nm=x
 ·subst c
  rw[iB rfl,iB rfl];show .inr (v,q,8,n)
 ·rw[iA (λe=>c (by injection e)),iA c]
  show h nm
structure FR (K:Frag)(H H':Hp)(d:BQ)(BN:δ)(F:ξ)(P:Str->Prop)(n:Nat):Prop where
 s:aq H H'
 e:H' d==.dK BN
 pt:vB K H' BN F
 sz:∀x,Sz 50 (mv F x).1/\Sz 50 (mv F x).2
 ks:∀kv∈BN,∃x:Str,kv.1=.inr x/\P x
 ln:BN.length<=n
theorem vB.bC (h:vB K H BN F)(t:bh H H'):vB K H' BN F:=λZ=>by
 rcases h Z with z|⟨v,p,U,X,Y⟩
 ·show .inl z
 ·show .inr (v,p,U,X,Y.bC t)
def aqA (e:H d==.dK BN):bh H (upd H d (.dK sV)):=.dict e
theorem FR.put {P:Str->Prop}(h:FR K H H' d BN F P n)(Y:H d=none)(Z:aq H' H6)(U:gx K H6 v r)(z:Sz 50 r.1/\Sz 50 r.2)(X:P x):
  FR K H (upd H6 d (.dK (putK BN (.inr x) v))) d (putK BN (.inr x) v) (λnm=>if nm=x then some r else F nm) P (n+1):=by
 let t:=aqA (sV:=putK BN (.inr x) v) (Z\h.e);show(λc o e=>![ah (ak e Y)] (Z\(h.s _ _ e)),af,vB.bC (vB.put (h.pt.iz Z) U) t,λy=>?_,zaj (λk:Key=>∃x:Str,k=.inr x/\P x) h.ks (x,O,X),CP (g9 _ _ _) (Nat.succ_le_succ h.ln));unfold mv;by_cases c:y=x
 ·dsimp only
  rwa[iB c]
 ·dsimp only
  rw[iA c];show h.sz y
theorem FR.iz {P:Str->Prop}(h:FR K H H' d BN F P n)(Z:aq H' H6)(l:n<=m):FR K H H6 d BN F P m:=(h.s>>>Z,Z\h.e,h.pt.iz Z,h.sz,h.ks,CP h.ln l)
def pF {i:Int}(h:i.natAbs<128):Sz 50 (i:Rat):=(IE (k:=7) (by change _<128;omega) gM).up gM
def LdP (AP:Α)(b:Bool)(x:Str):Prop:=x∈AP.map (·.nm)\/(b=true/\x="zz")
inductive Si (K:Frag)(vs:ε)(H:Hp)(Q:VK)(X:XK):Prop
|mk (Z Y:BQ)(ns:ρ)(us:ε)(AP:Α)(b:Bool)(_:vs=[.ref Z,.ref Y,.bl b])(_:aY K H Z (ns.map V.int))(_:H Y==.lst us)(_:Paired (zD K H) us AP)(_:AP.length<=4)(_:∀(d:BQ)(BN:δ)(F:ξ)(H':Hp)(n:Nat),H d=none->FR K H H' d BN F (LdP AP b) n->(b=true->∃v,cj BN (.inr "zz")==v)->Q (.ref d) H')
def zI:av ["_law_script","_law_pins","_law_strange","_law_load_here","_law_cell","_law_at","_law_k","_law_some","_law_x"] ZU (ae s_by):=sq
def aqC (D:Def K mg "_law_load" s_by ZU)(bE:mg "range"=none)(a_:mg "len"=none)(sR:!am 1 "_law_cell_at" yt (qQ K))(cU:!am 1 "_law_field" Vi gL):
  am P w K mg gV 2 "_law_load" ZU (Si K):=by
 show D.oo zI λH R h=>?_;let(C,L,ns,S,AP,b,rfl,hS,hp,pp,lp,q):=h;let L2:2<=CM:=gM
 let lu:S.length=AP.length:=RY pp;let z0:Sz 50 (0:Rat):=gm gM
 show(_,(aw 3 zI.nd fh>>aw 4 zI.nd (a9 sR R (aE .a ag))>>aw 5 zI.nd (a9 cU R (bS .e ag (ax bW .R ag)))>>bV Pm rfl (fu rfl bE (aU .R)) (cE 6 zI.nd) (aw 7 zI.nd (a9 sR R (aE .a (ax bW ag .g)))>>bN (PW.pt (m_ (qi .c) (jS (bD dk .g .f)))) (aj (d3 (cD R) .d dQ .B rfl)) aQ>>aw 8 zI.nd (aJ (aE (ax eK (a9 cU R (bS .h ag ag)) ag) ag))>>aj (d3 (cD R) .d (aH (bP aG .b .g)) (aJ (aE .i (aJ (aE (ax eK (a9 cU R (bS .h ag ag)) ag) ag)))) rfl))>>bN (qi .c) (aj (d3 (cD R) .d dQ .B rfl)) aQ>>aj (aC .d)),2);try dsimp only[nK,kO,Cx.t_,Cx.tZ]
 intros d n1 H1 s1 e1;let I1:FR K H H1 d [] (λ_=>none) (LdP AP b) 0:=(s1,e1,λ_=>.inl #[8],λ_=>#[z0,z0],λkv h=>(nomatch h),CK _);show(0,C,ns,(2),O,s1.seq hS,gM,gM,2);generalize cell ns 2=c0;show(3,L,0,.inl (aY.of (s1\hp)),1,6,gM,gM,gu,2);generalize field c0 1009 ((S.length:Int)+1)=wh;let en:((S.length:Nat):Int).toNat=S.length:=gu
 show(0,L,0,.inl (aY.of (s1\hp)),((S.length:Nat):Int),O,gu,gu,let I:fM:=λi Z H'=>Ex5 λ(o6 o7 x:Β) (Y:δ) (F:ξ)=>Z=[cr C,cr L,some (.bl b),cr d,some ↥c0,some ↥wh,o6,o7,x]/\FR K H H' d Y F (LdP AP b) (2*i);fU (lo:=0) (n:=((S.length:Nat):Int).toNat) I (none,none,none,[],0,I1) ?_ ?_)
 ·rintro i Z H2 hi ⟨o6,o7,x,Y,F,rfl,X⟩
  let ek:(0:Int)+(i:Int)=(i:Int):=VM _;rw[ek];let o:i<S.length:=gu
  show(3,1,C,ns,0,X.s.seq hS,gu,gu,2);generalize cell ns (16+(i:Int))=c;dsimp only[dF,lU];show fo (λZ' H'=>QJ λ(Y:δ) (F:ξ)=>Z' =[some ⇑C,some ⇑L,some (.bl b),some ⇑d,some ↥c0,some ↥wh,some ↥(i:Int),some ↥c,x]/\FR K H H' d Y F (LdP AP b) (2*i+1)) (λNx J=>?_) ?_
  ·show#[3,bH (λM=>?_) (λ_=>nF (J\(Y,F,O,X.iz .L gu)))]
   show(3,7,bH (λ_=>?_) (λ_=>J\(Y,F,O,X.iz .L gu)));show#[L2,2];intros p3 n3 H3 s3 e3;show#[L2,2];intros p4 n4 H4 Q f;show#[L2,2];intros y n5 H5 T j;let U:=s3>>>(Q>>>T);let u:gx K H5 ⇑y (1,0):=vH uN cR j (T\(Q _ _ e3)) (T\f);let l2:=X.ln;show(0,d,0,jP.k (k:=.inr "zz") (U\X.e) .I,J _ _ #[4,X.put n1 U u #[pF (i:=1) gM,z0] (.inr #[M,O])])
  rintro Z' H3 ⟨Y,F,rfl,E⟩;let f1:=bw (c:=c) (p:=1009) (m:=199) gM;let f2:=bw (c:=c) (p:=2003) (m:=199) gM;let(p,ep,hpr):=aV pp (gE o);let mp:=CU ep;show(0,6,gM,gM,gM,1,L2,2);intros p4 n4 H4 Q f;show(3,6,gM,gM,gM,1,L2,2);intros y n5 H5 T j;show#[L2,2];intros p6 n6 H6 s6 e6;let N:=Q>>>(T>>>s6);let A:=E.s>>>N;let(ta,l,sv,jb,eu,h1,_):=hpr.iz A;let ai:oM S (i:Int)==.ref ta:=b9 (![gE o,eu]);let l3:=E.ln;show(3,0,L,5,aY.of (A\hp),ai,ta,5,h1,O,d,0,jP.k (k:=.inr p.nm) (N\E.e) .I,2);let hv:gx K H6 ⇑p6 (((field c 1009 199-99:Int):Rat),((field c 2003 199-99:Int):Rat)):=sJ e6 (qS _ (s6\(T _ _ f))) (qS _ (s6\j));show(9,6,(E.put n1 N hv #[pF gu,pF gu] (.inl (CS.mpr (p,mp,O)))).iz .L gu)
 ·rintro Z H2 ⟨o6,o7,x,Y,F,rfl,X⟩
  rw[en] at X;dsimp only[lU,oI];show fo (λZ' H'=>QJ λ(Y:δ) (F:ξ)=>Z' =[some ⇑C,some ⇑L,some (.bl b),some ⇑d,some ↥c0,some ↥wh,o6,o7,x]/\FR K H H' d Y F (LdP AP b) (2*S.length+1)/\(b=true->∃v,cj Y (.inr "zz")==v)) (λNx J=>?_) ?_
  ·show#[3,bH (λM=>?_) (λhbf=>J\(Y,F,O,X.iz .L gu,λz=>CC z hbf))]
   show#[L2,2];intros p3 n3 H3 s3 e3;show#[L2,2];intros p4 n4 H4 Q f;show#[L2,2];intros y n5 H5 T j;let U:=s3>>>(Q>>>T);let u:gx K H5 ⇑y (1,0):=vH uN cR j (T\(Q _ _ e3)) (T\f);let l2:=X.ln;show(0,d,0,jP.k (k:=.inr "zz") (U\X.e) .I,J\(4,X.put n1 U u #[pF (i:=1) gM,z0] (.inr #[M,O]),λ_=>#[⇑y,2]));rw[yk,iB rfl]
  rintro Z' H3 ⟨Y,F,rfl,E,u⟩;show#[0,q d Y F H3 _ n1 E u]
inductive sS (Z:τ)(BN:δ)(B:Ν):Option (Str×Str)->Prop
 | bar {t:Nat} {x:Str} {y:V}:BN[t]?==(.inr x,y)->x∉Z->KeysIn Z (BN.take t)->sS Z BN B (some ("NoBar",x))
 | bound {t:Nat} {x:Str}:KeysIn Z BN->Z[t]?==x->(∀y∈Z.take t,TZ BN B y)->¬ TZ BN B x->sS Z BN B (some ("NoBound",x))
 | Sj:KeysIn Z BN->(∀x∈Z,TZ BN B x)->sS Z BN B none
def sT {Y:Type}{l:List Y}{a:Y}(e:l[i]?==a)(h:i<j):a∈l.take j:=CU (i:=i) (by rwa[yw,iB h])
def pG {BN:δ}{t:Nat}(e:BN[t]?==(.inr x,y))(n:x∉bn)(m:(Rq x,y)∈l)(k:KeysIn bn l):False:=by
 let(Z,Y,X):=k _ m;have:x=Z:=by injection X
 show n (this▸Y)
def sS.uniq {B:Ν}{o T:Τ}(h:sS bn BN B o)(h':sS bn BN B T):o=T:=by
 cases h with
 | bar e n k=>
  cases h' with
  | bar Z X Y=>
   rename_i t x y t' x' y'
   rcases ani t t' with c|c|c
   ·show(pG e n (sT e c) Y).elim
   ·rw[c,Z] at e
    cases e;rfl
   ·show(pG Z X (sT Z c) k).elim
  | bound Y=>show(pG e n (CU e) Y).elim
  | Sj Y=>show(pG e n (CU e) Y).elim
 | bound k e p n=>
  cases h' with
  | bar Z X Y=>show(pG Z X (CU Z) k).elim
  | bound Y Z U X=>
   rename_i t x t' x'
   rcases ani t t' with c|c|c
   ·show(n (U _ (sT e c))).elim
   ·rw[c,Z] at e
    cases e;rfl
   ·show(X (p _ (sT Z c))).elim
  | Sj Y U=>show(n (U _ (CU e))).elim
 | Sj k p=>
  cases h' with
  | bar Z X Y=>show(pG Z X (CU Z) k).elim
  | bound Y Z U X=>show(X (p _ (CU Z))).elim
  | Sj=>rfl
def DA:Option (Str×Str)->List V
 | none=>[]
 | some q=>[.str q.1,.str q.2,.bl true]
def aaw (H0:Hp)(t:TS):TS:=λD Z H=>t {D with rt:=λv Y=>∃d o X,Y d==(.e_ o (.dK X))/\(∀T U,H0 d≠some (.e_ T U))/\D.rt v (upd Y d (.dK X))} Z H
def abM {st:Stmt}(h:PS X st t):PS X st (aaw X.H₀ t):=by
 unfold L2.PS at h ⊢;intro T s Z H D I q;show Oy (h T s Z H _ I q) (λf S z=>?_) λ_ _ z=>z;cases f with
 | next=>show z
 | brk=>show z
 | cont=>show z
 | ret u=>
  let(v,Y,R,U,r,d,o,Q,e,n,k):=z;show(v,Y,_,Inv.ahw U e n (λ_ z=>nomatch z),r,k)
inductive abN (K:Frag)(vs:ε)(H:Hp)(Q:VK)(U:XK):Prop
|mk (Y Z:BQ)(ws:ε)(AP:Α)(BO:Μ)(BN:δ)(B:Ν)(_:vs=[.ref Y,.ref Z])(_:H Y==.lst ws)(_:Paired (u6 K H AP) ws BO)(_:BO.length<=5)(_:H Z==.dK BN)(_:(∀X∈BN,∃x:Str,X.1=.inr x))(_:(∀x v,cj BN (.inr x)==v->gx K H v (B x)))(_:∀(o:Τ)(p:BQ)(H':Hp),aq H H' ->H' p==.lst (DA o)->sS (BO.map (·.nm)) BN B o->Q (.ref p) H')
def mG:av ["_law_bars_here","_law_bounds_here","_law_names","_law_name_here"] ZK (ae jq):=sq
def acN (D:Def K mg "_law_due" jq ZK):!am 1 "_law_due" ZK (abN K):=by
 show D.op mG λf bx A outer s H vs Q E hr h=>?_;let(bA,Y,ws,AP,BO,BN,B,rfl,hb,pb,lb,hd,hk,tb,q):=h;let L3:3<=CM:=gM
 let lw:ws.length=BO.length:=RY pb
 show(_,(yF (i:=2) (tn:=["_law_bar"]) (fr:=[]) (mQ:=[]) mG.nd (bT .a) .D>>abM (xC (bV Pm rfl (IA .b) (cE 3 mG.nd) (aj (bN (oK ja .d .c rfl) (aj (aC (bJ (bS dQ .d OA)))) aQ))))>>bV Pm rfl (bT .c) (cE 3 mG.nd) (aj (bN (PW.pt (EC (m9 (lh (cD hr) .d .b)) (EC (bD TC (aH (aH (iR (cD hr) .b .d (λ_ _=>O)))) ag) (xN (bD kN (aH (aH (iR (cD hr) .b .d (λ_ _=>O)))) ag))))) (aj (aC (bJ (bS dQ .d OA)))) aQ))>>aj (aC (bJ ij))),2);sleep 3
 show(0,bA,O,#[_,aY.of hb],λJ n1=>?_);show du (oC:=[]) (K:=K) (a:=bA) (xs:=ws) (λi v _=>∃b,BO[i]?==b/\v=.str b.nm) n1 (![lw] (K' (show BO.length<=1000 by omega) gM)) (λH2 s2=>aY.of (s2\hb)) (λ_ _ _ _ _ _ _ h=>h) ?_ ?_
 ·intro i u H2 R hu s2 k
  let(b,eb,hbr):=aV pb hu;let(ta,i1,i2,rfl,h1,_):=hbr;show(0,ta,5,Ty.aq.iM s2 h1,O,k _ _ .L (b,eb,O))
 intro ys H1 hy gY s1 e1
 let ey:ys=(BO.map (·.nm)).map V.str:=by
  show VH λi=>?_;rw[Pp,Wp];by_cases c:i<ys.length
  ·let(b,e1,e2):=gY i ys[i] (gE c)
   rw[gE c,e1,e2];rfl
  ·rw[IF gu,IF gu]
   rfl
 subst ey;generalize Oo:BO.map (·.nm)=M at*;let hd1:=s1\hd;let nD:J≠Y:=λz=>by erw[z,hd] at n1
 show(0,Y,BN,O,hd1,λo=>?_);let WY:(upd H1 Y .w) Y==(.e_ o (.dK BN)):=af;let ks8:aZ Y H (upd H1 Y .w):=λb m n e=>![ah n] (s1\e)
 let e8:(upd H1 Y .w) J==.lst (M.map V.str):=by rwa[ah nD]
 generalize upd H1 Y .w=H8 at WY ks8 e8 ⊢
 let back:∀{U:Hp},aq H8 U->aq H (upd U Y (.dK BN)):=λ{U} X b m z=>by
  by_cases n:b=Y
  ·subst n
   rw[hd] at z;rwa[af]
  ·rw[ah n]
   show X\(ks8 b m n z)
 show let I:fM:=λt Z T=>∃(C:Β),Z=[cr bA,cr Y,cr J,C]/\T=H8/\KeysIn M (BN.take t);yy (d:=Y) (o:=o) (BN:=BN) I (none,8,λkv h=>(by simp at h)) (λt Z T _ h=>by
   let(_,_,rfl,_):=h
   show WY) ?_ ?_
 ·rintro t k y Z H6 xF ⟨C,rfl,rfl,j⟩
  let(x,ex):=hk _ (CU xF);have Tu :k=.inr x:=ex;subst Tu;show(3,J,0,.inl (aY.of e8),O,oQ _,0,2);show bH (λc=>?_) (λc=>?_)
  ·let c':(!ZD (.str x) (M.map V.str))=true:=c
   let nx:x∉M:=λz=>by
    erw[jz,Qd z] at c'
   show(0,L3,2);intros S n9 U X L;let np:S≠Y:=λz=>by erw[z,WY] at n9
   show(Y,o,BN,X\WY,λm u' z=>(by have z':H Y==(.e_ m u'):=z;erw[hd] at z'),q (some ("NoBar",x)) S _ (back X) (by rwa[ah np]) (.bar xF nx j))
  ·show(0,O,λkv h=>?_)
   rw[take_snoc xF] at h
   rcases OB.mp h with h|h
   ·show j kv h
   ·rw[OK.mp h]
    let c':¬ (!ZD (.str x) (M.map V.str))=true:=c;show(x,2,O);by_cases hx:x∈M
    ·show hx
    ·rw[jz,Sb hx] at c'
     show CC rfl c'
 ·rintro Z H6 ⟨C,rfl,rfl,j⟩
  rw[Vj] at j;show(Y,o,BN,WY,λm u' z=>(by have z':H Y==(.e_ m u'):=z;erw[hd] at z'),2);let N:=back (aq.refl H6);let eN:(upd H6 Y (.dK BN)) J==.lst (M.map V.str):=by rwa[ah nD]
  let dN:(upd H6 Y (.dK BN)) Y==.dK BN:=af;generalize upd H6 Y (.dK BN)=HN at N eN dN ⊢
  show(0,J,O,#[_,aY.of eN],let I:fM:=λi Z T=>∃(C:Β),Z=[cr bA,cr Y,cr J,C]/\T=HN/\∀y∈M.take i,TZ BN B y;dG (K:=K) (a:=J) (xs:=M.map V.str) I (C,8,λy h=>(by simp at h)) (λi Z T _ h=>by
   let(_,_,rfl,_):=h
   show aY.of eN) ?_ ?_)
  ·rintro i z Z H7 hi ⟨o4,rfl,rfl,wC⟩
   rw[Wp] at hi;let(x,ex,rfl):=OR.mp hi;let WZ:gU H7 Y (.str x) (cj BN (.inr x)):=gU.k (k:=.inr x) dN;let ret:∀(p:BQ)(T:Hp),¬ TZ BN B x->aq H7 T ->T p==.lst [.str "NoBound",.str x,.bl true]->Q ⇑p T:=λp T n s e=>q (some ("NoBound",x)) p T (N>>>s) e (.bound j ex wC n);cases ev:cj BN (.inr x) with
   | none=>
    rw[ev] at WZ;show(3,Y,0,WZ,0,pJ (pJ ?_));show(0,L3,2);intros S n9 U X L;show ret S U (λz=>z.1 ev) X L
   | some v=>
    rw[ev] at WZ;let(a,u1,u2,rfl,P7,(a1,rfl,h1),(a2,rfl,h2)):=(tb x v ev).iz N;show(3,Y,0,WZ,0,nF ?_);show(3,Y,0,WZ,a,5,P7,iZ,a1,5,h1,iZ,1,0,2);show bH (λc=>pJ ?_) (λc=>?_)
    ·show(0,L3,2)
     intros S n9 U X L;show ret S U (λz=>CC (xI.mpr (JN z.2).1) (Int.not_le.mpr (RE c))) X L
    show(3,Y,0,WZ,a,5,P7,i6,a2,5,h2,iZ,1,0,2);show bH (λc=>?_) (λc2=>?_)
    ·show(0,L3,2)
     intros S n9 U X L;show ret S U (λz=>CC (JM.mpr (JN z.2).2) (Int.not_le.mpr (RE c))) X L
    ·show(0,O,λy hy=>?_)
     rw[take_snoc ex] at hy
     rcases OB.mp hy with h|h
     ·show wC y h
     ·rw[OK.mp h]
      show#[![ev] (aow _),2];unfold yX;rw[Qd (xI.mp (Int.not_lt.mp λz=>c (Qd z))),Qd (JM.mp (Int.not_lt.mp λz=>c2 (Qd z)))];rfl
  ·rintro Z H7 ⟨o4,rfl,rfl,wC⟩
   rw[T4 (![CA] (CK _))] at wC;show#[z0L,2];intros S n9 U X L;show q none S U (N>>>X) L (.Sj j wC)
def acB {oC:L2.St}{a:BQ}(p:Nat->Bool)(J:Nat->List V->Hp->Prop)(M:H1 D=none)(U:∀H,aq H1 H->aY K H a xs)(hn:xs.length<CM)(z:J 0 [] (upd H1 D (.lst [])))
  (I:∀(i:Nat) x H (R:Bool->Hp->Prop),xs[i]?==x->aq H1 H->R (p i) H->tt (some x::oC) H R)
  (E:∀(i:Nat) ys H,p i=false->J i ys H->J (i+1) ys H)
  (C:∀(i:Nat) x ys H (R:VK),xs[i]?==x->p i=true->J i ys H->aq H1 H->H D==.lst ys->(∀v X,aq H X->J (i+1) (ys++[v]) (upd X D (.lst (ys++[v])))->R v X)->te (some x::oC) H R)
  (A:∀ys H,J xs.length ys H->aq H1 H->H D==.lst ys->Q ⇑D H):
  BU D (dF 0) tt te (Itl K a) (none::oC) H1 Q:=by
 show(λi m Z ys H=>m=xs.length-i/\i<=xs.length/\(∃o,Z=o::oC)/\aq H1 H/\H D==.lst ys/\J i ys H/\ys.length<=i,(xs.length,by simp,RQ _,#[none,O],λb o e=>by rwa[ah (ak e M)],af,z,CK _),2);rintro i m Z ys H ⟨rfl,hi,⟨o,rfl⟩,s,Y,T,f⟩;by_cases q:i<xs.length
 ·show .inr #[(xs,xs[i],U H s,gE q),λv H' y=>?_]
  let(rfl,L):=y;let N:=L xs (U _ s);unfold dF;show I i v _ _ N s ?_;by_cases c:p i=true
  ·rw[iB c]
   show C i v ys _ _ N c T s Y λu X S j=>(S\Y,gu,xs.length-(i+1),gu,O,gu,#[0],λb o e=>![ah (ak e M)] (S\(s _ _ e)),af,j,by simp;omega)
  ·rw[iA c]
   show(xs.length-(i+1),gu,O,gu,#[0],s,Y,E i ys _ (~~~c) T,gu)
 ·let e:i=xs.length:=gu
  subst e;show .inl #[(xs,U _ s,CK _),A ys H T s Y]
def FR.azM {P:Str->Prop}(h:FR K H H' d BN F P n)(s:aq H0 H):FR K H0 H' d BN F P n:=(s>>>h.s,h.e,h.pt,h.sz,h.ks,h.ln)
structure agf (K:Frag)(H:Hp)(lv hv:V)(r:Rat×Rat):Prop where
 lo:iE K H lv r.1
 hi:iE K H hv r.2
 zl:Sz 50 r.1
 zh:Sz 50 r.2
def aqF (e:H p==.tup [↥q.1,↥q.2])(h:0<q.2)(g:Po q.1 q.2=1):iE K H ⇑p (vl q):=(p,O,![<-yz h g] (cb.of e))
def amy {K:Frag}{H:Hp}{p Y:BQ}{q q':Int×Int}(e:H p==.tup [↥q.1,↥q.2])(X:H Y==.tup [↥q'.1,↥q'.2])(h:0<q.2/\0<q'.2)(g:Po q.1 q.2=1)(g':Po q'.1 q'.2=1)(z:intBits q.1<=50/\intBits q.2<=50)(Z:intBits q'.1<=50/\intBits q'.2<=50)(_:True):agf K H ⇑p ⇑Y (vl q,vl q'):=
 (aqF e h.1 g,aqF X h.2 g',yB (VB h.1) z.1 z.2,yB (VB h.2) Z.1 Z.2)
inductive zJ (K:Frag)(vs:ε)(H:Hp)(Q:VK)(T:XK):Prop
|mk (c:Int)(Z X Y:BQ)(us ws:ε)(AP:Α)(BO:Μ)(U:δ)(B:Ν)(_:vs=[.int c,.ref Z,.ref X,.ref Y])(_:H Z==.lst us)(_:Paired (zD K H) us AP)(_:AP.length<=4)(_:H X==.lst ws)(_:Paired (u6 K H AP) ws BO)(_:BO.length<=5)(_:(BO.map (·.nm)).Nodup)(_:KvR K H Y U (BO.map (·.nm)) B)(_:(∀x,Sz 9 (B x).1/\Sz 9 (B x).2))(_:∀(d:BQ)(BN:δ)(F:ξ)(H':Hp)(n:Nat),H d=none->FR K H H' d BN F (λ_=>True) n->Q ⇑d H')
def bI:av ["_law_cell","_law_pins","_law_bars_here","_law_bounds_here","_law_names","_law_others","_law_wrong","_law_at","_law_strange","_law_worse","_law_left","_law_k","_law_low","_law_high"] Zc (ae gc):=sq
def ain (D:Def K mg "_law_spoilt" gc Zc)(bE:mg "range"=none)(a_:mg "len"=none)(cU:!am 1 "_law_field" Vi gL):!am 2 "_law_spoilt" Zc (zJ K):=by
 show D.op bI λf bx A outer s H vs Q E S h=>?_;let(c,pA,M,dB,us,ws,AP,BO,kB,B,rfl,hp,pp,lp,hb,pb,lb,nb,hB,zB,q):=h;let L2:2<=CM:=gM
 let lw:ws.length=BO.length:=RY pb;let lu:us.length=AP.length:=RY pp
 show(_,(aw 4 bI.nd (ix (tn:=["_law_bar"]) (fr:=[]) (mQ:=[]) (bT .c) .D)>>aw 5 bI.nd (ax gS (uE (tn:=["_law_pin"]) (fr:=["_law_names"]) (mQ:=[4]) (bT .b) (λ_ _ _ _=>(dh (i:=0) (show(["_law_pin","_law_names"]:List Str).Nodup from by decide+kernel) rfl (V1 rfl))) (λ_ _ _ _=>(zai (oK (abX (K:=K) rfl) .D .b rfl))) .D) (bJ (aU dQ)))>>aw 6 bI.nd fh>>aw 7 bI.nd (a9 cU S (bS .a ag (ax bW (aI ay rfl a_ cu (aU .c)) ag)))>>aw 8 bI.nd (bP aG .f (a9 cU S (bS .a ag (aI ay rfl a_ cu (aU .f)))))>>aw 9 bI.nd (a9 cU S (bS .a ag (ax bW (aI ay rfl a_ cu (aU .c)) ag)))>>aw 10 bI.nd (a9 cU S (bS .a ag (ax bW (aI ay rfl a_ cu (aU .c)) ag)))>>bV Pm rfl (fu rfl bE (aU (aI ay rfl a_ cu (aU .c)))) (cE 11 bI.nd) (bN (PW.pt (m_ (bD dk .m .h) (jS (bD dk (a9 cU S (bS .a ag ag)) ag)))) (aj (d3 (cD S) .g .i .B rfl)) aQ>>gQ (iR (cD S) .d (bP aG .e .m) (λ_ _=>O)) (gy rfl (aK (cE 12 bI.nd) (aK (cE 13 bI.nd) cC)))>>bN (PW.pt (m_ (bD dk .m .j) (jS (bD dk (a9 cU S (bS .a ag ag)) ag)))) (aj (gQ .B (gy rfl (aK (cE 12 bI.nd) (aK (cE 13 bI.nd) cC))))) aQ>>bN (PW.pt (m_ (bD dk .m .j) (jS (bD dk (a9 cU S (bS .a ag ag)) ag)))) (aj (gQ (aJ (aE (aJ (aE (gw dm ag) ag)) (aJ (aE (gw dm ag) ag)))) (gy rfl (aK (cE 12 bI.nd) (aK (cE 13 bI.nd) cC))))) aQ>>aj (bN (PW.pt (EC (bD OD .m .k) (xN (bD dk (a9 cU S (bS .a ag ag)) ag)))) (aj (d3 (cD S) .g (bP aG .e .m) (aJ (aE (pv 12) (pv 13))) rfl)) aQ))>>bN (PW.pt (m_ (bD dk .h (aI ay rfl a_ cu (aU .c))) (jS (bD dk (a9 cU S (bS .a ag ag)) ag)))) (aj (d3 (cD S) .g .i .B rfl)) aQ>>aj (aC .g)),2);try dsimp only[nK,kO,Cx.t_,Cx.tZ]
 show(0,M,O,#[_,aY.of hb],λD1 n1=>?_);show du (oC:=[]) (K:=K) (a:=M) (xs:=ws) (λi v _=>∃b,BO[i]?==b/\v=.str b.nm) n1 (![lw] (K' (show BO.length<=1000 by omega) gM)) (λH2 s2=>aY.of (s2\hb)) (λ_ _ _ _ _ _ _ h=>h) ?_ ?_
 ·intro i u H2 R hu s2 k
  let(b,eb,hbr):=aV pb hu;let(ta,i1,i2,rfl,h1,_):=hbr;show(0,ta,5,Ty.aq.iM s2 h1,O,k _ _ .L (b,eb,O))
 intro ys H1 hy gY s1 e1
 let ey:ys=(BO.map (·.nm)).map V.str:=by
  show VH λi=>?_;rw[Pp,Wp];by_cases c:i<ys.length
  ·let(b,e1,e2):=gY i ys[i] (gE c)
   rw[gE c,e1,e2];rfl
  ·rw[IF gu,IF gu]
   rfl
 subst ey;let eu1:=s1\hp;show(0,pA,O,#[_,aY.of eu1],λD2 n2=>?_);show acB (K:=K) (a:=pA) (xs:=us) (oC:=[some ⇑D1]) (λk=>match AP[k]? with|some p=> !ZD (.str p.nm) ((BO.map (·.nm)).map V.str)|none=>false) (λi ys _=>∃xs:List Str,ys=xs.map V.str/\xs.length<=i) n2 (λH2 s2=>aY.of (s2\eu1)) (![lu] (K' (show AP.length<=1000 by omega) gM)) ([],O,CK _) ?_ ?_ ?_ ?_
 ·intro i x HC RC hx sC kC
  let(p,ep,hpr):=aV pp hx;let(ta,l,sv,jh,rfl,h1,_):=hpr;rw[ep] at kC;show(0,ta,5,Ty.aq.iM (s1>>>sC) h1,7,D1,0,.inl (aY.of (sC\e1)),O,oQ _,0,kC)
 ·rintro i ys' HC _ ⟨xs,e,l⟩
  show(xs,e,gu)
 ·rintro i x ys' HC RC hx _ ⟨xs,e,l⟩ sC hD kC
  let(p,ep,hpr):=aV pp hx;let(ta,l',sv,jh,rfl,h1,_):=hpr;show(0,ta,5,Ty.aq.iM (s1>>>sC) h1,O,kC _ _ .L (xs++[p.nm],by rw[e,RL];rfl,by rw[GY,al6];omega))
 rintro ys2 H2 ⟨xs,rfl,lx⟩ s2 e2;show#[tw,2];intros l3 n3 H3 s3 e3;show(D2,l3,1,s3\e2,e3,(![CA] (CP (show xs.length+1<=1000 by omega) gM)),2);intros l4 n4 H4 s4 e4;let e4:H4 l4==.lst ((xs++[("zzz":Str)]).map V.str):=by rw[e4,RL];rfl
 let le:(xs++[("zzz":Str)]).length=xs.length+1:=by rw[GY];rfl
 generalize hxs:xs++[("zzz":Str)]=os at e4 le;let Yb:=s2>>>(s3>>>s4);let mO:=s1>>>Yb;intros d n5 H5 s5 e5;let n05:H d=none:=mO.free n5;let s05:=mO>>>s5;let hb5:=aY.of (K:=K) (s05\hb);let f6:∀{Q':VK} {pr:Int},0<pr->pr<=2000000->(∀z:Int,Q' ↥z H5)->gL [↥c,↥pr,.int (((ws.length:Nat):Int)+1)] H5 Q' E0:=λ{Q' pr} h1 h2 k=>(c,pr,0,h1,h2,gu,k _);let I5:FR K H4 H5 d [] (λ_=>none) (λ_=>True) 0:=(s5,e5,λ_=>.inl #[8],λ_=>#[gm gM,gm gM],λkv h=>(nomatch h),CK _);show(3,M,0,.inl hb5,1,f6 gM gM λat'=>?_);let pos:(0:Int)<((os.map V.str).length:Int):=by rw[CA];omega
 let f1:=bw (c:=c) (p:=3001) (m:=((os.map V.str).length:Int)) pos;obtain ⟨k1,ek1⟩:∃n:Nat,field c 3001 ((os.map V.str).length:Int)=(n:Int):=#[_,(Int.toNat_of_nonneg f1.1).symm];rw[ek1,CA] at f1;obtain ⟨x,ex⟩:∃x,os[k1]?==x:=#[_,gE gu];show(3,0,l4,0,.inl (aY.of (s5\e4)),c,(3001),0,gM,gM,pos,l4,5,aY.of (s5\e4),(![ek1] (b9 (by rw[Wp,ex];rfl))),3,M,0,.inl hb5,1,f6 gM gM λwo=>?_);show(3,M,0,.inl hb5,1,f6 gM gM λo=>?_);let z0:Sz 50 (0:Rat):=gm gM;let en:((ws.length:Nat):Int).toNat=ws.length:=gu
 show(0,M,0,.inl hb5,((ws.length:Nat):Int),O,gu,gu,let I:fM:=λi Z H'=>Ex5 λ(o11 y C:Β) (Y:δ) (F:ξ)=>Z=[some ↥c,cr pA,cr M,cr dB,cr D1,cr l4,cr d,some ↥at',some (.str x),some ↥wo,some ↥o,o11,y,C]/\FR K H4 H' d Y F (λ_=>True) (2*i);fU (lo:=0) (n:=((ws.length:Nat):Int).toNat) I (none,none,none,[],0,I5) ?_ ?_)
 ·rintro i Z H6 hi ⟨o11,y,C,Y,F,rfl,N⟩
  let ek:(0:Int)+(i:Int)=(i:Int):=VM _;rw[ek];let hiw:i<ws.length:=gu
  let(b,eb,hbr):=aV pb (gE hiw);let en':((BO.map (·.nm)).map V.str)[i]?==.str b.nm:=by rw[Pp,Wp,eb];rfl
  let mb:=CU eb;dsimp only[dF,lU];show fo (λZ' H'=>QJ λ(Y:δ) (F:ξ)=>Z' =[some ↥c,some ⇑pA,some ⇑M,some ⇑dB,some ⇑D1,some ⇑l4,some ⇑d,some ↥at',some (.str x),some ↥wo,some ↥o,some ↥(i:Int),y,C]/\FR K H4 H' d Y F (λ_=>True) (2*i+1)) (λNx T=>?_) ?_
  ·show(3,7,bH (λ_=>?_) (λ_=>nF (T\(Y,F,O,N.iz .L gu))))
   show(0,6,gM,gM,gM,7,bH (λ_=>?_) (λ_=>T\(Y,F,O,N.iz .L gu)));show#[L2,2];intros pa na Ha U j;show#[L2,2];intros pq nq Hb L eq;show#[L2,2];intros pc nc Hc X ec;let J:=U>>>(L>>>X);let hz:gx K Hc ⇑pc (0,0):=vH cR cR ec (X\(L _ _ j)) (X\eq);let l6:=N.ln;show(3,d,0,jP.k (k:=.inr x) (J\N.e) .I,T _ _ #[4,N.put n5 J hz #[z0,z0] trivial])
  rintro Z' H7 ⟨Y,F,rfl,I7⟩;let s07:=mO>>>I7.s;let(v,ev,hv):=hB.val nb (CS.mpr (b,mb,O));let(a,u1,u2,rfl,P7,h1,h2):=hv.iz s07
  let dg:gU H7 dB (.str b.nm) (some ⇑a):=by
   have:=gU.k (k:=.inr b.nm) (s07\hB.1);rwa[ev] at this
  let dn:=((s2>>>(s3>>>s4)).trans I7.s) _ _ e1;show(3,0,D1,5,aY.of dn,b9 en',dB,0,dg,a,0,P7,O,4,1,2);dsimp only[dF,ED,aez];let T7:agf K H7 u1 u2 (B b.nm):=(h1,h2,(zB b.nm).1.up gM,(zB b.nm).2.up gM);show fo (λZ' H'=>Ex3 λ(lv hv:V) (r:Rat×Rat)=>Z' =[some ↥c,some ⇑pA,some ⇑M,some ⇑dB,some ⇑D1,some ⇑l4,some ⇑d,some ↥at',some (.str x),some ↥wo,some ↥o,some ↥(i:Int),some lv,some hv]/\aq H7 H'/\agf K H' lv hv r) (λNx T=>?_) ?_
  ·show(3,7,bH (λ_=>?_) (λ_=>nF (T\(6,aq.refl _,T7))))
   show(0,6,gM,gM,gM,7,bH (λ_=>?_) (λ_=>T\(6,aq.refl _,T7)));show#[L2,2];intros pa na Ha U j;show#[L2,2];intros pq nq Hb L eq;show#[L2,2];intros pc nc Hc X ec;show(pc,0,cb.of ec,O,4,1,T\(9,(_,_),O,U>>>(L>>>X),amy (q:=(1,7)) (q':=(9,1)) (X _ _ (L _ _ j)) (X _ _ eq) gM gM gM gM gM gM))
  rintro Z' H8 ⟨lv8,hv8,r8,rfl,s8,T8⟩;show fo (λZ' H'=>Ex3 λ(lv hv:V) (r:Rat×Rat)=>Z' =[some ↥c,some ⇑pA,some ⇑M,some ⇑dB,some ⇑D1,some ⇑l4,some ⇑d,some ↥at',some (.str x),some ↥wo,some ↥o,some ↥(i:Int),some lv,some hv]/\aq H8 H'/\agf K H' lv hv r) (λNx T=>?_) ?_
  ·show(3,7,bH (λ_=>?_) (λ_=>nF (T\(6,aq.refl _,T8))))
   show(0,6,gM,gM,gM,7,bH (λ_=>?_) (λ_=>T\(6,aq.refl _,T8)));show(0,L2,2);intros pa na Ha U j;show(0,L2,2);intros pq nq Hb L eq;show#[L2,2];intros pc nc Hc X ec;show(pc,0,cb.of ec,O,4,1,T\(9,(_,_),O,U>>>(L>>>X),amy (q:=(-9,1)) (q':=(-1,7)) (X _ _ (L _ _ j)) (X _ _ eq) gM gM gM gM gM gM))
  rintro Z' H9 ⟨lv9,hv9,r9,rfl,s9,T9⟩;let s79:=s8>>>s9;let dn9:=s79\dn;let I9:=I7.iz (m:=2*i+1) s79 (CK _)
  let fin:∀(p:BQ)(Hp':Hp),aq H9 Hp' ->Hp' p==.tup [lv9,hv9]->FR K H4 (upd Hp' d (.dK (putK Y (.inr b.nm) ⇑p))) d (putK Y (.inr b.nm) ⇑p) (λnm=>if nm=b.nm then some r9 else F nm) (λ_=>True) (2*(i+1)):=λp Hp' s e=>by
   have:=I9.put n5 s (sJ e (T9.lo.iz s) (T9.hi.iz s)) #[T9.zl,T9.zh] (x:=b.nm) trivial;show this.iz .L gu
  let l9:=I9.ln;show(3,7,2);show bH (λ_=>pJ ?_) (λ_=>?_)
  ·show(3,L2,2)
   intros pa na Ha U j;show(3,0,D1,5,aY.of (U\dn9),b9 en',d,0,jP.k (k:=.inr b.nm) (U\I9.e) .I,9,6,fin pa Ha U j)
  show(0,6,gM,gM,gM,7,bH (λ_=>?_) (λ_=>(9,_,Y,F,O,I9.iz .L gu)));show(3,L2,2);intros pa na Ha U j;show(3,0,D1,5,aY.of (U\dn9),b9 en',d,0,jP.k (k:=.inr b.nm) (U\I9.e) .I,9,6,fin pa Ha U j)
 ·rintro Z H6 ⟨o11,y,C,Y,F,rfl,N⟩
  rw[en] at N;dsimp only[lU,oI];show fo (λZ' H'=>QJ λ(Y:δ) (F:ξ)=>Z' =[some ↥c,some ⇑pA,some ⇑M,some ⇑dB,some ⇑D1,some ⇑l4,some ⇑d,some ↥at',some (.str x),some ↥wo,some ↥o,o11,y,C]/\FR K H4 H' d Y F (λ_=>True) (2*ws.length+1)) (λNx T=>?_) ?_
  ·show(3,M,0,.inl (aY.of ((mO>>>N.s) _ _ hb)),7,bH (λ_=>?_) (λ_=>nF (T\(Y,F,O,N.iz .L gu))))
   show(0,6,gM,gM,gM,7,bH (λ_=>?_) (λ_=>T\(Y,F,O,N.iz .L gu)));show#[L2,2];intros pa na Ha U j;show#[L2,2];intros pq nq Hb L eq;show#[L2,2];intros pc nc Hc X ec;let J:=U>>>(L>>>X);let hz:gx K Hc ⇑pc (0,0):=vH cR cR ec (X\(L _ _ j)) (X\eq);let l6:=N.ln;show(3,d,0,jP.k (k:=.inr x) (J\N.e) .I,T _ _ #[4,N.put n5 J hz #[z0,z0] trivial])
  rintro Z' H7 ⟨Y,F,rfl,I7⟩;show#[0,q d Y F H7 _ n05 (I7.azM mO)]
structure zK (K:Frag)(CN CB CD CG CL CT CY C:BQ):Prop where
 ek:ou.kR K C
 row:∃b1 b2 b3 b4 b5 b6:Bool,QU K ⇑C ⇑CN==b1/\QU K ⇑C ⇑CB==b2/\QU K ⇑C ⇑CD==b3/\QU K ⇑C ⇑CG==b4/\QU K ⇑C ⇑CL==b5/\QU K ⇑C ⇑CT==b6/\[V.bl b1,.bl b2,.bl b3,.bl b4,.bl b5,.bl b6].countP (λz=>xr z (.bl true))=1
 y:QU K ⇑C ⇑CY==true
 v:QU K ⇑C .O==true
inductive K_ (K:Frag)(X R S T U Y Z:BQ)(vs:ε)(H:Hp)(Q:VK)(N:XK):Prop
|mk (a C:BQ)(d:χ)(_:vs=[.ref a])(_:H a==(iC (.ref C) a d))(_:zK K X R S T U Y Z C)(_:∀H',aq H H' ->Q (.bl true) H')
def mH:av ["_law_e","_law_found"] ["_law_e"] (ae hU):=sq
def acr (D:Def K mg "_law_alone" hU ["_law_e"])(Z:mg "isinstance"=none)(m:mg "ValueError"=none)(p:mg "YardError"==⇑CY)(JK:mg "NoPin"==⇑CN)(JL:mg "NoBar"==⇑CB)(gj:mg "NoBound"==⇑CD)(x:mg "NoGrip"==⇑CG)(R:mg "NoLoad"==⇑CL)(z:mg "NoText"==⇑CT):
  FnH P w K mg gV 1 "_law_alone" ["_law_e"] (K_ K CN CB CD CG CL CT CY):=by
 show D.okH mH (λu H Q E h=>?_) (λf bx A S s H u Q hr h=>?_)
 ·let(a,C,d,rfl,_):=h
  rfl
 let(a,C,d,rfl,Y,k,q):=h;let(b1,b2,b3,b4,b5,b6,k1,k2,k3,k4,b,c,hc):=k.row
 show(_,(aw 1 mH.nd (bJ (Q7 (aI (g8 (K:=K) rfl) rfl Z dJ (aE .a (qz rfl JK))) (bS (aI (g8 (K:=K) rfl) rfl Z dJ (aE .a (qz rfl JL))) (aI (g8 (K:=K) rfl) rfl Z dJ (aE .a (qz rfl gj))) (aI (g8 (K:=K) rfl) rfl Z dJ (aE .a (qz rfl x))))))>>aw 1 mH.nd (ax gS .b (bJ (aE (aI (g8 (K:=K) rfl) rfl Z dJ (aE .a (qz rfl R))) (aI (g8 (K:=K) rfl) rfl Z dJ (aE .a (qz rfl z))))))>>aj (aC (QO (jT dk (nE Zn PySem.F.slot_list_count PySem.F.type_list_count ag1 .b (aU OA)) ag (l_ _)) (QO (aI (g8 (K:=K) rfl) rfl Z dJ (aE .a (qz rfl p))) (QN (aI (g8 (K:=K) rfl) rfl Z dJ (aE .a (am1 rfl m abU)))))))),2)
 show(0,a,C,9,d,8,Y,k.ek,k1,0,a,C,9,d,8,Y,k.ek,k2,0,a,C,9,d,8,Y,k.ek,k3,0,a,C,9,d,8,Y,k.ek,k4,z4L,2);intros i n1 H1 L e1;let U:=L\Y;show(3,a,C,9,d,8,U,k.ek,b,0,a,C,9,d,8,U,k.ek,c,sZ,2);intros j n2 H2 M e2;show(i,j,1,M\e1,e2,(by change 4+2<=CM;decide),2);intros J n3 N o T;let I:aq H N:=L>>>(M>>>o);let X:=I\Y;let T:N J==.lst [.bl b1,.bl b2,.bl b3,.bl b4,.bl b5,.bl b6]:=T;show(0,.inl (O,_,aY.of T),J,_,.bl true,8,aY.of T,8,2);rw[hc];show(O,true,O,pJ ?_);show(0,a,C,_,true,d,8,X,k.ek,k.y,true,O,pJ ?_);show(0,a,C,_,true,d,8,X,k.ek,k.v,q N I)
inductive Sl (Z X:τ)(Y BN:δ)(B:Ν):Option (Str×Str)->Prop
 | pin {t:Nat} {x:Str} {y:V}:Y[t]?==(.inr x,y)->x∉Z->KeysIn Z (Y.take t)->Sl Z X Y BN B (some ("NoPin",x))
 | on {o:Τ}:KeysIn Z Y->sS X BN B o->Sl Z X Y BN B o
structure azO (K:Frag)(CN CB CD CG CL CT CY:BQ):Prop where
 xn:ou.uk K CN "pin"
 xb:ou.uk K CB "bar"
 xd:ou.uk K CD "bar"
 nn:Vs K ⇑CN ⇑CN==true
 bn:Vs K ⇑CB ⇑CN==false
 bb:Vs K ⇑CB ⇑CB==true
 dn:Vs K ⇑CD ⇑CN==false
 db:Vs K ⇑CD ⇑CB==false
 dd:Vs K ⇑CD ⇑CD==true
 an:zK K CN CB CD CG CL CT CY CN
 ab:zK K CN CB CD CG CL CT CY CB
 ad:zK K CN CB CD CG CL CT CY CD
inductive abO (K:Frag)(C Y:BQ)(vs:ε)(H:Hp)(Q:VK)(R:XK):Prop
|mk (a S:BQ)(v:V)(AP:Α)(BO:Μ)(Z:δ)(Bd:Ν)(_:vs=[.ref a,.ref S,v])(_:BK K H C a AP BO)(_:jZ AP BO)(_:AP.length<=4)(_:BO.length<=5)(_:H S==.dK Z)(_:(∀U∈Z,∃x:Str,U.1=.inr x))(_:(∀x v,cj Z (.inr x)==v->gx K H v (Bd x)))(_:(∀x,Ty.Sz 400 (Bd x).1/\Ty.Sz 400 (Bd x).2))(_:kJ H Y)(_:((v=.cS/\∀(o:Τ)(p:BQ)(H':Hp),aZ Y H H' ->kJ H' Y->H' p==.lst (DA o)->sS (BO.map (·.nm)) Z Bd o->Q (.ref p) H')\/∃(T:BQ)(X:δ)(F:ξ),v=.ref T/\H T==.dK X/\vB K H X F/\(∀U∈X,∃x:Str,U.1=.inr x)/\(∀x,Ty.Sz 50 (mv F x).1/\Ty.Sz 50 (mv F x).2)/\(∀p∈AP,agc p.ws)/\∀(o:Τ)(p:BQ)(H':Hp),aZ Y H H' ->kJ H' Y->H' p==.lst (DA o)->Sl (AP.map (·.nm)) (BO.map (·.nm)) X Z Bd o->Q (.ref p) H'))
def jf:av ["_law_frame_here","_law_bounds_here","_law_load_here","_law_e"] ZY (ae h_):=sq
def acX (D:Def K mg "_law_asked" h_ ZY)(JK:mg "NoPin"==⇑CN)(JL:mg "NoBar"==⇑CB)(gj:mg "NoBound"==⇑CD)(U:azO K CN CB CD CG CL CT CY)
  (Sn:!am 38 "price_of" mM (u5 K C CB CD)) (DC:!am 39 "greatest_of" Zz (KO K C P0 CN CB CD)) (ot:!FnH 1 "_law_alone" ["_law_e"] (K_ K CN CB CD CG CL CT CY)):
  am P w K mg gV 40 "_law_asked" ZY (abO K C P0):=by
 show D.oo jf λH hr h=>?_;let(a,dB,v,AP,BO,kB,Bd,rfl,R,g,lp,lb,hdB,hkB,hvB,szB,m,ask):=h;let L3:3<=CM:=gM
 show(_,(aiN #[8] (ajH (bD qj .c gO) (ads (ahd Sn hr.mo (bS .a .b fh))) (ads (ahd DC hr.mo (bS .a .b .c)))) (ZL (i:=3) (Vq.own JK) jf.nd rfl rfl (λa=>(aj (aC (bJ (bS dQ (yD (K:=K) rfl .d rfl) (Q0 ot (mN.mark hr.mo _) (aU .d))))))) (ZL (i:=3) (Vq.own JL) jf.nd rfl rfl (λa=>(aj (aC (bJ (bS dQ (yD (K:=K) rfl .d rfl) (Q0 ot (mN.mark hr.mo _) (aU .d))))))) (ZL (i:=3) (Vq.own gj) jf.nd rfl rfl (λa=>(aj (aC (bJ (bS dQ (yD (K:=K) rfl .d rfl) (Q0 ot (mN.mark hr.mo _) (aU .d))))))) aiM)))>>aj (aC (bJ ij))),2);try dsimp only[nK,kO,Cx.t_,Cx.tZ]
 rcases ask with ⟨rfl,q⟩|⟨dL,kL,F,rfl,hdL,hP,hkL,szF,wi,q⟩
 ·show(0,7,bH (λ_=>?_) (λc=>CC gM c))
  show#[3,2];intros dM nM H1 sM eM;show(a,dB,dM,AP,BO,kB,Bd,O,R.iz sM,g,lb,sM\hdB,hkB,λx v e=>(hvB x v e).iz sM,szB,eM,λt x y o u k1 Y X I nd p=>?_,λf t x o p1 u Y X I nd p=>?_,λv X f j s1=>?_)
  ·show(false,U.bn,nF (true,U.bb,pJ λZ A=>?_))
   let T:aq X (upd X Z (iC ⇑CB Z (some Y))):=ar A _;let S:(upd X Z (iC ⇑CB Z (some Y))) Z==(iC ⇑CB Z (some Y)):=af;generalize upd X Z (iC ⇑CB Z (some Y))=H2 at T S ⊢;show(0,Z,CB,Y,_,.str x,O,S,T\p,U.xb,P5 _ _,0,Z,CB,some Y,O,S,U.ab,λH3 E=>#[L3,2]);intros M n4 J N L;let Q:=sM>>>(I>>>(T>>>(E.trans N)));show q (some ("NoBar",x)) M J (aZ.of Q) (m.iz Q) L (.bar o u k1)
  ·show(false,U.dn,nF (false,U.db,nF (true,U.dd,pJ λZ A=>?_)))
   let T:aq X (upd X Z (iC ⇑CD Z (some Y))):=ar A _;let S:(upd X Z (iC ⇑CD Z (some Y))) Z==(iC ⇑CD Z (some Y)):=af;generalize upd X Z (iC ⇑CD Z (some Y))=H2 at T S ⊢;show(0,Z,CD,Y,_,.str x,O,S,T\p,U.xd,P5 _ _,0,Z,CD,some Y,O,S,U.ad,λH3 E=>#[L3,2]);intros M n4 J N L;let Q:=sM>>>(I>>>(T>>>(E.trans N)));show q (some ("NoBound",x)) M J (aZ.of Q) (m.iz Q) L (.bound f o p1 u)
  ·show#[z0L,2]
   intros M n4 J N L;let Q:=sM>>>(s1>>>N)
   show q none M J (aZ.of Q) (m.iz Q) L (.Sj f λx hx=>by
    let(b,hb,rfl):=CS.mp hx
    show j b hb)
 ·show(0,7,bH (λc=>CC c gN) (λ_=>?_))
  show(3,0,a,dB,dL,AP,BO,kB,kL,Bd,F,O,R,g,lp,lb,hdB,hkB,hvB,szB,hdL,hP,hkL,szF,λz hz h0=>abL g.np wi hz h0,m,λt x y o u k1 Y X I nd p=>?_,λkl t x y o u k1 Y X I nd p=>?_,λkl f t x o p1 u Y X I nd p=>?_,λv X kl f j ks tb1=>?_)
  ·show(true,U.nn,pJ λZ A=>?_)
   let T:aq X (upd X Z (iC ⇑CN Z (some Y))):=ar A _;let S:(upd X Z (iC ⇑CN Z (some Y))) Z==(iC ⇑CN Z (some Y)):=af;generalize upd X Z (iC ⇑CN Z (some Y))=H2 at T S ⊢;show(0,Z,CN,Y,_,.str x,O,S,T\p,U.xn,P5 _ _,0,Z,CN,some Y,O,S,U.an,λH3 E=>#[L3,2]);intros M n4 J N L;let Q:=I>>>(T>>>(E>>>N));show q (some ("NoPin",x)) M J (aZ.of Q) (m.iz Q) L (.pin o u k1)
  ·show(false,U.bn,nF (true,U.bb,pJ λZ A=>?_))
   let T:aq X (upd X Z (iC ⇑CB Z (some Y))):=ar A _;let S:(upd X Z (iC ⇑CB Z (some Y))) Z==(iC ⇑CB Z (some Y)):=af;generalize upd X Z (iC ⇑CB Z (some Y))=H2 at T S ⊢;show(0,Z,CB,Y,_,.str x,O,S,T\p,U.xb,P5 _ _,0,Z,CB,some Y,O,S,U.ab,λH3 E=>#[L3,2]);intros M n4 J N L;let Q:=I>>>(T>>>(E>>>N));show q (some ("NoBar",x)) M J (aZ.of Q) (m.iz Q) L (.on kl (.bar o u k1))
  ·show(false,U.dn,nF (false,U.db,nF (true,U.dd,pJ λZ A=>?_)))
   let T:aq X (upd X Z (iC ⇑CD Z (some Y))):=ar A _;let S:(upd X Z (iC ⇑CD Z (some Y))) Z==(iC ⇑CD Z (some Y)):=af;generalize upd X Z (iC ⇑CD Z (some Y))=H2 at T S ⊢;show(0,Z,CD,Y,_,.str x,O,S,T\p,U.xd,P5 _ _,0,Z,CD,some Y,O,S,U.ad,λH3 E=>#[L3,2]);intros M n4 J N L;let Q:=I>>>(T>>>(E>>>N));show q (some ("NoBound",x)) M J (aZ.of Q) (m.iz Q) L (.on kl (.bound f o p1 u))
  ·show#[z0L,2]
   intros M n4 J N L
   show q none M J (sf ks N) (tb1.iz N) L (.on kl (.Sj f λx hx=>by
    let(b,hb,rfl):=CS.mp hx
    show j b hb))
def pQ:Option (Str×Str)->List Da
 | none=>[]
 | some q=>[.v (.str q.1),.v (.str q.2),.v (.bl true)]
def ai1 (o:Τ):ik (pQ o) (pQ o)=true/\g7 (pQ o) (pQ o)=true/\uh (pQ o)<=60:=by
 cases o with
 | none=>show(by simp[pQ,ik],by simp[pQ,g7],by simp[pQ,uh])
 | some q=>show(by simp[pQ,ik,alike],by simp[pQ,g7,qw,xr],by simp[pQ,uh,dep])
def LB {o:Τ}(e:H p==.lst (DA o)):Is K H (.l (pQ o)) ⇑p:=by
 unfold Is;show(p,0,aY.of e,2);cases o with
 | none=>
  change mY K H [] [];unfold mY;trivial
 | some q=>
  change mY K H [.v (.str q.1),.v (.str q.2),.v (.bl true)] [.str q.1,.str q.2,.bl true];unfold mY;show#[by unfold Is;show#[8],2];unfold mY;show#[by unfold Is;show#[8],2];unfold mY;show#[by unfold Is;show#[8],2];unfold mY;trivial
def akK {o:Τ}(Y:H p==.lst (DA o))(Z:H p2==.lst (DA o))(q:Q (.bl false) H):ZI K ⇑p ⇑p2 H Q:=by
 let(a,b,c):=ai1 o;show(pQ o,pQ o,.inr #[LB Y,LB Z],a,c,by rwa[b])
def akL {o:Τ}(Y:H p==.lst (DA o))(Z:H p2==.lst (DA o))(q:Q (.bl true) H):ZH K ⇑p ⇑p2 H Q:=by
 let(a,b,c):=ai1 o;show(pQ o,pQ o,.inr #[LB Y,LB Z],a,c,by rwa[b])
def vB.vals (h:vB K H BN F)(x:Str)(v:V)(e:cj BN (.inr x)==v):gx K H v (mv F x):=by
 rcases h x with ⟨z,_⟩|⟨X,p,Y,Z,U⟩
 ·rw[z] at e
  cases e
 ·rw[Y] at e
  cases e;unfold mv;rwa[Z]
def kG:av ["_law_script","_law_pins","_law_bars_here","_law_frame_here","_law_cell","_law_bounds_here","_law_strange","_law_load_here","_law_due_here"] Pe (ae rN):=sq
def akM (F:oN K "law" "law" rN f fd)
  (sR:!am 1 "_law_cell_at" yt (qQ K)) (cU:!am 1 "_law_field" Vi gL) (zO:!am 35 "_law_few_pins" Pe (KY K)) (azP:!am 3 "_law_bars" qa (KZ K)) (azQ:!am 4 "_law_frame" ZA (zG K C)) (LD:!am 34 "_law_bounds" ZF (u9 K))
  (LF:!am 2 "_law_spoilt" Zc (zJ K)) (azR:!am 2 "_law_load" ZU (Si K)) (W_:!am 1 "_law_due" ZK (abN K)) (vM:!am 40 "_law_asked" ZY (abO K C P0)):
  bv P w K mg gV 42 f fd Pe (Rn K P0):=by
 show F.okG kG (λvs H Q E h=>?_) (λbx A outer s H vs Q E Z h=>?_)
 ·let(a,D,rfl,_):=h
  rfl
 let(sA,D,rfl,hS,hn,hb,hT,q):=h;let tb0:kJ H P0:=.inl hT
 show(_,(aw 1 kG.nd (a9 zO Z (aU .a))>>aw 2 kG.nd (a9 azP Z (aE .a .b))>>aw 3 kG.nd (a9 azQ Z (aE .b .c))>>aw 4 kG.nd (a9 sR Z (aE .a ag))>>aw 5 kG.nd (a9 LF Z (Q7 .e (bS .b .c (a9 LD Z (aE .a .c)))))>>aw 6 kG.nd (jT dk (a9 cU Z (bS .e ag ag)) ag (l_ _))>>aw 7 kG.nd (a9 azR Z (bS .a .b .g))>>aw 8 kG.nd (a9 W_ Z (aE .c .f))>>bN (bD (aeK Z.units) (a9 vM Z (bS .d .f gO)) .i) (aj (aC OA)) aQ>>bN (qi .g) (aj (aw 8 kG.nd (bJ (bS dQ dQ OA)))) aQ>>aj (aC (jT (adJ Z.units) (a9 vM Z (bS .d .f .h)) .i (l_ _)))),2);try dsimp only[nK,kO,Cx.t_,Cx.tZ]
 show(0,sA,D,O,hS,λpA us U H1 s1 nA eA pp gp lp nz=>?_);let lu:us.length=U.length:=RY pp;show(3,sA,pA,D,us,U,O,s1.seq hS,eA,lu,gp.np,gu,λbA jb BO H2 s2 nB eB pb gb lb=>?_);let pp2:Paired (zD K H2) us U:=Paired.dP pp λ_ _ z=>z.iz s2;show(3,pA,bA,us,jb,U,BO,O,s2\eA,pp2,eB,pb,gp,gb,gu,gu,λfA H3 s3 R=>?_);let s03:=s1>>>(s2>>>s3);let g:=aqt gp gb gu gu;let pb3:Paired (u6 K H3 U) jb BO:=Paired.dP pb λ_ _ z=>z.iz s3;show(0,sA,D,(2),O,s03.seq hS,gM,gM,2);generalize cell D 2=c;show(3,3,0,sA,bA,D,jb,U,BO,O,s03.seq hS,s3\eB,pb3,gb.nb,lb,λdB kB B H4 s4 _ hB zB=>?_);let Yb:=s2>>>(s3>>>s4);show(c,pA,bA,dB,us,jb,U,BO,kB,B,O,Yb\eA,Paired.dP pp λ_ _ z=>z.iz Yb,lp,s4\(s3 _ _ eB),Paired.dP pb3 λ_ _ z=>z.iz s4,lb,gb.nb,hB,λx=>#[(zB x).2.2.1,(zB x).2.2.2],λdW kW FW H5 m5 _ M=>?_);let I:=Yb>>>M.s;let s05:=s1>>>I;show(0,6,gM,gM,gM,O,2);generalize decide (V.int (field c 9001 5)=V.int 0)=b;show(3,0,sA,pA,D,us,U,b,O,s05.seq hS,I\eA,Paired.dP pp λ_ _ z=>z.iz I,lp,λdL kL FL H6 m6 _ S hzz=>?_);let J:=(s3>>>(s4>>>M.s)).trans S.s;let i:=S.s\M.e;let pW6:=M.pt.iz S.s
 let m:∀u∈kW,∃x:Str,u.1=.inr x:=λu h=>by
  let(x,e,_):=M.ks u h;show#[x,e]
 show(3,bA,dW,jb,U,BO,kW,mv FW,O,J\eB,Paired.dP pb λ_ _ z=>z.iz J,lb,i,m,vB.vals pW6,λo pD H7 L eD due=>?_);let N:kJ H7 P0:=((tb0.iz s1).iz s2).iz (J>>>L);let R7:=R.iz (s4>>>M.s>>>(S.s>>>L));let sz4:∀x,Ty.Sz 400 (mv FW x).1/\Ty.Sz 400 (mv FW x).2:=λx=>#[(M.sz x).1.up gM,(M.sz x).2.up gM];let pW7:=pW6.iz L;show(3,fA,dW,.cS,U,BO,kW,mv FW,O,R7,g,lp,lb,L\i,m,vB.vals pW7,sz4,N,.inl #[O,λo8 p8 H8 k8 tb8 e8 azV=>?_]);obtain rfl:=due.uniq azV;let(ps0,ep0):=N.mW;let kp:∀{a T},H7 a==T ->(∀z,T≠.mW z)->H8 a==T:=λ{a T} e n=>k8 a T (λz=>by erw[z,ep0] at e;show n _ rfl) e;let eD8:=kp eD (λ_ z=>nomatch z);show#[0,akK e8 eD8 ?_];show#[0,bH (λc=>nomatch c) (λ_=>?_)];dsimp only[ag0];show fo (λZ' H'=>QJ λ(o3:Τ) (pE:BQ)=>Z' =[some ⇑sA,some ⇑pA,some ⇑bA,some ⇑fA,some ↥c,some ⇑dW,some (.bl b),some ⇑dL,some ⇑pE]/\aq H8 H'/\H' pE==.lst (DA o3)/\((b=true/\o3==(("NoPin":Str),("zz":Str)))\/(b=false/\o3=o))) (λNx mF=>?_) ?_
 ·show#[3,bH (λY=>?_) (λj=>mF\(o,pD,O,aq.refl _,eD8,.inr #[~~~j,O]))]
  show#[z3L,2];intros p9 n9 H9 s9 e9;show mF\(some (("NoPin":Str),("zz":Str)),p9,O,s9,e9,.inl #[Y,O])
 rintro Z' H9 ⟨o3,pE,rfl,s9,eE,hb3⟩;let k79:aZ P0 H7 H9:=sf k8 s9;let tb9:=kJ.iz tb8 s9;let t79:=abp N k79;let kq:∀{a T},H7 a==T ->(∀z,T≠.mW z)->H9 a==T:=λ{a T} e n=>s9\(kp e n);let hL7:=L\S.e
 let kLs:∀u∈kL,∃x:Str,u.1=.inr x:=λu h=>by
  let(x,e,_):=S.ks u h;show#[x,e]
 show(3,0,fA,dW,⇑dL,U,BO,kW,mv FW,O,abu R7 N k79,g,lp,lb,kq (L\i) (λ_ z=>nomatch z),m,vB.vals (vB.bC pW7 t79),sz4,tb9,.inr (dL,kL,FL,O,kq hL7 (λ_ z=>nomatch z),vB.bC (S.pt.iz L) t79,kLs,S.sz,λp hp=>agd (gp.ws p hp),λo9 p10 Vz k10 akh WQ aqK=>?_));let(ps1,ep1):=tb9.mW;let azW:Vz pE==.lst (DA o3):=k10 pE _ (λz=>by erw[z,ep1] at eE) eE
 let e39:o9=o3:=by
  rcases hb3 with ⟨Y,rfl⟩|⟨j,rfl⟩
  ·let(v,ev):=hzz Y
   let mz:=zaS ev;cases aqK with
   | pin e n k=>
    rename_i t x y;let(x',e',X):=S.ks _ (CU e);let ex:x=x':=by injection e'
    rcases X with X|⟨_,X⟩
    ·show(n (ex▸X)).elim
    ·rw[ex,X]
   | on k _=>
    let(x',X,e'):=k _ mz;let ex:("zz":Str)=x':=by injection e'
    show(nz (ex▸X)).elim
  ·cases aqK with
   | pin e n k=>
    rename_i t x y;let(x',e',X):=S.ks _ (CU e);let ex:x=x':=by injection e'
    rcases X with X|⟨Y,_⟩
    ·show(n (ex▸X)).elim
    ·rw[j] at Y
     cases Y
   | on _ d=>show d.uniq due
 rw[e39] at WQ;show#[0,akL WQ azW (q _)]
end
def all_mk {l:PySem.W.OpenLaw}{w:World}{K:Frag}{h:Heap}{mg:ι}{fa:BQ}{P0:BQ}(X:K.In h)(G:h.Ns J_ mg)(hfa:mg "law"==⇑fa){aqL aqM:Str}{aqN ahV:ς}{aqO:Bool}{aqP:τ}{akN:ς}{aqQ:Bool}{akO:Option Bool}{aqR aqS aqT aqU aqV:Option Value}{aqW aqX:Str}{aqY ahW:ς}{aqZ:Bool}{aq0:τ}{akP:ς}{aq1:Bool}{akQ:Option Bool}{aq2 aq3 aq4 aq5 aq6:Option Value}{So Sq:Str}{Sr zP:ς}{Ss:Bool}{Su:τ}{Qk:ς}{Sv:Bool}{Ql:Option Bool}{Sw Sx Sy SA SD:Option Value}(abP:oy K "sum_of" jB)(azX:oy K "difference_of" Ru)(LG:oy K "product_of" eV)(Xb:oy K "is_less" jn)(az1:oy K "lowest_terms" PV)(az5:oy K "greatest_shared" V7)(zQ:oy K "lengthenings" d6)(az9:oy K "arm_between" V8)(aAc:oy K "pair_difference" Rv)(zV:oy K "pair_product" c9)(aAg:oy K "pair_row" V9)(aAk:oy K "load_row" Rw)(LK:oy K "check_bars" eY)(aAo:oy K "bar_row" V_)(aAs:oy K "draw_rows" V')(aAw:oy K "pulls_and_pushes" Wa)(aAA:oy K "motion_from" Wb)(aAE:oy K "signs_turned" Wc)(LO:oy K "mixed_rows" fX)(aAI:oy K "solve_rows" Wd)(wA:oy K "spare_columns" dy)(LS:oy K "spare_list" fY)(aAM:oy K "turned" We)(aAQ:oy K "whole_row" Wf)(wG:oy K "whole_product" dz)(aAU:oy K "solution_of" Wg)(aAY:oy K "reduced" Wh)(aA2:oy K "first_not_nought" Wi)(aA6:oy K "cleared" Wj)(aA':oy K "divided" Wk)(Xv:oy K "most_of" jo)(zZ:oy K "fitting_list" d7)(LX:oy K "price_list" fZ)(AE:oy K "endless_list" cK)(DJ:oy K "greatest_of" dX)(SH:oy K "price_of" gX)(L':oy K "all_bounds" eZ)(MI:oy K "has_nought" f9)(MQ:oy K "most_borne" f_)(Qo:oy K "both_ways" hJ)(DR:oy K "differences" fC)(aBd:oy K "_law_cell_at" Wm)(aBh:oy K "_law_field" Wn)(aBl:oy K "_law_lowest" Wo)(aBp:oy K "_law_sum" Wq)(aBt:oy K "_law_name" Rx)(aBx:oy K "_law_spot" Ws)(aBB:oy K "_law_ways" Wt)(AL:oy K "_law_few_pins" d9)(aBF:oy K "_law_bars" Wu)(aBJ:oy K "_law_frame" Wv)(MY:oy K "_law_bounds" f')(aBN:oy K "_law_load" s_by)(NF:oy K "_law_spoilt" gc)(Xz:oy K "_law_due" jq)(Qs:oy K "_law_alone" hU)(Qw:oy K "_law_asked" h_)(ar8:nsIn K J_ "law"==(some ⇑ah5))(ar9:K.lookup ah5==(aBR,aBS,.func (fnOf "law" "law" (au rN) (ao rN) (ae rN) .none alg alh ali alj ab9 alk),aBT))(ar':codeIn K ab9 "law"=true)(asa:keepIn K ⇑ah5=true)(aBU:nsIn K J_ "MOST_PINS"==(some (.int 24 aK0)))(aBV:nsIn K J_ "MOST_BARS"==(some (.int 60 aK1)))(aBW:nsIn K J_ "NOUGHT"==(some ⇑alm))(asb:K.lookup alm==(.type "tuple",aK2,.seq (List.toArray [.int 0 aBX,.int 1 aBY]) aK3,aK4))(aBZ:nsIn K J_ "ONE"==(some ⇑alo))(aB0:K.lookup alo==(.type "tuple",aK5,.seq (List.toArray [.int 1 aB1,.int 1 aB2]) aK6,aK7))(aB3:nsIn K J_ "NO_MOVE"==(some ⇑alp))(aB4:K.lookup alp==(.type "tuple",aK8,.seq (List.toArray [⇑asd,⇑ase]) aK9,aK'))(aB5:K.lookup asd==(.type "tuple",aLa,.seq (List.toArray [.int 0 aB6,.int 1 aB7]) aLb,aLc))(aB8:K.lookup ase==(.type "tuple",aLd,.seq (List.toArray [.int 0 aB9,.int 1 aB']) aLe,aLf))(NL:nsIn K J_ "ValueError"==none)(asf:nsIn K J_ "abs"==none)(ash:nsIn K J_ "any"==none)(alq:nsIn K J_ "dict"==none)(QC:nsIn K J_ "enumerate"==none)(NM:nsIn K J_ "isinstance"==none)(asi:nsIn K J_ "len"==none)(alr:nsIn K J_ "list"==none)(asj:nsIn K J_ "min"==none)(agE:nsIn K J_ "range"==none)(ab':nsIn K J_ "sorted"==none)(asl:nsIn K J_ "str"==none)(asm:nsIn K J_ "sum"==none)(asn:nsIn K J_ "zip"==none)(aCa:nsIn K J_ "YardError"==(some ⇑AQ))(aca:nsIn K J_ "NoText"==(some ⇑jK))(aCh:nsIn K J_ "NoPin"==(some ⇑fq))(aCk:nsIn K J_ "NoBar"==(some ⇑ft))(acb:nsIn K J_ "NoGrip"==(some ⇑jL))(XF:nsIn K J_ "NoBound"==(some ⇑aS))(aCp:nsIn K J_ "NoLoad"==(some ⇑SN))(agF:nsIn K J_ "Table"==(some ⇑ba))(aCq:nsIn K J_ "Frame"==(some ⇑cM))(aCs:nsIn K J_ "Roller"==(some ⇑pS))(aCt:nsIn K J_ "Fixed"==(some ⇑vc))(aso:vY K cM Str.empty=true)(asp:Z_ K cM=true)(asq:P9 K cM=true)(asr:ON K ⇑cM "__setattr__"==.x)(ass:yd K cM=true)(asu:keepIn K ⇑cM=true)(J:tm K cM "__init__" "Frame.__init__" Wy)(aCw:ON K ⇑cM "put_pin"==(some ⇑agG))(aCx:OQ K ⇑agG=true)(aCy:K.lookup agG==(aLo,aLp,.func (fnOf "put_pin" "Frame.put_pin" (au vV) (ao vV) (ae vV) ⇑ace ah6 ah7 ah8 ah9 acf ah'),aLq))(asz:K.lookup ace==(aLr,aCz,.seq (List.toArray [.none]) aLs,aCA))(aCB:codeIn K acf "Frame.put_pin"=true)(asA:keepIn K ⇑agG=true)(i:tm K cM "put_bar" "Frame.put_bar" Wz)(j:tm K cM "check_bar" "Frame.check_bar" WA)(m:tm K cM "check_pin" "Frame.check_pin" WC)(p:tm K cM "pins" "Frame.pins" WD)(q:tm K cM "bars" "Frame.bars" WE)(u:tm K cM "place" "Frame.place" WG)(aC0:tm K cM "ways" "Frame.ways" WH)(f:tm K cM "ends" "Frame.ends" WI)(as0:vY K pS Str.empty=true)(as1:Z_ K pS=true)(as2:P9 K pS=true)(as3:ON K ⇑pS "__setattr__"==.x)(as4:yd K pS=true)(as5:keepIn K ⇑pS=true)(I:tm K pS "__init__" "Roller.__init__" WJ)(x:tm K pS "ways" "Roller.ways" WK)(atb:vY K vc Str.empty=true)(atc:Z_ K vc=true)(atd:P9 K vc=true)(ate:ON K ⇑vc "__setattr__"==.x)(atf:yd K vc=true)(atg:keepIn K ⇑vc=true)(ath:ON K ⇑vc "__init__"==(some (.builtin "object.__init__")))(y:tm K vc "ways" "Fixed.ways" WL)(ach:vY K ba Str.empty=true)(aci:Z_ K ba=true)(acj:P9 K ba=true)(ack:ON K ⇑ba "__setattr__"==.x)(acm:yd K ba=true)(acn:keepIn K ⇑ba=true)(tD:tm K ba "__init__" "Table.__init__" gf)(tG:ON K ⇑ba "next_swap"==(some ⇑fK))(tI:OQ K ⇑fK=true)(j8:K.lookup fK==(SO,SQ,.func (fnOf "next_swap" "Table.next_swap" (au bu) (ao bu) (ae bu) .none SR SS SU SV ⇑cA SW),SX))(j9:codeIn K ⇑cA "Table.next_swap"=true)(j_:keepIn K ⇑fK=true)(wO:tm K ba "growing" "Table.growing" dA)(AR:tm K ba "growth" "Table.growth" ef)(ve:tm K ba "line_out" "Table.line_out" c6)(tK:tm K ba "is_sooner" "Table.is_sooner" cQ)(NQ:tm K ba "swap" "Table.swap" gh)(wX:tm K ba "swapped" "Table.swapped" dC)(aDl:K.lookup fq==(Zm aqL aqM fq aR8 aqN ahV aqO aqP akN aqQ akO aM0 aqR aqS aqT aqU aqV "ValueError.__new__"))(atk:agC K bmV ahV=true)(atl:keepIn K ⇑fq=true)(atm:ON K ⇑fq "__getattribute__"==(some .S))(atn:ON K ⇑fq "__getattr__"==none)(ato:ON K ⇑fq "__class__"==(some (.builtin "object.__class__")))(atp:Vp K fq (.type "object")==true)(atq:Vp K fq (.type "BaseException")==true)(atr:Vp K fq .O==true)(ats:(TK K fq).isSome=true)(att:ON K ⇑fq "__setattr__"==.x)(atu:Z_ K fq=true)(atv:(TK K fq).any (λcd=>ou.mi cd.mro)=true)(NU:ON K ⇑fq "pin"==none)(z:tm K fq "__init__" "NoPin.__init__" Ww)(aDr:K.lookup ft==(Zm aqW aqX ft aR9 aqY ahW aqZ aq0 akP aq1 akQ aM9 aq2 aq3 aq4 aq5 aq6 "ValueError.__new__"))(atx:agC K bmV ahW=true)(aty:keepIn K ⇑ft=true)(atz:ON K ⇑ft "__getattribute__"==(some .S))(atA:ON K ⇑ft "__getattr__"==none)(atB:ON K ⇑ft "__class__"==(some (.builtin "object.__class__")))(atD:Vp K ft (.type "object")==true)(atE:Vp K ft (.type "BaseException")==true)(atF:Vp K ft .O==true)(atG:(TK K ft).isSome=true)(atH:ON K ⇑ft "__setattr__"==.x)(atJ:Z_ K ft=true)(atL:(TK K ft).any (λcd=>ou.mi cd.mro)=true)(NV:ON K ⇑ft "bar"==none)(A:tm K ft "__init__" "NoBar.__init__" Wx)(X0:K.lookup aS==(Zm So Sq aS amk Sr zP Ss Su Qk Sv Ql als Sw Sx Sy SA SD "ValueError.__new__"))(Ta:agC K bmV zP=true)(Tc:keepIn K ⇑aS=true)(Td:ON K ⇑aS "__getattribute__"==(some .S))(Te:ON K ⇑aS "__getattr__"==none)(Tf:ON K ⇑aS "__class__"==(some (.builtin "object.__class__")))(Tg:Vp K aS (.type "object")==true)(Th:Vp K aS (.type "BaseException")==true)(Ti:Vp K aS .O==true)(Tj:(TK K aS).isSome=true)(Tn:ON K ⇑aS "__setattr__"==.x)(To:Z_ K aS=true)(Tp:(TK K aS).any (λcd=>ou.mi cd.mro)=true)(AW:ON K ⇑aS "bar"==none)(AX:tm K aS "__init__" "NoBound.__init__" d_)(hC:Tx K cA P0=true)(hKT:K.lookup P0=none)(aco:ON K ⇑cM "pin_places"==none)(alu:ON K ⇑cM "pin_ways"==none)(alv:ON K ⇑cM "bar_ends"==none)(aia:ON K ⇑pS "way"==none)(ht:l.prog.given.tree=none)(agU:ON K ⇑ba "lines"==none)(acp:ON K ⇑ba "bottom"==none)(acq:ON K ⇑ba "across"==none)(alw:ON K ⇑ba "down"==none)(aDx:PySem.W.specialIn K ⇑AQ "__getattribute__"==(some (.builtin "type.__getattribute__")))(aDy:PySem.W.readsIn K AQ (.type "type")=true)(aDz:PySem.W.findCls K ⇑AQ (.type "type") "__init__"==.val (.builtin "ValueError.__init__"))(atN:Vs K ⇑fq ⇑fq==true)(atO:Vs K ⇑ft ⇑fq==false)(atP:Vs K ⇑ft ⇑ft==true)(atQ:Vs K ⇑aS ⇑fq==false)(atR:Vs K ⇑aS ⇑ft==false)(atU:Vs K ⇑aS ⇑aS==true)(atV:QU K ⇑fq ⇑fq==true)(atW:QU K ⇑fq ⇑ft==false)(atZ:QU K ⇑fq ⇑aS==false)(at3:QU K ⇑fq ⇑jL==false)(at4:QU K ⇑fq ⇑SN==false)(at5:QU K ⇑fq ⇑jK==false)(at6:QU K ⇑fq ⇑AQ==true)(at7:QU K ⇑fq .O==true)(at8:QU K ⇑ft ⇑fq==false)(at9:QU K ⇑ft ⇑ft==true)(aua:QU K ⇑ft ⇑aS==false)(aub:QU K ⇑ft ⇑jL==false)(auc:QU K ⇑ft ⇑SN==false)(aud:QU K ⇑ft ⇑jK==false)(aue:QU K ⇑ft ⇑AQ==true)(auf:QU K ⇑ft .O==true)(auh:QU K ⇑aS ⇑fq==false)(aui:QU K ⇑aS ⇑ft==false)(auj:QU K ⇑aS ⇑aS==true)(auk:QU K ⇑aS ⇑jL==false)(aul:QU K ⇑aS ⇑SN==false)(aum:QU K ⇑aS ⇑jK==false)(aun:QU K ⇑aS ⇑AQ==true)(auo:QU K ⇑aS .O==true):
  ∃(cA':BQ)(fd:FuncData),Tx K cA' P0=true/\K.lookup P0=none/\(∀(s:CH)(v:Value),BindsTo s fd #[[v],[]] [("_law_script",v)])/\∀gV:Heap,K.In gV->gV.Ns J_ mg->BMain mg gV->cz l.prog w K mg gV .M 42 fa fd ["_law_script"] (Rn K P0):=by
 let e:=hfa.symm>>>(mg_of X G ar8);cases e;let(J,asw,aCu,aCv,asy):=J;let(i,aCD,aCE,aCF,asC):=i;let(j,aCH,aCI,aCJ,asE):=j;let(m,aCL,aCM,aCN,asG):=m;let(p,aCP,aCQ,aCR,asI):=p;let(q,aCT,aCU,aCV,asK):=q;let(u,aCX,aCY,aCZ,asM):=u;let(aC0,aC1,aC2,aC3,asO):=aC0;let(f,aC5,aC6,aC7,asQ):=f;let(I,as7,aDb,aDc,as9):=I;let(x,aDe,aDf,aDg,ata):=x;let(y,aDi,aDj,aDk,atj):=y;let(tD,tE,NO,NP,tF):=tD;let(wO,wQ,wU,wV,mS):=wO;let(AR,AS,AU,AV,oE):=AR;let(ve,vf,vg,vh,lM):=ve;let(tK,tM,tN,tO,ka):=tK;let(NQ,NR,NS,NT,tQ):=NQ;let(wX,wY,wZ,w4,mT):=wX;let(z,aDn,aDo,aDp,aDq):=z;let(A,aDt,aDu,aDv,aDw):=A;let(AX,AY,AZ,A_,BA):=AX;let aup:Def K mg _ _ ["rows","many"]:=iF X G aAM;let S:EG K cM:=(aso,asp,asq,asr);let aky:Mk K cM _:=(ass,J,asw,asu);let auq:=cF (st:=Wy) aCu aCv asy;let aD3:=ae' (st:=vV) aCy aCB asA;let aD4:Binds K (fnOf "put_pin" "Frame.put_pin" (au vV) (ao vV) (ae vV) ⇑ace ah6 ah7 ah8 ah9 acf ah') ["self","name","x","y","hold"] []:=λs C X hl=>by let(a,b,c,d,e,rfl):=bl5 (P:=λC=>∃a b c d e,C=[a,b,c,d,e]) (λa b c d e=>(a,b,c,d,e,O)) C (~~~hl);show BindsTo.of_defaults rfl (X\asz) rfl rfl rfl
 let aur:Binds K (fnOf "put_pin" "Frame.put_pin" (au vV) (ao vV) (ae vV) ⇑ace ah6 ah7 ah8 ah9 acf ah') ["self","name","x","y","hold"] [.none]:=λs C X hl=>by let(a,b,c,d,rfl):=bl4 (P:=λC=>∃a b c d,C=[a,b,c,d]) (λa b c d=>(a,b,c,d,O)) C (~~~hl);show BindsTo.of_defaults rfl (X\asz) rfl rfl rfl
 let aus:Meth K cM "put_pin" agG:=(aCw,aCx,asA);let aut:=cF (st:=Wz) aCE aCF asC;let auu:=cF (st:=WA) aCI aCJ asE;let auv:=cF (st:=WC) aCM aCN asG;let auw:=cF (st:=WD) aCQ aCR asI;let auy:=cF (st:=WE) aCU aCV asK;let auz:=cF (st:=WG) aCY aCZ asM;let auA:=cF (st:=WH) aC2 aC3 asO;let auB:=cF (st:=WI) aC6 aC7 asQ;let Ts:EG K pS:=(as0,as1,as2,as3);let akE:Mk K pS _:=(as4,I,as7,as5);let auC:=cF (st:=WJ) aDb aDc as9;let auD:=cF (st:=WK) aDf aDg ata;let alx:EG K vc:=(atb,atc,atd,ate);let akD:Mk0 K vc:=(atf,ath,atg);let auE:=cF (st:=WL) aDj aDk atj;let E:EG K ba:=(ach,aci,acj,ack);let JW:Mk K ba _:=(acm,tD,tE,acn);let tR:=cF (st:=gf) NO NP tF;let tS:=cF (st:=bu) j8 j9 j_;let mU:=cF (st:=dA) wU wV mS;let oF:=cF (st:=ef) AU AV oE;let lO:=cF (st:=c6) vg vh lM;let kc:=cF (st:=cQ) tN tO ka;let tX:=cF (st:=gh) NS NT tQ;let mV:=cF (st:=dC) wZ w4 mT;let auF:=cF (st:=Ww) aDo aDp aDq;let auG:ou.kR K fq:=(atm,atn,ato,atp,atq,ats);let mJ:ou.uk K fq "pin":=(auG,att,atu,atv,NU);let aj3:Q3 K fq _:=((_,_,_,_,_,_,_,_,_,_,_,_,_,_,_,_,aDl,atk),z,aDn,atl);let auH:=cF (st:=Wx) aDu aDv aDw;let auI:ou.kR K ft:=(atz,atA,atB,atD,atE,atG);let mK:ou.uk K ft "bar":=(auI,atH,atJ,atL,NV);let aj8:Q3 K ft _:=((_,_,_,_,_,_,_,_,_,_,_,_,_,_,_,_,aDr,atx),A,aDt,aty);let oG:=cF (st:=d_) AZ A_ BA;let Tt:ou.kR K aS:=(Td,Te,Tf,Tg,Th,Tj);let jN:ou.uk K aS "bar":=(Tt,Tn,To,Tp,AW);let uQ:Q3 K aS _:=((_,_,_,_,_,_,_,_,_,_,_,_,_,_,_,_,X0,Ta),AX,AY,Tc);let ajY:=mg_of X G aBU;let aj0:=mg_of X G aBV;let B:mg "NOUGHT"==.ref alm:=mg_of X G aBW;let WT:mg "ONE"==.ref alo:=mg_of X G aBZ;let RI:mg "NO_MOVE"==.ref alp:=mg_of X G aB3;let vX:mg "YardError"==.ref AQ:=mg_of X G aCa;let zN:mg "NoText"==.ref jK:=mg_of X G aca;let JK:mg "NoPin"==.ref fq:=mg_of X G aCh;let JL:mg "NoBar"==.ref ft:=mg_of X G aCk;let zL:mg "NoGrip"==.ref jL:=mg_of X G acb;let gj:mg "NoBound"==.ref aS:=mg_of X G XF;let akJ:mg "NoLoad"==.ref SN:=mg_of X G aCp;let JV:mg "Table"==.ref ba:=mg_of X G agF;let akz:mg "Frame"==.ref cM:=mg_of X G aCq;let akB:mg "Roller"==.ref pS:=mg_of X G aCs;let akC:mg "Fixed"==.ref vc:=mg_of X G aCt;let mI:mg "ValueError"=none:=mg_none_of X G NL;let FH:mg "abs"=none:=mg_none_of X G asf;let aaW:mg "any"=none:=mg_none_of X G ash;let RM:mg "dict"=none:=mg_none_of X G alq;let bZ:mg "enumerate"=none:=mg_none_of X G QC;let cG:mg "isinstance"=none:=mg_none_of X G NM;let Y:mg "len"=none:=mg_none_of X G asi;let D:mg "list"=none:=mg_none_of X G alr;let abE:mg "min"=none:=mg_none_of X G asj;let T:mg "range"=none:=mg_none_of X G agE;let y6:mg "sorted"=none:=mg_none_of X G ab';let abA:mg "str"=none:=mg_none_of X G asl;let abk:mg "sum"=none:=mg_none_of X G asm;let L:mg "zip"=none:=mg_none_of X G asn;let F:=cF (st:=rN) ar9 ar' asa;show(cA,fnOf "law" "law" (au rN) (ao rN) (ae rN) .none alg alh ali alj ab9 alk,hC,hKT,λs v=>.of_eq rfl,λgV _ _ hB=>?_);let hM:xZ (aR l.prog w):=aR.BP;let hN:∀H:Hp,cb K H alm [↥0,↥1]:=λH=>.inr (9,_,asb,8,sZ,.cons #[0] (.cons #[0] .nil));let hO:∀H:Hp,cb K H alo [↥1,↥1]:=λH=>.inr (9,_,aB0,8,sZ,.cons #[0] (.cons #[0] .nil));let nm:∀{c:BQ} {o:χ} {k0 k1:Tok} {n:Nat} {sl:Ι},K.lookup c==(.type "tuple",o,.seq (List.toArray [.int 0 k0,.int 1 k1]) n,sl)->∀H:Hp,iE K H ⇑c 0:=λt H=>#[0,![cR] (.inr (9,_,t,8,sZ,.cons #[0] (.cons #[0] .nil)))];let hMo:∀H:Hp,gx K H ⇑alp (0,0):=λH=>(_,⇑asd,⇑ase,O,.inr (9,_,aB4,8,sZ,.cons rfl (.cons rfl .nil)),nm aB5 H,nm aB8 H);let M:wL K cM:=(S,aco,alu,alv);let hY:OU K AQ:=(aDx,aDy,aDz);let XP:=aoT (P:=l.prog) (w:=w) (mg:=mg) (gV:=gV) auF hY vX mJ atr;let XB:=aoV (P:=l.prog) (w:=w) (mg:=mg) (gV:=gV) auH hY vX mK atF;let XD:=adw (P:=l.prog) (w:=w) (mg:=mg) (gV:=gV) oG hY vX jN Ti;let G1:=aok (P:=l.prog) (w:=w) (gV:=gV) (CX:=aR l.prog w) (iF X G az5) FH;let N:=aol ht (iF X G az1) G1;let GW:=aon ht (iF X G aAQ) G1;let GDv:=aoo ht (iF X G aA') G1;let GCl:=aop ht (iF X G aA6) L G1 GDv;let GF:=aor (P:=l.prog) (w:=w) (gV:=gV) (iF X G aA2) bZ;let GR:=aot (iF X G aAY) T D GF GCl;let GS:=aoy hN B (iF X G aAU) aaW GR N;let aEq:=aoD (iF X G aAI) L Y GW GS (ahC aup T) N;let GD:=ajU (aoX hM (iF X G azX) N);let GPD:=aoZ hM (iF X G aAc) GD;let GI:=ao1 (P:=l.prog) (w:=w) (mg:=mg) (gV:=gV) auq M;let Q:bR l.prog w K mg gV .M 1 cM "bars" ["self"] (og K cM):=(_,_,S,(q,aCT,asK),ao3 auy M D,auy.xD);let R:bR l.prog w K mg gV .M 1 cM "pins" ["self"] (oh K cM):=(_,_,S,(p,aCP,asI),ao5 auw M D,auw.xD);let MCp:bR l.prog w K mg gV .M 1 cM "check_pin" ["self","pin"] (iN K cM):=(_,_,S,(m,aCL,asG),ao7 auv M,auv.xD);let MCb:bR l.prog w K mg gV .M 2 cM "check_bar" ["self","name","one","other"] (my K cM):=(_,_,S,(j,aCH,asE),apm auu M aj0 Y MCp,auu.xD);let MPb:bR l.prog w K mg gV .M 3 cM "put_bar" ["self","name","one","other"] (rW K cM):=(_,_,S,(i,aCD,asC),apo aut M MCb,aut.xD);let okP:=apk (P:=l.prog) (w:=w) (mg:=mg) (gV:=gV) aD3 M ajY Y D;let MPp:bR l.prog w K mg gV .M 3 cM "put_pin" ["self","name","x","y","hold"] (iO l.prog w K mg gV cM):=(_,_,S,aus,okP,aD4);let MPd:Rg l.prog w K mg gV .M 3 cM "put_pin" ["self","name","x","y","hold"] [.none] (iO l.prog w K mg gV cM):=(_,_,S,aus,okP,aur);let MPl:bR l.prog w K mg gV .M 2 cM "place" ["self","pin"] (xG K cM):=(_,_,S,(u,aCX,asM),ao9 auz M MCp,auz.xD);let ME:bR l.prog w K mg gV .M 1 cM "ends" ["self","bar"] (yR K cM):=(_,_,S,(f,aC5,asQ),apa auB M,auB.xD);let MW:bR l.prog w K mg gV .M 2 cM "ways" ["self","pin"] (yS K cM):=(_,_,S,(aC0,aC1,asO),apc auA M D MCp,auA.xD);let wR:bR l.prog w K mg gV .M 1 pS "ways" ["self"] (rT K pS):=(_,_,Ts,(x,aDe,ata),apg auD Ts aia,auD.xD);let wF:bR l.prog w K mg gV .M 1 vc "ways" ["self"] (rV K):=(_,_,alx,(y,aDi,atj),api auE,auE.xD);let GRI:=ape (P:=l.prog) (w:=w) (mg:=mg) (gV:=gV) auC Ts aia;let GA:=apr (iF X G az9) MPl GPD;let GPR:=aps hMo RI (iF X G aAg) R;let GBR:=apv (iF X G aAo) GA GPR;let GDR:=apw (iF X G aAs) R MW Q ME GPR GBR;let GPP:=apy (iF X G aAw) Y RM L R MW Q;let GMF:=apA (iF X G aAA) bZ R;let GLR:=apt (iF X G aAk) R GPR JK aj3 XP auF.xD;let U:uG K ba:=(E,agU,acp,acq,alw);let GL:=acH (P:=l.prog) (w:=w) (gV:=gV) (CX:=aR l.prog w) (iF X G Xb);let GIt:=aaV (P:=l.prog) (w:=w) (mg:=mg) (gV:=gV) tR U Y D T;let MG:bR l.prog w K mg gV .M 1 ba "growing" ["self"] (o_ ba):=(_,_,E,(wO,wQ,mS),zaq mU U T Y,mU.xD);let MWt:bR l.prog w K mg gV .M 1 ba "growth" ["self","two"] (rZ ba):=(_,_,E,(AR,AS,oE),agX oF U,oF.xD);let MS:bR l.prog w K mg gV .M 1 ba "is_sooner" ["self","at","best","column"] (r_ ba):=(_,_,E,(tK,tM,ka),afS kc U,kc.xD);let MO:bR l.prog w K mg gV .M 2 ba "line_out" ["self","column"] (pe ba):=(_,_,E,(ve,vf,lM),adj lO U T Y MS,lO.xD);let MN:bR l.prog w K mg gV .M 3 ba "next_swap" ["self"] (yZ ba P0):=(_,_,E,(tG,tI,j_),ae7 j8 j9 hC hB U y6 MG MO MWt GL,tS.xD);let MP:bR l.prog w K mg gV .M 33 ba "swapped" ["self","line","lead","column"] (ph ba):=(_,_,E,(wX,wY,mT),za0 ht mV U L,mV.xD);let MX:bR l.prog w K mg gV .M 34 ba "swap" ["self","at","column"] (JS ba):=(_,_,E,(NQ,NR,tQ),acg tX U D MP,tX.xD);let GMo:=acZ U L JV JW GIt tR.xD MN MX (iF X G Xv) GW N (adZ hN B Y bZ U (iF X G zZ) N) (aan hN B Y bZ U (iF X G LX) N) (adG hN B Y bZ U (iF X G AE) N);let GSL:=aak hN B hO WT (iF X G LS) N;let GSC:=adX (iF X G wA) T GW GR GSL;let GTn:=ahC (P:=l.prog) (w:=w) (gV:=gV) aup T;let GSg:=apD (P:=l.prog) (w:=w) (gV:=gV) (iF X G aAE);let GCB:=aaX (iF X G LK) Q JL aj8 XB auH.xD;let GHN:=abV (P:=l.prog) (w:=w) (gV:=gV) (iF X G MI);let GAB:=aaM (iF X G L') Q GCB GHN gj uQ XD oG.xD;let GWP:=ajP (iF X G wG) abk L N;let GMR:=acD (iF X G LO) GW GWP GTn;let GBW:=acG (iF X G Qo) GSg;let GDf:=alz (iF X G DR) L GD;let GBo:=ab3 L Y (iF X G MQ) GTn GBW GSg GMo GDf;let GGr:=ajR hN B hO WT Y D (iF X G DJ) GLR GAB GDR GTn GSC GPP GBo GMR GSg aEq GMF;let GSS:=ajT (adx hM (iF X G abP) N);let GPd:=ajV (ab0 hM (iF X G LG) N);let GPp:=ai6 hM (iF X G zV) GSS GPd;let GLn:=adF hMo RI (iF X G zQ) Q ME GA GPD GPp;let GPr:=acV (nm asb) B L (iF X G SH) GAB GLn GSS GPd;let GC:=aqk (P:=l.prog) (w:=w) (gV:=gV) (CX:=aR l.prog w) (iF X G aBd) Y;let Z:=aqm (P:=l.prog) (w:=w) (gV:=gV) (CX:=aR l.prog w) (iF X G aBh);let GLo:=aqn (w:=w) (gV:=gV) ht (iF X G aBl) FH;let GSu:=aqp (P:=l.prog) (w:=w) (gV:=gV) (iF X G aBp);let GNa:=aqq hM (iF X G aBt) abA Z;let GSp:=aqr (iF X G aBx) Z GLo;let GWy:=aqs (iF X G aBB) Z GLo;let GPi:=adD (iF X G AL) T abE GC Z GSp GWy GNa GSu;let GBa:=aqx (iF X G aBF) T Y GC Z GNa;let GFr:=aqy (iF X G aBJ) Y aky akz GI auq.xD akB akC akD akE GRI auC.xD (wR.mono gM) (wF.mono gM) MPb MPp MPd;let GBd:=lead (iF X G MY) T Y GC Z GLo;let aln:zK K fq ft aS jL SN jK AQ fq:=(mJ.k,(9,9,9,atV,atW,atZ,at3,at4,at5,O),at6,at7);let alb:zK K fq ft aS jL SN jK AQ ft:=(mK.k,(9,9,9,at8,at9,aua,aub,auc,aud,O),aue,auf);let ald:zK K fq ft aS jL SN jK AQ aS:=(jN.k,(9,9,9,auh,aui,auj,auk,aul,aum,O),aun,auo);let aEw:=acr (P:=l.prog) (w:=w) (gV:=gV) (iF X G Qs) cG mI vX JK JL gj zL akJ zN;let aEx:=acX (iF X G Qw) JK JL gj (mJ,mK,jN,atN,atO,atP,atQ,atR,atU,aln,alb,ald) GPr GGr aEw;let aEy:=ain (iF X G NF) T Y Z;let GLd:=aqC (iF X G aBN) T Y GC Z;let GDu:=acN (P:=l.prog) (w:=w) (gV:=gV) (iF X G Xz);show akM F GC Z GPi GBa GFr GBd aEy GLd GDu aEx
end T_k75
open PySem PySem.W PyProof.Rows
set_option maxRecDepth 100000 in
set_option maxHeartbeats 0 in
theorem PySem.Challenge.cw_trussyard_k75_refused_bounds_holds : PySem.Challenge.rw_trussyard_k75_refused_bounds.Holds := by
 w_on;o_law;k_head;(case hw=>w_witness2)
 k_fill
 refine Ty.an7 (l:=PySem.Challenge.rw_trussyard_k75_refused_bounds) (x:="_law_script") (k:=42) (CX:=λw=>Ty.aR (PySem.Challenge.rw_trussyard_k75_refused_bounds).prog w) rfl rfl (by first | rfl | decide+kernel) ⟨rfl,gM,gM⟩ (λw h α=>⟨α.1,α.2 _ (List.Mem.head _)⟩) (λw=>Ty.aR.BP) ?F
 case F=>
  intro w X U h Y G Z
  apply T_k75.all_mk Y G Z
  all_goals first|k_is|kernel_rfl|rfl|exact ⟨by k_is,by k_is,by k_is,by k_is⟩|exact ⟨by k_is,by k_is,by k_is,by k_is,by k_is⟩
#print axioms PySem.Challenge.cw_trussyard_k75_refused_bounds_holds
