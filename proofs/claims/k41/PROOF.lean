import PyProof.Rows.All
import Wide.All
import OpenK.AllK
import Wide.FinOn
import Lean
import PyProof.EqAt
import PyProof.EqKinds
import PyProof.TupleCall
import PyProof.ZipIter
import PyProof.SumWalkG
import PyProof.ListCopy
import PyProof.ListStr
import PyProof.DictItems
import PyProof.DictWalks
import PyProof.DictTruth
import PyProof.EnumMake
import PyProof.InstStoreFacts
import PyProof.Rows.SortWalk
import PyProof.ListRange
import PyProof.DictValues
import KE.KRevSl
import KE.KDictOf
import PyProof.DictIter
import PyProof.FactsAll.dict_1
import PyProof.AttrMissHeap
import KE.KEqDict
import KE.KDictList
import KE.KItemsList
import PySem.Challenge.RW_trussyard_k41_spare_bars
set_option Elab.async false
set_option linter.all false
set_option maxRecDepth 100000
theorem gE.{u}{α:Type u}{l:List α}{i:Nat}(h:i < l.length):l[i]? =some l[i]:=List.getElem?_eq_getElem h
namespace PySem.W.Fast
def tw8195814183173666441:=()
def tw16920519054255020328:=()
def tw2384586986609476953:=()
def tw12632136552658591896:=()
def tw15485334054274866392:=()
def tw9327627300090922351:=()
def tw3704921141936509897:=()
def tw5907100994631574363:=()
def tw5240483497816440342:=()
def tw906929563642616157:=()
def tw5117900874782496013:=()
def tw6098278005181886984:=()
def tw6885916468970414560:=()
def tw16146404350138888795:=()
def tw523036044207955378:=()
def tw4380011257448763713:=()
def tw345233373741719322:=()
def tw6640979576857234228:=()
def tw4704199784553921149:=()
def tw16009350364041769023:=()
def tw12783331262579591146:=()
def tw15938329899741050169:=()
def tw6063779610981404320:=()
def tw4348532044659448833:=()
def tw17349394516609643621:=()
def tw4564350804108083954:=()
def tw15471183081024227652:=()
def tw15022847019938201287:=()
def tw9458705216227173413:=()
def tw10933961379948597757:=()
def tw516432849294804544:=()
def tw11052307735729881578:=()
def tw4395425703724220577:=()
def tw17144081527269387001:=()
def tw7724772958072036812:=()
def tw2977966205422183530:=()
def tw12621494265744117638:=()
def tw3010147066724706395:=()
def tw723186006548977399:=()
def tw15519045430624356715:=()
def tw1205934843591065697:=()
def tw9659264346547225260:=()
def tw3643736776021200205:=()
def tw7864160523175490553:=()
def tw4778379197369840667:=()
def tw4770646726633382532:=()
def tw13048296740562586056:=()
def tw9585546991954972725:=()
def tw15727198764958220845:=()
def tw12149699763702183824:=()
def tw1577357211946204624:=()
def tw7020938963464857359:=()
def tw13580481621178493379:=()
def tw18353898450256776367:=()
def tw17137054371081165391:=()
def tw6720523747829686465:=()
def tw12133982568322643622:=()
def tw15843078935232020137:=()
def tw4980946501752384546:=()
def tw17463487337562082704:=()
def tw17271653207930492318:=()
def tw320763355370655070:=()
def tw5435634860339586991:=()
def tw3197431756072113665:=()
def tw7681131896526299331:=()
def tw10949282912790608086:=()
def tw7777477079829879582:=()
def tw11643027576795309649:=()
def tw9958022605202243062:=()
def tw5312858227257822493:=()
def tw409841838004617993:=()
def tw4243137534192723191:=()
def tw17540093670942690176:=()
def tw7812610162099177752:=()
def tw1733384203936971955:=()
def tw6281892494639752073:=()
def tw11846009397655154144:=()
def tw14249270181756057913:=()
def tw4396615776936635136:=()
def tw1828270803505296385:=()
def tw14850067820562007932:=()
def tw9837722774977973650:=()
def tw11713022996551711818:=()
def tw10956476263642644735:=()
def tw12425878353743343666:=()
def tw18269695451342510630:=()
def tw16874744953692981607:=()
def tw1989968439306603906:=()
def tw2550862762866148170:=()
def tw485888729264517843:=()
def tw5835659459987550651:=()
def tw4689256289638014172:=()
def tw1751389202341938612:=()
def tw14568940077926400752:=()
def tw1973699474735010007:=()
def tw15717461976669901117:=()
def tw3253522541548417977:=()
def tw860819638403288936:=()
def tw3211975518582648198:=()
def tw18157589827693760399:=()
def tw4683330144996575327:=()
def tw10156667021989278087:=()
def tw8799278059839620529:=()
def tw7246704967165765129:=()
def tw17183069126782150144:=()
def tw7473939673742443608:=()
def tw11047929207798809094:=()
def tw12764417109754113371:=()
def tw13461692923059011985:=()
def tw8013408417949224223:=()
def tw16448381404819483443:=()
def tw3804303386024870849:=()
def tw10681541762168044289:=()
def tw11746176476861121440:=()
def tw9107010263530909202:=()
def tw18014659841811603951:=()
def tw13628943236268356783:=()
def tw1877872943395175553:=()
def tw5522851374721116646:=()
def tw4890926914122047043:=()
def tw10374636032198675394:=()
def tw11493204942676936314:=()
def tw5147787537088494976:=()
def tw18021657581831750498:=()
def tw12830887504553002277:=()
def tw7547261554146828188:=()
def tw1525997790393485152:=()
def tw15524300051203140474:=()
def tw2514541634767924387:=()
def tw15803162728849742221:=()
def tw14383382158461140349:=()
def tw17870463731833832676:=()
def tw7208021610301070644:=()
def tw11712323392650121708:=()
def tw9911798158908754582:=()
def tw14268316705883876426:=()
def tw6461596641030893936:=()
def tw17630685442472934810:=()
def tw3415654299850442700:=()
def tw4295799786613747423:=()
def tw15574373937789805812:=()
def tw4826956165064034048:=()
def tw13269149688222660067:=()
def tw11345938684494566281:=()
def tw1954213423830666150:=()
def tw2849934089487377280:=()
def tw13048808091252107026:=()
def tw6776866145885132697:=()
def tw9186784660258202706:=()
def tw10023664576535474300:=()
def tw16733777823456629478:=()
def tw15956814015249822316:=()
def tw5977637971448649511:=()
def tw16190614570804584023:=()
def tw5184651287013897611:=()
def tw12590910453254538557:=()
def tw5477591498850008819:=()
def tw5853316593586111454:=()
def tw11457039475149614864:=()
def tw3656236551782241958:=()
def tw5687796734671504427:=()
def tw13897160404946104019:=()
def tw15492119257174192098:=()
def tw10922600259365442124:=()
def tw3831939227690570867:=()
def tw12958793083914896839:=()
def tw14004997362266401625:=()
def tw8403024159024447241:=()
def tw7612016775839086992:=()
def tw1896919006212587847:=()
def tw17430425954502960402:=()
def tw18069617991767924790:=()
def tw972159172067472974:=()
def tw5678267737934253643:=()
def tw4210549304470177278:=()
def tw7483234954887856530:=()
def tw17619017844213931452:=()
def tw3282167858682326473:=()
def tw2658705431160309099:=()
def tw8931179886474235618:=()
def tw16399628497337082215:=()
def tw14180213848921835213:=()
def tw13196861516787570910:=()
def tw12146943684478187480:=()
def tw14473800939801453997:=()
def tw6245988888837550228:=()
def tw9499986849755624557:=()
def tw11953243462235756576:=()
def tw1478088371888301786:=()
def tw7031516027849742336:=()
def tw11290457538187056178:=()
def tw309848120753558645:=()
def tw15521699675867187538:=()
def tw6297532969503544048:=()
def tw16409704528760773123:=()
def tw13240411099404131042:=()
def tw18099300987485119106:=()
def tw5608627910844432591:=()
def tw2989073054511203284:=()
def tw12444078363583727943:=()
def tw17315639262659795885:=()
def tw3745456598482035581:=()
def tw16220233049857853676:=()
def tw5707138416232475362:=()
def tw5468286623002709659:=()
def tw12494650172555160590:=()
def tw17040088906572114143:=()
def tw9675686790707830780:=()
def tw1507265585559377156:=()
def tw5019472285360744040:=()
def tw11196950817144077300:=()
def tw18166002787975048321:=()
def tw15170020261138126314:=()
def tw6031706281799573621:=()
def tw12483496178144591772:=()
def tw1419387983431078758:=()
def tw4770243937481851070:=()
def tw17913500863315573055:=()
def tw8484089327823206954:=()
end PySem.W.Fast
open Array renaming length_toList->ahV, toList->apZ
open Bool renaming false_ne_true->aaG, eq_iff_iff->abq, and_eq_true->abC, false_eq_true->ahx, eq_false_iff->ahF, and_false->ah2, or_false->aix, and_true->aiy
open Classical renaming byContradiction->abr, propDecidable->abD, not_imp->ah', not_forall->aiv
open Int renaming zero_add->aa', gcd->abm, ne_of_gt->abK, natAbs_mul->abZ, gcd_dvd_right->ab', mul_comm->acd, gcd_dvd_left->ae_, fmod_nonneg_of_pos->ag_, natAbs_dvd_natAbs->ahi, fdiv_eq_of_eq_mul_right->ahl, natAbs_add_le->ahm, mul_pos->ahq, mul_zero->ahC, emod_eq_of_lt->ahH, mul_assoc->ahP, fmod_lt_of_pos->ah1, fmod_eq_emod_of_nonneg->ah5, mul_neg_of_pos_of_neg->ah6, lt_trichotomy->ah9, mul_eq_zero->aio, natAbs_neg->ais, gcd_zero_right->aiC, sub_emod_right->aiE, toNat_natCast->aiF, fmod_def->aiG, gcd_mul_left->aiV, gcd_pos_iff->ai1, mul_ne_zero->ai2, dvd_coe_gcd->aj_
open List renaming mem_of_getElem?->be, getElem?_eq_some_iff->ir, getElem?_map->Wp, length_map->aab, mem_map->aad, mem_cons_of_mem->aae, getElem?_eq_none->aaj, map_cons->aal, mem_cons_self->aap, getElem?_of_mem->aas, length_append->aat, mem_singleton->aax, getD_eq_getElem?_getD->aaz, mem_append->aaA, getElem?_append_left->aaD, map_map->aaE, size_toArray->aaF, map_append->aaH, replicate->aaJ, mem_cons->aaN, flatMap_cons->aaS, nodup_cons->aaX, getElem?_append_right->aaY, length_take->aa2, length_cons->aa5, mem_append_left->aa7, mem_append_right->aa9, mem_flatMap->abb, mem_range->abe, take_length->abf, getElem?_set->abj, range->abl, getElem_mem->abn, ext_getElem?->abo, map_congr_left->abt, nodup_append->aby, mem_iff_getElem->abE, getElem?_eraseIdx->abL, mem_filter->abM, length->abO, length_filter_le->abU, filter_cons->abW, lookup->abY, length_eraseIdx->ab0, filter_cons_of_pos->ab2, filter_cons_of_neg->ab3, replicate_succ->ab4, flatMap_append->ab7, filter_append->ab8, map_nil->ab_, zipWith->ace, mem_of_mem_eraseIdx->ac_, getElem?_replicate->ad_, length_eraseIdx_le->af_, take_of_length_le->ahc, find?_cons->ahf, range_succ->ahg, any_cons->ahh, getElem?_zipWith->ahj, append_assoc->ahk, getElem?_inj->ahn, pairwise_map->aho, getElem?_set_ne->ahp, lookup_cons->ahs, Sublist->aht, filterMap_cons->ahu, nil_append->ahw, pairwise_cons->ahy, length_eq_zero_iff->ahz, getElem?_set_self->ahA, flatten_cons->ahB, length_range->ahE, pairwise_iff_forall_sublist->ahG, length_replicate->ahI, take_append_drop->ahJ, eraseIdx_sublist->ahK, length_drop->ahL, cons_append->ahM, any_eq_true->ahN, all_cons->ahO, append_nil->ahS, mem_filterMap->ah0, lookup_append->ah3, nodup_iff_pairwise_ne->ah4, getElem?_take_of_lt->aia, sum_cons->aib, all_eq_true->aid, range_succ_eq_map->aih, zipWith_cons_cons->aij, getElem_cons_drop->aik, pairwise_lt_range->ail, of_mem_zip->aim, length_nil->ain, length_singleton->aip, eq_nil_or_concat->aiq, concat_eq_append->air, forIn_nil->ait, filter_eq_self->aiw, forIn_toArray->aiB, zip_cons_cons->aiD, all_map->aiH, getElem_take->aiL, take_add_one->aiM, filter_congr->aiO, getElem_inj->aiT, nodup_range->aiW, cons_ne_nil->aiX, length_set->ai0, forIn_cons->ai3, foldl->am_, Nodup->apH, nodup_nil->apI
open List.Pairwise renaming map->aiP
open Nat renaming le_refl->aaf, le_trans->aai, lt_of_le_of_lt->aaq, lt_of_lt_of_le->aaI, pow_le_pow_right->aa0, ne_of_lt->aa1, mul_le_mul_right->aa4, zero_le->aa6, lt_succ_self->aba, lt_irrefl->abp, lt_succ_iff_lt_or_eq->abz, le_of_lt->abA, mul_le_mul->abJ, not_lt_zero->abP, lt_succ_of_lt->ab1, add_mul->acf, one_le_two_pow->ahd, ne_of_gt->ahr, pow_succ->ahD, pow_add->ahR, min_eq_left->ahU, pow_le_pow_left->ahW, mul_comm->ahY, zero_mul->ahZ, le_succ->ah8, le_of_not_lt->aic, le_of_eq->aie, add_comm->aif, lt_trans->aii, one_mul->aiu, min_self->aiI, le_succ_of_le->aiK, log2_le_self->aiY, two_pow_pos->ai5
open Ne renaming symm->aaW
open Option renaming map_eq_some_iff->aar, map_some->ab9, isSome_iff_exists->ahv, isSome_map->ah_, isSome_some->aiz, getD_none->aiU, none->aqc
open Option.some renaming inj->aay
open Or renaming inl->aan, inr->aa_
open Prod renaming ext->ahQ, fst->an_, snd->ao_
open Rat renaming intCast_mul->abB, intCast_le_intCast->ahe, intCast_inj->ahT, num_divInt_den->aiA, divInt_eq_div->aiJ, intCast_add->ai4, intCast_sub->ai_
open Sum renaming inr->abc, inl->ahX
open Sum.inl renaming inj->ah7
open Sum.inr renaming inj->abx
open PySem.W (Frag nsIn codeIn keepIn fnOf mg_of mg_none_of)
namespace L2
open PySem PySem.Spec PyProof.Rows
abbrev _root_.δ:=Value->Shared->Prop
abbrev _root_.ε:=List (Addr×Obj)
abbrev _root_.η:=List (List Int)
abbrev _root_.θ:=List (Nat×List Int)
abbrev _root_.ι:=Str->Option Value
abbrev _root_.ξ:=List Int
abbrev _root_.ο:=List Value
abbrev _root_.ρ:=List Str
abbrev _root_.ς:=List (Int×Int)
abbrev _root_.τ:=List Addr
abbrev _root_.υ:=List (Str×Str×Str)
abbrev _root_.χ:=Str->List Rat
abbrev _root_.ψ:=List Expr
abbrev _root_.Α:=List (List (Int×Int))
abbrev _root_.Β:=Str->Option (Rat×Rat)
abbrev _root_.Ζ:=List (Str×List (Rat×Rat))
abbrev _root_.Η:=List (Nat×List (Int×Int))
abbrev _root_.Θ:=Option Addr
abbrev _root_.Ι:=List (Rat×Rat)
abbrev _root_.Κ:=Array (Option Value)
abbrev _root_.Λ:=Array Value
abbrev _root_.Μ:=Str->Rat
abbrev _root_.Ξ:=Option Int
abbrev _root_.Ο:=Result->Shared->Prop
abbrev _root_.Τ:=Option Value->Shared->Prop
abbrev _root_.Υ:=List (Str×Value)
abbrev Key:=Sum Int Str
abbrev _root_.Ρ:=List (List Key×Addr×Value)
def qE:Key->Value->Bool
 | .inl k,v=>Value.isInt k v
 | .inr x,v=>Value.isStrOf x v
def Zk (w:World):Key->Int
 | .inl k=>hashInt k
 | .inr x=>hashStr w x
theorem b7:∀{k:Key} {v:Value},qE k v=true->(∃i t,k=ahX i/\v=Value.int i t)\/(∃x t,k=abc x/\v=Value.str x t)
 | .inl i,v,h=>by
  obtain ⟨t,e⟩:=Value.isInt_shape (k:=i) (v:=v) h
  exact .inl ⟨i,t,rfl,e⟩
 | .inr x,v,h=>by
  obtain ⟨t,e⟩:=Value.isStrOf_shape (x:=x) (v:=v) h
  exact .inr ⟨x,t,rfl,e⟩
theorem zv (i:Int)(t:Tok):qE (.inl i) (.int i t)=true:=by simp [qE,Value.isInt]
theorem zz (x:Str)(t:Tok):qE (.inr x) (.str x t)=true:=by simp [qE,Value.isStrOf]
theorem N6 (a b:Int):decide ((ahX a:Key)=ahX b)=(a==b):=by
 by_cases e:a=b
 ·subst e;simp
 ·have h:¬ (ahX a:Key)=ahX b:=fun q=>e (ah7 q)
  rw [decide_eq_false h]
  exact (beq_eq_false_iff_ne.mpr e).symm
theorem N7 (a b:Str):decide ((abc a:Key)=abc b)=decide (a=b):=by
 by_cases e:a=b
 ·subst e;simp
 ·have h:¬ (abc a:Key)=abc b:=fun q=>e (abx q)
  rw [decide_eq_false h,decide_eq_false e]
theorem N8 (a:Int)(b:Str):decide ((ahX a:Key)=abc b)=false:=decide_eq_false (fun q=>nomatch q)
theorem N9 (a:Str)(b:Int):decide ((abc a:Key)=ahX b)=false:=decide_eq_false (fun q=>nomatch q)
def bo (prog:Program)(w:World):PySem.KeyKind prog w Key where
 is:=qE
 hash:=Zk w
 inj:=fun v a b ha hb=>by
  rcases b7 ha with ⟨i,t,rfl,rfl⟩ | ⟨x,t,rfl,rfl⟩
  ·rcases b7 hb with ⟨j,u,rfl,e⟩ | ⟨y,u,rfl,e⟩
   ·injection e with e1 _;rw [e1]
   ·exact nomatch e
  ·rcases b7 hb with ⟨j,u,rfl,e⟩ | ⟨y,u,rfl,e⟩
   ·exact nomatch e
   ·injection e with e1 _;rw [e1]
 byValue:=fun k v h=>by
  rcases b7 h with ⟨i,t,rfl,rfl⟩ | ⟨x,t,rfl,rfl⟩ <;> rfl
 pyHash:=fun hv h=>by
  rcases b7 hv with ⟨i,t,rfl,rfl⟩ | ⟨x,t,rfl,rfl⟩
  ·exact wpAny_pyHash_int h
  ·exact wpAny_pyHash_str h
 eqBool:=fun hu hv h=>by
  rcases b7 hu with ⟨i,t,rfl,rfl⟩ | ⟨x,t,rfl,rfl⟩
  ·rcases b7 hv with ⟨j,u,rfl,rfl⟩ | ⟨y,u,rfl,rfl⟩
   ·rw [N6] at h;exact wpAny_eqBool_int h
   ·rw [N8] at h;exact SeqAt.EqAt.int_str i t y u _ _ _ _ h
  ·rcases b7 hv with ⟨j,u,rfl,rfl⟩ | ⟨y,u,rfl,rfl⟩
   ·rw [N9] at h;exact SeqAt.EqAt.str_int x t j u _ _ _ _ h
   ·rw [N7] at h;exact wpAny_eqBool_str h
 «strs»:=fun k x t v h=>by
  rcases b7 h with ⟨i,u,rfl,e⟩ | ⟨y,u,rfl,e⟩
  ·exact nomatch e
  ·injection e with e1 _
   subst e1
   cases v <;> rfl
theorem ue (prog:Program)(w:World)(i:Int)(t:Tok):(bo prog w).is (.inl i) (.int i t)=true:=zv i t
theorem uf (prog:Program)(w:World)(x:Str)(t:Tok):(bo prog w).is (.inr x) (.str x t)=true:=zz x t
end L2
namespace L2
open PySem PySem.Spec PyProof.Rows
inductive V where
 | cB | bl (b:Bool) | int (i:Int) | str (x:Str) | byt (b:Array UInt8) | N_ (b:UInt64) | ref (a:Addr) | ty (n:String)
 deriving DecidableEq
abbrev _root_.γ:=List (Key×V)
abbrev _root_.ζ:=List V
abbrev _root_.ω:=Option V
abbrev _root_.Δ:=List (List V)
abbrev _root_.Ν:=List (List Key×V)
def RelV:V->Value->Prop
 | .cB,u=>u=Value.none
 | .bl b,u=>u=Value.bool b
 | .int i,u=>∃t,u=Value.int i t
 | .str x,u=>∃t,u=Value.str x t
 | .byt b,u=>∃t,u=Value.bytes b t
 | .N_ b,u=>∃t,u=Value.float b t
 | .ref a,u=>u=Value.ref a
 | .ty n,u=>u=Value.type n
abbrev Vals:List V->List Value->Prop:=Paired RelV
theorem Vals.length {xs:ζ}{us:ο}(r:Vals xs us):xs.length=us.length:=Paired.length r
theorem Vals.get:∀{xs:ζ} {us:ο} {i:Nat} {x:V},Vals xs us->xs[i]? =some x->∃u,us[i]? =some u/\RelV x u
 | _,_,_,_,.nil,e=>by simp at e
 | _,_,0,_,.cons r _,e=>by simp at e;subst e;exact ⟨_,rfl,r⟩
 | _,_,i+1,x,.cons _ t,e=>by
  obtain ⟨u,h1,h2⟩:=Vals.get (i:=i) (x:=x) t (by simpa using e)
  exact ⟨u,by simpa using h1,h2⟩
theorem Vals.set {x:V}{u:Value}(r:RelV x u):∀{xs:ζ} {us:ο} (i:Nat),Vals xs us->Vals (xs.set i x) (us.set i u)
 | _,_,_,.nil=>.nil
 | _,_,0,.cons _ t=>.cons r t
 | _,_,i+1,.cons q t=>.cons q (Vals.set r i t)
theorem Vals.append:∀{xs ys:ζ} {us ws:ο},Vals xs us->Vals ys ws->Vals (xs++ys) (us++ws)
 | _,_,_,_,.nil,s=>s
 | _,_,_,_,.cons r t,s=>.cons r (Vals.append t s)
theorem Vals.take:∀{xs:ζ} {us:ο} (n:Nat),Vals xs us->Vals (xs.take n) (us.take n)
 | _,_,0,_=>.nil
 | _,_,_+1,.nil=>.nil
 | _,_,n+1,.cons r t=>.cons r (Vals.take n t)
theorem Vals.drop:∀{xs:ζ} {us:ο} (n:Nat),Vals xs us->Vals (xs.drop n) (us.drop n)
 | _,_,0,r=>r
 | _,_,_+1,.nil=>.nil
 | _,_,n+1,.cons _ t=>Vals.drop n t
def gD:Option V->Option Value->Prop
 | some v,some u=>RelV v u
 | none,none=>True
 | _,_=>False
def KV {κ:Type}:List (κ×V)->List (κ×Value)->Prop:=Paired fun (p:κ×V) (q:κ×Value)=>p.1=q.1/\RelV p.2 q.2
def kV:Key->V
 | .inl i=>.int i
 | .inr x=>.str x
inductive HO where
 | lst (xs:ζ)
 | tup (xs:ζ)
 | dK (kvs:γ) | dT (kvs:Ν)
 | set (S:Int->Bool) (n:Nat)
 | ins (C dx:Addr) (fs:List (Str×V))
 | own (x:Addr)
 | xd (fs:List (Str×V))
 | met (f x:Addr)
 | Zl (lo hi:Int)
 | dA (o:Obj) (u:HO)
 | N' (ps:Λ)
 | ext (φ:Heap->Prop)
abbrev Hp:=Addr->Option HO
def upd (H:Hp)(a:Addr)(o:HO):Hp:=fun b=>if b=a then some o else H b
theorem ak {H:Hp}{a:Addr}{o:HO}:upd H a o a=some o:=by unfold upd;rw [if_pos rfl]
theorem ao {H:Hp}{a b:Addr}{o:HO}(h:b≠a):upd H a o b=H b:=by unfold upd;rw [if_neg h]
theorem RC {H:Hp}{a b:Addr}{o u:HO}(h:H a=some o)(h' :H b=some u)(d:o≠u):a≠b:=by
 intro e;subst e;rw [h] at h';exact d (aay h')
theorem aq {H:Hp}{a b:Addr}{o:HO}(h:H a=some o)(h' :H b=none):a≠b:=by
 intro e;subst e;rw [h] at h';cases h'
section
variable (P:Program)(w:World)
def cE (H:Hp)(h:Heap)(a:Addr):HO->Prop
 | .lst xs=>xs.length<=sizeLine/\∃(its:ο) (n:Nat),Vals xs its/\h.get? a=some {cls:=.type "list",data:=.seq its.toArray n}
 | .tup xs=>xs.length<=sizeLine/\∃its:List Value,Vals xs its/\IsTup h a its.toArray
 | .dK kvs=>kvs.length<=sizeLine/\(a==sysModules)=false/\∃vs,KV kvs vs/\h.DictOf (bo P w) a vs
 | .dT kvs=>kvs.length<=sizeLine/\(a==sysModules)=false/\∃xs:List (List Key×Addr×Value),
   Paired (fun (p:List Key×V) (q:List Key×Addr×Value)=>p.1=q.1/\H q.2.1=some (.tup (p.1.map kV))/\RelV p.2 q.2.2) kvs xs/\
   ∃o es ep,h.get? a=some o/\o.ExactDict/\o.data=.dict es ep/\es.toList=xs.map (entryOfKey (tupleKind (bo P w)))/\(xs.map (·.1)).Nodup
 | .set S n=>h.SetOf (intKind P w) a S n
 | .ins C dx fs=>H dx=some (.own a)/\fs.length<=1000/\dx≠a/\h.get? a=some (PySem.W.instObj C dx)/\
   ∃mA,h.Ns1 dx mA/\(∀f,gD (fs.lookup f) (mA f))/\PySem.Within mA (fs.map (·.1))
 | .own _=>∃o,h.get? a=some o
 | .xd fs=>∃mA,h.Ns1 a mA/\∀f,gD (fs.lookup f) (mA f)
 | .Zl lo hi=>∃t u v,h.get? a=some {cls:=.type "range",data:=.fields #[.int lo t,.int hi u,.int 1 v]}
 | .dA o u=>h.get? a=some o/\cE H h a u
 | .N' ps=>h.get? a=some {cls:=.none,data:=.fields ps}
 | .met f x=>h.get? a=some (PySem.W.methodObj (.ref f) (.ref x))
 | .ext φ=>φ h/\(∃o,h.get? a=some o)/\∀h1 h2:Heap,φ h1->(∀o,h1.get? a=some o->h2.get? a=some o)->φ h2
def iQ (H:Hp)(h:Heap):Prop:=∀a o,H a=some o->cE P w H h a o
end
section
variable {P:Program}{w:World}{H H' :Hp}{h h' :Heap}{a:Addr}{o:HO}
theorem cE.lt (x:cE P w H h a o):a < h.objs.size:=by
 cases o with
 | lst xs=>obtain ⟨_,_,_,_,e⟩:=x;exact Heap.lt_size e
 | tup xs=>obtain ⟨_,_,_,p⟩:=x;exact p.lt
 | dK kvs=>obtain ⟨_,_,_,_,o,_,_,e,_⟩:=x;exact Heap.lt_size e
 | dT kvs=>obtain ⟨_,_,_,_,o,_,_,e,_⟩:=x;exact Heap.lt_size e
 | set S n=>obtain ⟨o,_,_,_,e,_⟩:=x;exact Heap.lt_size e
 | ins C dx fs=>obtain ⟨_,_,_,e,_⟩:=x;exact Heap.lt_size e
 | own y=>obtain ⟨_,e⟩:=x;exact Heap.lt_size e
 | xd fs=>obtain ⟨_,⟨_,_,_,e,_⟩,_⟩:=x;exact Heap.lt_size e
 | Zl lo hi=>obtain ⟨_,_,_,e⟩:=x;exact Heap.lt_size e
 | dA ob u=>obtain ⟨e,_⟩:=x;exact Heap.lt_size e
 | N' ps=>exact Heap.lt_size (show h.get? a=some _ from x)
 | met f y=>exact Heap.lt_size (show h.get? a=some _ from x)
 | ext φ=>obtain ⟨_,⟨_,e⟩,_⟩:=x;exact Heap.lt_size e
theorem Paired.bJ {α β:Type}{F G:α->β->Prop}:∀{l₁:List α} {l₂:List β},Paired F l₁ l₂->(∀a b,F a b->G a b)->Paired G l₁ l₂
 | _,_,.nil,_=>.nil
 | _,_,.cons r t,f=>.cons (f _ _ r) (Paired.bJ t f)
theorem cE.pR (x:cE P w H h a o)(k:∀b u,(b=a\/H b=some (.own a))->h.get? b=some u->h'.get? b=some u)
  (ho:∀b,H b=some (.own a)->H' b=some (.own a)) (ht:∀b xs,H b=some (.tup xs)->H' b=some (.tup xs)):cE P w H' h' a o:=by
 induction o with
 | lst xs=>obtain ⟨z,its,n,r,e⟩:=x;exact ⟨z,its,n,r,k _ _ (.inl rfl) e⟩
 | tup xs=>obtain ⟨z,its,r,ob,e,c⟩:=x;exact ⟨z,its,r,ob,k _ _ (.inl rfl) e,c⟩
 | dK kvs=>obtain ⟨z,y,vs,r,ob,es,ep,e,c⟩:=x;exact ⟨z,y,vs,r,ob,es,ep,k _ _ (.inl rfl) e,c⟩
 | dT kvs=>
  obtain ⟨z,y,xs,r,ob,es,ep,e,c⟩:=x
  exact ⟨z,y,xs,Paired.bJ r fun p q z=>⟨z.1,ht _ _ z.2.1,z.2.2⟩,ob,es,ep,k _ _ (.inl rfl) e,c⟩
 | set S n=>obtain ⟨ob,es,ep,t,e,c⟩:=x;exact ⟨ob,es,ep,t,k _ _ (.inl rfl) e,c⟩
 | ins C dx fs=>
  obtain ⟨d,z,ne,e,mA,⟨od,es,ep,e2,c⟩,r⟩:=x
  exact ⟨ho _ d,z,ne,k _ _ (.inl rfl) e,mA,⟨od,es,ep,k _ _ (.inr d) e2,c⟩,r⟩
 | own y=>obtain ⟨ob,e⟩:=x;exact ⟨ob,k _ _ (.inl rfl) e⟩
 | xd fs=>obtain ⟨mA,⟨od,es,ep,e,c⟩,r⟩:=x;exact ⟨mA,⟨od,es,ep,k _ _ (.inl rfl) e,c⟩,r⟩
 | Zl lo hi=>obtain ⟨t,u,v,e⟩:=x;exact ⟨t,u,v,k _ _ (.inl rfl) e⟩
 | dA ob u ih=>obtain ⟨e,q⟩:=x;exact ⟨k _ _ (.inl rfl) e,ih q⟩
 | N' ps=>
  have e:h.get? a=some {cls:=.none,data:=.fields ps}:=x
  show h'.get? a=some {cls:=.none,data:=.fields ps}
  exact k a _ (.inl rfl) e
 | met f y=>
  have e:h.get? a=some (PySem.W.methodObj (.ref f) (.ref y)):=x
  show h'.get? a=some (PySem.W.methodObj (.ref f) (.ref y))
  exact k a _ (.inl rfl) e
 | ext φ=>obtain ⟨p,⟨o,e⟩,st⟩:=x;exact ⟨st _ _ p fun o q=>k _ _ (.inl rfl) q,⟨o,k _ _ (.inl rfl) e⟩,st⟩
theorem iQ.lt (x:iQ P w H h)(e:H a=some o):a < h.objs.size:=(x a o e).lt
theorem iQ.fresh (x:iQ P w H h)(e:h.objs.size<=a):H a=none:=by
 cases q:H a with
 | none=>rfl
 | some u=>exact absurd (aaI (x.lt q) e) (abp _)
theorem iQ.kept (x:iQ P w H h)(k:∀b u,h.get? b=some u->h'.get? b=some u):iQ P w H h' :=fun a o e=>
 (x a o e).pR (fun b u _ q=>k b u q) (fun _ q=>q) fun _ _ q=>q
theorem iQ.laid (x:iQ P w H h)(k:∀b u,h.get? b=some u->h'.get? b=some u)(hp:h.objs.size<=a)(new:cE P w (upd H a o) h' a o):iQ P w (upd H a o) h' :=fun b u e=>by
 have hn:=x.fresh hp
 by_cases hb:b=a
 ·subst hb;rw [ak] at e;cases e;exact new
 ·rw [ao hb] at e
  exact (x b u e).pR (fun c v _ q=>k c v q) (fun c q=>by rw [ao (aq q hn)];exact q) fun c xs q=>by rw [ao (aq q hn)];exact q
end
def Rd (H:Hp)(a:Addr)(u:HO):Prop:=H a=some u\/∃o,H a=some (.dA o u)
theorem Rd.of {H:Hp}{a:Addr}{u:HO}(h:H a=some u):Rd H a u:=.inl h
theorem Rd.ok {P:Program}{w:World}{H:Hp}{h:Heap}{a:Addr}{u:HO}(r:Rd H a u)(x:iQ P w H h):cE P w H h a u:=by
 rcases r with r | ⟨o,r⟩
 ·exact x a u r
 ·obtain ⟨_,q⟩:=x a _ r
  exact q
def RD:Option HO->Prop
 | some (.lst _)=>True
 | some (.dK _)=>True
 | some (.dT _)=>True
 | some (.set _ _)=>True
 | some (.ins _ _ _)=>True
 | some (.ext _)=>True
 | _=>False
section
variable {P:Program}{w:World}{H:Hp}{h h' :Heap}{x e:Addr}{o' :HO}
theorem iQ.write (ok:iQ P w H h)(mu:RD (H x))(he:e=x\/H e=some (.own x))(k:∀b u,b≠e->h.get? b=some u->h'.get? b=some u)(QQ:∃u,h'.get? e=some u)
  (new:cE P w (upd H x o') h' x o'):iQ P w (upd H x o') h' :=fun b u q=>by
 have RE:∀c y,H c=some (.own y)->c≠x:=fun c y r z=>by subst z;rw [r] at mu;exact mu
 have Zm:∀c xs,H c=some (.tup xs)->c≠x:=fun c xs r z=>by subst z;rw [r] at mu;exact mu
 by_cases hb:b=x
 ·subst hb;rw [ak] at q;cases q;exact new
 ·rw [ao hb] at q
  by_cases Oa:b=e
  ·have q' :H b=some (.own x):=by
    rcases he with z | z
    ·exact absurd (Oa.trans z) hb
    ·rw [Oa];exact z
   rw [q] at q';cases q'
   obtain ⟨v,hv⟩:=QQ
   exact ⟨v,by rw [Oa];exact hv⟩
  ·refine (ok b u q).pR (fun c v hc r=>k c v ?_ r) (fun c r=>by rw [ao (RE c b r)];exact r) fun c xs r=>by rw [ao (Zm c xs r)];exact r
   rcases hc with rfl | hc
   ·exact Oa
   ·rintro rfl
    rcases he with z | z
    ·exact RE c b hc z
    ·rw [hc] at z;cases z;exact hb rfl
end
structure Un (fs ex:τ)(H H' :Hp)(h h' :Heap):Prop where
 keep:∀b o,h.get? b=some o->H b=none->b∉fs->b∉ex->h'.get? b=some o
 slot:∀b o,h.get? b=some o->H b=none->b∈fs->b∉ex->∃sl,h'.get? b=some {o with slots:=sl}
 free:∀b o,h.get? b=some o->H b=none->b∉ex->H' b=none
 there:∀b o,h.get? b=some o->b∉ex->∃o',h'.get? b=some o'
 pS:∀b xs,H b=some (.tup xs)->H' b=some (.tup xs)
 m_:∀b o u,H b=some (.dA o u)->H' b=some (.dA o u)
 pT:∀b ps,H b=some (.N' ps)->∃more,H' b=some (.N' (ps++more))
section
variable {fs fs' ex Ob :τ}{H H1 H2:Hp}{h h1 h2 h' :Heap}{a x e:Addr}{o:HO}
theorem Un.any (u:Un fs ex H H1 h h1){b:Addr}{ob:Obj}(q:h.get? b=some ob)(n:H b=none)(hx:b∉ex):∃sl,h1.get? b=some {ob with slots:=sl}:=by
 by_cases hb:b∈fs
 ·exact u.slot b ob q n hb hx
 ·exact ⟨ob.slots,u.keep b ob q n hb hx⟩
theorem Un.kept (k:∀b u,h.get? b=some u->h'.get? b=some u):Un fs ex H H h h' :=
 ⟨fun b ob q _ _ _=>k b ob q,fun b ob q _ _ _=>⟨ob.slots,k b ob q⟩,fun _ _ _ n _=>n,fun b ob q _=>⟨ob,k b ob q⟩,fun _ _ q=>q,fun _ _ _ q=>q,fun _ ps q=>⟨#[],by rw [q];simp⟩⟩
theorem Un.refl:Un fs ex H H h h:=Un.kept fun _ _ q=>q
theorem Un.laid (k:∀b u,h.get? b=some u->h'.get? b=some u)(hp:h.objs.size<=a)(hn:H a=none):Un fs ex H (upd H a o) h h' where
 keep:=fun b u q _ _ _=>k b u q
 slot:=fun b u q _ _ _=>⟨u.slots,k b u q⟩
 free:=fun b u q n _=>by rw [ao (aa1 (aaI (Heap.lt_size q) hp))];exact n
 there:=fun b u q _=>⟨u,k b u q⟩
 pS:=fun b xs q=>by rw [ao (aq q hn)];exact q
 m_:=fun b u xs q=>by rw [ao (aq q hn)];exact q
 pT:=fun b ps q=>⟨#[],by rw [ao (aq q hn),q];simp⟩
theorem Un.write (mu:RD (H x))(he:e=x\/H e=some (.own x))(k:∀b u,b≠e->h.get? b=some u->h'.get? b=some u)(QQ:∃u,h'.get? e=some u):Un fs ex H (upd H x o) h h' :=by
 have hx:∀b,H b=none->b≠x:=fun b n z=>by subst z;rw [n] at mu;exact mu
 have hb:∀b,H b=none->b≠e:=fun b n z=>by
  subst z
  rcases he with r | r
  ·exact hx b n r
  ·rw [n] at r;cases r
 have hm:∀b u,H b=some u->¬ RD (some u)->b≠x:=fun b u q nm z=>by subst z;rw [q] at mu;exact nm mu
 refine ⟨fun b u q n _ _=>k b u (hb b n) q,fun b u q n _ _=>⟨u.slots,k b u (hb b n) q⟩,fun b u q n _=>by rw [ao (hx b n)];exact n,fun b u q _=>?_,
  fun b xs q=>by rw [ao (hm b _ q fun z=>z)];exact q,fun b u xs q=>by rw [ao (hm b _ q fun z=>z)];exact q,fun b ps q=>⟨#[],by rw [ao (hm b _ q fun z=>z),q];simp⟩⟩
 by_cases Oa:b=e
 ·subst Oa;exact QQ
 ·exact ⟨u,k b u Oa q⟩
end
def Ym (h:Heap)(H:Hp):List Addr:=(abl h.objs.size).filter fun a=>(H a).isSome
def rK (h:Heap)(H:Hp):Heap:=PySem.W.hideAll h (Ym h H)
theorem zA (h:Heap)(H:Hp):(rK h H).objs.size=h.objs.size:=PySem.W.hideAll_size _ _
theorem DX {h:Heap}{H:Hp}{b:Addr}{o:Obj}(e:h.get? b=some o)(n:H b=none):(rK h H).get? b=some o:=
 PySem.W.hideAll_get _ e fun hm=>by
  have q:(H b).isSome=true:=(abM.mp hm).2
  rw [n] at q;simp at q
theorem Kb {h:Heap}{H:Hp}{b:Addr}{o:Obj}(e:(rK h H).get? b=some o):h.get? b=some o/\H b=none:=by
 have e' :h.get? b=some o:=PySem.W.of_hideAll (Ym h H) e
 refine ⟨e',?_⟩
 cases q:H b with
 | none=>rfl
 | some x=>
  have hm:b∈Ym h H:=abM.mpr ⟨abe.mpr (Heap.lt_size e'),by simp [q]⟩
  have z:(rK h H).get? b=none:=PySem.W.hideAll_none (Ym h H) hm
  rw [z] at e;cases e
def Kc (g h:Heap)(L:Addr):List (Addr×Obj):=(abl h.objs.size).filterMap fun a=>if a=L\/(g.get? a).isSome=true then none else (h.get? a).map fun o=>(a,o)
def rest (g h:Heap)(L d:Addr):List (Addr×Obj):=(Kc g h L).filter fun p=>decide (p.1≠d)
end L2
namespace L2
open PySem PySem.Spec PyProof.Rows
structure Mod (K:Frag)(mg:ι)(base:Heap):Prop where
 QR:K.In base
 glob:base.Ns mainGlobals mg
 blt:∃mb,base.Ns builtinsNs mb/\∀x:Str,x≠ "__name__"->mb x=bootBuiltins x
 nolimit:base.NoLimit
 seer:base.NoSeer
structure Cx where
 prog:Program
 w:World
 K:Frag
 mg:Str->Option Value
 base:Heap
 A:Around
 N:List Str
 s₀:Shared
 H₀:Hp
 env:Env
 outer:List Env
 stack:List Env
 ex:List Addr
 fn:Str->Bool
 calm:Bool
 pn:List (Addr×Obj)
 xe:Value->Shared->Prop
def ya (l:List Env):List Addr:=l.filterMap (·.frame)
abbrev Cx.fs (X:Cx):List Addr:=ya X.outer
def Zn (sc:Scope)(x:Str):Prop:=sc.names.lookup x=some .local\/sc.names.lookup x=some .cell\/sc.names.lookup x=some .free
def Loc (sc:Scope)(x:Str):Prop:=sc.names.lookup x=some .local\/sc.names.lookup x=some .cell
def Look (env:Env)(h:Heap)(m:ι)(x:Str)(u:Value):Prop:=
 (env.kindOf x=some .local/\m x=some u)\/((env.kindOf x=some .cell\/env.kindOf x=some .free)/\∃c,env.cells.lookup x=some c/\h.IsCell c (some u))
structure Cx.Ok (X:Cx):Prop where
 mod:Mod X.K X.mg X.base
 kind:X.env.scope.kind=.function
 glob:X.env.globals=mainGlobals
 blt:X.env.builtins=builtinsNs
 above:X.s₀.heap.objs.size<=X.env.locals
 inj:∀x y c,X.env.cells.lookup x=some c->X.env.cells.lookup y=some c->x=y
 has:∀x,(X.env.kindOf x=some .cell\/X.env.kindOf x=some .free)->∃c,X.env.cells.lookup x=some c
 RF:∀x c,X.fn x=true->X.env.cells.lookup x=some c->X.s₀.heap.objs.size<=c
 hd:X.calm=true->X.A.handled=none
 frames:X.A.frames=some X.stack
 Yn:X.stack=X.outer\/(X.stack=X.env::X.outer/\X.env.frame=some X.env.locals)
 exf:∀b∈X.ex,b≠X.env.locals/\∀x c,X.env.cells.lookup x=some c->c≠b
 bs:∀b o,X.base.get? b=some o->X.s₀.heap.get? b=some o/\X.H₀ b=none
 Kd:X.base.objs.size<=X.s₀.heap.objs.size
 DY:∀b o,X.base.get? b=some o->b∉X.ex
 Ke:∀b∈X.ex,b∉X.fs
 mh:X.s₀.heap.FunFrames X.base X.outer
 Oc:∀b∈X.fs,X.H₀ b=none
structure Inv (X:Cx)(pins:ε)(σ:List (Option V))(H:Hp)(s:Shared):Prop where
 ok:X.Ok
 os:s.os=X.s₀.os
 bare:AllBare s.gens
 base:Un X.fs X.ex X.H₀ H X.s₀.heap s.heap
 loc:∃m,s.heap.Ns X.env.locals m/\∀(i:Nat) (x:Str) (v:V),X.N[i]? =some x->σ[i]? =some (some v)->Zn X.env.scope x->∃u,RelV v u/\Look X.env s.heap m x u
 cell:∀x c,X.env.cells.lookup x=some c->∃v,s.heap.IsCell c v
 free:H X.env.locals=none
 gX:∀x c,X.env.cells.lookup x=some c->H c=none
 pin:∀p∈X.pn++pins,s.heap.get? p.1=some p.2/\H p.1=none/\p.1≠X.env.locals/\p.1∉X.fs/\∀v,p.2.data≠.cell v
 bK:iQ X.prog X.w H s.heap
 len:σ.length=X.N.length
section
variable {X:Cx}{pins:ε}{σ:List (Option V)}{H H' :Hp}{s:Shared}{h' :Heap}
theorem Cx.Ok.Zo (ok:X.Ok){b:Addr}{o:Obj}(e:X.base.get? b=some o):b∉X.fs:=fun hb=>by
 have:=(ok.mh.mem hb).1
 rw [e] at this;cases this
theorem Inv.bs (I:Inv X pins σ H s):∀b o,X.base.get? b=some o->s.heap.get? b=some o/\H b=none:=fun b o e=>
 ⟨I.base.keep b o (I.ok.bs b o e).1 (I.ok.bs b o e).2 (I.ok.Zo e) (I.ok.DY b o e),I.base.free b o (I.ok.bs b o e).1 (I.ok.bs b o e).2 (I.ok.DY b o e)⟩
theorem Inv.bk (I:Inv X pins σ H s):∀b o,X.base.get? b=some o->s.heap.get? b=some o:=fun b o e=>(I.bs b o e).1
theorem Inv.mod (I:Inv X pins σ H s):Mod X.K X.mg X.base:=I.ok.mod
theorem Inv.iZ (I:Inv X pins σ H s):X.K.In s.heap:=I.ok.mod.QR.keeps I.bk
theorem Inv.nolimit (I:Inv X pins σ H s):s.heap.NoLimit:=I.ok.mod.nolimit.keeps I.bk
theorem Inv.lt (I:Inv X pins σ H s):X.env.locals < s.heap.objs.size:=let ⟨_,hn,_⟩:=I.loc;hn.lt
theorem Inv.sz (I:Inv X pins σ H s):X.s₀.heap.objs.size<=s.heap.objs.size:=aai I.ok.above (abA I.lt)
theorem Inv.Zp (I:Inv X pins σ H s){a:Addr}(h:s.heap.objs.size<=a):a∉X.fs:=fun hb=>by
 obtain ⟨_,o,ho,_⟩:=I.ok.mh.mem hb
 exact absurd (aaI (Heap.lt_size ho) (aai I.sz h)) (abp _)
theorem Inv.Od (I:Inv X pins σ H s):∀x c,X.env.cells.lookup x=some c->c≠X.env.locals:=fun x c e z=>by
 obtain ⟨v,o,ho,hd⟩:=I.cell x c e
 obtain ⟨m,⟨o',es,ep,DZ,JC,_⟩,_⟩:=I.loc
 rw [z,DZ] at ho;cases ho;rw [JC] at hd;cases hd
theorem Inv.mh (I:Inv X pins σ H s):s.heap.FunFrames X.base X.outer:=by
 have all:∀(l:List Env),(∀b∈ya l,b∈X.fs)->X.s₀.heap.FunFrames X.base l->s.heap.FunFrames X.base l:=by
  intro l
  induction l with
  | nil=>intro _ _;trivial
  | cons env r ih=>
   intro hs hl
   obtain ⟨hk,⟨L,o,hf,hn,ho,hd⟩,hr⟩:=hl
   have hL:L∈X.fs:=hs L (by unfold ya;rw [ahu,hf];exact aap)
   obtain ⟨sl,e⟩:=I.base.slot L o ho (I.ok.Oc L hL) hL fun z=>I.ok.Ke L z hL
   exact ⟨hk,⟨L,_,hf,hn,e,hd⟩,ih (fun b hb=>hs b (by unfold ya;rw [ahu,hf];exact aae _ hb)) hr⟩
 exact all X.outer (fun _ hb=>hb) I.ok.mh
theorem Inv.stack (I:Inv X pins σ H s):s.heap.FunFrames X.base X.stack:=by
 rcases I.ok.Yn with e | ⟨e,hf⟩
 ·rw [e];exact I.mh
 ·rw [e]
  obtain ⟨m,hn,_⟩:=I.loc
  refine .cons (by rw [I.ok.kind];decide) hf hn ?_ I.mh
  exact Heap.get?_none_of_le (aai I.ok.Kd I.ok.above)
theorem Inv.wj (I:Inv X pins σ H s):∀b∈ya X.stack,b∈X.env.locals::X.fs:=fun b hb=>by
 rcases I.ok.Yn with e | ⟨e,hf⟩
 ·rw [e] at hb;exact aae _ hb
 ·rw [e] at hb
  unfold ya at hb
  rw [ahu,hf] at hb
  exact hb
theorem Inv.yd (I:Inv X pins σ H s):∀b∈ya X.stack,H b=none:=fun b hb=>by
 rcases aaN.mp (I.wj b hb) with e | hb
 ·rw [e];exact I.free
 ·obtain ⟨_,o,ho,_⟩:=I.ok.mh.mem hb
  exact I.base.free b o ho (I.ok.Oc b hb) fun z=>I.ok.Ke b z hb
theorem Inv.step {g' :Array GenState}{t' :Nat}{d' :Drawn}{ch:τ}(I:Inv X pins σ H s)
  (JD:∀b∈ch,(b∈X.ex\/X.s₀.heap.objs.size<=b)/\b≠X.env.locals/\(∀x c,X.env.cells.lookup x=some c->c≠b)/\∀p∈X.pn++pins,p.1≠b)
  (keep:∀b o,b≠X.env.locals->b∉X.fs->b∉ch->s.heap.get? b=some o->H b=none->h'.get? b=some o)
  (slot:∀b o,b≠X.env.locals->b∈X.fs->b∉ch->s.heap.get? b=some o->H b=none->∃sl,h'.get? b=some {o with slots:=sl}) (free:∀b o,b∉ch->s.heap.get? b=some o->H b=none->H' b=none)
  (there:∀b o,b∉ch->s.heap.get? b=some o->∃o',h'.get? b=some o')
  (pS:∀b xs,H b=some (.tup xs)->H' b=some (.tup xs)) (m_:∀b o u,H b=some (.dA o u)->H' b=some (.dA o u)) (pT:∀b ps,H b=some (.N' ps)->∃more,H' b=some (.N' (ps++more)))
  (ns:∀m,s.heap.Ns X.env.locals m->h'.Ns X.env.locals m) (bK:iQ X.prog X.w H' h') (hg:AllBare g'):
  Inv X pins σ H' {s with heap:=h',gens:=g',drawn:=d',toks:=t' }:=by
 have Oe:∀b o,X.s₀.heap.get? b=some o->b≠X.env.locals:=fun b o e=>aa1 (aaI (Heap.lt_size e) I.ok.above)
 have MD:∀b o,X.s₀.heap.get? b=some o->b∉X.ex->b∉ch:=fun b o e hx hb=>by
  rcases (JD b hb).1 with z | z
  ·exact hx z
  ·exact absurd (aaI (Heap.lt_size e) z) (abp _)
 have cellK:∀x c,X.env.cells.lookup x=some c->∀v,s.heap.IsCell c v->h'.IsCell c v:=fun x c e v ⟨o,ho,hd⟩=>by
  have RG:c∉ch:=fun z=>(JD c z).2.2.1 x c e rfl
  by_cases hc:c∈X.fs
  ·obtain ⟨sl,q⟩:=slot c o (I.Od x c e) hc RG ho (I.gX x c e)
   exact ⟨_,q,hd⟩
  ·exact ⟨o,keep c o (I.Od x c e) hc RG ho (I.gX x c e),hd⟩
 refine ⟨I.ok,I.os,hg,⟨fun b o e n hb hx=>?_,fun b o e n hb hx=>?_,fun b o e n hx=>?_,fun b o e hx=>?_,fun b xs e=>pS b xs (I.base.pS b xs e),fun b o xs e=>m_ b o xs (I.base.m_ b o xs e),fun b ps e=>?_⟩,?_,fun x c e=>?_,?_,fun x c e=>?_,fun p hp=>?_,bK,I.len⟩
 ·exact keep b o (Oe b o e) hb (MD b o e hx) (I.base.keep b o e n hb hx) (I.base.free b o e n hx)
 ·obtain ⟨sl,e1⟩:=I.base.slot b o e n hb hx
  obtain ⟨sl',e2⟩:=slot b _ (Oe b o e) hb (MD b o e hx) e1 (I.base.free b o e n hx)
  exact ⟨sl',e2⟩
 ·obtain ⟨o',e1⟩:=I.base.there b o e hx
  exact free b o' (MD b o e hx) e1 (I.base.free b o e n hx)
 ·obtain ⟨o',e1⟩:=I.base.there b o e hx
  exact there b o' (MD b o e hx) e1
 ·obtain ⟨m1,e1⟩:=I.base.pT b ps e
  obtain ⟨m2,e2⟩:=pT b _ e1
  exact ⟨m1++m2,by rw [e2,Array.append_assoc]⟩
 ·obtain ⟨m,hn,hl⟩:=I.loc
  refine ⟨m,ns m hn,fun i x v e1 e2 e3=>?_⟩
  obtain ⟨u,r,l⟩:=hl i x v e1 e2 e3
  refine ⟨u,r,?_⟩
  rcases l with l | ⟨k,c,e,z⟩
  ·exact .inl l
  ·exact .inr ⟨k,c,e,cellK x c e _ z⟩
 ·obtain ⟨v,z⟩:=I.cell x c e
  exact ⟨v,cellK x c e v z⟩
 ·obtain ⟨m,⟨o,_,_,ho,_⟩,_⟩:=I.loc
  exact free _ o (fun z=>(JD _ z).2.1 rfl) ho I.free
 ·obtain ⟨v,o,ho,hd⟩:=I.cell x c e
  exact free c o (fun z=>(JD c z).2.2.1 x c e rfl) ho (I.gX x c e)
 ·obtain ⟨e,n,ne,nf,d⟩:=I.pin p hp
  have RG:p.1∉ch:=fun z=>(JD p.1 z).2.2.2 p hp rfl
  exact ⟨keep p.1 p.2 ne nf RG e n,free p.1 p.2 RG e n,ne,nf,d⟩
theorem Inv.un {t' :Nat}(I:Inv X pins σ H s)(u:Un X.fs [] H H' s.heap h')(bK:iQ X.prog X.w H' h'):Inv X pins σ H' {s with heap:=h',toks:=t' }:=by
 obtain ⟨m,⟨o,es,ep,ho,r⟩,_⟩:=id I.loc
 obtain ⟨sl,hL⟩:=u.any ho I.free (by simp)
 exact I.step (g' :=s.gens) (d' :=s.drawn) (ch:=[]) (fun _ z=>nomatch z) (fun b o _ hb _ e n=>u.keep b o e n hb (by simp)) (fun b o _ hb _ e n=>u.slot b o e n hb (by simp)) (fun b o _ e n=>u.free b o e n (by simp)) (fun b o _ e=>u.there b o e (by simp)) u.pS u.m_ u.pT (fun m' hm=>by
  obtain ⟨o',Zq,v3,DZ,r'⟩:=hm
  rw [ho] at DZ;cases DZ
  exact ⟨_,Zq,v3,hL,r'⟩) bK I.bare
theorem Inv.call {g' :Array GenState}{t' :Nat}{d' :Drawn}{ch:τ}(I:Inv X pins σ H s)(u:Un (ya X.stack) ch H H' s.heap h')(bK:iQ X.prog X.w H' h')(hg:AllBare g')
  (JD:∀b∈ch,(b∈X.ex\/X.s₀.heap.objs.size<=b)/\b≠X.env.locals/\(∀x c,X.env.cells.lookup x=some c->c≠b)/\∀p∈X.pn++pins,p.1≠b):
  Inv X pins σ H' {s with heap:=h',gens:=g',drawn:=d',toks:=t' }:=by
 obtain ⟨m,⟨o,es,ep,ho,r⟩,_⟩:=id I.loc
 obtain ⟨sl,hL⟩:=u.any ho I.free fun z=>(JD _ z).2.1 rfl
 exact I.step (ch:=ch) JD (fun b o hL hb hc e n=>u.keep b o e n (fun z=>(aaN.mp (I.wj b z)).elim hL hb) hc) (fun b o _ _ hc e n=>u.any e n hc) (fun b o hc e n=>u.free b o e n hc) (fun b o hc e=>u.there b o e hc) u.pS u.m_ u.pT (fun m' hm=>by
  obtain ⟨o',Zq,v3,DZ,r'⟩:=hm
  rw [ho] at DZ;cases DZ
  exact ⟨_,Zq,v3,hL,r'⟩) bK hg
theorem Inv.turned {t' :Nat}{it:Addr}(I:Inv X pins σ H s)(k:∀b o,b≠it->s.heap.get? b=some o->h'.get? b=some o)(hn:H it=none)(hL:it≠X.env.locals)
  (h1:it∈X.ex\/X.s₀.heap.objs.size<=it) (h2:∀x c,X.env.cells.lookup x=some c->c≠it) (h3:∀p∈X.pn++pins,p.1≠it):Inv X pins σ H {s with heap:=h',toks:=t' }:=by
 have MF:∀b u,H b=some u->b≠it:=fun b u e z=>by rw [z,hn] at e;cases e
 refine I.step (g' :=s.gens) (d' :=s.drawn) (ch:=[it]) (fun b hb=>?_) (fun b o _ _ hc e _=>k b o (fun z=>hc (by simp [z])) e) (fun b o _ _ hc e _=>⟨o.slots,k b o (fun z=>hc (by simp [z])) e⟩) (fun _ _ _ _ n=>n)
  (fun b o hc e=>⟨o,k b o (fun z=>hc (by simp [z])) e⟩) (fun _ _ e=>e) (fun _ _ _ e=>e) (fun b ps e=>⟨#[],by rw [e];simp⟩) (fun m hm=>?_) (fun b u e=>?_) I.bare
 ·have e:b=it:=by simpa using hb
  subst e
  exact ⟨h1,hL,h2,h3⟩
 ·obtain ⟨o,es,ep,ho,r⟩:=hm
  exact ⟨o,es,ep,k _ o (aaW hL) ho,r⟩
 ·refine (I.bK b u e).pR (fun c v hc q=>k c v ?_ q) (fun _ q=>q) fun _ _ q=>q
  rcases hc with z | z
  ·rw [z];exact MF b u e
  ·exact MF c _ z
theorem Inv.tok (I:Inv X pins σ H s)(t:Nat):Inv X pins σ H {s with toks:=t}:=I.un (h' :=s.heap) (t' :=t) Un.refl I.bK
theorem Inv.kept {t' :Nat}(I:Inv X pins σ H s)(k:∀b u,s.heap.get? b=some u->h'.get? b=some u):Inv X pins σ H {s with heap:=h',toks:=t' }:=I.un (Un.kept k) (I.bK.kept k)
theorem Inv.laid {a:Addr}{o:HO}{t' :Nat}(I:Inv X pins σ H s)(k:∀b u,s.heap.get? b=some u->h'.get? b=some u)(hp:s.heap.objs.size<=a)(new:cE X.prog X.w (upd H a o) h' a o):
  Inv X pins σ (upd H a o) {s with heap:=h',toks:=t' }:=I.un (Un.laid k hp (I.bK.fresh hp)) (I.bK.laid k hp new)
theorem Inv.write {x e:Addr}{o:HO}{t' :Nat}(I:Inv X pins σ H s)(mu:RD (H x))(he:e=x\/H e=some (.own x))(k:∀b u,b≠e->s.heap.get? b=some u->h'.get? b=some u)(QQ:∃u,h'.get? e=some u)
  (new:cE X.prog X.w (upd H x o) h' x o):Inv X pins σ (upd H x o) {s with heap:=h',toks:=t' }:=I.un (Un.write mu he k QQ) (I.bK.write mu he k QQ new)
theorem Inv.ye {MG :ε}(I:Inv X pins σ H s)(h:∀p∈MG,s.heap.get? p.1=some p.2/\H p.1=none/\p.1≠X.env.locals/\p.1∉X.fs/\∀v,p.2.data≠.cell v):Inv X MG σ H s:=
 ⟨I.ok,I.os,I.bare,I.base,I.loc,I.cell,I.free,I.gX,fun p hp=>(aaA.mp hp).elim (fun z=>I.pin p (aa7 _ z)) (h p),I.bK,I.len⟩
theorem cO {N:ρ}(hN:N.Nodup){i j:Nat}{x:Str}(a:N[i]? =some x)(b:N[j]? =some x):i=j:=by
 obtain ⟨h1,e1⟩:=ir.mp a
 obtain ⟨h2,e2⟩:=ir.mp b
 exact (aiT hN).mp (e1.trans e2.symm)
theorem qF {M:Model}{A:Around}{E:δ}{i:Nat}{x:Str}{v:V}{u:Value}{Q:Unit->Shared->Prop}(I:Inv X pins σ H s)(hN:X.N.Nodup)(hi:X.N[i]? =some x)(hx:Loc X.env.scope x)(r:RelV v u)
  (h:∀s',Inv X pins (σ.set i (some v)) H s' ->(∃a,Heap.SameBut a s.heap s'.heap/\(a=X.env.locals\/X.env.cells.lookup x=some a))->Q () s') (hf:X.fn x=true\/X.env.scope.names.lookup x=some .local:=by first | exact .inl rfl | exact .inr rfl | assumption):wpAny M A (storeName X.env x u) Q E s:=by
 obtain ⟨m,hn,hl⟩:=id I.loc
 have Zr:(X.env.scope.kind==.class || (X.env.scope.kind==.module && X.env.locals !=X.env.globals))=false:=by rw [I.ok.kind];rfl
 have hiσ:i < σ.length:=by rw [I.len];exact (ir.mp hi).1
 have Od:=I.Od
 have tracked:∀{a:Addr} {h' :Heap},(∃o,s.heap.get? a=some o/\H a=none)->Heap.SameBut a s.heap h' ->iQ X.prog X.w H h' :=fun {a h'} ha hs b ob e=>by
  obtain ⟨_,_,MI⟩:=ha
  refine (I.bK b ob e).pR (fun c w' hc q=>(hs.2 c ?_).trans q) (fun _ q=>q) fun _ _ q=>q
  rintro rfl
  rcases hc with rfl | hc
  ·rw [MI] at e;cases e
  ·rw [MI] at hc;cases hc
 rcases hx with hk | hk
 ·refine wpAny_storeName_local hk hn (fun h' Of hs=>?_) Zr
  obtain ⟨oL,_,_,hoL,_⟩:=id hn
  refine h _ ⟨I.ok,I.os,I.bare,⟨fun b o e n hb hx=>?_,fun b o e n hb hx=>?_,I.base.free,fun b o e hx=>?_,I.base.pS,I.base.m_,I.base.pT⟩,⟨_,Of,fun j y v' e1 e2 e3=>?_⟩,fun y c e=>?_,I.free,I.gX,fun p hp=>?_,tracked ⟨oL,hoL,I.free⟩ hs,by simpa using I.len⟩ ⟨_,hs,.inl rfl⟩
  ·exact (hs.2 b (aa1 (aaI (Heap.lt_size e) I.ok.above))).trans (I.base.keep b o e n hb hx)
  ·obtain ⟨sl,e1⟩:=I.base.slot b o e n hb hx
   exact ⟨sl,(hs.2 b (aa1 (aaI (Heap.lt_size e) I.ok.above))).trans e1⟩
  ·obtain ⟨o',e1⟩:=I.base.there b o e hx
   exact ⟨o',(hs.2 b (aa1 (aaI (Heap.lt_size e) I.ok.above))).trans e1⟩
  ·by_cases hj:j=i
   ·subst hj
    rw [hi] at e1;cases e1
    rw [ahA hiσ] at e2
    cases e2
    exact ⟨u,r,.inl ⟨hk,by simp⟩⟩
   ·rw [ahp (aaW hj)] at e2
    obtain ⟨u',r',q⟩:=hl j y v' e1 e2 e3
    refine ⟨u',r',?_⟩
    rcases q with ⟨k,e⟩ | ⟨k,c,e,z⟩
    ·refine .inl ⟨k,?_⟩
     have:y≠x:=fun e=>hj (cO hN e1 (e▸hi))
     simp [this,e]
    ·exact .inr ⟨k,c,e,z.sameBut hs (Od y c e)⟩
  ·obtain ⟨w',z⟩:=I.cell y c e
   exact ⟨w',z.sameBut hs (Od y c e)⟩
  ·obtain ⟨e,n,ne,nf,d⟩:=I.pin p hp
   exact ⟨(hs.2 p.1 ne).trans e,n,ne,nf,d⟩
 ·have RH:X.fn x=true:=by
   rcases hf with z | z
   ·exact z
   ·rw [z] at hk;cases hk
  obtain ⟨c,hc⟩:=I.ok.has x (.inl hk)
  obtain ⟨w',z⟩:=I.cell x c hc
  refine wpAny_storeName_cell I.ok.kind hk hc z (fun h' t_ hs=>?_)
  obtain ⟨oc,hoc,Zs⟩:=id z
  refine h {s with heap:=h' } ⟨I.ok,I.os,I.bare,⟨fun b o e n hb hx=>?_,fun b o e n hb hx=>?_,I.base.free,fun b o e hx=>?_,I.base.pS,I.base.m_,I.base.pT⟩,⟨m,hn.sameBut hs (aaW (Od x c hc)),fun j y v' e1 e2 e3=>?_⟩,fun y c' e=>?_,I.free,I.gX,fun p hp=>?_,tracked ⟨oc,hoc,I.gX x c hc⟩ hs,by simpa using I.len⟩ ⟨c,hs,.inr hc⟩
  ·exact (hs.2 b (aa1 (aaI (Heap.lt_size e) (I.ok.RF x c RH hc)))).trans (I.base.keep b o e n hb hx)
  ·obtain ⟨sl,e1⟩:=I.base.slot b o e n hb hx
   exact ⟨sl,(hs.2 b (aa1 (aaI (Heap.lt_size e) (I.ok.RF x c RH hc)))).trans e1⟩
  ·obtain ⟨o',e1⟩:=I.base.there b o e hx
   exact ⟨o',(hs.2 b (aa1 (aaI (Heap.lt_size e) (I.ok.RF x c RH hc)))).trans e1⟩
  ·by_cases hj:j=i
   ·subst hj
    rw [hi] at e1;cases e1
    rw [ahA hiσ] at e2
    cases e2
    exact ⟨u,r,.inr ⟨.inl hk,c,hc,t_⟩⟩
   ·rw [ahp (aaW hj)] at e2
    obtain ⟨u',r',q⟩:=hl j y v' e1 e2 e3
    refine ⟨u',r',?_⟩
    rcases q with q | ⟨k,c',e,z'⟩
    ·exact .inl q
    ·refine .inr ⟨k,c',e,z'.sameBut hs ?_⟩
     rintro rfl
     exact hj (cO hN e1 (I.ok.inj _ _ _ e hc▸hi))
  ·by_cases hcc:c' =c
   ·subst hcc;exact ⟨_,t_⟩
   ·obtain ⟨w2,z2⟩:=I.cell y c' e
    exact ⟨w2,z2.sameBut hs hcc⟩
  ·obtain ⟨e,n,ne,nf,d⟩:=I.pin p hp
   refine ⟨(hs.2 p.1 ?_).trans e,n,ne,nf,d⟩
   intro q
   rw [q,hoc] at e
   have q' :oc=p.2:=aay e
   exact d w' (by rw [<- q'];exact Zs)
theorem jn {M:Model}{A:Around}{E:δ}{i:Nat}{x:Str}{v:V}{u:Value}{Q:Unit->Shared->Prop}(I:Inv X pins σ H s)(hN:X.N.Nodup)(hi:X.N[i]? =some x)(hx:Loc X.env.scope x)(r:RelV v u)
  (h:∀s',Inv X pins (σ.set i (some v)) H s' ->Q () s') (hf:X.fn x=true\/X.env.scope.names.lookup x=some .local:=by first | exact .inl rfl | exact .inr rfl | assumption):wpAny M A (storeName X.env x u) Q E s:=
 qF I hN hi hx r (fun s' I' _=>h s' I') hf
theorem Inv.RI {s' :Shared}{ch:τ}(I:Inv X pins σ H s)(ho:s'.os=s.os)(u:Un (ya X.stack) ch H H' s.heap s'.heap)(bK:iQ X.prog X.w H' s'.heap)(hg:AllBare s'.gens)
  (JD:∀b∈ch,(b∈X.ex\/X.s₀.heap.objs.size<=b)/\b≠X.env.locals/\(∀x c,X.env.cells.lookup x=some c->c≠b)/\∀p∈X.pn++pins,p.1≠b):Inv X pins σ H' s' :=by
 obtain ⟨h',g',d',t',o'⟩:=s'
 have e:o' =s.os:=ho
 subst e
 exact I.call (g' :=g') (t' :=t') (d' :=d') u bK hg JD
end
abbrev XK:=Value->Option Addr->Hp->Prop
abbrev St:=List (Option V)
abbrev VK:=V->Hp->Prop
abbrev _root_.Φ:=V->List V->Hp->VK->Prop
abbrev TE:=St->Hp->VK->Prop
abbrev TT:=St->Hp->(Bool->Hp->Prop)->Prop
abbrev TA:=St->Hp->(List V->Hp->Prop)->Prop
structure Ends where
 nx:St->Hp->Prop
 rt:VK
 bk:St->Hp->Prop:=fun _ _=>False
 ct:St->Hp->Prop:=fun _ _=>False
abbrev TS:=Ends->St->Hp->Prop
def EP (X:Cx)(pins:ε)(σ:St)(Q:VK)(u:Value)(s' :Shared):Prop:=∃v H',Inv X pins σ H' s' /\RelV v u/\Q v H'
def TP (X:Cx)(pins:ε)(σ:St)(Q:Bool->Hp->Prop)(b:Bool)(s' :Shared):Prop:=∃H',Inv X pins σ H' s' /\Q b H'
def AP (X:Cx)(pins:ε)(σ:St)(Q:List V->Hp->Prop)(us:ο)(s' :Shared):Prop:=∃vs H',Inv X pins σ H' s' /\Vals vs us/\Q vs H'
def SP (X:Cx)(pins:ε)(D:Ends)(f:Flow)(s' :Shared):Prop:=
 match f with
 | .next=>∃σ' H',Inv X pins σ' H' s' /\D.nx σ' H'
 | .brk=>∃σ' H',Inv X pins σ' H' s' /\D.bk σ' H'
 | .cont=>∃σ' H',Inv X pins σ' H' s' /\D.ct σ' H'
 | .ret u=>∃v σ' H',Inv X pins σ' H' s' /\RelV v u/\D.rt v H'
def PE (X:Cx)(e:Expr)(t:TE):Prop:=
 ∀(pins:ε) (s:Shared) (σ:St) (H:Hp) (Q:VK),Inv X pins σ H s->t σ H Q->wpAny (model X.prog X.w) X.A (eval e X.env) (EP X pins σ Q) X.xe s
def PT (X:Cx)(e:Expr)(t:TT):Prop:=
 ∀(pins:ε) (s:Shared) (σ:St) (H:Hp) (Q:Bool->Hp->Prop),Inv X pins σ H s->t σ H Q->wpAny (model X.prog X.w) X.A (isTrue e X.env (eval e X.env)) (TP X pins σ Q) X.xe s
def PW (X:Cx)(e:Expr)(t:TT):Prop:=
 ∀(whole:Sem Value) (pins:ε) (s:Shared) (σ:St) (H:Hp) (Q:Bool->Hp->Prop),Inv X pins σ H s->t σ H Q->wpAny (model X.prog X.w) X.A (isTrue e X.env whole) (TP X pins σ Q) X.xe s
theorem PW.pt {X:Cx}{e:Expr}{t:TT}(h:PW X e t):PT X e t:=h _
def PA (X:Cx)(es:ψ)(t:TA):Prop:=
 ∀(pos:Pos) (pins:ε) (s:Shared) (σ:St) (H:Hp) (Q:List V->Hp->Prop),Inv X pins σ H s->t σ H Q->wpAny (model X.prog X.w) X.A (spliced (backTo pos (starEach es X.env))) (AP X pins σ Q) X.xe s
def PS (X:Cx)(st:Stmt)(t:TS):Prop:=
 ∀(pins:ε) (s:Shared) (σ:St) (H:Hp) (D:Ends),Inv X pins σ H s->t D σ H->wpAny (model X.prog X.w) X.A (exec st X.env) (SP X pins D) X.xe s
def PSs (X:Cx)(st:List Stmt)(t:TS):Prop:=
 ∀(pins:ε) (s:Shared) (σ:St) (H:Hp) (D:Ends),Inv X pins σ H s->t D σ H->wpAny (model X.prog X.w) X.A (execs st X.env) (SP X pins D) X.xe s
theorem bZ {α:Type}{t:Sem α}{Q Q' :α->Shared->Prop}{M:Model}{A:Around}{E:δ}{s:Shared}(h:wpAny M A t Q E s)(hQ:∀a s,Q a s->Q' a s):wpAny M A t Q' E s:=wpAny_mono h hQ fun _ _ x=>x
end L2
namespace L2
open PySem PySem.Spec PyProof.Rows
section
variable {X:Cx}
inductive Kf (i:Nat)(σ:St)(H:Hp)(Q:VK):Prop where
 | mk (v:_) (_:σ[i]? =some (some v)) (_:Q v H):Kf i σ H Q
def tC (v:V):TE:=fun _ H Q=>Q v H
theorem Og {i:Nat}{x:Str}{pos:Pos}(hN:X.N[i]? =some x)(hv:Zn X.env.scope x)(hd:(x==("__debug__":Str))=false:=by decide)(pU:(x==("__classdict__":Str))=false:=by decide):PE X (.Name x pos) (Kf i):=by
 intro pins s σ H Q I h
 obtain ⟨v,e,h⟩:=h
 obtain ⟨m,hn,hl⟩:=I.loc
 obtain ⟨u,r,l⟩:=hl i x v hN e hv
 have fin:EP X pins σ Q u s:=⟨v,H,I,r,h⟩
 rcases l with ⟨hk,hm⟩ | ⟨hk,c,hc,hcell⟩
 ·exact wpAny_Name (wpAny_loadName_local I.ok.kind hk hn hm fin) hd
 ·rcases hk with hk | hk
  ·exact wpAny_Name (wpAny_loadName_cell I.ok.kind hk hc hcell fin) hd
  ·exact wpAny_Name (wpAny_loadName_free I.ok.kind hk hc hcell fin pU) hd
theorem ah {i j pos}:PE X (.Constant (.int i) j pos) (tC (.int i)):=fun _ _ _ H _ I h=>wpAny_Constant_int ⟨.int i,H,I.tok _,⟨_,rfl⟩,h⟩
theorem cP {b j pos}:PE X (.Constant (.bool b) j pos) (tC (.bl b)):=fun _ _ _ H _ I h=>Constant_bool ⟨.bl b,H,I,rfl,h⟩
theorem ng {j pos}:PE X (.Constant .none j pos) (tC .cB):=fun _ _ _ H _ I h=>Constant_none ⟨.cB,H,I,rfl,h⟩
theorem i0 {x j pos}:PE X (.Constant (.str x) j pos) (tC (.str x)):=fun _ _ _ H _ I h=>Calls.Constant_str ⟨.str x,H,I.tok _,⟨_,rfl⟩,h⟩
def Gl (X:Cx)(x:Str):Prop:=X.env.kindOf x=some .globalImplicit
theorem jo {E:δ}{pins:ε}{s:Shared}{σ:St}{H:Hp}{x:Str}{u:Value}{pos:Pos}{Q:δ}(I:Inv X pins σ H s)(hg:Gl X x)(hm:X.mg x=some u)(h:Q u s)
  (hd:(x==("__debug__":Str))=false:=by decide):wpAny (model X.prog X.w) X.A (eval (.Name x pos) X.env) Q E s:=
 Calls.Name_function_global I.ok.kind hg (Calls.loadGlobal_global (by rw [I.ok.glob];exact I.mod.glob.keeps I.bk) hm h) hd
theorem fQ {E:δ}{pins:ε}{s:Shared}{σ:St}{H:Hp}{x:Str}{u:Value}{pos:Pos}{Q:δ}(I:Inv X pins σ H s)(hg:Gl X x)(hm:X.mg x=none)(hv:bootBuiltins x=some u)(h:Q u s)
  (hn:x≠ "__name__":=by decide) (hd:(x==("__debug__":Str))=false:=by decide):wpAny (model X.prog X.w) X.A (eval (.Name x pos) X.env) Q E s:=by
 obtain ⟨mb,h1,h2⟩:=I.mod.blt
 exact Calls.Name_function_global I.ok.kind hg (Calls.loadGlobal_builtin (by rw [I.ok.glob];exact I.mod.glob.keeps I.bk) hm (by rw [I.ok.blt];exact h1.keeps I.bk) ((h2 x hn).trans hv) h) hd
theorem jq {x:Str}{v:V}{u:Value}{pos:Pos}(hg:Gl X x)(hm:X.mg x=some u)(r:RelV v u)(hd:(x==("__debug__":Str))=false:=by decide):PE X (.Name x pos) (tC v):=
 fun _ _ _ H _ I h=>jo I hg hm ⟨v,H,I,r,h⟩ hd
theorem Kg {x:Str}{v:V}{u:Value}{pos:Pos}(hg:Gl X x)(hm:X.mg x=none)(hv:bootBuiltins x=some u)(r:RelV v u)(hn:x≠ "__name__":=by decide)(hd:(x==("__debug__":Str))=false:=by decide):PE X (.Name x pos) (tC v):=
 fun _ _ _ H _ I h=>fQ I hg hm hv ⟨v,H,I,r,h⟩ hn hd
variable {a b:Expr}{ta tb:TE}{pos:Pos}
def PC (X:Cx)(op:CmpOp)(a b:Expr)(t:TE):Prop:=
 ∀(pins:ε) (s:Shared) (σ:St) (H:Hp) (Q:VK),Inv X pins σ H s->t σ H Q->
  wpAny (model X.prog X.w) X.A (eval a X.env) (fun v s₁=>wpAny (model X.prog X.w) X.A (eval b X.env) (fun u s₂=>wpAny (model X.prog X.w) X.A (compareOp op v u) (EP X pins σ Q) X.xe s₂) X.xe s₁) X.xe s
inductive tB_ (Q:(Bool->Hp->Prop))(x:V)(H1:Hp):Prop where
 | mk (c:_) (_:x=.bl c) (_:Q c H1):tB_ Q x H1
def tB (t:TE):TT:=fun σ H Q=>t σ H fun x H1=>tB_ Q x H1
theorem i5 {op:CmpOp}{t:TE}(h:PC X op a b t)(h1:behindInMarks op b=false:=by first | exact nobehind _ (by decide) (by decide) | rfl):PT X (.Compare a [op] [b] pos) (tB t):=by
 intro pins s σ H Q I hw
 refine wpAny_isTrue_Compare1 (bZ (h pins s σ H _ I hw) fun v s1 h1=>bZ h1 fun u s2 h2=>bZ h2 fun c s3 ⟨x,H1,I1,r1,q1⟩=>?_) h1
 obtain ⟨d,rfl,q⟩:=q1
 cases r1
 exact wpAny_truthy_bool ⟨H1,I1,q⟩
theorem cU {e:Expr}{t:TE}(h:PE X e t)(he:∀whole,isTrue e X.env whole=(do let v <- whole;standAt e.pos;holding [v] (truthy v)):=by intro _;rfl):PT X e (tB t):=by
 intro pins s σ H Q I hw
 refine isTrue_plain (bZ (h pins s σ H _ I hw) fun v s1 ⟨x,H1,I1,r1,q1⟩=>?_) (he _)
 obtain ⟨d,rfl,q⟩:=q1
 cases r1
 exact wpAny_truthy_bool ⟨H1,I1,q⟩
variable {tA Yo :TT}{rest:ψ}
def Zt (t u:TT):TT:=fun σ H Q=>t σ H fun c H1=>if c=true then u σ H1 Q else Q false H1
def tOr (t u:TT):TT:=fun σ H Q=>t σ H fun c H1=>if c=true then Q true H1 else u σ H1 Q
def Zu (t:TT):TT:=fun σ H Q=>t σ H fun c H1=>Q (!c) H1
theorem rL (ha:PT X a tA):PW X (.BoolOp .And [a] pos) tA:=by
 intro wh pins s σ H Q I h
 refine isTrue_and (bZ (ha pins s σ H Q I h) fun c s1 e=>?_)
 cases c with
 | true=>exact isTrue_and_nil e
 | false=>exact e
theorem g_ (ha:PT X a tA):PW X (.BoolOp .Or [a] pos) tA:=by
 intro wh pins s σ H Q I h
 refine isTrue_or (bZ (ha pins s σ H Q I h) fun c s1 e=>?_)
 cases c with
 | false=>exact isTrue_or_nil e
 | true=>exact e
theorem wm (ha:PT X a tA)(hb:PW X (.BoolOp .And (b::rest) pos) Yo):PW X (.BoolOp .And (a::b::rest) pos) (Zt tA Yo):=by
 intro wh pins s σ H Q I h
 refine isTrue_and (bZ (ha pins s σ H _ I h) fun c s1 ⟨H1,I1,q1⟩=>?_)
 cases c with
 | true=>exact hb wh pins s1 σ H1 Q I1 q1
 | false=>exact ⟨H1,I1,q1⟩
theorem lJ (ha:PT X a tA)(hb:PW X (.BoolOp .Or (b::rest) pos) Yo):PW X (.BoolOp .Or (a::b::rest) pos) (tOr tA Yo):=by
 intro wh pins s σ H Q I h
 refine isTrue_or (bZ (ha pins s σ H _ I h) fun c s1 ⟨H1,I1,q1⟩=>?_)
 cases c with
 | true=>exact ⟨H1,I1,q1⟩
 | false=>exact hb wh pins s1 σ H1 Q I1 q1
theorem c7 (ha:PT X a tA):PT X (.UnaryOp .Not a pos) (Zu tA):=by
 intro pins s σ H Q I h
 exact isTrue_not (ha pins s σ H (fun c H1=>Q (!c) H1) I h)
def RJ (ta tb:TE):TE:=fun σ H Q=>ta σ H fun x H1=>∃c,x=.bl c/\if c=true then tb σ H1 Q else Q (.bl false) H1
theorem D_ {op}{t:TE}(h:PE X a t):PE X (.BoolOp op [a] pos) t:=fun pins s σ H Q I hw=>BoolOp_one (h pins s σ H Q I hw)
theorem D' (ha:PE X a ta)(hb:PE X (.BoolOp .And (b::rest) pos) tb):PE X (.BoolOp .And (a::b::rest) pos) (RJ ta tb):=by
 intro pins s σ H Q I h
 refine BoolOp_and (bZ (ha pins s σ H _ I h) fun v s1 ⟨x,H1,I1,r1,q1⟩=>?_)
 obtain ⟨c,rfl,q1⟩:=q1
 cases r1
 refine wpAny_truthy_bool ?_
 cases c with
 | true=>exact hb pins s1 σ H1 Q I1 q1
 | false=>exact ⟨.bl false,H1,I1,rfl,q1⟩
def tIf (t:TT)(ta tb:TE):TE:=fun σ H Q=>t σ H fun c H1=>if c=true then ta σ H1 Q else tb σ H1 Q
theorem ug {c:Expr}(hc:PT X c tA)(ha:PE X a ta)(hb:PE X b tb):PE X (.IfExp c a b pos) (tIf tA ta tb):=by
 intro pins s σ H Q I h
 refine wpAny_IfExp (bZ (hc pins s σ H _ I h) fun d s1 ⟨H1,I1,q1⟩=>?_)
 cases d with
 | true=>exact ha pins s1 σ H1 Q I1 q1
 | false=>exact hb pins s1 σ H1 Q I1 q1
end
end L2
namespace L2
open PySem PySem.Spec PyProof.Rows
def a8 (K:Frag)(H:Hp)(a:Addr)(xs:ζ):Prop:=
 Rd H a (.lst xs)\/
  ∃(o:Obj) (its:Λ) (n:Nat),K.lookup a=some o/\o.cls=.type "list"/\o.dict=none/\o.data=.seq its n/\its.size<=sizeLine/\Vals xs its.toList
def bU (K:Frag)(H:Hp)(a:Addr)(xs:ζ):Prop:=
 Rd H a (.tup xs)\/
  ∃(o:Obj) (its:Λ) (n:Nat),K.lookup a=some o/\o.cls=.type "tuple"/\o.data=.seq its n/\its.size<=sizeLine/\Vals xs its.toList
def Zv:Value->Option V
 | .none=>some .cB
 | .bool b=>some (.bl b)
 | .int i _=>some (.int i)
 | .str x _=>some (.str x)
 | .bytes b _=>some (.byt b)
 | .float b _=>some (.N_ b)
 | .ref a=>some (.ref a)
 | .type n=>some (.ty n)
 | _=>none
theorem RelV.abs {x:V}{u:Value}(r:RelV x u):Zv u=some x:=by
 cases x with
 | cB=>cases r;rfl
 | bl _=>cases r;rfl
 | int _=>obtain ⟨t,rfl⟩:=r;rfl
 | str _=>obtain ⟨t,rfl⟩:=r;rfl
 | byt _=>obtain ⟨t,rfl⟩:=r;rfl
 | N_ _=>obtain ⟨t,rfl⟩:=r;rfl
 | ref _=>cases r;rfl
 | ty _=>cases r;rfl
theorem RelV.inj {x y:V}{u:Value}(r:RelV x u)(q:RelV y u):x=y:=aay (r.abs.symm.trans q.abs)
theorem Vals.inj:∀{xs ys:ζ} {us:ο},Vals xs us->Vals ys us->xs=ys
 | _,_,_,.nil,.nil=>rfl
 | _,_,_,.cons r t,.cons r' t' =>by rw [r.inj r',Vals.inj t t']
section
variable {X:Cx}{pins:ε}{σ:St}{H:Hp}{s:Shared}{a:Addr}{xs ys:ζ}
theorem a8.of {K:Frag}(h:H a=some (.lst xs)):a8 K H a xs:=.inl (.inl h)
theorem bU.of {K:Frag}(h:H a=some (.tup xs)):bU K H a xs:=.inl (.inl h)
theorem Inv.list (I:Inv X pins σ H s)(h:a8 X.K H a xs):∃its:List Value,Vals xs its/\PlainL s.heap a its.toArray/\xs.length<=sizeLine:=by
 rcases h with h | ⟨o,its,n,hk,hc,hd,hs,hz,r⟩
 ·obtain ⟨z,its,n,r,e⟩:=h.ok I.bK
  exact ⟨its,r,⟨_,n,e,rfl,rfl,rfl⟩,z⟩
 ·refine ⟨its.toList,r,⟨o,n,I.iZ a o hk,hc,hd,by simpa using hs⟩,?_⟩
  have e:=r.length
  simp only [ahV] at e
  omega
theorem Inv.tuple (I:Inv X pins σ H s)(h:bU X.K H a xs):∃its:List Value,Vals xs its/\IsTup s.heap a its.toArray/\xs.length<=sizeLine:=by
 rcases h with h | ⟨o,its,n,hk,hc,hs,hz,r⟩
 ·obtain ⟨z,its,r,p⟩:=h.ok I.bK
  exact ⟨its,r,p,z⟩
 ·refine ⟨its.toList,r,⟨o,I.iZ a o hk,hc,n,by simpa using hs⟩,?_⟩
  have e:=r.length
  simp only [ahV] at e
  omega
theorem Inv.hV (I:Inv X pins σ H s)(h:a8 X.K H a xs)(h' :a8 X.K H a ys):xs=ys:=by
 obtain ⟨its,r,⟨o,n,e,_,_,d⟩,_⟩:=I.list h
 obtain ⟨its',r',⟨o',n',e',_,_,d'⟩,_⟩:=I.list h'
 rw [e] at e';cases e'
 rw [d] at d'
 injection d' with d1 _
 have:its=its' :=by simpa using congrArg apZ d1
 subst this
 exact r.inj r'
theorem Inv.gc (I:Inv X pins σ H s)(h:bU X.K H a xs)(h' :bU X.K H a ys):xs=ys:=by
 obtain ⟨its,r,⟨o,e,_,n,d⟩,_⟩:=I.tuple h
 obtain ⟨its',r',⟨o',e',_,n',d'⟩,_⟩:=I.tuple h'
 rw [e] at e';cases e'
 rw [d] at d'
 injection d' with d1 _
 have:its=its' :=by simpa using congrArg apZ d1
 subst this
 exact r.inj r'
end
abbrev Cx.pV (X:Cx)(E:δ):Cx:={X with xe:=E}
abbrev Cx.yf (X:Cx):Cx:=X.pV fun _ _=>False
theorem Cx.Ok.pV {X:Cx}(ok:X.Ok)(E:δ):(X.pV E).Ok:=
 ⟨ok.mod,ok.kind,ok.glob,ok.blt,ok.above,ok.inj,ok.has,ok.RF,ok.hd,ok.frames,ok.Yn,ok.exf,ok.bs,ok.Kd,ok.DY,ok.Ke,ok.mh,ok.Oc⟩
theorem Cx.Ok.hW {X:Cx}{E:δ}(ok:(X.pV E).Ok):X.Ok:=
 ⟨ok.mod,ok.kind,ok.glob,ok.blt,ok.above,ok.inj,ok.has,ok.RF,ok.hd,ok.frames,ok.Yn,ok.exf,ok.bs,ok.Kd,ok.DY,ok.Ke,ok.mh,ok.Oc⟩
section
variable {X:Cx}{pins:ε}{σ:St}{H:Hp}{s:Shared}{E:δ}
theorem Inv.pV (I:Inv X pins σ H s)(E:δ):Inv (X.pV E) pins σ H s:=⟨I.ok.pV E,I.os,I.bare,I.base,I.loc,I.cell,I.free,I.gX,I.pin,I.bK,I.len⟩
theorem Inv.hW (I:Inv (X.pV E) pins σ H s):Inv X pins σ H s:=⟨I.ok.hW,I.os,I.bare,I.base,I.loc,I.cell,I.free,I.gX,I.pin,I.bK,I.len⟩
theorem SP.hW {D:Ends}{f:Flow}{s' :Shared}(h:SP (X.pV E) pins D f s'):SP X pins D f s' :=by
 cases f with
 | next=>obtain ⟨σ',H',I,q⟩:=h;exact ⟨σ',H',I.hW,q⟩
 | brk=>obtain ⟨σ',H',I,q⟩:=h;exact ⟨σ',H',I.hW,q⟩
 | cont=>obtain ⟨σ',H',I,q⟩:=h;exact ⟨σ',H',I.hW,q⟩
 | ret u=>obtain ⟨v,σ',H',I,r,q⟩:=h;exact ⟨v,σ',H',I.hW,r,q⟩
theorem PSs.yf {st:List Stmt}{t:TS}(h:PSs X.yf st t):PSs X st t:=fun pins s σ H D I hw=>
 wpAny_mono (h pins s σ H D (I.pV _) hw) (fun _ _ q=>q.hW) fun _ _ z=>False.elim z
end
section
variable {X:Cx}{st:Stmt}{rest:List Stmt}{t u:TS}{e:Expr}{te:TE}{pos:Pos}
def RK:TS:=fun D σ H=>D.nx σ H
def RL (t u:TS):TS:=fun D σ H=>t {D with nx:=u D} σ H
theorem aQ:PSs X [] RK:=fun _ _ σ H _ I h=>wpAny_execs_nil ⟨σ,H,I,h⟩
theorem ae (h1:PS X st t)(h2:PSs X rest u):PSs X (st::rest) (RL t u):=by
 intro pins s σ H D I h
 refine wpAny_execs_cons (bZ (h1 pins s σ H {D with nx:=u D} I h) fun f s1 q=>?_)
 cases f with
 | next=>
  obtain ⟨σ',H',I',q⟩:=q
  exact h2 pins s1 σ' H' D I' q
 | ret v=>exact q
 | brk=>exact q
 | cont=>exact q
theorem aj (h1:PS X st t):PSs X [st] t:=by
 intro pins s σ H D I h
 refine wpAny_execs_cons (bZ (h1 pins s σ H D I h) fun f s1 q=>?_)
 cases f with
 | next=>exact wpAny_execs_nil q
 | ret v=>exact q
 | brk=>exact q
 | cont=>exact q
def RM:TS:=fun D σ H=>D.ct σ H
theorem uh:PS X (.Continue pos) RM:=fun _ _ σ H _ I h=>wpAny_Continue ⟨σ,H,I,h⟩
theorem Inv.quiet {pins:ε}{σ:St}{H:Hp}{s:Shared}(I:Inv X pins σ H s):interactive X.env=false:=by simp [interactive,I.ok.kind]
def RO (te:TE):TS:=fun D σ H=>te σ H fun _ H1=>D.nx σ H1
theorem bf (he:PE X e te)(hs:swapsWith e none pos.line X.env=pure false:=by rfl):PS X (.Expr e pos) (RO te):=by
 intro pins s σ H D I h
 exact wpAny_Expr_any (bZ (he pins s σ H _ I h) fun v s1 ⟨x,H1,I1,r1,q1⟩=>⟨σ,H1,I1,q1⟩) I.quiet hs
def Zw (te:TE):TS:=fun D σ H=>te σ H D.rt
theorem aG (he:PE X e te):PS X (.Return (some e) pos) (Zw te):=by
 intro pins s σ H D I h
 exact wpAny_Return_some (bZ (he pins s σ H _ I h) fun v s1 ⟨x,H1,I1,r1,q1⟩=>⟨x,σ,H1,I1,r1,q1⟩)
def Zx (c:TT)(t u:TS):TS:=fun D σ H=>c σ H fun b H1=>if b=true then t D σ H1 else u D σ H1
theorem bq {c:Expr}{a b:List Stmt}{tc:TT}(hc:PT X c tc)(ha:PSs X a t)(hb:PSs X b u):PS X (.If c a b pos) (Zx tc t u):=by
 intro pins s σ H D I h
 refine wpAny_If (bZ (hc pins s σ H _ I h) fun d s1 ⟨H1,I1,q1⟩=>?_)
 cases d with
 | true=>exact ha pins s1 σ H1 D I1 q1
 | false=>exact hb pins s1 σ H1 D I1 q1
def Oh:TS:=fun _ _ _=>False
theorem c8:PS X st Oh:=fun _ _ _ _ _ _ h=>h.elim
end
abbrev TG:=V->St->Hp->(St->Hp->Prop)->Prop
abbrev MJ:=List V->St->Hp->(St->Hp->Prop)->Prop
def PG (X:Cx)(target:Expr)(t:TG):Prop:=
 ∀(pins:ε) (s:Shared) (σ:St) (H:Hp) (v:V) (u:Value) (Q:St->Hp->Prop),Inv X pins σ H s->RelV v u->t v σ H Q->
  wpAny (model X.prog X.w) X.A (assign target X.env u) (fun _ s' =>∃σ' H',Inv X pins σ' H' s' /\Q σ' H') X.xe s
def RP (X:Cx)(ts:ψ)(t:MJ):Prop:=
 ∀(pins:ε) (s:Shared) (σ:St) (H:Hp) (vs:ζ) (us:ο) (Q:St->Hp->Prop),Inv X pins σ H s->Vals vs us->t vs σ H Q->
  wpAny (model X.prog X.w) X.A (assignInOrder ((assignEach ts X.env).map (·.2)) us) (fun _ s' =>∃σ' H',Inv X pins σ' H' s' /\Q σ' H') X.xe s
abbrev Oi:=V->V->V->Hp->(Hp->Prop)->Prop
def RQ (X:Cx)(t:Oi):Prop:=
 ∀(pins:ε) (s:Shared) (σ:St) (H:Hp) (o i v:V) (ov iv u:Value) (Q:Hp->Prop),Inv X pins σ H s->RelV o ov->RelV i iv->RelV v u->t o i v H Q->
  wpAny (model X.prog X.w) X.A (setItem ov iv u) (fun _ s' =>∃H',Inv X pins σ H' s' /\Q H') X.xe s
section
variable {X:Cx}{pos:Pos}
def c9 (i:Nat):TG:=fun v σ H Q=>Q (σ.set i (some v)) H
theorem aC {i:Nat}{x:Str}(hN:X.N.Nodup)(hi:X.N[i]? =some x)(hx:Loc X.env.scope x)(hf:X.fn x=true\/X.env.scope.names.lookup x=some .local:=by first | exact .inl rfl | exact .inr rfl | assumption):PG X (.Name x pos) (c9 i):=by
 intro pins s σ H v u Q I r h
 exact wpAny_assign_Name (jn I hN hi hx r (fun s' I' =>⟨_,H,I',h⟩) hf)
def Oj:MJ:=fun vs σ H Q=>vs=[]/\Q σ H
def uk (t:TG)(u:MJ):MJ:=fun vs σ H Q=>∃v r,vs=v::r/\t v σ H fun σ' H' =>u r σ' H' Q
theorem dF:RP X [] Oj:=by
 intro pins s σ H vs us Q I r h
 obtain ⟨e,h⟩:=h
 subst e
 cases r
 exact assignInOrder_nil ⟨σ,H,I,h⟩
theorem bu {e:Expr}{es:ψ}{t:TG}{u:MJ}(h1:PG X e t)(h2:RP X es u)
  (hs:(assignEach (e::es) X.env).map (·.2)=assign e X.env::(assignEach es X.env).map (·.2):=by rfl):RP X (e::es) (uk t u):=by
 intro pins s σ H vs us Q I r h
 obtain ⟨v,vr,e1,h⟩:=h
 subst e1
 cases r with
 | cons r rr=>
  rw [hs]
  refine assignInOrder_cons (bZ (h1 pins s σ H _ _ _ I r h) fun _ s1 ⟨σ1,H1,I1,q1⟩=>?_)
  exact h2 pins s1 σ1 H1 _ _ Q I1 rr q1
inductive EA (K:Frag)(n:Nat)(t:MJ)(v:V)(σ:St)(H:Hp)(Q:(St->Hp->Prop)):Prop where
 | mk (a xs:_) (_:v=.ref a) (_:bU K H a xs) (_:xs.length=n) (_:t xs σ H Q):EA K n t v σ H Q
theorem fm {es:ψ}{k:Nat}{t:MJ}{n:Nat}(hc:X.calm=true)(h:RP X es t)
  (hn:(assignEach es X.env).length=n:=by rfl) (Kh:(assignEach es X.env).findIdx? (·.1)=none:=by rfl):PG X (.Tuple es k pos) (EA X.K n t):=by
 intro pins s σ H v u Q I r hw
 obtain ⟨a,xs,e1,hq,hl,hw⟩:=hw
 subst e1
 cases r
 obtain ⟨its,rv,ht,hz⟩:=I.tuple hq
 refine assign_Tuple_tuple (I.ok.hd hc) ht (by simp [hn, <- hl,rv.length]) Kh fun h' hx=>?_
 have I1:Inv X pins σ H {s with heap:=h' }:=I.kept (t' :=s.toks) fun b o e=>hx b o (aa1 (Heap.lt_size e)) e
 exact h pins _ σ H xs _ Q I1 (by simpa using rv) hw
def Zy (to ti:TE)(t:Oi):TG:=fun v σ H Q=>to σ H fun o H1=>ti σ H1 fun i H2=>t o i v H2 fun H3=>Q σ H3
theorem rM {o i:Expr}{to ti:TE}{t:Oi}(ho:PE X o to)(hi:PE X i ti)(hs:RQ X t)
  (ha:∀v,assign (.Subscript o i pos) X.env v=(do
   let ov <- holding [v] (eval o X.env)
   let iv <- holding [v,ov] (eval i X.env)
   standAt pos
   holding [v,ov,iv] (setItem ov iv v)
   release [v,ov,iv] []):=by intro _;rfl):PG X (.Subscript o i pos) (Zy to ti t):=by
 intro pins s σ H v u Q I r h
 rw [ha]
 refine wpAny_bind (wpAny_holding (bZ (ho pins s σ H _ I h) fun ov s1 ⟨x,H1,I1,r1,q1⟩=>?_))
 refine wpAny_bind (wpAny_holding (bZ (hi pins s1 σ H1 _ I1 q1) fun iv s2 ⟨y,H2,I2,r2,q2⟩=>?_))
 refine wpAny_bind (wpAny_standAt (wpAny_bind (wpAny_holding (bZ (hs pins s2 σ H2 x y v ov iv u _ I2 r1 r2 r q2) fun _ s3 ⟨H3,I3,q3⟩=>?_))))
 exact wpAny_release ⟨σ,H3,I3,q3⟩
def EB (te:TE)(g:TG):TS:=fun D σ H=>te σ H fun x H1=>g x σ H1 D.nx
theorem nh {tg e:Expr}{te:TE}{g:TG}(he:PE X e te)(hg:PG X tg g)(hs:swapsWithSole [tg] e pos.line X.env=pure false:=by rfl)(hw:swappedStores [tg] e X.env=pure none:=by rfl)
  (h1:(assignEach [tg] X.env).map (·.2)=[assign tg X.env]:=by rfl):PS X (.Assign [tg] e pos) (EB te g):=by
 intro pins s σ H D I h
 refine wpAny_Assign_stores (bZ (he pins s σ H _ I h) fun v s1 ⟨x,H1,I1,r1,q1⟩=>?_) hs hw
 rw [h1]
 exact bZ (hg pins s1 σ H1 x v _ I1 r1 q1) fun _ s2 q=>q
theorem aH {i:Nat}{x:Str}{e:Expr}{te:TE}{pos' :Pos}(hN:X.N.Nodup)(hi:X.N[i]? =some x)(hx:Loc X.env.scope x)(he:PE X e te)(hs:swapsWith e (some (.Name x pos')) pos.line X.env=pure false:=by rfl)(hf:X.fn x=true\/X.env.scope.names.lookup x=some .local:=by first | exact .inl rfl | exact .inr rfl | assumption):
  PS X (.Assign [.Name x pos'] e pos) (EB te (c9 i)):=by
 intro pins s σ H D I h
 refine wpAny_Assign_Name (bZ (he pins s σ H _ I h) fun v s1 ⟨y,H1,I1,r1,q1⟩=>?_) hs
 exact jn I1 hN hi hx r1 (fun s2 I2=>⟨_,H1,I2,q1⟩) hf
inductive MK (i:Nat)(j:Nat)(D:Ends)(σ:St)(vs:ζ)(H1:Hp):Prop where
 | mk (v w:_) (_:vs=[v,w]) (_:D.nx ((σ.set i (some v)).set j (some w)) H1):MK i j D σ vs H1
def Zz (i j:Nat)(ta:TA):TS:=fun D σ H=>ta σ H fun vs H1=>MK i j D σ vs H1
theorem Ol {i j:Nat}{x y:Str}{a b:Expr}{ta:TA}{px py pt:Pos}{kt k2 ZA}(hc:X.calm=true)(hN:X.N.Nodup)(hi:X.N[i]? =some x)(hj:X.N[j]? =some y)(hij:i≠j)
  (hx:X.env.scope.names.lookup x=some .local) (hy:X.env.scope.names.lookup y=some .local) (ha:PA X [a,b] ta)
  (hw:swappedStores [.Tuple [.Name x px,.Name y py] kt pt] (.Tuple [a,b] k2 ZA) X.env=pure (some [x,y]))
  (hs:swapsWithSole [.Tuple [.Name x px,.Name y py] kt pt] (.Tuple [a,b] k2 ZA) pos.line X.env=pure false:=by rfl):
  PS X (.Assign [.Tuple [.Name x px,.Name y py] kt pt] (.Tuple [a,b] k2 ZA) pos) (Zz i j ta):=by
 intro pins s σ H D I h
 rw [exec_Assign_arm]
 refine wpAny_bind (wpAny_standAt ?_)
 rw [hs]
 refine wpAny_bind (wpAny_pure ?_)
 rw [if_neg (by decide)]
 refine wpAny_bind (Tuple_ (bZ (ha _ pins s σ H _ I h) fun us s1 ⟨vs,H1,I1,r1,q1⟩=>?_))
 obtain ⟨v,w,e1,q1⟩:=q1
 subst e1
 obtain ⟨u1,u2,rfl,rv,mK⟩:∃u1 u2,us=[u1,u2]/\RelV v u1/\RelV w u2:=by
  cases r1 with
  | cons p q=>
   cases q with
   | cons p' q' =>
    cases q'
    exact ⟨_,_,rfl,p,p'⟩
 refine wpAny_newObj_type ?_ (by show 2<=sizeLine;decide)
 have I2:Inv X pins σ H1 {s1 with heap:=s1.heap.push {cls:=.type "tuple",data:=.seq [u1,u2].toArray}}:=I1.kept (t' :=s1.toks) fun b o e=>Heap.get?_push_of_some _ e
 rw [hw]
 refine wpAny_bind (wpAny_pure ?_)
 show wpAny (model X.prog X.w) X.A (do rule "assign.swapped-stores";let items <- unpackItems (.ref s1.heap.objs.size) 2 none;assignInOrder [fun v=>bindName X.env y v,fun v=>bindName X.env x v] items.reverse;pure Flow.next) _ _ _
 refine wpAny_bind (wpAny_rule (wpAny_bind (unpackItems_tuple (items:= #[u1,u2]) (I.ok.hd hc) (IsTup.new s1.heap _) fun h' v7 =>?_)))
 have I3:=I2.kept (h' :=h') (t' :=s1.toks) fun b o e=>v7 b o (aa1 (Heap.lt_size e)) e
 show wpAny _ _ (assignInOrder [fun v=>bindName X.env y v,fun v=>bindName X.env x v] [u2,u1] >>=fun _=>pure Flow.next) _ _ _
 refine wpAny_bind (assignInOrder_cons (wpAny_bindName (jn I3 hN hj (.inl hy) mK (fun s2 I4=>?_) (.inr hy))))
 refine assignInOrder_cons (wpAny_bindName (jn I4 hN hi (.inl hx) rv (fun s3 I5=>assignInOrder_nil (wpAny_pure ?_)) (.inr hx)))
 rw [List.set_comm _ _ (aaW hij)] at I5
 exact ⟨_,H1,I5,q1⟩
def EC (c:TT)(tb:TS):TS:=fun D σ H=>∃W:Nat->St->Hp->Prop,(∃m,W m σ H)/\∀m σ H,W m σ H->
 c σ H fun b H1=>if b=true then ∃N:St->Hp->Prop,(∀σ' H',N σ' H' ->∃m',m' < m/\W m' σ' H')/\tb {D with nx:=N,ct:=N,bk:=D.nx} σ H1 else D.nx σ H1
theorem nj {c:Expr}{body:List Stmt}{tc:TT}{tb:TS}(hp:PassesOwn (model X.prog X.w) X.A X.env X.xe)(hc:PT X c tc)(hb:PSs X body tb):PS X (.While c body [] pos) (EC tc tb):=by
 intro pins s σ H D I h
 obtain ⟨W,⟨m0,w0⟩,turn⟩:=h
 refine wpAny_While (codeAny_whileLoop (fun n s' =>∃σ' H',Inv X pins σ' H' s' /\W n σ' H') ?_ m0 ⟨σ,H,I,w0⟩)
 rintro n s1 ⟨σ1,H1,I1,w1⟩
 refine wpAny_passesOwn hp (bZ (hc pins s1 σ1 H1 _ I1 (turn n σ1 H1 w1)) fun b s2 ⟨H2,I2,q2⟩=>?_)
 cases b with
 | true=>
  obtain ⟨N,hN,q2⟩:=q2
  rw [if_pos rfl]
  refine wpAny_passesOwn hp (bZ (hb pins s2 σ1 H2 _ I2 q2) fun f s3 q3=>?_)
  cases f with
  | next=>
   obtain ⟨σ3,H3,I3,n3⟩:=q3
   obtain ⟨m',hm,w3⟩:=hN σ3 H3 n3
   exact ⟨m',hm,σ3,H3,I3,w3⟩
  | cont=>
   obtain ⟨σ3,H3,I3,n3⟩:=q3
   obtain ⟨m',hm,w3⟩:=hN σ3 H3 n3
   exact ⟨m',hm,σ3,H3,I3,w3⟩
  | brk=>exact q3
  | ret v=>exact q3
 | false=>
  rw [if_neg aaG]
  exact wpAny_execs_nil ⟨σ1,H2,I2,q2⟩
end
structure It where
 go:Nat->Hp->Prop
 DR:Nat->Hp->V->Hp->Prop
 stop:Nat->Hp->Prop
def iL (X:Cx)(pins:ε)(H:Hp)(b:Addr):Prop:=
 H b=none/\b≠X.env.locals/\b∉X.fs/\(b∈X.ex\/X.s₀.heap.objs.size<=b)/\(∀x c,X.env.cells.lookup x=some c->c≠b)/\∀p∈X.pn++pins,p.1≠b
theorem Inv.j7 {X:Cx}{pins:ε}{σ:St}{H H' :Hp}{s:Shared}{b:Addr}(I:Inv X pins σ H s)(hb:s.heap.objs.size<=b)(hn:H' b=none):iL X pins H' b:=by
 refine ⟨hn,ahr (aaI I.lt hb),I.Zp hb,.inr (aai I.sz hb),fun x c e z=>?_,fun p hp z=>?_⟩
 ·obtain ⟨v,q⟩:=I.cell x c e
  exact absurd (aaI q.lt (by rw [z];exact hb)) (abp _)
 ·exact absurd (aaI (Heap.lt_size (I.pin p hp).1) (by rw [z];exact hb)) (abp _)
structure Turn (P:Program)(w:World)(K:Frag)(tg:Expr)(J:It)(fp:τ)(it:Addr)(tn:Nat->Heap->Prop):Prop where
 mem:it∈fp
 obj:∀i h,tn i h->∀b∈fp,∃o,h.get? b=some o/\∀v,o.data≠.cell v
 keep:∀i h h',tn i h->(∀b∈fp,∀o,h.get? b=some o->h'.get? b=some o)->tn i h'
 item:∀(X:Cx),X.prog=P->X.w=w->X.K=K->X.calm=true->∀(i:Nat) (pins:ε) (s:Shared) (σ:St) (H:Hp) (E:δ),Inv X pins σ H s->(∀b∈fp,iL X pins H b)->tn i s.heap->J.go i H->
  wpAny (model P w) X.A (pyNext (.ref it)) (fun r s1=>∃u,r=some u/\
   wpAny (model P w) X.A (letOwnedTupleGo tg (.ref it) u) (fun _ s2=>∃x H',Inv X pins σ H' s2/\RelV x u/\J.DR i H x H' /\tn (i+1) s2.heap/\∀b∈fp,H' b=none) E s1) E s
 done:∀(X:Cx),X.prog=P->X.w=w->X.K=K->X.calm=true->∀(i:Nat) (pins:ε) (s:Shared) (σ:St) (H:Hp) (E:δ),Inv X pins σ H s->(∀b∈fp,iL X pins H b)->tn i s.heap->J.stop i H->
  wpAny (model P w) X.A (pyNext (.ref it)) (fun r s1=>r=none/\Inv X pins σ H s1) E s
 self:∀(A:Around) (i:Nat) (s:Shared) (Q:δ) (E:δ),tn i s.heap->Q (.ref it) s->wpAny (model P w) A (pyIter (.ref it)) Q E s
abbrev TI:=St->Hp->(It->Hp->Prop)->Prop
def PIE (X:Cx)(pins:ε)(σ:St)(tg:Expr)(R:It->Hp->Prop)(Yp:Value)(s2:Shared):Prop:=
 ∃(it:Addr) (fp:τ) (tn:Nat->Heap->Prop) (J:It) (H' :Hp),Yp=.ref it/\Inv X pins σ H' s2/\Turn X.prog X.w X.K tg J fp it tn/\tn 0 s2.heap/\(∀b∈fp,iL X pins H' b)/\R J H'
def PI (X:Cx)(tg iter:Expr)(wi:TI):Prop:=
 ∀(pins:ε) (s:Shared) (σ:St) (H:Hp) (R:It->Hp->Prop),Inv X pins σ H s->wi σ H R->
  wpAny (model X.prog X.w) X.A (eval iter X.env) (fun v s1=>wpAny (model X.prog X.w) X.A (pyIter v) (PIE X pins σ tg R) X.xe s1) X.xe s
theorem yg {M : Model} {A : Around} {E : Value -> Shared -> Prop} {s : Shared} {tg : Expr} {it : Addr} {u : Value} {o : Obj} {n : String} {vs : Array Value} {Q : Unit -> Shared -> Prop} (ho : s.heap.get? it = some o) (hc : o.cls = .type n) (hd : o.data = .fields vs)
    (hn : ["enumerate", "zip", "dict_itemiterator", "dict_reverseitemiterator", "odict_iterator", "itertools.zip_longest", "itertools.pairwise"].contains n = false) (hQ : Q () s) : wpAny M A (letOwnedTupleGo tg (.ref it) u) Q E s := by
  unfold letOwnedTupleGo
  cases tg <;> first
    | exact wpAny_pure hQ
    | (cases u <;> first
        | exact wpAny_pure hQ
        | (refine wpAny_bind (wpAny_load ho ?_)
           rw [hc, hd]
           show wpAny M A (if (["enumerate", "zip", "dict_itemiterator", "dict_reverseitemiterator", "odict_iterator", "itertools.zip_longest", "itertools.pairwise"].contains n && vs[0]? == some (rawInt _)) = true then _ else _) Q E s
           rw [if_neg (by intro h; rw [hn, Bool.false_and] at h; cases h)]
           exact wpAny_pure hQ))
def JE (K:Frag)(a:Addr):It:=
 ⟨fun i H=>∃xs x,a8 K H a xs/\xs[i]? =some x,fun i H x H' =>H' =H/\∀xs,a8 K H a xs->xs[i]? =some x,fun i H=>∃xs,a8 K H a xs/\xs.length<=i⟩
def RS (K:Frag)(a:Addr):It:=
 ⟨fun i H=>∃xs x,bU K H a xs/\xs[i]? =some x,fun i H x H' =>H' =H/\∀xs,bU K H a xs->xs[i]? =some x,fun i H=>∃xs,bU K H a xs/\xs.length<=i⟩
def Om (lo:Int)(n:Nat):It:=⟨fun i _=>i < n,fun i H x H' =>H' =H/\x=.int (lo+i),fun i _=>n<=i⟩
theorem zB {P:Program}{w:World}{K:Frag}{tg:Expr}(a it:Addr):Turn P w K tg (JE K a) [it] it (fun i h=>h.IsListIter it a i) where
 mem:=by simp
 obj:=fun i h st b hb=>by
  have e:b=it:=by simpa using hb
  subst e
  obtain ⟨o,e,c,d⟩:=st
  exact ⟨o,e,fun v z=>by rw [d] at z;cases z⟩
 keep:=fun i h h' st k=>st.at fun o e=>k it (by simp) o e
 item:=by
  intro X hP hw hK hc i pins s σ H E I hf st hg
  subst hP hw hK
  obtain ⟨xs,x,hq,hx⟩:=hg
  obtain ⟨its,rv,p,hz⟩:=I.list hq
  obtain ⟨u,hu,ru⟩:=rv.get hx
  obtain ⟨f0,f1,f2,f3,f4,f5⟩:=hf it (by simp)
  refine wpAny_pyNext_list_item st p.isList (x:=u) (by simpa using hu) fun h' yh sb=>?_
  have I1:Inv X pins σ H {s with heap:=h' }:=I.turned (t' :=s.toks) (fun b o hb e=>(sb.2 b hb).trans e) f0 f1 f3 f4 f5
  obtain ⟨o,e,c,d⟩:=id yh
  exact ⟨u,rfl,yg (s:={s with heap:=h' }) e c d (by decide) ⟨x,H,I1,ru,⟨rfl,fun ys hy=>by rw [I.hV hy hq];exact hx⟩,yh,fun b hb=>(hf b hb).1⟩⟩
 done:=by
  intro X hP hw hK hc i pins s σ H E I hf st hg
  subst hP hw hK
  obtain ⟨xs,hq,hx⟩:=hg
  obtain ⟨its,rv,p,hz⟩:=I.list hq
  obtain ⟨f0,f1,f2,f3,f4,f5⟩:=hf it (by simp)
  have hl:=rv.length
  exact wpAny_pyNext_list_end (I.ok.hd hc) st p.isList (by simp;omega) fun h' eb=>⟨rfl,I.turned (t' :=s.toks) (fun b o hb e=>eb b o hb e) f0 f1 f3 f4 f5⟩
 self:=fun _ _ _ _ _ st h=>wpAny_pyIter_listiter st h
theorem wo {P:Program}{w:World}{K:Frag}{tg:Expr}(a it:Addr):Turn P w K tg (RS K a) [it] it (fun i h=>h.IsTupleIter it a i) where
 mem:=by simp
 obj:=fun i h st b hb=>by
  have e:b=it:=by simpa using hb
  subst e
  obtain ⟨o,e,c,d⟩:=st
  exact ⟨o,e,fun v z=>by rw [d] at z;cases z⟩
 keep:=fun i h h' st k=>st.at fun o e=>k it (by simp) o e
 item:=by
  intro X hP hw hK hc i pins s σ H E I hf st hg
  subst hP hw hK
  obtain ⟨xs,x,hq,hx⟩:=hg
  obtain ⟨its,rv,p,hz⟩:=I.tuple hq
  obtain ⟨u,hu,ru⟩:=rv.get hx
  obtain ⟨f0,f1,f2,f3,f4,f5⟩:=hf it (by simp)
  refine wpAny_pyNext_tuple_item st (show s.heap.IsTuple a its.toArray from p) (x:=u) (by simpa using hu) fun h' yh sb=>?_
  have I1:Inv X pins σ H {s with heap:=h' }:=I.turned (t' :=s.toks) (fun b o hb e=>(sb.2 b hb).trans e) f0 f1 f3 f4 f5
  obtain ⟨o,e,c,d⟩:=id yh
  exact ⟨u,rfl,yg (s:={s with heap:=h' }) e c d (by decide) ⟨x,H,I1,ru,⟨rfl,fun ys hy=>by rw [I.gc hy hq];exact hx⟩,yh,fun b hb=>(hf b hb).1⟩⟩
 done:=by
  intro X hP hw hK hc i pins s σ H E I hf st hg
  subst hP hw hK
  obtain ⟨xs,hq,hx⟩:=hg
  obtain ⟨its,rv,p,hz⟩:=I.tuple hq
  obtain ⟨f0,f1,f2,f3,f4,f5⟩:=hf it (by simp)
  have hl:=rv.length
  exact wpAny_pyNext_tuple_end (I.ok.hd hc) st (show s.heap.IsTuple a its.toArray from p) (by simp;omega) fun h' eb=>⟨rfl,I.turned (t' :=s.toks) (fun b o hb e=>eb b o hb e) f0 f1 f3 f4 f5⟩
 self:=fun _ _ _ _ _ st h=>wpAny_pyIter_tupleiter st h
theorem wu {P:Program}{w:World}{K:Frag}{tg:Expr}(it:Addr)(lo:Int)(n:Nat):Turn P w K tg (Om lo n) [it] it (fun i h=>IsRangeIter h it (lo+(i:Nat)*1) ((n:Int) - (i:Nat)) 1) where
 mem:=by simp
 obj:=fun i h st b hb=>by
  have e:b=it:=by simpa using hb
  subst e
  exact ⟨_,st,fun v z=>by
   have z' :Data.fields _=Data.cell v:=z
   cases z'⟩
 keep:=fun i h h' st k=>k it (by simp) _ st
 item:=by
  intro X hP hw hK hc i pins s σ H E I hf st hg
  subst hP hw hK
  obtain ⟨f0,f1,f2,f3,f4,f5⟩:=hf it (by simp)
  have W:=Walks.range (prog:=X.prog) (w:=X.w) (I.ok.hd hc) it lo 1 n
  refine W.item i s _ _ hg st fun v h' tk hv yh kk=>?_
  obtain ⟨t,rfl⟩:=hv
  have I1:Inv X pins σ H {s with heap:=h',toks:=tk}:=I.turned (fun b o hb e=>kk b o (by simpa using hb) e) f0 f1 f3 f4 f5
  refine ⟨_,rfl,yg (s:={s with heap:=h',toks:=tk}) (n:="range_iterator") yh rfl rfl (by decide) ⟨.int (lo+i),H,I1,⟨t,?_⟩,⟨rfl,rfl⟩,yh,fun b hb=>(hf b hb).1⟩⟩
  rw [Int.mul_one]
 done:=by
  intro X hP hw hK hc i pins s σ H E I hf st hg
  subst hP hw hK
  obtain ⟨f0,f1,f2,f3,f4,f5⟩:=hf it (by simp)
  exact wpAny_pyNext_range_end (I.ok.hd hc) st (by have:n<=i:=hg;omega) fun h' eb=>⟨rfl,I.turned (t' :=s.toks) (fun b o hb e=>eb b o hb e) f0 f1 f3 f4 f5⟩
 self:=fun _ _ _ _ _ st h=>wpAny_pyIter_rangeiter st h
end L2
namespace L2
open PySem PySem.Spec PyProof.Rows
section
variable {X:Cx}{tg:Expr}
inductive ED (K:Frag)(R:(It->Hp->Prop))(x:V)(H1:Hp):Prop where
 | mk (a:_) (_:x=.ref a) (_:(∃xs,a8 K H1 a xs)) (_:R (JE K a) H1):ED K R x H1
def MM (K:Frag)(tl:TE):TI:=fun σ H R=>tl σ H fun x H1=>ED K R x H1
inductive MO (K:Frag)(R:(It->Hp->Prop))(x:V)(H1:Hp):Prop where
 | mk (a:_) (_:x=.ref a) (_:(∃xs,bU K H1 a xs)) (_:R (RS K a) H1):MO K R x H1
def ZC (K:Frag)(tl:TE):TI:=fun σ H R=>tl σ H fun x H1=>MO K R x H1
theorem bD {l:Expr}{tl:TE}(hl:PE X l tl):PI X tg l (MM X.K tl):=by
 intro pins s σ H R I h
 refine bZ (hl pins s σ H _ I h) fun v s1 ⟨x,H1,I1,r1,q1⟩=>?_
 obtain ⟨a,e,⟨xs,hq⟩,q⟩:=q1
 subst e
 cases r1
 obtain ⟨its,rv,p,hz⟩:=I1.list hq
 refine wpAny_pyIter_list p.isList ?_
 refine ⟨s1.heap.objs.size,[s1.heap.objs.size],_,_,H1,rfl,I1.kept (t' :=s1.toks) fun b o e=>Heap.get?_push_of_some _ e,zB a _,⟨_,Heap.get?_push_size _ rfl,rfl,rfl⟩,fun b hb=>?_,q⟩
 have e:b=s1.heap.objs.size:=by simpa using hb
 subst e
 exact I1.j7 (aaf _) (I1.bK.fresh (aaf _))
theorem Oo {l:Expr}{tl:TE}(hl:PE X l tl):PI X tg l (ZC X.K tl):=by
 intro pins s σ H R I h
 refine bZ (hl pins s σ H _ I h) fun v s1 ⟨x,H1,I1,r1,q1⟩=>?_
 obtain ⟨a,e,⟨xs,hq⟩,q⟩:=q1
 subst e
 cases r1
 obtain ⟨its,rv,p,hz⟩:=I1.tuple hq
 refine wpAny_pyIter_tuple (show s1.heap.IsTuple a its.toArray from p) ?_
 refine ⟨s1.heap.objs.size,[s1.heap.objs.size],_,_,H1,rfl,I1.kept (t' :=s1.toks) fun b o e=>Heap.get?_push_of_some _ e,wo a _,⟨_,Heap.get?_push_size _ rfl,rfl,rfl⟩,fun b hb=>?_,q⟩
 have e:b=s1.heap.objs.size:=by simpa using hb
 subst e
 exact I1.j7 (aaf _) (I1.bK.fresh (aaf _))
theorem EE {pins:ε}{σ:St}{H:Hp}{s:Shared}{R:It->Hp->Prop}{E:δ}{lo hi:Int}{t u v:Tok}{tk:Nat}(I:Inv X pins σ H s)(h1: -(2^62)<=lo)(h2:lo < 2^62)(h3: -(2^62)<=hi)(h4:hi < 2^62)
  (q:R (Om lo (hi - lo).toNat) H):wpAny (model X.prog X.w) X.A (pyIter (.ref s.heap.objs.size)) (PIE X pins σ tg R) E {s with heap:=s.heap.push {cls:=.type "range",data:=.fields #[.int lo t,.int hi u,.int 1 v]},toks:=tk}:=by
 refine wpAny_pyIter_range (IsRange.new ..) (small_one h1 h2 h3 h4) ?_
 have I1:Inv X pins σ H {s with heap:=s.heap.push {cls:=.type "range",data:=.fields #[.int lo t,.int hi u,.int 1 v]},toks:=tk}:=I.kept fun b o e=>Heap.get?_push_of_some _ e
 refine ⟨(s.heap.push {cls:=.type "range",data:=.fields #[.int lo t,.int hi u,.int 1 v]}).objs.size,[(s.heap.push {cls:=.type "range",data:=.fields #[.int lo t,.int hi u,.int 1 v]}).objs.size],_,_,H,rfl,
  I1.kept (t' :=tk) fun b o e=>Heap.get?_push_of_some _ e,wu _ lo (hi - lo).toNat,?_,fun b hb=>?_,q⟩
 ·have e1:lo+((0:Nat):Int)*1=lo:=by simp
  have e2:(((hi - lo).toNat:Nat):Int) - ((0:Nat):Int)=Builtin.Range.rangeSize lo hi 1:=by rw [rangeSize_one];split <;> omega
  show IsRangeIter _ _ (lo+((0:Nat):Int)*1) ((((hi - lo).toNat:Nat):Int) - ((0:Nat):Int)) 1
  rw [e1,e2]
  exact Heap.get?_push_size _ rfl
 ·have e:b=(s.heap.push {cls:=.type "range",data:=.fields #[.int lo t,.int hi u,.int 1 v]}).objs.size:=by simpa using hb
  subst e
  exact I1.j7 (aaf _) (I1.bK.fresh (aaf _))
inductive EF (R:(It->Hp->Prop))(vs:ζ)(H1:Hp):Prop where
 | mk (j:Int) (_:vs=[.int j]) (_: -(2^62)<=j) (_:j < 2^62) (_:R (Om 0 j.toNat) H1):EF R vs H1
def RT (ta:TA):TI:=fun σ H R=>ta σ H fun vs H1=>EF R vs H1
theorem bS {a:Expr}{ta:TA}{p pos:Pos}(hg:Gl X "range")(hm:X.mg "range"=none)(ha:PA X [a] ta)(hs:starEach [a] X.env=[(false,eval a X.env)]:=by rfl):PI X tg (.Call (.Name "range" p) [a] [] pos) (RT ta):=by
 intro pins s σ H R I h
 refine Call_ (fQ I hg hm boot_range (PyProof.Rows.callWith_type1 (bZ (ha pos pins s σ H _ I h) fun us s1 ⟨vs,H1,I1,r1,q1⟩=>?_) hs rfl))
 obtain ⟨j,e,q1,q2,q⟩:=q1
 subst e
 cases r1 with
 | cons r rr=>
  cases rr
  obtain ⟨t,rfl⟩:=r
  exact call_range_1 (EE I1 (by omega) (by omega) q1 q2 (by simpa using q))
def ZD (wi:TI)(g:TG)(tb:TS):TS:=fun D σ H=>wi σ H fun J H1=>∃W:Nat->Nat->St->Hp->Prop,(∃m,W 0 m σ H1)/\∀i m σ H,W i m σ H->
 (J.stop i H/\D.nx σ H)\/(J.go i H/\∃N:St->Hp->Prop,(∀σ' H',N σ' H' ->∃m',m' < m/\W (i+1) m' σ' H')/\∀x H',J.DR i H x H' ->g x σ H' fun σ2 H2=>tb {D with nx:=N,ct:=N,bk:=D.nx} σ2 H2)
def nq (fp:τ)(h:Heap):List (Addr×Obj):=fp.filterMap fun b=>(h.get? b).map fun o=>(b,o)
theorem gF {fp:τ}{h:Heap}{b:Addr}{o:Obj}(hb:b∈fp)(e:h.get? b=some o):(b,o)∈nq fp h:=ah0.mpr ⟨b,hb,by rw [e];rfl⟩
theorem zC {fp:τ}{h:Heap}{p:Addr×Obj}(hp:p∈nq fp h):p.1∈fp/\h.get? p.1=some p.2:=by
 obtain ⟨b,hb,e⟩:=ah0.mp hp
 cases q:h.get? b with
 | none=>rw [q] at e;cases e
 | some o=>
  rw [q] at e
  have e' :(b,o)=p:=aay e
  subst e'
  exact ⟨hb,q⟩
theorem Inv.pinned {pins:ε}{σ:St}{H:Hp}{s:Shared}{fp:τ}(I:Inv X pins σ H s)(hf:∀b∈fp,iL X pins H b)(ho:∀b∈fp,∃o,s.heap.get? b=some o/\∀v,o.data≠.cell v):Inv X (pins++nq fp s.heap) σ H s:=
 I.ye fun p hp=>(aaA.mp hp).elim (fun z=>I.pin p (aa9 _ z)) fun z=>by
  obtain ⟨hb,e⟩:=zC z
  obtain ⟨f0,f1,f2,_⟩:=hf p.1 hb
  obtain ⟨o,e',d⟩:=ho p.1 hb
  rw [e] at e';cases e'
  exact ⟨e,f0,f1,f2,d⟩
theorem Inv.h8 {pins pl:ε}{σ:St}{H:Hp}{s:Shared}(I:Inv X (pins++pl) σ H s):Inv X pins σ H s:=I.ye fun p hp=>I.pin p (aa9 _ (aa7 _ hp))
theorem bE {iter:Expr}{body:List Stmt}{wi:TI}{g:TG}{tb:TS}{pos:Pos}(hp:PassesOwn (model X.prog X.w) X.A X.env X.xe)(hc:X.calm=true)(hi:PI X tg iter wi)(hg:PG X tg g)(hb:PSs X body tb)
  (hs:∀x,foldedSetIterable iter X.env x=pure x:=by intro _;rfl):PS X (.For tg iter body [] pos) (ZD wi g tb):=by
 intro pins s σ H D I h
 refine wpAny_For (bZ (hi pins s σ H _ I h) fun v s1 h1=>bZ h1 fun Yp s2 h2=>?_) hs
 obtain ⟨it,fp,tn,J,H2,e,I2,T,jk,f2,W,⟨m0,w0⟩,turn⟩:=h2
 subst e
 have stat:∀{H' :Hp},(∀b∈fp,H' b=none)->∀b∈fp,iL X pins H' b:=fun hn b hb=>⟨hn b hb,(f2 b hb).2⟩
 refine codeAny_forLoop_any (fun n s' =>∃i σ' H',Inv X pins σ' H' s' /\tn i s'.heap/\(∀b∈fp,H' b=none)/\W i n σ' H') ?_ m0 ⟨0,σ,H2,I2,jk,fun b hb=>(f2 b hb).1,w0⟩
 rintro n s3 ⟨i,σ3,H3,I3,ua,QS,w3⟩
 rcases turn i n σ3 H3 w3 with ⟨stop,qn⟩ | ⟨go,N,hN,step⟩
 ·refine wpAny_passesOwn hp (bZ (T.done X rfl rfl rfl hc i pins s3 σ3 H3 X.xe I3 (stat QS) ua stop) fun r s4 ⟨hr,I4⟩=>?_)
  subst hr
  exact wpAny_execs_nil ⟨σ3,H3,I4,qn⟩
 ·refine wpAny_passesOwn hp (bZ (T.item X rfl rfl rfl hc i pins s3 σ3 H3 X.xe I3 (stat QS) ua go) fun r s4 ⟨u,hr,h4⟩=>?_)
  subst hr
  refine wpAny_passesOwn hp (bZ h4 fun _ s5 ⟨x,H5,I5,r5,y5,QT,Yq⟩=>?_)
  have I5' :=I5.pinned (stat Yq) (T.obj _ _ QT)
  refine wpAny_passesOwn hp (bZ (hg _ s5 σ3 H5 x u _ I5' r5 (step x H5 y5)) fun _ s6 ⟨σ6,H6,I6,q6⟩=>?_)
  refine wpAny_passesOwn hp (bZ (hb _ s6 σ6 H6 _ I6 q6) fun f s7 q7=>?_)
  have again:∀{σ7:St} {H7:Hp},Inv X (pins++nq fp s5.heap) σ7 H7 s7->N σ7 H7->∃m,m < n/\∃i σ' H',Inv X pins σ' H' s7/\tn i s7.heap/\(∀b∈fp,H' b=none)/\W i m σ' H' :=fun {σ7 H7} I7 n7=>by
   obtain ⟨m',hm,w7⟩:=hN σ7 H7 n7
   refine ⟨m',hm,i+1,σ7,H7,I7.h8,T.keep _ _ _ QT fun b hb o e=>(I7.pin (b,o) (aa9 _ (aa9 _ (gF hb e)))).1,fun b hb=>?_,w7⟩
   obtain ⟨o,e,d⟩:=T.obj _ _ QT b hb
   exact (I7.pin (b,o) (aa9 _ (aa9 _ (gF hb e)))).2.1
  cases f with
  | next=>obtain ⟨σ7,H7,I7,n7⟩:=q7;exact again I7 n7
  | cont=>obtain ⟨σ7,H7,I7,n7⟩:=q7;exact again I7 n7
  | brk=>obtain ⟨σ7,H7,I7,q7⟩:=q7;exact ⟨σ7,H7,I7.h8,q7⟩
  | ret v=>obtain ⟨x7,σ7,H7,I7,r7,q7⟩:=q7;exact ⟨x7,σ7,H7,I7.h8,r7,q7⟩
end
theorem cv {K:Frag}{a:Addr}{xs:ζ}{g:TG}{tb:TS}{D:Ends}{σ:St}{H:Hp}(Pv:Nat->St->Hp->Prop)(h0:Pv 0 σ H)(hl:∀i σ H,i<=xs.length->Pv i σ H->a8 K H a xs)
  (hs:∀i x σ H,xs[i]? =some x->Pv i σ H->g x σ H fun σ2 H2=>tb {D with nx:=Pv (i+1),ct:=Pv (i+1),bk:=D.nx} σ2 H2) (hd:∀σ H,Pv xs.length σ H->D.nx σ H):
  ∃W:Nat->Nat->St->Hp->Prop,(∃m,W 0 m σ H)/\∀i m σ H,W i m σ H->
   ((JE K a).stop i H/\D.nx σ H)\/((JE K a).go i H/\∃N:St->Hp->Prop,(∀σ' H',N σ' H' ->∃m',m' < m/\W (i+1) m' σ' H')/\∀x H',(JE K a).DR i H x H' ->g x σ H' fun σ2 H2=>tb {D with nx:=N,ct:=N,bk:=D.nx} σ2 H2):=by
 refine ⟨fun i m σ H=>m=xs.length - i/\i<=xs.length/\Pv i σ H,⟨xs.length,by simp,aa6 _,h0⟩,?_⟩
 rintro i m σ H ⟨rfl,hi,p⟩
 have q:=hl i σ H hi p
 by_cases jm:i < xs.length
 ·refine .inr ⟨⟨xs,xs[i],q,by simp [jm]⟩,Pv (i+1),fun σ' H' p' =>⟨xs.length - (i+1),by omega,rfl,jm,p'⟩,fun x H' y=>?_⟩
  obtain ⟨e,y⟩:=y
  subst e
  exact hs i x σ _ (y xs q) p
 ·have e:i=xs.length:=by omega
  subst e
  exact .inl ⟨⟨xs,q,aaf _⟩,hd σ H p⟩
theorem Ki {K:Frag}{a:Addr}{xs:ζ}{g:TG}{tb:TS}{D:Ends}{σ:St}{H:Hp}(Pv:Nat->St->Hp->Prop)(h0:Pv 0 σ H)(hl:∀i σ H,i<=xs.length->Pv i σ H->bU K H a xs)
  (hs:∀i x σ H,xs[i]? =some x->Pv i σ H->g x σ H fun σ2 H2=>tb {D with nx:=Pv (i+1),ct:=Pv (i+1),bk:=D.nx} σ2 H2) (hd:∀σ H,Pv xs.length σ H->D.nx σ H):
  ∃W:Nat->Nat->St->Hp->Prop,(∃m,W 0 m σ H)/\∀i m σ H,W i m σ H->
   ((RS K a).stop i H/\D.nx σ H)\/((RS K a).go i H/\∃N:St->Hp->Prop,(∀σ' H',N σ' H' ->∃m',m' < m/\W (i+1) m' σ' H')/\∀x H',(RS K a).DR i H x H' ->g x σ H' fun σ2 H2=>tb {D with nx:=N,ct:=N,bk:=D.nx} σ2 H2):=by
 refine ⟨fun i m σ H=>m=xs.length - i/\i<=xs.length/\Pv i σ H,⟨xs.length,by simp,aa6 _,h0⟩,?_⟩
 rintro i m σ H ⟨rfl,hi,p⟩
 have q:=hl i σ H hi p
 by_cases jm:i < xs.length
 ·refine .inr ⟨⟨xs,xs[i],q,by simp [jm]⟩,Pv (i+1),fun σ' H' p' =>⟨xs.length - (i+1),by omega,rfl,jm,p'⟩,fun x H' y=>?_⟩
  obtain ⟨e,y⟩:=y
  subst e
  exact hs i x σ _ (y xs q) p
 ·have e:i=xs.length:=by omega
  subst e
  exact .inl ⟨⟨xs,q,aaf _⟩,hd σ H p⟩
theorem bW {lo:Int}{n:Nat}{g:TG}{tb:TS}{D:Ends}{σ:St}{H:Hp}(Pv:Nat->St->Hp->Prop)(h0:Pv 0 σ H)
  (hs:∀i σ H,i < n->Pv i σ H->g (.int (lo+i)) σ H fun σ2 H2=>tb {D with nx:=Pv (i+1),ct:=Pv (i+1),bk:=D.nx} σ2 H2) (hd:∀σ H,Pv n σ H->D.nx σ H):
  ∃W:Nat->Nat->St->Hp->Prop,(∃m,W 0 m σ H)/\∀i m σ H,W i m σ H->
   ((Om lo n).stop i H/\D.nx σ H)\/((Om lo n).go i H/\∃N:St->Hp->Prop,(∀σ' H',N σ' H' ->∃m',m' < m/\W (i+1) m' σ' H')/\∀x H',(Om lo n).DR i H x H' ->g x σ H' fun σ2 H2=>tb {D with nx:=N,ct:=N,bk:=D.nx} σ2 H2):=by
 refine ⟨fun i m σ H=>m=n - i/\i<=n/\Pv i σ H,⟨n,by simp,aa6 _,h0⟩,?_⟩
 rintro i m σ H ⟨rfl,hi,p⟩
 by_cases jm:i < n
 ·refine .inr ⟨jm,Pv (i+1),fun σ' H' p' =>⟨n - (i+1),by omega,rfl,jm,p'⟩,fun x H' y=>?_⟩
  obtain ⟨e,y⟩:=y
  subst e y
  exact hs i σ _ jm p
 ·have e:i=n:=by omega
  subst e
  exact .inl ⟨aaf _,hd σ H p⟩
theorem um {c:TT}{tb:TS}{D:Ends}{σ:St}{H:Hp}(Pv:St->Hp->Prop)(μ:St->Hp->Nat)(h0:Pv σ H)
  (hs:∀σ H,Pv σ H->c σ H fun b H1=>if b=true then tb {D with nx:=fun σ' H' =>Pv σ' H' /\μ σ' H' < μ σ H,ct:=fun σ' H' =>Pv σ' H' /\μ σ' H' < μ σ H,bk:=D.nx} σ H1 else D.nx σ H1)
  (mono:∀σ H Q Q',(∀b H1,Q b H1->Q' b H1)->c σ H Q->c σ H Q'):EC c tb D σ H:=by
 refine ⟨fun m σ H=>m=μ σ H/\Pv σ H,⟨_,rfl,h0⟩,?_⟩
 rintro m σ H ⟨rfl,p⟩
 refine mono σ H _ _ (fun b H1 q=>?_) (hs σ H p)
 cases b with
 | true=>exact ⟨_,fun σ' H' ⟨p',l⟩=>⟨_,l,rfl,p'⟩,q⟩
 | false=>exact q
end L2
namespace L2
open PySem PySem.Spec PyProof.Rows
abbrev R2:=V->V->Hp->VK->Prop
def iR (X:Cx)(f:Value->Value->Sem Value)(r:R2):Prop:=
 ∀(pins:ε) (s:Shared) (σ:St) (H:Hp) (x y:V) (v u:Value) (Q:VK),Inv X pins σ H s->RelV x v->RelV y u->r x y H Q->
  wpAny (model X.prog X.w) X.A (f v u) (EP X pins σ Q) X.xe s
def ZE (X:Cx)(f:Value->Sem Value)(r:V->Hp->VK->Prop):Prop:=
 ∀(pins:ε) (s:Shared) (σ:St) (H:Hp) (x:V) (v:Value) (Q:VK),Inv X pins σ H s->RelV x v->r x H Q->
  wpAny (model X.prog X.w) X.A (f v) (EP X pins σ Q) X.xe s
def fg (X:Cx)(f:Value)(r:List V->Hp->VK->Prop):Prop:=
 ∀(pins:ε) (s:Shared) (σ:St) (H:Hp) (xs:ζ) (us:ο) (Q:VK),Inv X pins σ H s->Vals xs us->r xs H Q->
  wpAny (model X.prog X.w) X.A (call f us) (EP X pins σ Q) X.xe s
def Oq (r:R2)(ta tb:TE):TE:=fun σ H Q=>ta σ H fun x H1=>tb σ H1 fun y H2=>r x y H2 Q
def tUn (r:V->Hp->VK->Prop)(ta:TE):TE:=fun σ H Q=>ta σ H fun x H1=>r x H1 Q
inductive rI (C:Int->Int->Prop)(g:Int->Int->V)(x:V)(y:V)(H:Hp)(Q:VK):Prop where
 | mk (i j:_) (_:x=.int i) (_:y=.int j) (_:C i j) (_:Q (g i j) H):rI C g x y H Q
inductive MQ (g:Int->Int->V)(x:V)(y:V)(H:Hp)(Q:VK):Prop where
 | mk (i j:_) (_:x=.int i) (_:y=.int j) (_:Q (g i j) H):MQ g x y H Q
inductive rU (g:Int->V)(x:V)(H:Hp)(Q:VK):Prop where
 | mk (i:_) (_:x=.int i) (_:Q (g i) H):rU g x H Q
section
variable {X:Cx}{a b c:Expr}{ta tb tc:TE}{pos:Pos}
theorem Ot (ha:PE X a ta)(hb:PE X b tb){pins:ε}{s:Shared}{σ:St}{H:Hp}{R:V->V->Hp->Prop}(I:Inv X pins σ H s)
  (h:ta σ H fun x H1=>tb σ H1 fun y H2=>R x y H2) {Q:δ} {f:Value->Value->Sem Value}
  (hf:∀v u s2 x y H2,Inv X pins σ H2 s2->RelV x v->RelV y u->R x y H2->wpAny (model X.prog X.w) X.A (f v u) Q X.xe s2):
  wpAny (model X.prog X.w) X.A (eval a X.env) (fun v s₁=>wpAny (model X.prog X.w) X.A (eval b X.env) (fun u s₂=>wpAny (model X.prog X.w) X.A (f v u) Q X.xe s₂) X.xe s₁) X.xe s:=by
 refine bZ (ha pins s σ H _ I h) fun v s1 ⟨x,H1,I1,r1,q1⟩=>?_
 refine bZ (hb pins s1 σ H1 _ I1 q1) fun u s2 ⟨y,H2,I2,r2,q2⟩=>?_
 exact hf v u s2 x y H2 I2 r1 r2 q2
theorem aL {op:Operator}{r:R2}(ho:iR X (binaryOp op) r)(ha:PE X a ta)(hb:PE X b tb):PE X (.BinOp a op b pos) (Oq r ta tb):=by
 intro pins s σ H Q I h
 exact wpAny_BinOp (Ot ha hb I h fun v u s2 x y H2 I2 rx ry q=>ho pins s2 σ H2 x y v u Q I2 rx ry q)
theorem MR {op:UnaryOp}{r:V->Hp->VK->Prop}(ho:ZE X (unaryOp op) r)(ha:PE X a ta):PE X (.UnaryOp op a pos) (tUn r ta):=by
 intro pins s σ H Q I h
 exact UnaryOp_ (bZ (ha pins s σ H _ I h) fun v s1 ⟨x,H1,I1,r1,q1⟩=>ho pins s1 σ H1 x v Q I1 r1 q1)
theorem Yr {f:Value->Value->Sem Value}{C:Int->Int->Prop}{g:Int->Int->Int}
  (rule:∀(i j:Int) (t u:Tok) (s:Shared) (Q:δ) (E:δ),C i j->Q (.int (g i j) s.toks) {s with toks:=s.toks+1}->wpAny (model X.prog X.w) X.A (f (.int i t) (.int j u)) Q E s):
  iR X f (rI C fun i j=>.int (g i j)):=by
 intro pins s σ H x y v u Q I rx ry h
 obtain ⟨i,j,rfl,rfl,hc,q⟩:=h
 obtain ⟨t,rfl⟩:=rx
 obtain ⟨t',rfl⟩:=ry
 exact rule i j t t' s _ _ hc ⟨.int (g i j),H,I.tok _,⟨_,rfl⟩,q⟩
theorem RU {f:Value->Value->Sem Value}{g:Int->Int->Int}
  (rule:∀(i j:Int) (t u:Tok) (s:Shared) (Q:δ) (E:δ),Q (.int (g i j) s.toks) {s with toks:=s.toks+1}->wpAny (model X.prog X.w) X.A (f (.int i t) (.int j u)) Q E s):
  iR X f (MQ fun i j=>.int (g i j)):=by
 intro pins s σ H x y v u Q I rx ry h
 obtain ⟨i,j,rfl,rfl,q⟩:=h
 obtain ⟨t,rfl⟩:=rx
 obtain ⟨t',rfl⟩:=ry
 exact rule i j t t' s _ _ ⟨.int (g i j),H,I.tok _,⟨_,rfl⟩,q⟩
theorem Ou {f:Value->Value->Sem Value}{g:Int->Int->Bool}
  (rule:∀(i j:Int) (t u:Tok) (s:Shared) (Q:δ) (E:δ),Q (.bool (g i j)) s->wpAny (model X.prog X.w) X.A (f (.int i t) (.int j u)) Q E s):
  iR X f (MQ fun i j=>.bl (g i j)):=by
 intro pins s σ H x y v u Q I rx ry h
 obtain ⟨i,j,rfl,rfl,q⟩:=h
 obtain ⟨t,rfl⟩:=rx
 obtain ⟨t',rfl⟩:=ry
 exact rule i j t t' s _ _ ⟨.bl (g i j),H,I,rfl,q⟩
theorem b6:iR X (binaryOp .Add) (MQ fun i j=>.int (i+j)):=RU fun _ _ _ _ _ _ _ q=>add_int q
theorem dr:iR X (binaryOp .Sub) (MQ fun i j=>.int (i - j)):=RU fun _ _ _ _ _ _ _ q=>sub_int q
theorem Kj:iR X (binaryOp .Mod) (rI (fun _ j=>j≠0) fun i j=>.int (i.fmod j)):=Yr fun _ _ _ _ _ _ _ hc q=>mod_int' hc q
theorem unI {f:Value->Sem Value}{g:Int->Int}
  (rule:∀(i:Int) (t:Tok) (s:Shared) (Q:δ) (E:δ),Q (.int (g i) s.toks) {s with toks:=s.toks+1}->wpAny (model X.prog X.w) X.A (f (.int i t)) Q E s):
  ZE X f (rU fun i=>.int (g i)):=by
 intro pins s σ H x v Q I rx h
 obtain ⟨i,rfl,q⟩:=h
 obtain ⟨t,rfl⟩:=rx
 exact rule i t s _ _ ⟨.int (g i),H,I.tok _,⟨_,rfl⟩,q⟩
theorem EG:ZE X (unaryOp .USub) (rU fun i=>.int (-i)):=unI fun _ _ _ _ _ q=>neg_int q
end
def RV:V->V->Bool
 | .cB,.cB=>true | .cB,.int _=>true | .int _,.cB=>true | .cB,.bl _=>true | .bl _,.cB=>true | .cB,.str _=>true | .str _,.cB=>true
 | .int _,.int _=>true | .bl _,.bl _=>true | .str _,.str _=>true | .byt _,.byt _=>true
 | .int _,.str _=>true | .str _,.int _=>true | .bl _,.str _=>true | .str _,.bl _=>true
 | _,_=>false
def rEq:R2:=fun x y H Q=>RV x y=true/\Q (.bl (decide (x=y))) H
def rNe:R2:=fun x y H Q=>RV x y=true/\Q (.bl (!decide (x=y))) H
theorem yi {i j:Int}:decide (V.int i=V.int j)=(i==j):=by
 rw [abq]
 simp
theorem EH {i j:Bool}:decide (V.bl i=V.bl j)=(i==j):=by
 rw [abq]
 simp
theorem yj {i j:Str}:decide (V.str i=V.str j)=(i==j):=by
 rw [abq]
 simp
theorem yk {i j:Array UInt8}:decide (V.byt i=V.byt j)=(i.toList==j.toList):=by
 rw [abq]
 cases i
 cases j
 simp
section
variable {X:Cx}{a b c:Expr}{ta tb tc:TE}{pos:Pos}
theorem bL {pins:ε}{σ:St}{H:Hp}{s:Shared}{Q:VK}{k k' :Bool}(I:Inv X pins σ H s)(q:Q (.bl k) H)(e:k=k'):EP X pins σ Q (.bool k') s:=by
 subst e
 exact ⟨.bl k,H,I,rfl,q⟩
theorem eh:iR X (compareOp .Eq) rEq:=by
 intro pins s σ H x y v u Q I rx ry h
 obtain ⟨hs,q⟩:=h
 cases x with
 | cB=>
  cases rx
  cases y with
  | cB=>cases ry;exact PySem.EqNone.eq_none_none (bL I q (by simp))
  | bl j=>cases ry;exact PySem.EqNone.eq_none_bool (bL I q (by simp))
  | int j=>obtain ⟨t',rfl⟩:=ry;exact PySem.EqNone.eq_none_int (bL I q (by simp))
  | str j=>obtain ⟨t',rfl⟩:=ry;exact PySem.EqNone.eq_none_str (bL I q (by simp))
  | _=>exact absurd (show false=true from hs) aaG
 | bl i=>
  cases rx
  cases y with
  | cB=>cases ry;exact PySem.EqNone.eq_bool_none (bL I q (by simp))
  | bl j=>cases ry;exact eq_bool (bL I q EH)
  | str j=>obtain ⟨t',rfl⟩:=ry;exact PySem.EqMixed.eq_bool_str (bL I q (by simp))
  | _=>exact absurd (show false=true from hs) aaG
 | int i=>
  obtain ⟨t,rfl⟩:=rx
  cases y with
  | cB=>cases ry;exact PySem.EqNone.eq_int_none (bL I q (by simp))
  | int j=>obtain ⟨t',rfl⟩:=ry;exact eq_int (bL I q yi)
  | str j=>obtain ⟨t',rfl⟩:=ry;exact PySem.EqMixed.eq_int_str (bL I q (by simp))
  | _=>exact absurd (show false=true from hs) aaG
 | str i=>
  obtain ⟨t,rfl⟩:=rx
  cases y with
  | cB=>cases ry;exact PySem.EqNone.eq_str_none (bL I q (by simp))
  | bl j=>cases ry;exact PySem.EqMixed.eq_str_bool (bL I q (by simp))
  | int j=>obtain ⟨t',rfl⟩:=ry;exact PySem.EqMixed.eq_str_int (bL I q (by simp))
  | str j=>obtain ⟨t',rfl⟩:=ry;exact eq_str (bL I q yj)
  | _=>exact absurd (show false=true from hs) aaG
 | byt i=>
  obtain ⟨t,rfl⟩:=rx
  cases y with
  | byt j=>obtain ⟨t',rfl⟩:=ry;exact PySem.W.eq_bytes (bL I q yk)
  | _=>exact absurd (show false=true from hs) aaG
 | _=>cases y <;> exact absurd (show false=true from hs) aaG
theorem lK:iR X (compareOp .NotEq) rNe:=by
 intro pins s σ H x y v u Q I rx ry h
 obtain ⟨hs,q⟩:=h
 cases x with
 | cB=>
  cases rx
  cases y with
  | cB=>cases ry;exact PySem.EqNone.ne_none_none (bL I q (by simp))
  | bl j=>cases ry;exact PySem.EqNone.ne_none_bool (bL I q (by simp))
  | int j=>obtain ⟨t',rfl⟩:=ry;exact PySem.EqNone.ne_none_int (bL I q (by simp))
  | str j=>obtain ⟨t',rfl⟩:=ry;exact PySem.EqNone.ne_none_str (bL I q (by simp))
  | _=>exact absurd (show false=true from hs) aaG
 | bl i=>
  cases rx
  cases y with
  | cB=>cases ry;exact PySem.EqNone.ne_bool_none (bL I q (by simp))
  | bl j=>cases ry;exact ne_bool (bL I q (congrArg not EH))
  | str j=>obtain ⟨t',rfl⟩:=ry;exact PySem.EqMixed.ne_bool_str (bL I q (by simp))
  | _=>exact absurd (show false=true from hs) aaG
 | int i=>
  obtain ⟨t,rfl⟩:=rx
  cases y with
  | cB=>cases ry;exact PySem.EqNone.ne_int_none (bL I q (by simp))
  | int j=>obtain ⟨t',rfl⟩:=ry;exact ne_int (bL I q (congrArg not yi))
  | str j=>obtain ⟨t',rfl⟩:=ry;exact PySem.EqMixed.ne_int_str (bL I q (by simp))
  | _=>exact absurd (show false=true from hs) aaG
 | str i=>
  obtain ⟨t,rfl⟩:=rx
  cases y with
  | cB=>cases ry;exact PySem.EqNone.ne_str_none (bL I q (by simp))
  | bl j=>cases ry;exact PySem.EqMixed.ne_str_bool (bL I q (by simp))
  | int j=>obtain ⟨t',rfl⟩:=ry;exact PySem.EqMixed.ne_str_int (bL I q (by simp))
  | str j=>obtain ⟨t',rfl⟩:=ry;exact ne_str (bL I q (congrArg not yj))
  | _=>exact absurd (show false=true from hs) aaG
 | byt i=>
  obtain ⟨t,rfl⟩:=rx
  cases y with
  | byt j=>obtain ⟨t',rfl⟩:=ry;exact PySem.W.ne_bytes (bL I q (congrArg not yk))
  | _=>exact absurd (show false=true from hs) aaG
 | _=>cases y <;> exact absurd (show false=true from hs) aaG
theorem nA:iR X (compareOp .Lt) (MQ fun i j=>.bl (decide (i < j))):=Ou fun _ _ _ _ _ _ _ q=>lt_int q
theorem qG:iR X (compareOp .Gt) (MQ fun i j=>.bl (decide (j < i))):=Ou fun _ _ _ _ _ _ _ q=>gt_int q
theorem MS:iR X (compareOp .GtE) (MQ fun i j=>.bl (decide (j<=i))):=Ou fun _ _ _ _ _ _ _ q=>ge_int q
theorem wz:iR X (compareOp .Is) (fun x y H Q=>y=.cB/\Q (.bl (decide (x=.cB))) H):=by
 intro pins s σ H x y v u Q I rx ry h
 obtain ⟨rfl,q⟩:=h
 cases ry
 refine is_none_gen (bL I q ?_)
 cases x <;> first
  | (cases rx;rfl)
  | (obtain ⟨t,rfl⟩:=rx;rfl)
theorem a9 (b:Expr){op:CmpOp}(h:op≠.In:=by decide)(h2:op≠.NotIn:=by decide):behindInMarks op b=false:=by
 have e1:(op==CmpOp.In)=false:=by cases op <;> first | rfl | exact absurd rfl h
 have e2:(op==CmpOp.NotIn)=false:=by cases op <;> first | rfl | exact absurd rfl h2
 cases b <;> simp [behindInMarks,e1,e2]
theorem iy {op:CmpOp}{r:R2}(ho:iR X (compareOp op) r)(ha:PE X a ta)(hb:PE X b tb)(hm:behindInMarks op b=false):PE X (.Compare a [op] [b] pos) (Oq r ta tb):=by
 intro pins s σ H Q I h
 exact wpAny_Compare1 (Ot ha hb I h fun v u s2 x y H2 I2 rx ry q=>ho pins s2 σ H2 x y v u Q I2 rx ry q) hm
inductive EI (Q:(Bool->Hp->Prop))(x:V)(H' :Hp):Prop where
 | mk (k:_) (_:x=.bl k) (_:Q k H'):EI Q x H'
def MT (t:TE):TT:=fun σ H Q=>t σ H fun x H' =>EI Q x H'
theorem aS {op:CmpOp}{r:R2}(ho:iR X (compareOp op) r)(ha:PE X a ta)(hb:PE X b tb)(hm:behindInMarks op b=false):PT X (.Compare a [op] [b] pos) (MT (Oq r ta tb)):=by
 intro pins s σ H Q I h
 refine wpAny_isTrue_Compare1 (bZ (ha pins s σ H _ I h) fun v s1 ⟨x,H1,I1,r1,q1⟩=>bZ (hb pins s1 σ H1 _ I1 q1) fun u s2 ⟨y,H2,I2,r2,q2⟩=>
  bZ (ho pins s2 σ H2 x y v u _ I2 r1 r2 q2) fun c s3 ⟨z,H3,I3,r3,k,e,q3⟩=>?_) hm
 subst e
 cases r3
 exact wpAny_truthy_bool ⟨H3,I3,q3⟩
def Ov (r r' :R2)(ta tb tc:TE):TE:=fun σ H Q=>ta σ H fun x H1=>tb σ H1 fun y H2=>r x y H2 fun z H3=>∃k,z=.bl k/\
 (if k=true then tc σ H3 fun w' H4=>r' y w' H4 Q else Q (.bl false) H3)
theorem EJ {op ZF :CmpOp}{r r' :R2}(ho:iR X (compareOp op) r)(DZ :iR X (compareOp ZF) r')(ha:PE X a ta)(hb:PE X b tb)(hc:PE X c tc)
  (hm:lastMarks [op,ZF] [b,c]=false:=by with_unfolding_all rfl):PT X (.Compare a [op,ZF] [b,c] pos) (MT (Ov r r' ta tb tc)):=by
 intro pins s σ H Q I h
 refine isTrue_chain (bZ (ha pins s σ H _ I h) fun v s1 ⟨x,H1,I1,r1,q1⟩=>test_link (bZ (hb pins s1 σ H1 _ I1 q1) fun u s2 ⟨y,H2,I2,r2,q2⟩=>
  bZ (ho pins s2 σ H2 x y v u _ I2 r1 r2 q2) fun d s3 ⟨z,H3,I3,r3,k,e,q3⟩=>?_)) hm
 subst e
 cases r3
 refine wpAny_truthy_bool ?_
 cases k with
 | false=>
  obtain ⟨k',e',q'⟩:=q3
  cases e'
  exact ite_ff ⟨H3,I3,q'⟩
 | true=>
  refine ite_tt (test_last (bZ (hc pins s3 σ H3 _ I3 q3) fun w' s4 ⟨z',H4,I4,r4,q4⟩=>bZ (DZ pins s4 σ H4 y z' u w' _ I4 r2 r4 q4) fun d' s5 ⟨z2,H5,I5,r5,k2,e2,q5⟩=>?_))
  subst e2
  cases r5
  exact wpAny_truthy_bool ⟨H5,I5,q5⟩
theorem nE:(sizeLine:Nat) < 2^63:=by rw [sizeLine_eq];decide
theorem gG:iR X (binaryOp .Add) (fun x y H Q=>∃i j,x=.str i/\y=.str j/\i.length+j.length<=sizeLine/\Q (.str (i++j)) H):=by
 intro pins s σ H x y v u Q I rx ry h
 obtain ⟨i,j,rfl,rfl,hz,q⟩:=h
 obtain ⟨t,rfl⟩:=rx
 obtain ⟨t',rfl⟩:=ry
 exact add_str (fun t' tk=>⟨.str (i++j),H,I.tok _,⟨_,rfl⟩,q⟩) hz
theorem vals1 {x:V}{us:ο}(r:Vals [x] us):∃u,us=[u]/\RelV x u:=by
 cases r with
 | cons r1 r2=>cases r2;exact ⟨_,rfl,r1⟩
theorem vals2 {x y:V}{us:ο}(r:Vals [x,y] us):∃u w',us=[u,w']/\RelV x u/\RelV y w' :=by
 cases r with
 | cons r1 r2=>
  cases r2 with
  | cons r3 r4=>cases r4;exact ⟨_,_,rfl,r1,r3⟩
theorem uo:fg X (.builtin "abs") (fun xs H Q=>∃i,xs=[.int i]/\Q (.int (if i < 0 then -i else i)) H):=by
 intro pins s σ H xs us Q I r h
 obtain ⟨i,rfl,q⟩:=h
 obtain ⟨u,rfl,t,rfl⟩:=vals1 r
 exact call_abs_int fun u tk=>⟨.int (if i < 0 then -i else i),H,I.tok _,⟨_,rfl⟩,q⟩
theorem zD (hc:X.calm=true):fg X (.builtin "min") (fun xs H Q=>∃i j,xs=[.int i,.int j]/\Q (.int (if j < i then j else i)) H):=by
 intro pins s σ H xs us Q I r h
 obtain ⟨i,j,rfl,q⟩:=h
 obtain ⟨u,w',rfl,⟨t,rfl⟩,⟨t',rfl⟩⟩:=vals2 r
 refine min_two_ints (I.ok.hd hc) fun h' tk k=>⟨_,H,I.kept k,?_,q⟩
 by_cases hj:j < i
 ·rw [if_pos hj,if_pos hj];exact ⟨_,rfl⟩
 ·rw [if_neg hj,if_neg hj];exact ⟨_,rfl⟩
theorem qH:fg X (.type "int") (fun xs H Q=>(∃i,xs=[.int i]/\Q (.int i) H)\/∃k,xs=[.bl k]/\Q (.int (if k then 1 else 0)) H):=by
 intro pins s σ H xs us Q I r h
 rcases h with ⟨i,rfl,q⟩ | ⟨k,rfl,q⟩
 ·obtain ⟨u,rfl,t,rfl⟩:=vals1 r
  exact call_int_int ⟨.int i,H,I,⟨_,rfl⟩,q⟩
 ·obtain ⟨u,rfl,r1⟩:=vals1 r
  cases r1
  exact call_int_bool ⟨.int (if k then 1 else 0),H,I.tok _,⟨_,rfl⟩,q⟩
theorem jr:fg X (.type "str") (fun xs H Q=>∃i,xs=[.int i]/\i.natAbs.log2 < 1920/\Q (.str (toString i)) H):=by
 intro pins s σ H xs us Q I r h
 obtain ⟨i,rfl,hz,q⟩:=h
 obtain ⟨u,rfl,t,rfl⟩:=vals1 r
 exact PySem.P.str_of_int hz ⟨.str _,H,I.tok _,⟨_,rfl⟩,q⟩
end
end L2
namespace L2
open PySem PySem.Spec PyProof.Rows
structure wA (h:Heap)(x dx C:Addr)(mA:ι):Prop where
 obj:h.get? x=some (PySem.W.instObj C dx)
 ns:h.Ns1 dx mA
 ne:dx≠x
theorem zE {h:Heap}{dx:Addr}{mA:ι}(n:h.Ns1 dx mA):∃od,h.get? dx=some od/\∀name,PySem.W.lookIn name od=some (mA name):=by
 obtain ⟨o,es,ep,ho,hd,hk,_,hm⟩:=n
 refine ⟨o,ho,fun name=>?_⟩
 have e:=hm name
 unfold nsFind findBy at e
 rw [<- Array.find?_toList] at e
 unfold PySem.W.lookIn
 rw [hd]
 dsimp only
 split
 ·rename_i y q
  rw [q] at e
  exact congrArg some e
 ·rename_i q
  rw [q] at e
  have a:es.toList.any (·.refKey)=false:=by
   rw [List.any_eq_false]
   intro y hy
   obtain ⟨z,t,EK⟩:=hk y (Array.mem_toList_iff.mp hy)
   simp [DictEntry.refKey,EK]
  have a' :¬ es.toList.any (·.refKey)=true:=by rw [a];exact aaG
  rw [if_neg a']
  exact congrArg some e
theorem wA.look {h:Heap}{x dx C:Addr}{mA:ι}(I:wA h x dx C mA):∃od,PySem.W.InstAt h x (PySem.W.instObj C dx) C (some od)/\∀name,PySem.W.lookIn name od=some (mA name):=
 let ⟨od,ho,hl⟩:=zE I.ns
 ⟨od,⟨I.obj,rfl,rfl,ho⟩,hl⟩
section
variable {prog:Program}{w:World}{A:Around}{E:δ}{s:Shared}{K:Frag}{x dx C f:Addr}{mA:ι}{name:Str}{v:Value}
theorem get_map {expr:Bool}{Q:δ}(X:K.In s.heap)(I:wA s.heap x dx C mA)(hg:PySem.W.plainGet K C name=true)(hh:PySem.W.hasDictIn K C=true)
  (ha:PySem.W.findIn K (.ref C) name=some none) (hv:mA name=some v) (Ow :PySem.W.handedIn v=true) (h:Q v {s with toks:=s.toks+1}):
  wpAny (model prog w) A (getAttr (.ref x) name expr) Q E s:=by
 obtain ⟨od,J,hl⟩:=I.look
 exact PySem.W.get_value X J (PySem.W.plainGet_of hg).1 (PySem.W.findObj_own hh ha rfl (by rw [hl,hv])) Ow h
theorem EL {pl:Sem Bool}{Q:Value×List Value->Shared->Prop}(X:K.In s.heap)(I:wA s.heap x dx C mA)(hg:PySem.W.plainGet K C name=true)
  (hf:PySem.W.findIn K (.ref C) name=some (some (.ref f))) (ht:PySem.W.isFn K (.ref f)=true) (hv:mA name=none) (h:Q (.ref f,[.ref x]) s):
  wpAny (model prog w) A (getMethod (.ref x) name pl) Q E s:=by
 obtain ⟨od,J,hl⟩:=I.look
 exact PySem.W.method_fn X J (PySem.W.plainGet_of hg).1 (PySem.W.plainGet_of hg).2 hf (beq_iff_eq.mp ht) (by show (PySem.W.lookIn name od).map (·.isSome)=some false;rw [hl,hv];rfl) h
theorem Kk {ns:ρ}{Q:Unit->Shared->Prop}(X:K.In s.heap)(I:wA s.heap x dx C mA)
  (hs:PySem.W.findIn K (.ref C) "__setattr__"=some (some (.builtin "object.__setattr__"))) (hp:PySem.W.plainOver K C=true) (ht:PySem.W.takerIn K C name=some none) (hh:PySem.W.hasDictIn K C=true)
  (hw:PySem.Within mA ns) (hsz:ns.length<=sizeLine)
  (h:∀h',wA h' x dx C (fun y=>if y=name then some v else mA y)->Heap.SameBut dx s.heap h' ->Q () {s with heap:=h',toks:=s.toks+2}):
  wpAny (model prog w) A (setAttr (.ref x) name v) Q E s:=by
 obtain ⟨od,J,hl⟩:=I.look
 refine PySem.W.set_plain X J hs (PySem.W.osa_open (s:={s with toks:=s.toks+1}) (r:=none) X J hp ht fun b=>?_)
 obtain ⟨cd,hc,JC⟩:=PySem.W.any_some hh
 have hx:s.heap.get? x=some ⟨.ref C,some dx,.plain, #[]⟩:=I.obj
 refine wpAny_bind (wpAny_pure (wpAny_bind (wpAny_bind (wpAny_loadPart hx (wpAny_bind (PySem.W.Looks.here (s:={s with toks:=s.toks+1}) (PySem.W.looks_clsIn X hc) ?_))))))
 rw [JC]
 refine wpAny_pure (a:=some dx) (wpAny_bind (wpAny_pure (wpAny_bind ?_)))
 refine wpAny_nsSet1 (s:={s with toks:=s.toks+1}) I.ns fun h' JF EM=>?_
 obtain ⟨oD,esD,epD,hoD,hdD,hcD⟩:=JF.count (PySem.Within.cons name v hw)
 refine wpAny_bind (wpAny_lookBehind hoD (by rw [hdD];exact pastItsLine_dict (aai hcD (by rw [aa5];omega))) ?_)
 exact wpAny_pure (h _ ⟨(EM.2 _ (aaW I.ne)).trans I.obj,JF,I.ne⟩ EM)
theorem EN {R:Ο}{vs:ο}{kw:Υ}(X:K.In s.heap)(hm:PySem.W.makesIn K C=true)
  (hi:PySem.W.findIn K (.ref C) "__init__"=some (some (.ref f))) (hf:PySem.W.typeIn K (.ref f)=some (.type "function"))
  (h:codeAny (model prog w) (A.under (.builtin "type.__call__" ⟨.ref C::vs,kw⟩)) (.call (.ref f) ⟨.ref (s.heap.objs.size+1)::vs,kw⟩) (PySem.W.InitBack (s.heap.objs.size+1) R)
   {s with heap:=(s.heap.push PySem.W.emptyDict).push (PySem.W.instObj C s.heap.objs.size)}):
  codeAny (model prog w) A (.call (.ref C) ⟨vs,kw⟩) R s:=by
 obtain ⟨hh,g,d,t,os⟩:=s
 exact PySem.W.make_core (PySem.W.makes_of X hm) (PySem.W.looks_findIn X hi) (fun self=>PySem.W.bind_fn X self hf) (.inl rfl) h
theorem zF {R:Ο}(X:K.In s.heap)(hm:PySem.W.makesIn K C=true)
  (hi:PySem.W.findIn K (.ref C) "__init__"=some (some (.builtin "object.__init__")))
  (hb:∀self,PySem.W.Looks (model prog w) s.heap (bindSpecial (.builtin "object.__init__") self) (.builtin "object.__init__",[self]))
  (h:codeAny (model prog w) (A.under (.builtin "type.__call__" ⟨[.ref C],[]⟩)) (.call (.builtin "object.__init__") ⟨[.ref (s.heap.objs.size+1)],[]⟩) (PySem.W.InitBack (s.heap.objs.size+1) R)
   {s with heap:=(s.heap.push PySem.W.emptyDict).push (PySem.W.instObj C s.heap.objs.size)}):
  codeAny (model prog w) A (.call (.ref C) ⟨[],[]⟩) R s:=by
 obtain ⟨hh,g,d,t,os⟩:=s
 exact PySem.W.make_core (PySem.W.makes_of X hm) (PySem.W.looks_findIn X hi) hb (.inr ⟨rfl,rfl⟩) h
end
def dP (f:Str)(v:V):List (Str×V)->List (Str×V)
 | []=>[(f,v)]
 | (g,x)::r=>if g=f then (g,v)::r else (g,x)::dP f v r
theorem lM (f g:Str)(v:V):∀fs:List (Str×V),(dP f v fs).lookup g=if g=f then some v else fs.lookup g
 | []=>by
  show abY g [(f,v)]=_
  by_cases h:g=f
  ·have hb:(g==f)=true:=beq_iff_eq.mpr h
   simp only [abY,hb,if_pos h]
  ·have hb:(g==f)=false:=beq_eq_false_iff_ne.mpr h
   simp only [abY,hb,if_neg h]
 | (k,x)::r=>by
  have ih:=lM f g v r
  rw [show dP f v ((k,x)::r)=(if k=f then (k,v)::r else (k,x)::dP f v r) from rfl]
  by_cases hk:k=f
  ·rw [if_pos hk]
   by_cases h:g=k
   ·have hb:(g==k)=true:=beq_iff_eq.mpr h
    simp only [abY,hb,if_pos (h.trans hk)]
   ·have hb:(g==k)=false:=beq_eq_false_iff_ne.mpr h
    simp only [abY,hb,if_neg (fun e:g=f=>h (e.trans hk.symm))]
  ·rw [if_neg hk]
   by_cases h:g=k
   ·have hb:(g==k)=true:=beq_iff_eq.mpr h
    simp only [abY,hb,if_neg (fun e:g=f=>hk (h.symm.trans e))]
   ·have hb:(g==k)=false:=beq_eq_false_iff_ne.mpr h
    simp only [abY,hb]
    exact ih
theorem j8 (f:Str)(v:V):∀fs:List (Str×V),f∈(dP f v fs).map (·.1)/\∀g,g∈fs.map (·.1)->g∈(dP f v fs).map (·.1)
 | []=>⟨by simp [dP],fun g h=>by simp at h⟩
 | (k,x)::r=>by
  obtain ⟨i1,i2⟩:=j8 f v r
  rw [show dP f v ((k,x)::r)=(if k=f then (k,v)::r else (k,x)::dP f v r) from rfl]
  by_cases hk:k=f
  ·rw [if_pos hk]
   subst hk
   exact ⟨by simp,fun g h=>by simpa using h⟩
  ·rw [if_neg hk]
   refine ⟨?_,fun g h=>?_⟩
   ·rw [aal]
    exact aae _ i1
   ·rw [aal] at h ⊢
    rcases aaN.mp h with e | e
    ·exact aaN.mpr (.inl e)
    ·exact aae _ (i2 g e)
theorem lO (f:Str)(v:V):∀fs:List (Str×V),(dP f v fs).length<=fs.length+1
 | []=>by simp [dP]
 | (k,x)::r=>by
  have ih:=lO f v r
  rw [show dP f v ((k,x)::r)=(if k=f then (k,v)::r else (k,x)::dP f v r) from rfl]
  by_cases hk:k=f
  ·rw [if_pos hk,aa5,aa5];omega
  ·rw [if_neg hk,aa5,aa5];omega
theorem gD.some_of {v:V}{o:Option Value}(r:gD (some v) o):∃u,o=some u/\RelV v u:=by
 cases o with
 | none=>exact (show False from r).elim
 | some u=>exact ⟨u,rfl,r⟩
theorem gD.none_of {o:Option Value}(r:gD none o):o=none:=by
 cases o with
 | none=>rfl
 | some u=>exact (show False from r).elim
theorem zG {v:V}{u:Value}(r:RelV v u):PySem.W.handedIn u=true:=by
 cases v with
 | cB=>cases (show u=Value.none from r);rfl
 | bl b=>cases (show u=Value.bool b from r);rfl
 | int i=>obtain ⟨t,e⟩:=(show ∃t,u=Value.int i t from r);cases e;rfl
 | str x=>obtain ⟨t,e⟩:=(show ∃t,u=Value.str x t from r);cases e;rfl
 | byt b=>obtain ⟨t,e⟩:=(show ∃t,u=Value.bytes b t from r);cases e;rfl
 | N_ b=>obtain ⟨t,e⟩:=(show ∃t,u=Value.float b t from r);cases e;rfl
 | ref a=>cases (show u=Value.ref a from r);rfl
 | ty n=>cases (show u=Value.type n from r);rfl
section
variable {P:Program}{w:World}{H H' :Hp}{h h' :Heap}{a C dx:Addr}{fs fs' :List (Str×V)}
theorem mL (bK:iQ P w H h)(e:H a=some (.ins C dx fs)):∃mA,wA h a dx C mA/\(∀f,gD (fs.lookup f) (mA f))/\PySem.Within mA (fs.map (·.1))/\fs.length<=1000/\H dx=some (.own a):=by
 obtain ⟨d,z,ne,ob,mA,n,r,q⟩:=(show cE P w H h a (.ins C dx fs) from bK a _ e)
 exact ⟨mA,⟨ob,n,ne⟩,r,q,z,d⟩
end
structure uq (K:Frag)(C:Addr):Prop where
 pg:PySem.W.plainGet K C Str.empty=true
 hd:PySem.W.hasDictIn K C=true
 po:PySem.W.plainOver K C=true
 sa:PySem.W.findIn K (.ref C) "__setattr__"=some (some (.builtin "object.__setattr__"))
theorem uq.get {K:Frag}{C:Addr}(c:uq K C)(f:Str):PySem.W.plainGet K C f=true:=c.pg
def fq (K:Frag)(C:Addr)(f:Str):Prop:=PySem.W.findIn K (.ref C) f=some none
theorem fq.RW {K:Frag}{C:Addr}{f:Str}(n:fq K C f):PySem.W.takerIn K C f=some none:=by
 unfold PySem.W.takerIn
 rw [show PySem.W.findIn K (.ref C) f=some none from n]
 rfl
structure Meth (K:Frag)(C:Addr)(m:Str)(f:Addr):Prop where
 at_:PySem.W.findIn K (.ref C) m=some (some (.ref f))
 fn:PySem.W.isFn K (.ref f)=true
 kp:keepIn K (.ref f)=true
section
variable {X:Cx}{pins:ε}{σ:St}{H:Hp}{s:Shared}{a C dx:Addr}{fs:List (Str×V)}{f:Str}{v:V}{A:Around}{E:δ}
theorem wB {b:Bool}{Q:δ}(I:Inv X pins σ H s)(e:H a=some (.ins C dx fs))(c:uq X.K C)(n:fq X.K C f)(l:fs.lookup f=some v)
  (h:∀u s',Inv X pins σ H s' ->RelV v u->Q u s'):wpAny (model X.prog X.w) A (getAttr (.ref a) f b) Q E s:=by
 obtain ⟨mA,O,r,_,_,_⟩:=mL I.bK e
 obtain ⟨u,hu,ru⟩:=gD.some_of (v:=v) (o:=mA f) (by rw [<- l];exact r f)
 exact get_map I.iZ O (c.get f) c.hd n hu (zG ru) (h u _ (I.tok _) ru)
theorem i6 {m:Str}{g:Addr}{pl:Sem Bool}{Q:Value×List Value->Shared->Prop}(I:Inv X pins σ H s)(e:H a=some (.ins C dx fs))(c:uq X.K C)(k:Meth X.K C m g)(l:fs.lookup m=none)
  (h:Q (.ref g,[.ref a]) s):wpAny (model X.prog X.w) A (getMethod (.ref a) m pl) Q E s:=by
 obtain ⟨mA,O,r,_,_,_⟩:=mL I.bK e
 have hn:mA m=none:=gD.none_of (by rw [<- l];exact r m)
 exact EL I.iZ O (c.get m) k.at_ k.fn hn h
theorem wC {y:V}{u:Value}{Q:Unit->Shared->Prop}(I:Inv X pins σ H s)(e:H a=some (.ins C dx fs))(c:uq X.K C)(n:fq X.K C f)(hl:fs.length < 1000)(ry:RelV y u)
  (h:∀s',Inv X pins σ (upd H a (.ins C dx (dP f y fs))) s' ->Q () s'):wpAny (model X.prog X.w) A (setAttr (.ref a) f u) Q E s:=by
 obtain ⟨mA,O,r,wi,_,ho⟩:=mL I.bK e
 have hz:(fs.map (·.1)).length<=sizeLine:=by rw [aab,sizeLine_eq];omega
 refine Kk I.iZ O c.sa c.po n.RW c.hd wi hz fun h' O' sb=>h _ ?_
 have hd:∃o,h'.get? dx=some o:=let ⟨o,_,_,e',_⟩:=O'.ns;⟨o,e'⟩
 refine I.write (x:=a) (e:=dx) (by rw [e];exact True.intro) (.inr ho) (fun b q hb z=>(sb.2 b hb).trans z) hd ?_
 refine ⟨by rw [ao O.ne];exact ho,?_,O.ne,O'.obj,_,O'.ns,fun g=>?_,fun g hg=>?_⟩
 ·have:=lO f y fs;omega
 ·show gD ((dP f y fs).lookup g) (if g=f then some u else mA g)
  rw [lM]
  by_cases q:g=f
  ·rw [if_pos q,if_pos q];exact ry
  ·rw [if_neg q,if_neg q];exact r g
 ·by_cases q:g=f
  ·rw [q];exact (j8 f y fs).1
  ·refine (j8 f y fs).2 g (wi g fun z=>hg ?_)
   show (if g=f then some u else mA g)=none
   rw [if_neg q];exact z
theorem Inv.made (I:Inv X pins σ H s):Inv X pins σ (upd (upd H s.heap.objs.size (.own (s.heap.objs.size+1))) (s.heap.objs.size+1) (.ins C s.heap.objs.size []))
  {s with heap:=(s.heap.push PySem.W.emptyDict).push (PySem.W.instObj C s.heap.objs.size)}:=by
 have e1:(s.heap.push PySem.W.emptyDict).get? s.heap.objs.size=some PySem.W.emptyDict:=Heap.get?_push_size s.heap rfl
 have e2:((s.heap.push PySem.W.emptyDict).push (PySem.W.instObj C s.heap.objs.size)).get? (s.heap.objs.size+1)=some (PySem.W.instObj C s.heap.objs.size):=by
  have:=Heap.get?_push_size (s.heap.push PySem.W.emptyDict) (o:=PySem.W.instObj C s.heap.objs.size) rfl
  rwa [Heap.size_push] at this
 have e3:(s.heap.push PySem.W.emptyDict).Ns s.heap.objs.size (fun _=>none):=⟨PySem.W.emptyDict, #[],_,e1,rfl,(fun e he=>absurd he (by simp)),fun _=>rfl⟩
 have I1:=I.laid (a:=s.heap.objs.size) (o:=.own (s.heap.objs.size+1)) (h' :=s.heap.push PySem.W.emptyDict) (t' :=s.toks) (fun b u q=>Heap.get?_push_of_some _ q) (aaf _) ⟨_,e1⟩
 refine I1.laid (a:=s.heap.objs.size+1) (o:=.ins C s.heap.objs.size []) (t' :=s.toks) (fun b u q=>Heap.get?_push_of_some _ q) (aie (Heap.size_push _ _)) ?_
 have ne:s.heap.objs.size≠s.heap.objs.size+1:=aa1 (aba _)
 refine ⟨by rw [ao ne,ak],aa6 _,ne,e2,fun _=>none,(Heap.Ns1.of_empty e3).at fun o q=>Heap.get?_push_of_some _ q,fun _=>True.intro,fun y hy=>absurd rfl hy⟩
theorem Kl {prog:Program}{w:World}{env:Env}{e:Expr}{f:Str}{pos:Pos}{s:Shared}{Q:δ}(hb:attributeBase e f env (eval e env)=eval e env)
  (h:wpAny (model prog w) A (eval e env) (fun o s₁=>wpAny (model prog w) A (getAttr o f true) Q E s₁) E s):wpAny (model prog w) A (eval (.Attribute e f pos) env) Q E s:=
 Attribute_any_ h (by rw [arm_eval_Attribute,hb])
end
inductive MU (K:Frag)(f:Str)(Q:VK)(x:V)(H1:Hp):Prop where
 | mk (a C dx fs v:_) (_:x=.ref a) (_:H1 a=some (.ins C dx fs)) (_:uq K C) (_:fq K C f) (_:fs.lookup f=some v) (_:Q v H1):MU K f Q x H1
def ZG (K:Frag)(ta:TE)(f:Str):TE:=fun σ H Q=>ta σ H fun x H1=>MU K f Q x H1
inductive MV (K:Frag)(f:Str)(D:Ends)(σ:St)(y:V)(x:V)(H2:Hp):Prop where
 | mk (a C dx fs:_) (_:x=.ref a) (_:H2 a=some (.ins C dx fs)) (_:uq K C) (_:fq K C f) (_:fs.length < 1000) (_:D.nx σ (upd H2 a (.ins C dx (dP f y fs)))):MV K f D σ y x H2
def ZH (K:Frag)(ta tv:TE)(f:Str):TS:=fun D σ H=>tv σ H fun y H1=>ta σ H1 fun x H2=>MV K f D σ y x H2
section
variable {X:Cx}{o e value:Expr}{f:Str}{pos pos' rN:Pos}{ta tv:TE}
theorem cC (he:PE X e ta)(hb:attributeBase e f X.env (eval e X.env)=eval e X.env):PE X (.Attribute e f pos) (ZG X.K ta f):=by
 intro pins s σ H Q I h
 refine Kl hb (bZ (he pins s σ H _ I h) fun u s1 ⟨x,H1,I1,rx,a,C,dx,fs,v,ex,ea,c,n,l,q⟩=>?_)
 subst ex
 obtain rfl:u=Value.ref a:=rx
 exact wB I1 ea c n l fun u' s2 I2 ru=>⟨v,H1,I2,ru,q⟩
theorem rO (ha:PE X o ta)(hv:PE X value tv)(hs:swapsWith value (some (.Attribute o f pos')) pos.line X.env=pure false):PS X (.Assign [.Attribute o f pos'] value pos) (ZH X.K ta tv f):=by
 intro pins s σ H D I h
 refine plainObj_wpAny_Assign_Attribute (bZ (hv pins s σ H _ I h) fun u s1 ⟨y,H1,I1,ry,q⟩=>bZ (ha pins s1 σ H1 _ I1 q) fun ov s2 ⟨x,H2,I2,rx,a,C,dx,fs,ex,ea,c,n,l,q2⟩=>?_) hs
 subst ex
 obtain rfl:ov=Value.ref a:=rx
 exact wC I2 ea c n l ry fun s3 I3=>⟨σ,_,I3,q2⟩
end
section
variable {X:Cx}{pins:ε}{σ:St}{H:Hp}{s:Shared}{A:Around}{E:δ}{Q:δ}{c:Value}{b:Bool}
inductive j9 (K:Frag)(H:Hp):V->Value->Prop where
 | cB:j9 K H .cB (.type "NoneType")
 | bl (x:Bool):j9 K H (.bl x) (.type "bool")
 | int (i:Int):j9 K H (.int i) (.type "int")
 | str (x:Str):j9 K H (.str x) (.type "str")
 | N_ (x:UInt64):j9 K H (.N_ x) (.type "float")
 | lst {a:Addr} {xs:ζ} (e:H a=some (.lst xs)):j9 K H (.ref a) (.type "list")
 | dA {a:Addr} {o:Obj} {xs:ζ} (e:H a=some (.dA o (.lst xs))):j9 K H (.ref a) (.type "list")
 | tup {a:Addr} {xs:ζ} (e:H a=some (.tup xs)):j9 K H (.ref a) (.type "tuple")
 | dK {a:Addr} {kvs:γ} (e:H a=some (.dK kvs)):j9 K H (.ref a) (.type "dict")
 | dT {a:Addr} {kvs:Ν} (e:H a=some (.dT kvs)):j9 K H (.ref a) (.type "dict")
 | ins {a C dx:Addr} {fs:List (Str×V)} (e:H a=some (.ins C dx fs)) (cl:uq K C) (ha:PySem.W.findIn K (.ref C) "__class__"=some (some (.builtin "object.__class__")))
   (hn:PySem.W.specialIn K (.builtin "object.__class__") "__get__"=some (some (.builtin "getset_descriptor.__get__"))) (htk:PySem.W.takesIn K (.builtin "object.__class__")=some true)
   (hm:PySem.W.mroIn K C (.type "object")=some true):j9 K H (.ref a) (.ref C)
theorem zH {x:V}{u t:Value}(I:Inv X pins σ H s)(rx:RelV x u)(ty:j9 X.K H x t)(e:PySem.W.kitOne X.K t c=some b)(h:∀tk,Q (.bool b) {s with toks:=tk}):
  wpAny (model X.prog X.w) A (call (.builtin "isinstance") [u,c]) Q E s:=by
 cases ty with
 | cB=>cases (show u=Value.none from rx);exact PySem.W.kia_one PySem.W.kitx_none I.iZ True.intro e (fun z=>nomatch z) h
 | bl y=>cases (show u=Value.bool y from rx);exact PySem.W.kia_one PySem.W.kitx_bool I.iZ True.intro e (fun z=>nomatch z) h
 | int i=>obtain ⟨t,q⟩:=(show ∃t,u=Value.int i t from rx);cases q;exact PySem.W.kia_one PySem.W.kitx_int I.iZ True.intro e (fun z=>nomatch z) h
 | str y=>obtain ⟨t,q⟩:=(show ∃t,u=Value.str y t from rx);cases q;exact PySem.W.kia_one PySem.W.kitx_str I.iZ True.intro e (fun z=>nomatch z) h
 | N_ y=>obtain ⟨t,q⟩:=(show ∃t,u=Value.float y t from rx);cases q;exact PySem.W.kia_one PySem.W.kitx_float I.iZ True.intro e (fun z=>nomatch z) h
 | @lst a xs ea=>
  cases (show u=Value.ref a from rx)
  obtain ⟨_,_,n,_,h1⟩:=(show cE X.prog X.w H s.heap a (.lst xs) from I.bK a _ ea)
  exact PySem.W.kia_one PySem.W.kitx_list I.iZ ⟨_,h1,rfl⟩ e (fun z=>nomatch z) h
 | @dA a ob xs ea=>
  cases (show u=Value.ref a from rx)
  obtain ⟨_,_,_,n,_,h1⟩:=(show cE X.prog X.w H s.heap a (.dA ob (.lst xs)) from I.bK a _ ea)
  exact PySem.W.kia_one PySem.W.kitx_list I.iZ ⟨_,h1,rfl⟩ e (fun z=>nomatch z) h
 | @tup a xs ea=>
  cases (show u=Value.ref a from rx)
  obtain ⟨_,_,_,p⟩:=(show cE X.prog X.w H s.heap a (.tup xs) from I.bK a _ ea)
  obtain ⟨o,h1,h2,_⟩:=p
  exact PySem.W.kia_one PySem.W.kitx_tuple I.iZ ⟨o,h1,h2⟩ e (fun z=>nomatch z) h
 | @dK a kvs ea=>
  cases (show u=Value.ref a from rx)
  obtain ⟨_,_,vs,_,p⟩:=(show cE X.prog X.w H s.heap a (.dK kvs) from I.bK a _ ea)
  obtain ⟨o,es,ep,h1,h2,_⟩:=p
  exact PySem.W.kia_one PySem.W.kitx_dict I.iZ ⟨o,h1,h2.1⟩ e (fun z=>nomatch z) h
 | @dT a kvs ea=>
  cases (show u=Value.ref a from rx)
  obtain ⟨_,_,xs,_,o,es,ep,h1,h2,_⟩:=(show cE X.prog X.w H s.heap a (.dT kvs) from I.bK a _ ea)
  exact PySem.W.kia_one PySem.W.kitx_dict I.iZ ⟨o,h1,h2.1⟩ e (fun z=>nomatch z) h
 | @ins a C dx fs ea cl ha hn htk hm=>
  cases (show u=Value.ref a from rx)
  obtain ⟨mA,O,_⟩:=mL I.bK ea
  obtain ⟨od,J,_⟩:=O.look
  exact PySem.W.kia_one (PySem.W.kitx_own (cl.get _) cl.hd ha hn htk hm) I.iZ J e (fun z=>nomatch z) h
end
end L2
namespace L2
open PySem PySem.Spec PyProof.Rows
structure cD (k:Nat)(A:Around):Prop where
 hd:A.handled=none
 dp:A.depth+3*k+5 < recursionLimit
 un:A.units+16*k+200 < cLine
theorem cD.mono {j k:Nat}{A:Around}(r:cD k A)(h:j<=k):cD j A:=⟨r.hd,by have:=r.dp;omega,by have:=r.un;omega⟩
theorem cD.deeper {k:Nat}{A:Around}(r:cD (k+1) A)(env:Env):cD k (A.deeper env):=
 ⟨r.hd,by have:=r.dp;show A.depth+1+3*k+5 < _;omega,by have:=r.un;show A.units+3+16*k+200 < _;omega⟩
theorem wD {A:Around}{C:Addr}{us:ο}{kw:Υ}:(A.under (.builtin "type.__call__" ⟨.ref C::us,kw⟩)).depth=A.depth+1:=by
 first | rfl | simp [Around.under,Code.weight,Code.isCreation,Code.isGuard,Code.isCaller,Code.frames,Code.isFrame,guardIds]
theorem wG {A:Around}{C:Addr}{us:ο}{kw:Υ}:(A.under (.builtin "type.__call__" ⟨.ref C::us,kw⟩)).units=A.units+1:=by
 first | rfl | simp [Around.under,Code.cUnits,Code.frames,Code.isFrame]
theorem cD.make {k:Nat}{A:Around}(r:cD (k+1) A)(C:Addr)(us:ο)(kw:Υ):cD k (A.under (.builtin "type.__call__" ⟨.ref C::us,kw⟩)):=
 ⟨r.hd,by have:=r.dp;rw [wD];omega,by have:=r.un;rw [wG];omega⟩
theorem cD.depth {k:Nat}{A:Around}(r:cD k A):A.depth < recursionLimit:=by have:=r.dp;omega
theorem cD.units {k:Nat}{A:Around}(r:cD k A):A.units+64 < cLine:=by have:=r.un;omega
def dQ:TA:=fun _ H Q=>Q [] H
def MX (ta:TE)(tr:TA):TA:=fun σ H Q=>ta σ H fun x H1=>tr σ H1 fun xs H2=>Q (x::xs) H2
section
variable {X:Cx}{e:Expr}{es:ψ}{te:TE}{t:TA}{pos:Pos}
theorem aa:PA X [] dQ:=fun _ _ _ _ H Q I h=>Calls.spliced_nil ⟨[],H,I,.nil,h⟩
theorem Km (ha:PE X e te)(hr:PA X es t)(hs:starEach (e::es) X.env=(false,eval e X.env)::starEach es X.env:=by rfl):PA X (e::es) (MX te t):=by
 intro pos pins s σ H Q I h
 rw [hs]
 show wpAny _ _ (spliced ((false,eval e X.env)::backTo pos (starEach es X.env))) _ _ s
 refine Calls.spliced_cons (bZ (ha pins s σ H _ I h) fun u s1 ⟨x,H1,I1,r1,q1⟩=>?_)
 exact bZ (hr pos pins s1 σ H1 _ I1 q1) fun us s2 ⟨xs,H2,I2,r2,q2⟩=>⟨x::xs,H2,I2,.cons r1 r2,q2⟩
def ZI (t:TA):TE:=fun σ H Q=>t σ H fun xs H1=>xs.length<=sizeLine/\∀p,H1 p=none->Q (.ref p) (upd H1 p (.tup xs))
def ZJ (t:TA):TE:=fun σ H Q=>t σ H fun xs H1=>xs.length<=sizeLine/\∀p,H1 p=none->Q (.ref p) (upd H1 p (.lst xs))
theorem aV {x1}(h:PA X es t):PE X (.Tuple es x1 pos) (ZI t):=by
 intro pins s σ H Q I hq
 refine wpAny_Tuple_spliced (bZ (h pos pins s σ H _ I hq) fun us s1 ⟨xs,H1,I1,r,z,q⟩=>⟨by rw [<- r.length];exact z,?_⟩)
 have hf:H1 s1.heap.objs.size=none:=I1.bK.fresh (aaf _)
 refine ⟨.ref s1.heap.objs.size,upd H1 s1.heap.objs.size (.tup xs),I1.laid (t' :=s1.toks) (fun b u e=>Heap.get?_push_of_some _ e) (aaf _) ?_,rfl,q _ hf⟩
 exact ⟨z,us,r,⟨_,Heap.get?_push_size _ rfl,rfl,_,rfl⟩⟩
theorem c_ (h:PA X es t):PE X (.List es pos) (ZJ t):=by
 intro pins s σ H Q I hq
 refine wpAny_List_spliced (bZ (h pos pins s σ H _ I hq) fun us s1 ⟨xs,H1,I1,r,z,q⟩=>⟨by rw [<- r.length];exact z,?_⟩)
 have hf:H1 s1.heap.objs.size=none:=I1.bK.fresh (aaf _)
 refine ⟨.ref s1.heap.objs.size,upd H1 s1.heap.objs.size (.lst xs),I1.laid (t' :=s1.toks) (fun b u e=>Heap.get?_push_of_some _ e) (aaf _) ?_,rfl,q _ hf⟩
 exact ⟨z,us,0,r,Heap.get?_push_size _ rfl⟩
end
abbrev Sp:=List V->Hp->VK->XK->Prop
abbrev j6:=List Env->Hp->Shared->XK->Value->Shared->Prop
structure wH (P:Program)(w:World)(K:Frag)(mg:ι)(base:Heap)(A:Around)(outer:List Env)(s:Shared)(H:Hp):Prop where
 frames:A.frames=some outer
 mod:Mod K mg base
 bs:∀b o,base.get? b=some o->s.heap.get? b=some o/\H b=none
 Kd:base.objs.size<=s.heap.objs.size
 mh:s.heap.FunFrames base outer
 Oc:∀b∈ya outer,H b=none
 bK:iQ P w H s.heap
 bare:AllBare s.gens
def CE (outer:List Env)(P:Program)(w:World)(H:Hp)(s:Shared)(Q:VK)(u:Value)(s' :Shared):Prop:=
 ∃v H',s'.os=s.os/\AllBare s'.gens/\Un (ya outer) [] H H' s.heap s'.heap/\iQ P w H' s'.heap/\RelV v u/\Q v H'
def CR (CX:j6)(outer:List Env)(P:Program)(w:World)(H:Hp)(s:Shared)(Q:VK)(E:XK)(r:Result)(s' :Shared):Prop:=
 match r with
 | .ok (.ret u)=>CE outer P w H s Q u s'
 | .ok _=>False
 | .error e=>CX outer H s E e s'
structure cI (P:Program)(w:World)(K:Frag)(mg:ι)(base:Heap)(CX:j6)(k:Nat)(f:Addr)(fd:FuncData)(ps:ρ)(sp:Sp):Prop where
 len:∀vs H Q E,sp vs H Q E->vs.length=ps.length
 run:∀(A:Around) (outer:List Env) (s:Shared) (H:Hp) (args:Args) (us:ο) (vs:ζ) (Q:VK) (E:XK),cD k A->wH P w K mg base A outer s H->BindsTo s fd args (ps.zip us)->Vals vs us->sp vs H Q E->
  codeAny (model P w) A (.call (.ref f) args) (CR CX outer P w H s Q E) s
theorem cI.mono {P:Program}{w:World}{K:Frag}{mg:ι}{base:Heap}{CX:j6}{j k:Nat}{f:Addr}{fd:FuncData}{ps:ρ}{sp:Sp}(F:cI P w K mg base CX j f fd ps sp)(h:j<=k):
  cI P w K mg base CX k f fd ps sp:=⟨F.len,fun A outer s H args us vs Q E hr=>F.run A outer s H args us vs Q E (hr.mono h)⟩
theorem cI.imp {P:Program}{w:World}{K:Frag}{mg:ι}{base:Heap}{CX:j6}{k:Nat}{f:Addr}{fd:FuncData}{ps:ρ}{sp sp' :Sp}(F:cI P w K mg base CX k f fd ps sp)
  (h:∀vs H Q E,sp' vs H Q E->sp vs H Q E):cI P w K mg base CX k f fd ps sp' :=
 ⟨fun vs H Q E q=>F.len vs H Q E (h _ _ _ _ q),fun A outer s H args us vs Q E hr he hb hv hs=>F.run A outer s H args us vs Q E hr he hb hv (h _ _ _ _ hs)⟩
theorem wH.make {P:Program}{w:World}{K:Frag}{mg:ι}{base:Heap}{A:Around}{outer:List Env}{s:Shared}{H:Hp}(e:wH P w K mg base A outer s H)(C:Addr)(us:ο)(kw:Υ):
  wH P w K mg base (A.under (.builtin "type.__call__" ⟨.ref C::us,kw⟩)) outer s H:=⟨by first | exact e.frames | (simpa [Around.under,Code.envs,Code.isFrame,pushEnvs] using e.frames),e.mod,e.bs,e.Kd,e.mh,e.Oc,e.bK,e.bare⟩
section
variable {X:Cx}{pins:ε}{σ:St}{H:Hp}{s s' :Shared}
theorem Inv.RX (I:Inv X pins σ H s):wH X.prog X.w X.K X.mg X.base X.A X.stack s H:=
 ⟨I.ok.frames,I.ok.mod,I.bs,aai I.ok.Kd I.sz,I.stack,I.yd,I.bK,I.bare⟩
theorem Inv.after {Q:VK}{u:Value}(I:Inv X pins σ H s)(h:CE X.stack X.prog X.w H s Q u s'):EP X pins σ Q u s' :=by
 obtain ⟨v,H',os,bare,un,bK,r,q⟩:=h
 obtain ⟨hh,g,d,t,os'⟩:=s'
 obtain rfl:os' =s.os:=os
 exact ⟨v,H',I.call (h' :=hh) (g' :=g) (d' :=d) (t' :=t) (ch:=[]) un bK bare (fun b z=>absurd z (by simp)),r,q⟩
end
def MY (sp:Sp)(dvs:ζ)(E:XK)(t:TA):TE:=fun σ H Q=>t σ H fun vs H1=>sp (vs++dvs) H1 Q E
def MZ (C:Addr)(sp:Sp)(dvs:ζ)(E:XK)(t:TA):TE:=fun σ H Q=>t σ H fun vs H1=>∀x dx,H1 x=none->H1 dx=none->dx≠x->
 sp (.ref x::(vs++dvs)) (upd (upd H1 dx (.own x)) x (.ins C dx [])) (fun v H2=>v=.cB/\Q (.ref x) H2) E
def Binds (K:Frag)(fd:FuncData)(ps:ρ)(ds:ο):Prop:=
 ∀(s:Shared) (us:ο),K.In s.heap->(us++ds).length=ps.length->BindsTo s fd ⟨us,[]⟩ (ps.zip (us++ds))
theorem Binds.all {K:Frag}{fd:FuncData}{ps:ρ}(h:∀us:List Value,us.length=ps.length->bindArgs fd ⟨us,[]⟩=pure (ps.zip us)):Binds K fd ps []:=fun s us _ hl=>by
 rw [ahS] at hl ⊢
 exact .of_eq (h us hl)
def Passes (CX:j6)(X:Cx)(E:XK):Prop:=∀(pins:ε) (σ:St) (H:Hp) (s:Shared) (e:Value) (s' :Shared),Inv X pins σ H s->CX X.stack H s E e s' ->X.xe e s'
section
variable {X:Cx}{CX:j6}{k:Nat}{f C:Addr}{fd:FuncData}{ps:ρ}{sp:Sp}{dvs:ζ}{ds:ο}{E:XK}{x m:Str}{p pos apos:Pos}{e o:Expr}{es:ψ}{ta:TE}{t:TA}
theorem rP {pins:ε}{σ:St}{H:Hp}{s:Shared}{Q:VK}{us:ο}{vs:ζ}(F:cI X.prog X.w X.K X.mg X.base CX k f fd ps sp)(hr:cD k X.A)(hb:Binds X.K fd ps ds)(hd:Vals dvs ds)(hx:Passes CX X E)
  (I:Inv X pins σ H s) (r:Vals vs us) (h:sp (vs++dvs) H Q E):wpAny (model X.prog X.w) X.A (call (.ref f) us) (EP X pins σ Q) X.xe s:=by
 have r2:Vals (vs++dvs) (us++ds):=r.append hd
 have hl:(us++ds).length=ps.length:=by rw [<- r2.length];exact F.len _ _ _ _ h
 refine wpAny_call (codeAny_mono (F.run X.A X.stack s H ⟨us,[]⟩ (us++ds) (vs++dvs) Q E hr I.RX (hb s us I.iZ hl) r2 h) fun r s' hq=>?_)
 cases r with
 | error e=>exact hx pins σ H s e s' I hq
 | ok fl=>
  cases fl with
  | ret u=>exact I.after hq
  | next=>exact False.elim hq
  | brk=>exact False.elim hq
  | cont=>exact False.elim hq
theorem Kn (F:cI X.prog X.w X.K X.mg X.base CX k f fd ps sp)(hr:cD k X.A)(hg:Gl X x)(hm:X.mg x=some (.ref f))(hk:keepIn X.K (.ref f)=true)(hb:Binds X.K fd ps ds)(hd:Vals dvs ds)(hx:Passes CX X E)
  (ha:PA X (e::es) t) (zI:(x==("__debug__":Str))=false:=by decide) (he:starEach (e::es) X.env=(false,eval e X.env)::starEach es X.env:=by rfl) (yl:(backTo pos (starEach es X.env)).any (·.1)=false:=by rfl):
  PE X (.Call (.Name x p) (e::es) [] pos) (MY sp dvs E t):=by
 intro pins s σ H Q I h
 refine wpAny_Call_Name_kw (jo I hg hm ?_ zI)
 refine PySem.W.callWith_K (h₀:=X.base) I.ok.mod.QR hk (bZ (ha pos pins s σ H _ I h) fun us s1 ⟨vs,H1,I1,r,q⟩=>⟨I1.iZ,?_⟩) he yl
 exact rP F hr hb hd hx I1 r q
structure Mk (K:Frag)(C f:Addr):Prop where
 makes:PySem.W.makesIn K C=true
 init:PySem.W.findIn K (.ref C) "__init__"=some (some (.ref f))
 fn:PySem.W.isFn K (.ref f)=true
 kp:keepIn K (.ref C)=true
theorem ur {pins:ε}{σ:St}{H:Hp}{s:Shared}{Q:VK}{us:ο}{vs:ζ}(M:Mk X.K C f)(F:cI X.prog X.w X.K X.mg X.base CX k f fd ps sp)(hr:cD (k+1) X.A)(hb:Binds X.K fd ps ds)(hd:Vals dvs ds)
  (hx:Passes CX X E) (I:Inv X pins σ H s) (r:Vals vs us)
  (h:∀x dx,H x=none->H dx=none->dx≠x->sp (.ref x::(vs++dvs)) (upd (upd H dx (.own x)) x (.ins C dx [])) (fun v H2=>v=.cB/\Q (.ref x) H2) E):
  wpAny (model X.prog X.w) X.A (call (.ref C) us) (EP X pins σ Q) X.xe s:=by
 have hq:=h (s.heap.objs.size+1) s.heap.objs.size (I.bK.fresh (ah8 _)) (I.bK.fresh (aaf _)) (aa1 (aba _))
 have I2:=Inv.made (C:=C) I
 have r2:Vals (V.ref (s.heap.objs.size+1)::(vs++dvs)) (Value.ref (s.heap.objs.size+1)::(us++ds)):=.cons rfl (r.append hd)
 have hl:(Value.ref (s.heap.objs.size+1)::us++ds).length=ps.length:=by
  have e:=r2.length
  rw [F.len _ _ _ _ hq] at e
  exact e.symm
 refine wpAny_call (EN (f:=f) I.iZ M.makes M.init (beq_iff_eq.mp M.fn) (codeAny_mono (F.run _ X.stack _ _ ⟨Value.ref (s.heap.objs.size+1)::us,[]⟩ (Value.ref (s.heap.objs.size+1)::(us++ds)) _ _ E (hr.make C us [])
  (I2.RX.make C us []) (hb _ (Value.ref (s.heap.objs.size+1)::us) I2.iZ hl) r2 hq) fun r s' g7 =>?_))
 cases r with
 | error e=>exact hx pins σ _ _ e s' I2 g7
 | ok fl=>
  cases fl with
  | ret u=>
   obtain ⟨v,H',I3,rv,ev,q3⟩:=I2.after g7
   subst ev
   exact ⟨rv,⟨V.ref (s.heap.objs.size+1),H',I3,rfl,q3⟩⟩
  | next=>exact False.elim g7
  | brk=>exact False.elim g7
  | cont=>exact False.elim g7
theorem ym (M:Mk X.K C f)(F:cI X.prog X.w X.K X.mg X.base CX k f fd ps sp)(hr:cD (k+1) X.A)(hg:Gl X x)(hm:X.mg x=some (.ref C))(hb:Binds X.K fd ps ds)(hd:Vals dvs ds)(hx:Passes CX X E)
  (ha:PA X (e::es) t) (zI:(x==("__debug__":Str))=false:=by decide) (he:starEach (e::es) X.env=(false,eval e X.env)::starEach es X.env:=by rfl) (yl:(backTo pos (starEach es X.env)).any (·.1)=false:=by rfl):
  PE X (.Call (.Name x p) (e::es) [] pos) (MZ C sp dvs E t):=by
 intro pins s σ H Q I h
 refine wpAny_Call_Name_kw (jo I hg hm ?_ zI)
 refine PySem.W.callWith_K (h₀:=X.base) I.ok.mod.QR M.kp (bZ (ha pos pins s σ H _ I h) fun us s1 ⟨vs,H1,I1,r,q⟩=>⟨I1.iZ,?_⟩) he yl
 exact ur M F hr hb hd hx I1 r q
theorem EO (M:Mk X.K C f)(F:cI X.prog X.w X.K X.mg X.base CX k f fd ps sp)(hr:cD (k+1) X.A)(hg:Gl X x)(hm:X.mg x=some (.ref C))(hb:Binds X.K fd ps ds)(hd:Vals dvs ds)(hx:Passes CX X E)
  (zI:(x==("__debug__":Str))=false:=by decide):PE X (.Call (.Name x p) [] [] pos) (MZ C sp dvs E dQ):=by
 intro pins s σ H Q I h
 refine wpAny_Call_Name_kw (jo I hg hm ?_ zI)
 exact PySem.W.callWith_K0 I.iZ M.kp (ur (us:=[]) M F hr hb hd hx I .nil h)
end
section
variable {X:Cx}{CX:j6}{k:Nat}{f C:Addr}{fd:FuncData}{ps ks:ρ}{sp:Sp}{E:XK}{x m:Str}{p pos apos ap2:Pos}{e o:Expr}{es:ψ}{kws:List Keyword}{te ta:TE}{t tk:TA}{nm:Option Str}
variable {g:List Value->List Value->List Value}{gV:List V->List V->List V}
end
structure aF (N P:ρ)(sc:Scope):Prop where
 kind:sc.kind=.function
 co:sc.isCoroutine=false
 gen:sc.isGenerator=false
 nd:N.Nodup
 pre:N.take P.length=P
 par:∀x∈P,sc.names.lookup x=some .local\/sc.names.lookup x=some .cell
 Ox:∀y∈sc.names,y.2≠.free
theorem qI {kindOf:Str->Option NameKind}{x:Str}:∀{binds:Υ} {m:ι},(∀v,(x,v)∉binds)->bindL kindOf binds m x=m x
 | [],_,_=>rfl
 | (n,v)::r,m,h=>by
  unfold bindL
  rw [qI fun w hw=>h w (aae _ hw)]
  split
  ·have:x≠n:=by rintro rfl;exact h v aap
   simp [this]
  ·rfl
theorem qJ {kindOf:Str->Option NameKind}{x:Str}:∀{binds:Υ} {m:ι},(∀v,(x,v)∉binds)->bindC kindOf binds m x=m x
 | [],_,_=>rfl
 | (n,v)::r,m,h=>by
  unfold bindC
  rw [qJ fun w hw=>h w (aae _ hw)]
  split
  ·rfl
  ·have:x≠n:=by rintro rfl;exact h v aap
   simp [this]
theorem qK {kindOf:Str->Option NameKind}{x:Str}{v:Value}:∀{P:ρ} {vs:ο} {i:Nat} {m:ι},P.Nodup->P[i]? =some x->vs[i]? =some v->kindOf x=some .local->
  bindL kindOf (P.zip vs) m x=some v
 | [],_,_,_,_,h,_,_=>by simp at h
 | _::_,[],_,_,_,_,h,_=>by simp at h
 | p::P,w::vs,0,m,nd,h1,h2,hk=>by
  simp at h1 h2;subst h1;subst h2
  show bindL kindOf ((p,w)::P.zip vs) m p=_
  unfold bindL
  rw [qI fun v hv=>(aaX.mp nd).1 (aim hv).1,if_pos hk]
  simp
 | p::P,w::vs,i+1,m,nd,h1,h2,hk=>by
  show bindL kindOf ((p,w)::P.zip vs) m x=_
  unfold bindL
  exact qK (i:=i) (aaX.mp nd).2 (by simpa using h1) (by simpa using h2) hk
theorem qL {kindOf:Str->Option NameKind}{x:Str}{v:Value}:∀{P:ρ} {vs:ο} {i:Nat} {m:ι},P.Nodup->P[i]? =some x->vs[i]? =some v->kindOf x≠some .local->
  bindC kindOf (P.zip vs) m x=some v
 | [],_,_,_,_,h,_,_=>by simp at h
 | _::_,[],_,_,_,_,h,_=>by simp at h
 | p::P,w::vs,0,m,nd,h1,h2,hk=>by
  simp at h1 h2;subst h1;subst h2
  show bindC kindOf ((p,w)::P.zip vs) m p=_
  unfold bindC
  rw [qJ fun v hv=>(aaX.mp nd).1 (aim hv).1,if_neg hk]
  simp
 | p::P,w::vs,i+1,m,nd,h1,h2,hk=>by
  show bindC kindOf ((p,w)::P.zip vs) m x=_
  unfold bindC
  exact qL (i:=i) (aaX.mp nd).2 (by simpa using h1) (by simpa using h2) hk
def start (N:ρ)(vs:ζ):St:=vs.map some++aaJ (N.length - vs.length) none
def mi (CX:j6)(P:Program)(w:World)(K:Frag)(mg:ι)(base:Heap)(N:ρ)(qual:Str)(scope:Scope)(f:Addr)(cd:Value)(A:Around)(outer:List Env)(s:Shared)(H:Hp)(E:XK):Cx where
 prog:=P
 w:=w
 K:=K
 mg:=mg
 base:=base
 A:=A.deeper (envOfC qual scope s.heap.objs.size f cd)
 N:=N
 s₀:=s
 H₀:=H
 env:=envOfC qual scope s.heap.objs.size f cd
 outer:=outer
 stack:=envOfC qual scope s.heap.objs.size f cd::outer
 ex:=[]
 calm:=true
 fn:=fun _=>true
 pn:=[]
 xe:=fun e s' =>wpAny (model P w) (A.deeper (envOfC qual scope s.heap.objs.size f cd)) (leaving (envOfC qual scope s.heap.objs.size f cd) e) (fun _ RY =>CX outer H s E e RY) (fun e' RY =>CX outer H s E e' RY) s'
theorem uu {sc:Scope}{n:Nat}{x:Str}(h:sc.names.lookup x=some .cell):∃c,(cellsFrom n sc.names []).lookup x=some c:=by
 have q:=PySem.W.cellsFrom_some sc.names n [] (.inl h)
 exact ahv.mp q
theorem zJ {CX:j6}{P:Program}{w:World}{K:Frag}{mg:ι}{base:Heap}{N ps:ρ}{qual:Str}{scope:Scope}{f:Addr}{cd:Value}{A:Around}{outer:List Env}{s s1:Shared}{H:Hp}{E:XK}{us:ο}{vs:ζ}
  (S:aF N ps scope) (hd:A.handled=none) (e0:wH P w K mg base A outer s H) (hl:vs.length=ps.length) (r:Vals vs us)
  (x:InCallC s s.heap.objs.size (bindL (envOfC qual scope s.heap.objs.size f cd).kindOf (ps.zip us) fun _=>none) (cellsFrom (s.heap.objs.size+1) scope.names []) (bindC (envOfC qual scope s.heap.objs.size f cd).kindOf (ps.zip us) fun _=>none) s1):
  Inv (mi CX P w K mg base N qual scope f cd A outer s H E) [] (start N vs) H s1:=by
 have yl:ps.length<=N.length:=by have:=congrArg abO S.pre;rw [aa2] at this;omega
 obtain ⟨h1,tk,rfl,hk⟩:=x.done
 have R5:∀b:Addr,b∉(mi CX P w K mg base N qual scope f cd A outer s H E).ex:=fun b z=>absurd (show b∈([]:List Addr) from z) (by simp)
 refine ⟨⟨e0.mod,S.kind,rfl,rfl,aaf _,fun y z c h1 h2=>?_,fun y hy=>?_,fun y c _ h=>?_,fun _=>hd,Around.frames_deeper e0.frames,.inr ⟨rfl,rfl⟩,fun b z=>absurd z (R5 b),e0.bs,e0.Kd,fun b _ _=>R5 b,fun b z=>absurd z (R5 b),e0.mh,e0.Oc⟩,
  rfl,e0.bare,Un.kept hk,⟨_,x.toInCall.ns,fun i y v h1 h2 h3=>?_⟩,fun y c h=>⟨_,x.cell y c h⟩,e0.bK.fresh (aaf _),fun y c h=>?_,fun p hp=>absurd (show p∈([]:List (Addr×Obj)) from hp) (by simp),e0.bK.kept hk,?_⟩
 ·exact name_of_addr x.apart (PySem.mem_of_lookup h1) (PySem.mem_of_lookup h2)
 ·have hy:scope.names.lookup y=some .cell\/scope.names.lookup y=some .free:=hy
  rcases hy with hy | hy
  ·exact uu hy
  ·exact absurd rfl (S.Ox _ (PySem.mem_of_lookup hy))
 ·exact abA (x.above y c (PySem.mem_of_lookup h))
 ·have hi:i < vs.length:=by
   unfold start at h2
   by_cases hi:i < vs.length
   ·exact hi
   ·rw [aaY (by simpa using hi)] at h2
    rw [ad_] at h2
    split at h2 <;> cases h2
  have ha:vs[i]? =some v:=by
   unfold start at h2
   rw [aaD (by simpa using hi),Wp] at h2
   cases e:vs[i]? with
   | none=>rw [e] at h2;cases h2
   | some a=>rw [e] at h2;cases h2;rfl
  obtain ⟨u,hu,rv⟩:=r.get ha
  have hp:ps[i]? =some y:=by
   rw [<- S.pre,aia (by omega)];exact h1
  have ndP:ps.Nodup:=by rw [<- S.pre];exact S.nd.sublist (List.take_sublist _ _)
  refine ⟨u,rv,?_⟩
  rcases S.par y (be hp) with k | k
  ·exact .inl ⟨k,qK ndP hp hu k⟩
  ·obtain ⟨c,e⟩:=uu (n:=s.heap.objs.size+1) k
   refine .inr ⟨.inl k,c,e,?_⟩
   have q:=x.cell y c e
   rw [qL ndP hp hu (by show scope.names.lookup y≠_;rw [k];decide)] at q
   exact q
 ·exact e0.bK.fresh (abA (x.above y c (PySem.mem_of_lookup h)))
 ·unfold start
  show _=N.length
  rw [aat,aab,ahI]
  omega
theorem yn {CX:j6}{P:Program}{w:World}{K:Frag}{mg:ι}{base:Heap}{k:Nat}{f:Addr}{name qual:Str}{params:Arguments}{body:List Stmt}{scope:Scope}{dV kV doc pm bM ct oc:Value}{an od:Θ}
  {pJ:Κ} {N ps:ρ} {sp:Sp} (lk:K.lookup f=some ⟨oc,od,.func (fnOf name qual params body scope dV kV doc pm an bM ct),pJ⟩) (pU:codeIn K bM qual=true) (S:aF N ps scope)
  (len:∀vs H Q E,sp vs H Q E->vs.length=ps.length)
  (js:∀(A:Around) (outer:List Env) (s:Shared) (H:Hp) (vs:ζ) (Q:VK) (E:XK),cD k (A.deeper (envOfC qual scope s.heap.objs.size f bM))->sp vs H Q E->
   ∃t,PSs (mi CX P w K mg base N qual scope f bM A outer s H E) body t/\t {nx:=fun _ H' =>Q .cB H',rt:=Q} (start N vs) H):
  cI P w K mg base CX (k+1) f (fnOf name qual params body scope dV kV doc pm an bM ct) ps sp:=by
 refine ⟨len,fun A outer s H args us vs Q E hr e0 hb r pZ=>?_⟩
 have hl:=len _ _ _ _ pZ
 have KX:K.In s.heap:=e0.mod.QR.keeps fun b o e=>(e0.bs b o e).1
 have lim:s.heap.NoLimit:=e0.mod.nolimit.keeps fun b o e=>(e0.bs b o e).1
 have R7:∀y∈ps.zip us,scope.names.lookup y.1=some .local\/(scope.names.lookup y.1=some .cell/\((cellsFrom (s.heap.objs.size+1) scope.names []).lookup y.1).isSome=true):=fun ⟨n,v⟩ hy=>by
  rcases S.par n (aim hy).1 with q | q
  ·exact .inl q
  ·exact .inr ⟨q,PySem.W.cellsFrom_some _ _ _ (.inl q)⟩
 refine codeAny_call_function hr.depth (KX _ _ lk) rfl S.co S.gen rfl (PySem.W.codeRec_of KX pU) (hb _ _ _ _ ?_)
 refine wpAny_newFunctionEnv_cells S.kind R7 fun env he s1 x=>?_
 subst he
 refine ⟨lim.keeps x.toInCall.keep,codeAny_func ?_⟩
 obtain ⟨t,ht,hq⟩:=js A outer s H vs Q E (hr.deeper _) pZ
 have I:Inv (mi CX P w K mg base N qual scope f bM A outer s H E) [] (start N vs) H s1:=zJ S hr.hd e0 hl r x
 refine wpAny_mono (ht [] s1 (start N vs) H _ I hq) (fun fl s' hs=>?_) fun e s' hs=>hs
 have fin:∀{σ' :St} {H' :Hp} {v:V} {u:Value},Inv (mi CX P w K mg base N qual scope f bM A outer s H E) [] σ' H' s' ->RelV v u->Q v H' ->CE outer P w H s Q u s' :=
  fun {σ' H' v u} J rv q=>⟨v,H',J.os,J.bare,J.base,J.bK,rv,q⟩
 cases fl with
 | ret u=>
  obtain ⟨v,σ',H',J,rv,q⟩:=hs
  exact fin J rv q
 | next=>
  obtain ⟨σ',H',J,q⟩:=hs
  exact fin (v:=V.cB) (u:=Value.none) J rfl q
 | brk=>
  obtain ⟨_,_,_,q⟩:=hs
  exact False.elim q
 | cont=>
  obtain ⟨_,_,_,q⟩:=hs
  exact False.elim q
end L2
namespace L2
open PySem PySem.Spec PyProof.Rows
section
variable {X:Cx}{x:Str}{p pos:Pos}{e:Expr}{es:ψ}{t:TA}{id T:String}{r:List V->Hp->VK->Prop}
def tCB (r:List V->Hp->VK->Prop)(t:TA):TE:=fun σ H Q=>t σ H fun vs H1=>r vs H1 Q
theorem aI (hc:fg X (.builtin id) r)(hg:Gl X x)(hm:X.mg x=none)(hv:bootBuiltins x=some (.builtin id))(ha:PA X (e::es) t)(hn:x≠ "__name__":=by decide)(zI:(x==("__debug__":Str))=false:=by decide)
  (he:starEach (e::es) X.env=(false,eval e X.env)::starEach es X.env:=by rfl) (yl:(backTo pos (starEach es X.env)).any (·.1)=false:=by rfl):PE X (.Call (.Name x p) (e::es) [] pos) (tCB r t):=by
 intro pins s σ H Q I h
 refine wpAny_Call_Name_kw (fQ I hg hm hv ?_ hn zI)
 exact PyProof.Rows.callWith_builtin1 (bZ (ha pos pins s σ H _ I h) fun us s1 ⟨vs,H1,I1,r1,q1⟩=>hc pins s1 σ H1 vs us Q I1 r1 q1) he yl
theorem b8 (hc:fg X (.type T) r)(hg:Gl X x)(hm:X.mg x=none)(hv:bootBuiltins x=some (.type T))(ha:PA X (e::es) t)(hn:x≠ "__name__":=by decide)(zI:(x==("__debug__":Str))=false:=by decide)
  (he:starEach (e::es) X.env=(false,eval e X.env)::starEach es X.env:=by rfl) (yl:(backTo pos (starEach es X.env)).any (·.1)=false:=by rfl):PE X (.Call (.Name x p) (e::es) [] pos) (tCB r t):=by
 intro pins s σ H Q I h
 refine wpAny_Call_Name_kw (fQ I hg hm hv ?_ hn zI)
 exact PyProof.Rows.callWith_type1 (bZ (ha pos pins s σ H _ I h) fun us s1 ⟨vs,H1,I1,r1,q1⟩=>hc pins s1 σ H1 vs us Q I1 r1 q1) he yl
end
end L2
namespace HT
open PySem PyProof.Rows
section
open PySem.SeqAt
open PySem.AutoSeq1 (wpAny_loadPart')
open PySem.MeetsSeq PySem.MeetsSeq2 PySem.MeetsSeq3
end
section
variable {prog:Program}{w:World}{A:Around}{E:δ}{s:Shared}
theorem Ko {t b:Addr}{vs ws:ο}{Q:δ}(ht:IsTup s.heap t vs.toArray)(hb:IsTup s.heap b ws.toArray)(hv:vs≠[])
  (h1:ws=[]->Q (.ref t) s) (h2:ws≠[]->Q (.ref s.heap.objs.size) {s with heap:=s.heap.push {cls:=.type "tuple",data:=.seq (vs++ws).toArray}})
  (hsz:vs.length+ws.length<=sizeLine):wpAny (model prog w) A (binaryOp .Add (.ref t) (.ref b)) Q E s:=by
 obtain ⟨⟨cls,dd,data,sl⟩,ho,hc,n,hd⟩:=id ht
 obtain ⟨⟨ap3,R8,data2,sl2⟩,QU,Oy,n2,hd2⟩:=id hb
 simp only at hc hd Oy hd2
 subst hc hd Oy hd2
 have e:vs.toArray++ws.toArray=(vs++ws).toArray:=by simp
 by_cases hw:ws=[]
 ·exact concat_meets ⟨_,ho,rfl⟩ ⟨_,QU,rfl⟩ noFill_tuple_add seq_tuple_add PySem.F.slot_tuple_add PySem.F.entry_tuple_add (PySem.F.args_tuple_add_2 _ _)
   (tuple_addW1 t b vs.toArray ws.toArray n n2 dd R8 sl sl2 (by simpa using hv) (by simp [hw])) ⟨ho,QU,h1 hw⟩
 ·refine concat_meets ⟨_,ho,rfl⟩ ⟨_,QU,rfl⟩ noFill_tuple_add seq_tuple_add PySem.F.slot_tuple_add PySem.F.entry_tuple_add (PySem.F.args_tuple_add_2 _ _)
   (tuple_addW2 t b vs.toArray ws.toArray n n2 dd R8 sl sl2 (by simpa using hv) (by simpa using hw) (by rw [aaF,aaF];exact hsz)) ⟨ho,QU,?_⟩
  rw [e]
  exact h2 hw
def dR (n d:Nat):Option Int->Nat
 | none=>d
 | some v=>if v < 0 then (v+(n:Int)).toNat else min v.toNat n
theorem uv (n d:Nat):dR n d none=d:=rfl
theorem mM (n d k:Nat):dR n d (some (k:Int))=min k n:=by
 show (if (k:Int) < 0 then ((k:Int)+(n:Int)).toNat else min (k:Int).toNat n)=min k n
 rw [if_neg (by omega),aiF]
theorem Oz (n d:Nat)(hd:d<=n)(o:Ξ):dR n d o<=n:=by
 cases o with
 | none=>exact hd
 | some v=>
  show (if v < 0 then (v+(n:Int)).toNat else min v.toNat n)<=n
  by_cases hv:v < 0
  ·rw [if_pos hv];omega
  ·rw [if_neg hv];exact Nat.min_le_right _ _
theorem yo (v:Int)(n d:Nat):(if v < 0 then max (v+(n:Int)) 0 else min v (n:Int))=((dR n d (some v):Nat):Int):=by
 show (if v < 0 then max (v+(n:Int)) 0 else min v (n:Int))=(((if v < 0 then (v+(n:Int)).toNat else min v.toNat n):Nat):Int)
 by_cases hv:v < 0
 ·simp only [if_pos hv];omega
 ·simp only [if_neg hv];omega
theorem wI (lo hi:Ξ)(n:Nat):Builtin.Slice.sliceAdjust lo hi 1 (n:Int)=(((dR n 0 lo:Nat):Int),((dR n n hi:Nat):Int)):=by
 have h1:¬ ((1:Int) < 0):=by omega
 unfold Builtin.Slice.sliceAdjust
 simp only [h1,if_false]
 refine ahQ ?_ ?_
 ·cases lo with
  | none=>rfl
  | some v=>exact yo v n 0
 ·cases hi with
  | none=>rfl
  | some v=>exact yo v n n
theorem wJ (i j:Nat):Builtin.Slice.slicePlaces (i:Int) (j:Int) 1=j - i:=by
 unfold Builtin.Slice.slicePlaces
 have h1:(1:Int) > 0:=by omega
 simp only [h1,if_true,Int.ediv_one]
 split <;> omega
theorem nG {v:Value}{o:Ξ}{Q:Option Int->Shared->Prop}(p:IsPart v o)(h:Q o s):wpAny (model prog w) A (Builtin.Slice.slicePartIndex v) Q E s:=by
 cases p with
 | none=>exact slicePart_none h
 | int i t=>exact slicePart_int h
theorem j_ {sl:Addr}{vl vu:Value}{lo hi:Ξ}{n:Nat}{Q:Int×Int×Nat->Shared->Prop}(hs:s.heap.IsSliceOf sl vl vu .none)(pl:IsPart vl lo)(pu:IsPart vu hi)
  (h:Q (((dR n 0 lo:Nat):Int),1,dR n n hi - dR n 0 lo) s):wpAny (model prog w) A (Builtin.Slice.sliceApplied (.ref sl) (pure (n:Int))) Q E s:=by
 obtain ⟨os,R9,hcs,Ys⟩:=id hs
 unfold Builtin.Slice.sliceApplied Builtin.Slice.sliceFields
 refine wpAny_bind (wpAny_bind (wpAny_field R9 Ys (x:=vl) rfl (wpAny_bind (wpAny_field R9 Ys (x:=vu) rfl (wpAny_bind (wpAny_field R9 Ys (x:=.none) rfl (wpAny_pure ?_)))))))
 refine wpAny_bind (slicePart_none ?_)
 show wpAny _ _ (if ((1:Int)==0)=true then _ else _) _ _ s
 rw [if_neg (by decide)]
 refine wpAny_bind (nG pl (wpAny_bind (nG pu (wpAny_bind (wpAny_pure ?_)))))
 show wpAny _ _ (match Builtin.Slice.sliceAdjust lo hi 1 (n:Int) with | (lo,hi)=>pure (lo,(1:Int),Builtin.Slice.slicePlaces lo hi 1)) _ _ s
 rw [wI lo hi n]
 show wpAny _ _ (pure (((dR n 0 lo:Nat):Int),(1:Int),Builtin.Slice.slicePlaces ((dR n 0 lo:Nat):Int) ((dR n n hi:Nat):Int) 1)) _ _ s
 rw [wJ]
 exact wpAny_pure h
theorem ER (xs:Λ)(i k:Nat):((abl k).filterMap fun (m:Nat)=>xs[((i:Int)+(m:Int)*1).toNat]?).toArray=((xs.toList.drop i).take k).toArray:=by
 have e:(fun (m:Nat)=>xs[((i:Int)+(m:Int)*1).toNat]?)=fun m=>xs[i+m]? :=by
  funext m
  have:((i:Int)+(m:Int)*1).toNat=i+m:=by omega
  rw [this]
 rw [e]
 have:=pick_run xs i k
 rw [List.filterMap_map] at this
 have e2:((fun x=>xs[x]?) ∘ fun x=>i+x)=fun m=>xs[i+m]? :=rfl
 rw [e2] at this
 rw [this]
theorem jt {t sl:Addr}{items:Λ}{vl vu:Value}{lo hi:Ξ}{Q:δ}(ht:IsTup s.heap t items)(hs:s.heap.IsSliceOf sl vl vu .none)(pl:IsPart vl lo)(pu:IsPart vu hi)
  (hw:¬ (dR items.size 0 lo=0/\dR items.size items.size hi=items.size))
  (h:Q (.ref s.heap.objs.size) {s with heap:=s.heap.push {cls:=.type "tuple",data:=.seq ((items.toList.drop (dR items.size 0 lo)).take (dR items.size items.size hi - dR items.size 0 lo)).toArray}})
  (hsz:items.size<=sizeLine):wpAny (model prog w) A (getItem (.ref t) (.ref sl)) Q E s:=by
 have yp:sizeOk (.seq ((items.toList.drop (dR items.size 0 lo)).take (dR items.size items.size hi - dR items.size 0 lo)).toArray):=by
  show ((items.toList.drop (dR items.size 0 lo)).take (dR items.size items.size hi - dR items.size 0 lo)).toArray.size<=sizeLine
  rw [aaF,aa2,ahL,ahV]
  omega
 have hj:dR items.size items.size hi<=items.size:=Oz _ _ (aaf _) hi
 obtain ⟨os,R9,hcs,Ys⟩:=id hs
 have hTs:s.TypeIs (.ref sl) "slice":=⟨os,R9,hcs⟩
 unfold getItem
 try with_reducible refine wpAny_holding ?_
 first | refine wpAny_bind (wpAny_pure ?_) | skip
 refine wpAny_bind (wpAny_sequenceKey ht.typeIs (by decide) ?_)
 refine wpAny_bind (wpAny_callSpecial?_slot (name:=Str.ofString "__getitem__") ht.typeIs PyProof.Rows.slot_tuple_getitem
  (wpAny_call_entry PyProof.Rows.slot_tuple_getitem ht.typeIs entry_tuple_getitem ?_ (args_tuple_getitem _ _)))
 show wpAny _ _ (Builtin.Tuple.tupleItemsOf (.ref t) >>=_) _ _ s
 refine wpAny_bind (tupleItemsOf_ ht ?_)
 refine wpAny_bind (wpAny_typeOf hTs ?_)
 rw [if_pos (by decide)]
 refine wpAny_bind (j_ hs pl pu ?_)
 have OA:¬ ((((dR items.size 0 lo:Nat):Int)==0 && (1:Int)==1 && (dR items.size items.size hi - dR items.size 0 lo)==items.size)=true):=by
  intro q
  rw [abC,abC] at q
  have q1:((dR items.size 0 lo:Nat):Int)=0:=eq_of_beq q.1.1
  have q2:dR items.size items.size hi - dR items.size 0 lo=items.size:=eq_of_beq q.2
  exact hw ⟨by omega,by omega⟩
 show wpAny _ _ (if (((dR items.size 0 lo:Nat):Int)==0 && (1:Int)==1 && (dR items.size items.size hi - dR items.size 0 lo)==items.size)=true then _ else _) _ _ s
 rw [if_neg OA,ER]
 first
  | exact wpAny_bind (m:=Builtin.Tuple.tupleExact _) (wpAny_newObj_type (wpAny_pure ⟨_,rfl,wpAny_pure h⟩) yp)
  | exact wpAny_bind (m:=Builtin.Tuple.tupleExact _) (wpAny_newObj_type (wpAny_bind (wpAny_pure (wpAny_pure ⟨_,rfl,wpAny_pure h⟩))) yp)
  | exact wpAny_bind (wpAny_bind (m:=Builtin.Tuple.tupleExact _) (wpAny_newObj_type (wpAny_pure (wpAny_pure ⟨_,rfl,wpAny_pure h⟩)) yp))
  | exact wpAny_bind (wpAny_bind (m:=Builtin.Tuple.tupleExact _) (wpAny_newObj_type (wpAny_pure ⟨_,rfl,wpAny_pure h⟩) yp))
end
end HT
namespace L2
open PySem PySem.Spec PyProof.Rows
abbrev TO:=St->Hp->(Option Int->Hp->Prop)->Prop
def PO (X:Cx)(e:Option Expr)(t:TO):Prop:=
 ∀(pins:ε) (s:Shared) (σ:St) (H:Hp) (Q:Option Int->Hp->Prop),Inv X pins σ H s->t σ H Q->
  wpAny (model X.prog X.w) X.A (evalPart e X.env) (fun u s' =>∃o H',Inv X pins σ H' s' /\IsPart u o/\Q o H') X.xe s
def Kq:TO:=fun _ H Q=>Q none H
inductive ES (Q:(Option Int->Hp->Prop))(x:V)(H1:Hp):Prop where
 | mk (i:_) (_:x=.int i) (_:Q (some i) H1):ES Q x H1
def R_ (t:TE):TO:=fun σ H Q=>t σ H fun x H1=>ES Q x H1
section
variable {X:Cx}{e:Expr}{te:TE}{lo hi:Option Expr}{tl th:TO}{pos p2:Pos}
theorem ju:PO X none Kq:=by
 intro pins s σ H Q I h
 rw [evalPart_none]
 exact wpAny_pure ⟨none,H,I,.none,h⟩
theorem dS (h:PE X e te):PO X (some e) (R_ te):=by
 intro pins s σ H Q I hw
 rw [evalPart_some]
 refine bZ (h pins s σ H _ I hw) fun u s1 ⟨x,H1,I1,r1,q1⟩=>?_
 obtain ⟨i,rfl,q⟩:=q1
 obtain ⟨t,rfl⟩:=r1
 exact ⟨some i,H1,I1,.int i t,q⟩
def Sa (X:Cx)(r:V->Option Int->Option Int->Hp->VK->Prop):Prop:=
 ∀(pins:ε) (s:Shared) (σ:St) (H:Hp) (x:V) (v vl vu:Value) (lo hi:Ξ) (sl:Addr) (Q:VK),Inv X pins σ H s->RelV x v->s.heap.IsSliceOf sl vl vu .none->IsPart vl lo->IsPart vu hi->r x lo hi H Q->
  ∃T id,typeLookup (.type T) "__getitem__"=pure (some (.builtin id))/\s.TypeIs v T/\wpAny (model X.prog X.w) X.A (getItem v (.ref sl)) (EP X pins σ Q) X.xe s
def tSl (r:V->Option Int->Option Int->Hp->VK->Prop)(te:TE)(tl th:TO):TE:=fun σ H Q=>te σ H fun x H1=>tl σ H1 fun l H2=>th σ H2 fun u H3=>r x l u H3 Q
theorem eQ {r:V->Option Int->Option Int->Hp->VK->Prop}(hr:Sa X r)(he:PE X e te)(hl:PO X lo tl)(hu:PO X hi th):PE X (.Subscript e (.Slice lo hi none p2) pos) (tSl r te tl th):=by
 intro pins s σ H Q I h
 refine Subscript_ (bZ (he pins s σ H _ I h) fun v s1 ⟨x,H1,I1,r1,q1⟩=>?_)
 refine wpAny_Slice (bZ (hl pins s1 σ H1 _ I1 q1) fun vl s2 ⟨l,H2,I2,pl,q2⟩=>bZ (hu pins s2 σ H2 _ I2 q2) fun vu s3 ⟨u,H3,I3,pu,q3⟩=>?_)
 rw [evalPart_none]
 refine wpAny_pure ?_
 have I4:Inv X pins σ H3 {s3 with heap:=s3.heap.push {cls:=.type "slice",data:=.fields #[vl,vu,.none]}}:=I3.kept (t' :=s3.toks) fun b ob q=>Heap.get?_push_of_some _ q
 obtain ⟨T,id,hT,ht,hg⟩:=hr pins {s3 with heap:=s3.heap.push {cls:=.type "slice",data:=.fields #[vl,vu,.none]}} σ H3 x v vl vu l u s3.heap.objs.size Q I4 r1 (Heap.IsSliceOf.new ..) pl pu q3
 show wpAny (model X.prog X.w) X.A (subscriptTail e (.Slice lo hi none p2) v (.ref s3.heap.objs.size)) (EP X pins σ Q) X.xe {s3 with heap:=s3.heap.push {cls:=.type "slice",data:=.fields #[vl,vu,.none]}}
 exact tail_any (ops:=[.ref s3.heap.objs.size,v]) ht hT hg (by with_unfolding_all rfl)
def fH (xs:ζ)(lo hi:Ξ):List V:=(xs.drop (HT.dR xs.length 0 lo)).take (HT.dR xs.length xs.length hi - HT.dR xs.length 0 lo)
theorem lQ (xs:ζ)(lo hi:Ξ):(fH xs lo hi).length<=xs.length:=by
 unfold fH
 rw [aa2,ahL]
 omega
inductive OB (K:Frag)(x:V)(lo:Ξ)(hi:Ξ)(H:Hp)(Q:VK):Prop where
 | mk (a xs:_) (_:x=.ref a) (_:bU K H a xs) (_:¬ (HT.dR xs.length 0 lo=0/\HT.dR xs.length xs.length hi=xs.length)) (_:∀p,H p=none->Q (.ref p) (upd H p (.tup (fH xs lo hi)))):OB K x lo hi H Q
theorem wK:Sa X (OB X.K):=by
 intro pins s σ H x v vl vu lo hi sl Q I rx hs pl pu h
 obtain ⟨a,xs,rfl,hx,hw,q⟩:=h
 cases rx
 obtain ⟨its,r,ht,hz⟩:=I.tuple hx
 have hlen:its.toArray.size=xs.length:=by rw [aaF];exact r.length.symm
 refine ⟨"tuple",_,PyProof.Rows.slot_tuple_getitem.lookup,ht.typeIs,?_⟩
 refine HT.jt ht hs pl pu (by rw [hlen];exact hw) ?_ (by rw [hlen];exact hz)
 rw [hlen]
 refine ⟨.ref s.heap.objs.size,_,I.laid (t' :=s.toks) (o:=.tup (fH xs lo hi)) (fun b ob q=>Heap.get?_push_of_some _ q) (aaf _) ?_,rfl,q _ (I.bK.fresh (aaf _))⟩
 exact ⟨aai (lQ xs lo hi) hz,_,(r.drop (HT.dR xs.length 0 lo)).take (HT.dR xs.length xs.length hi - HT.dR xs.length 0 lo),IsTup.new _ _⟩
inductive M0 (K:Frag)(x:V)(y:V)(H:Hp)(Q:VK):Prop where
 | mk (a b xs ys:_) (_:x=.ref a) (_:y=.ref b) (_:bU K H a xs) (_:bU K H b ys) (_:xs≠[]) (_:xs.length+ys.length<=sizeLine) (_:(ys=[]->Q (.ref a) H)) (_:(ys≠[]->∀p,H p=none->Q (.ref p) (upd H p (.tup (xs++ys))))):M0 K x y H Q
theorem Vals.rQ {xs:ζ}{us:ο}(r:Vals xs us):us=[] ↔ xs=[]:=by
 cases r with
 | nil=>simp
 | cons _ _=>simp
theorem Kr:iR X (binaryOp .Add) (M0 X.K):=by
 intro pins s σ H x y v u Q I rx ry h
 obtain ⟨a,b,xs,ys,rfl,rfl,ha,hb,hx,hz,q1,q2⟩:=h
 cases rx
 cases ry
 obtain ⟨its,r1,p1,_⟩:=I.tuple ha
 obtain ⟨dW,r2,p2,_⟩:=I.tuple hb
 refine HT.Ko p1 p2 (fun z=>hx (r1.rQ.mp z)) (fun z=>⟨.ref a,H,I,rfl,q1 (r2.rQ.mp z)⟩) (fun z=>?_) (by rw [<- r1.length, <- r2.length];exact hz)
 refine ⟨.ref s.heap.objs.size,_,I.laid (t' :=s.toks) (o:=.tup (xs++ys)) (fun b ob q=>Heap.get?_push_of_some _ q) (aaf _) ?_,rfl,q2 (fun w=>z (r2.rQ.mpr w)) _ (I.bK.fresh (aaf _))⟩
 exact ⟨by rw [aat];exact hz,_,r1.append r2,IsTup.new _ _⟩
end
end L2
namespace L2
open PySem PySem.Spec PyProof.Rows
def ET (n:Nat)(i:Int):Option Nat:=if 0<=i then (if i < n then some i.toNat else none) else if -(n:Int)<=i then some (i+n).toNat else none
def gY {α:Type}(xs:List α)(i:Int):Option α:=(ET xs.length i).bind fun j=>xs[j]?
theorem yq {n:Nat}{i:Int}{j:Nat}(h:ET n i=some j):seqIndex? i n=some j/\j < n/\ -(n:Int)<=i/\i < n:=by
 unfold ET at h
 by_cases h0:0<=i
 ·rw [if_pos h0] at h
  by_cases h1:i < n
  ·rw [if_pos h1] at h
   have e:i.toNat=j:=aay h
   exact ⟨by rw [seqIndex_of h0 h1,e],by omega,by omega,h1⟩
  ·rw [if_neg h1] at h;cases h
 ·rw [if_neg h0] at h
  by_cases h1: -(n:Int)<=i
  ·rw [if_pos h1] at h
   have e:(i+n).toNat=j:=aay h
   exact ⟨by rw [seqIndex_neg (by omega) h1,e],by omega,h1,by omega⟩
  ·rw [if_neg h1] at h;cases h
theorem rR {α:Type}{xs:List α}{i:Int}{v:α}(h:gY xs i=some v):∃j,seqIndex? i xs.length=some j/\xs[j]? =some v/\j < xs.length/\ -(xs.length:Int)<=i/\i < xs.length:=by
 unfold gY at h
 cases e:ET xs.length i with
 | none=>rw [e] at h;cases h
 | some j=>
  rw [e] at h
  obtain ⟨h1,h2,h3,h4⟩:=yq e
  exact ⟨j,h1,h,h2,h3,h4⟩
theorem bV {α:Type}{xs:List α}{j:Nat}{v:α}(h:xs[j]? =some v):gY xs (j:Int)=some v:=by
 have hj:j < xs.length:=(ir.mp h).1
 have e:ET xs.length (j:Int)=some j:=by
  unfold ET
  rw [if_pos (by omega),if_pos (by omega)];simp
 unfold gY;rw [e];exact h
def Ks (b:Expr):Prop:=∀o i,subscripted b false o i=operate [o,i] (getItem o i)
def QV (X:Cx)(r:R2):Prop:=
 ∀(value slice:Expr) (pins:ε) (s:Shared) (σ:St) (H:Hp) (x y:V) (v u:Value) (Q:VK),Inv X pins σ H s->RelV x v->RelV y u->r x y H Q->
  subscripted slice false v u=operate [v,u] (getItem v u)->wpAny (model X.prog X.w) X.A (subscriptTail value slice v u) (EP X pins σ Q) X.xe s
def MtR (X:Cx)(id:String)(r:Φ):Prop:=
 ∀(pins:ε) (s:Shared) (σ:St) (H:Hp) (x:V) (xs:ζ) (v:Value) (us:ο) (Q:VK),Inv X pins σ H s->RelV x v->Vals xs us->r x xs H Q->
  wpAny (model X.prog X.w) X.A (call (.builtin id) (v::us)) (EP X pins σ Q) X.xe s
section
variable {X:Cx}{a b:Expr}{ta tb:TE}{pos:Pos}
theorem bw {r:R2}(hr:QV X r)(ha:PE X a ta)(hb:PE X b tb)(hs:Ks b):PE X (.Subscript a b pos) (Oq r ta tb):=by
 intro pins s σ H Q I h
 exact Subscript_ (Ot ha hb I h fun v u s2 x y H2 I2 rx ry q=>hr a b pins s2 σ H2 x y v u Q I2 rx ry q (hs _ _))
inductive Kt (K:Frag)(x:V)(y:V)(H:Hp)(Q:VK):Prop where
 | mk (p xs i v:_) (_:x=.ref p) (_:y=.int i) (_:a8 K H p xs) (_:gY xs i=some v) (_:Q v H):Kt K x y H Q
inductive EU (K:Frag)(x:V)(y:V)(H:Hp)(Q:VK):Prop where
 | mk (p xs i v:_) (_:x=.ref p) (_:y=.int i) (_:bU K H p xs) (_:gY xs i=some v) (_:Q v H):EU K x y H Q
inductive Sb (x:V)(y:V)(H:Hp)(Q:VK):Prop where
 | mk (z i c:_) (_:x=.str z) (_:y=.int i) (_:z.length<=sizeLine) (_:gY z.cps.toList i=some c) (_:Q (.str ⟨#[c]⟩) H):Sb x y H Q
theorem ba:QV X (Kt X.K):=by
 intro value slice pins s σ H x y v u Q I rx ry h hs
 obtain ⟨p,xs,i,z,rfl,rfl,hq,he,q⟩:=h
 cases rx
 obtain ⟨t,rfl⟩:=ry
 obtain ⟨its,r,pl,hz⟩:=I.list hq
 obtain ⟨j,h1,h2,h3,h4,h5⟩:=rR he
 obtain ⟨w,ew,mK⟩:=r.get h2
 have hl:=r.length
 have hn:=nE
 have fin:EP X pins σ Q w s:=⟨z,H,I,mK,q⟩
 by_cases h0:0<=i
 ·have hj:i.toNat=j:=by
   rw [seqIndex_of h0 h5] at h1
   exact aay h1
  exact item_listR pl.isList h0 (by omega) (by rw [hj];simpa using ew) fin hs
 ·have hj:(i+(its.toArray.size:Int)).toNat=j:=by
   rw [seqIndex_neg (by omega) h4] at h1
   rw [aaF, <- hl]
   exact aay h1
  exact subscriptTail_builtinR (x:=w) pl.isList.typeIs slot_list_getitem.lookup
   (wpAny_getItem_list_neg (Q:=fun r s' =>r=w/\EP X pins σ Q r s') pl.isList (by omega) (by rw [aaF] <;> omega) (by omega) (by rw [hj];simpa using ew) ⟨rfl,fin⟩) hs
theorem kb:QV X (EU X.K):=by
 intro value slice pins s σ H x y v u Q I rx ry h hs
 obtain ⟨p,xs,i,z,rfl,rfl,hq,he,q⟩:=h
 cases rx
 obtain ⟨t,rfl⟩:=ry
 obtain ⟨its,r,pl,hz⟩:=I.tuple hq
 obtain ⟨j,h1,h2,h3,h4,h5⟩:=rR he
 obtain ⟨w,ew,mK⟩:=r.get h2
 have hl:=r.length
 have hn:=nE
 have fin:EP X pins σ Q w s:=⟨z,H,I,mK,q⟩
 exact subscriptTail_builtinR (x:=w) pl.typeIs slot_tuple_getitem.lookup
  (getItem_tuple (j:=j) (Q:=fun r s' =>r=w/\EP X pins σ Q r s') pl (by omega) (by omega) (by rw [aaF, <- hl];exact h1) (by simpa using ew) ⟨rfl,fin⟩) hs
theorem OC:QV X Sb:=by
 intro value slice pins s σ H x y v u Q I rx ry h hs
 obtain ⟨z,i,c,rfl,rfl,hz,he,q⟩:=h
 obtain ⟨t,rfl⟩:=rx
 obtain ⟨t',rfl⟩:=ry
 obtain ⟨j,h1,h2,h3,h4,h5⟩:=rR he
 have hl:z.cps.toList.length=z.length:=by simp [Str.length]
 rw [hl] at h1 h4 h5
 have hn:=nE
 exact tail_any (typeIs_str s z t) slot_str_getitem.lookup (getItem_str (c:=c) (by
  have e1:decide (i < -(2^63:Int))=false:=decide_eq_false (by omega)
  have e2:decide (i≥2^63)=false:=decide_eq_false (by omega)
  rw [e1,e2,aix]) (by rw [h1];simpa using h2) ⟨.str ⟨#[c]⟩,H,I.tok _,⟨_,rfl⟩,q⟩) hs
theorem wL (its:ο)(n j:Nat)(u:Value):Obj.mapSeq (·.setIfInBounds j u) {cls:=.type "list",data:=.seq its.toArray n}={cls:=.type "list",data:=.seq (its.set j u).toArray n}:=by
 simp [Obj.mapSeq]
theorem Inv.lst {pins:ε}{σ:St}{H:Hp}{s:Shared}{p:Addr}{xs:ζ}(I:Inv X pins σ H s)(h:H p=some (.lst xs)):
  ∃(its:ο) (n:Nat),Vals xs its/\s.heap.get? p=some {cls:=.type "list",data:=.seq its.toArray n}/\xs.length<=sizeLine:=by
 obtain ⟨z,its,n,r,e⟩:=I.bK p _ h
 exact ⟨its,n,r,e,z⟩
theorem Inv.OD {pins:ε}{σ:St}{H:Hp}{s:Shared}{p:Addr}{xs ys:ζ}{its its' :ο}{n n' :Nat}{f:Obj->Obj}(I:Inv X pins σ H s)(h:H p=some (.lst xs))
  (ho:s.heap.get? p=some {cls:=.type "list",data:=.seq its.toArray n}) (hf:f {cls:=.type "list",data:=.seq its.toArray n}={cls:=.type "list",data:=.seq its'.toArray n' }) (r:Vals ys its') (hz:ys.length<=sizeLine) (t:Nat):
  Inv X pins σ (upd H p (.lst ys)) {s with heap:=s.heap.update p f,toks:=t}:=by
 have e:(s.heap.update p f).get? p=some {cls:=.type "list",data:=.seq its'.toArray n' }:=by
  rw [Heap.get?_update_self f ho (by rw [hf] <;> rfl),hf]
 refine I.write (x:=p) (e:=p) (by rw [h];trivial) (.inl rfl) (fun b u hb q=>(Heap.get?_update_other _ _ (aaW hb)).trans q) ⟨_,e⟩ ?_
 exact ⟨hz,its',n',r,e⟩
inductive M3 (o:V)(i:V)(v:V)(H:Hp)(Q:(Hp->Prop)):Prop where
 | mk (p xs k j:_) (_:o=.ref p) (_:i=.int k) (_:H p=some (.lst xs)) (_:ET xs.length k=some j) (_:Q (upd H p (.lst (xs.set j v)))):M3 o i v H Q
theorem set_list:RQ X M3:=by
 intro pins s σ H o i v ov iv u Q I ro ri rv h
 obtain ⟨p,xs,k,j,rfl,rfl,hp,hj,q⟩:=h
 cases ro
 obtain ⟨t,rfl⟩:=ri
 obtain ⟨its,n,r,ho,hz⟩:=I.lst hp
 obtain ⟨h1,h2,h3,h4⟩:=yq hj
 have hl:=r.length
 have hn:=nE
 have I' :Inv X pins σ (upd H p (.lst (xs.set j v))) {s with heap:=s.heap.update p (Obj.mapSeq (·.setIfInBounds j u))}:=
  I.OD hp ho (wL its n j u) (r.set rv j) (by rw [ai0];exact hz) s.toks
 by_cases h0:0<=k
 ·have hk:k.toNat=j:=by
   rw [seqIndex_of h0 h4] at h1
   exact aay h1
  exact PySem.W.ki_setAt ho h0 (by omega) (by rw [aaF, <- hl];exact h4) (by rw [hk];exact ⟨_,I',q⟩)
 ·have hk:(k+(its.toArray.size:Int)).toNat=j:=by
   rw [seqIndex_neg (by omega) h3] at h1
   rw [aaF, <- hl]
   exact aay h1
  exact PySem.W.ki_setBack ho (by omega) (by rw [aaF, <- hl];exact h3) (by omega) (by rw [hk];exact ⟨_,I',q⟩)
theorem rS (lo hi:Ξ)(n:Nat):(sliceBounds lo hi none n).1=((HT.dR n 0 lo:Nat):Int)/\(sliceBounds lo hi none n).2.1=((HT.dR n n hi:Nat):Int)/\(sliceBounds lo hi none n).2.2=1:=by
 refine ⟨?_,?_,rfl⟩
 ·cases lo with
  | none=>simp [sliceBounds,HT.dR]
  | some i=>
   simp only [sliceBounds,HT.dR,aiU,show (1:Int) > 0 by decide,if_true]
   by_cases h:i < 0
   ·simp only [h,if_true] <;> omega
   ·simp only [h,if_false] <;> omega
 ·cases hi with
  | none=>simp [sliceBounds,HT.dR]
  | some i=>
   simp only [sliceBounds,HT.dR,aiU,show (1:Int) > 0 by decide,if_true]
   by_cases h:i < 0
   ·simp only [h,if_true] <;> omega
   ·simp only [h,if_false] <;> omega
theorem p_ (its:ο)(lo hi:Ξ):slicePick its.toArray lo hi none=((its.drop (HT.dR its.length 0 lo)).take (HT.dR its.length its.length hi - HT.dR its.length 0 lo)).toArray:=by
 obtain ⟨h1,h2,h3⟩:=rS lo hi its.toArray.size
 unfold slicePick
 rw [h1,h2,h3]
 simp only [sliceRange_one,pick_run,aaF] <;> rfl
inductive Sd (K:Frag)(x:V)(lo:Ξ)(hi:Ξ)(H:Hp)(Q:VK):Prop where
 | mk (a xs:_) (_:x=.ref a) (_:a8 K H a xs) (_:∀p,H p=none->Q (.ref p) (upd H p (.lst (fH xs lo hi)))):Sd K x lo hi H Q
theorem mN:Sa X (Sd X.K):=by
 intro pins s σ H x v vl vu lo hi sl Q I rx hs pl pu h
 obtain ⟨a,xs,rfl,hx,q⟩:=h
 cases rx
 obtain ⟨its,r,ht,hz⟩:=I.list hx
 have hlen:=r.length
 refine ⟨"list",_,slot_list_getitem.lookup,ht.isList.typeIs,?_⟩
 refine wpAny_getItem_list_slice ht.isList hs pl pu .none (by simp) ?_ (by rw [aaF] <;> omega)
 rw [p_, <- hlen]
 refine ⟨.ref s.heap.objs.size,_,I.laid (t' :=s.toks) (o:=.lst (fH xs lo hi)) (fun b ob q=>Heap.get?_push_of_some _ q) (aaf _) ?_,rfl,q _ (I.bK.fresh (aaf _))⟩
 exact ⟨aai (lQ xs lo hi) hz,_,0,(r.drop (HT.dR xs.length 0 lo)).take (HT.dR xs.length xs.length hi - HT.dR xs.length 0 lo),Heap.get?_push_size _ rfl⟩
def iS:V->Bool
 | .cB=>true
 | .bl _=>true
 | .int _=>true
 | .str _=>true
 | _=>false
def mj:V->V->Bool
 | .cB,.cB=>true
 | .bl a,.bl b=>a==b
 | .bl a,.int b=>(if a then 1 else 0)==b
 | .int a,.bl b=>a==(if b then 1 else 0)
 | .int a,.int b=>a==b
 | .str a,.str b=>a==b
 | _,_=>false
theorem EV {A:Around}{s:Shared}{y x:V}{u v:Value}(ry:RelV y u)(rx:RelV x v)(fy:iS y=true)(fx:iS x=true):SeqAt.EqAt A s u v (mj y x):=by
 cases y with
 | cB=>
  cases ry
  cases x with
  | cB=>cases rx;exact SeqAt.EqAt.same _
  | bl b=>cases rx;exact SeqAt.EqAt.none_bool b
  | int b=>obtain ⟨t,rfl⟩:=rx;exact SeqAt.EqAt.none_int b t
  | str b=>obtain ⟨t,rfl⟩:=rx;exact SeqAt.EqAt.none_str b t
  | _=>exact absurd (show false=true from fx) aaG
 | bl a=>
  cases ry
  cases x with
  | cB=>cases rx;exact SeqAt.EqAt.bool_none a
  | bl b=>cases rx;exact SeqAt.EqAt.bool_bool a b
  | int b=>obtain ⟨t,rfl⟩:=rx;exact SeqAt.EqAt.bool_int a b t
  | str b=>obtain ⟨t,rfl⟩:=rx;exact SeqAt.EqAt.bool_str a b t
  | _=>exact absurd (show false=true from fx) aaG
 | int a=>
  obtain ⟨t',rfl⟩:=ry
  cases x with
  | cB=>cases rx;exact SeqAt.EqAt.int_none a t'
  | bl b=>cases rx;exact SeqAt.EqAt.int_bool a t' b
  | int b=>obtain ⟨t,rfl⟩:=rx;exact SeqAt.EqAt.int_int a t' b t
  | str b=>obtain ⟨t,rfl⟩:=rx;exact SeqAt.EqAt.int_str a t' b t
  | _=>exact absurd (show false=true from fx) aaG
 | str a=>
  obtain ⟨t',rfl⟩:=ry
  cases x with
  | cB=>cases rx;exact SeqAt.EqAt.str_none a t'
  | bl b=>cases rx;exact SeqAt.EqAt.str_bool a t' b
  | int b=>obtain ⟨t,rfl⟩:=rx;exact SeqAt.EqAt.str_int a t' b t
  | str b=>obtain ⟨t,rfl⟩:=rx;exact SeqAt.EqAt.str_str a t' b t
  | _=>exact absurd (show false=true from fx) aaG
 | _=>exact absurd (show false=true from fy) aaG
def Ku (x:V)(u:Value):Bool:=match u with
 | .none=>mj .cB x
 | .bool b=>mj (.bl b) x
 | .int i _=>mj (.int i) x
 | .str z _=>mj (.str z) x
 | _=>false
theorem EW {x y:V}{u:Value}(r:RelV y u)(f:iS y=true):Ku x u=mj y x:=by
 cases y with
 | cB=>cases r;rfl
 | bl b=>cases r;rfl
 | int i=>obtain ⟨t,rfl⟩:=r;rfl
 | str z=>obtain ⟨t,rfl⟩:=r;rfl
 | _=>exact absurd (show false=true from f) aaG
theorem rT {x:V}:∀{xs:ζ} {us:ο},Vals xs us->xs.all iS=true->us.any (Ku x)=xs.any fun y=>mj y x
 | _,_,.nil,_=>rfl
 | y::xs,u::us,.cons r t,f=>by
  rw [ahO,abC] at f
  rw [ahh,ahh,EW r f.1,rT t f.2]
theorem nI {A:Around}{s:Shared}{x:V}{v:Value}(rx:RelV x v)(fx:iS x=true):∀{xs:ζ} {us:ο},Vals xs us->xs.all iS=true->∀u∈us,SeqAt.EqAt A s u v (Ku x u)
 | _,_,.nil,_=>fun u hu=>by cases hu
 | y::xs,u::us,.cons r t,f=>fun u' hu=>by
  rw [ahO,abC] at f
  rcases aaN.mp hu with rfl | hu
  ·rw [EW r f.1];exact EV r rx f.1 fx
  ·exact nI rx fx t f.2 u' hu
def Kv (x:V)(xs:ζ):Bool:=xs.any fun y=>mj y x
inductive ZK (K:Frag)(neg:Bool)(x:V)(y:V)(H:Hp)(Q:VK):Prop where
 | mk (p xs:_) (_:y=.ref p) (_:(a8 K H p xs\/bU K H p xs)) (_:iS x=true) (_:xs.all iS=true) (_:Q (.bl (if neg then !Kv x xs else Kv x xs)) H):ZK K neg x y H Q
theorem ke:iR X (compareOp .In) (ZK X.K false):=by
 intro pins s σ H x y v u Q I rx ry h
 obtain ⟨p,xs,rfl,hq,fx,fs,q⟩:=h
 cases ry
 rcases hq with hq | hq
 ·obtain ⟨its,r,pl,hz⟩:=I.list hq
  refine SeqAt.in_listAt (Ku x) pl.isList (fun w hw=>nI rx fx r fs w (by simpa using hw)) ⟨.bl _,H,I,rfl,?_⟩
  rw [show its.toArray.any (Ku x)=its.any (Ku x) by simp,rT r fs]
  exact q
 ·obtain ⟨its,r,pl,hz⟩:=I.tuple hq
  refine SeqAt.in_tupleAt (Ku x) pl (fun w hw=>nI rx fx r fs w (by simpa using hw)) ⟨.bl _,H,I,rfl,?_⟩
  rw [show its.toArray.any (Ku x)=its.any (Ku x) by simp,rT r fs]
  exact q
theorem aE:fg X (.builtin "len") (fun xs H Q=>∃p ys,xs=[.ref p]/\(a8 X.K H p ys\/bU X.K H p ys)/\Q (.int ys.length) H):=by
 intro pins s σ H xs us Q I r h
 obtain ⟨p,ys,rfl,hq,q⟩:=h
 obtain ⟨u,rfl,rx⟩:=vals1 r
 cases rx
 have hn:=nE
 rcases hq with hq | hq
 ·obtain ⟨its,r',pl,hz⟩:=I.list hq
  have hlen:=r'.length
  exact Calls.call_len_list pl.isList (by simp only [aaF] <;> omega) ⟨.int ys.length,H,I.tok _,⟨s.toks+1,by rw [aaF,hlen]⟩,q⟩
 ·obtain ⟨its,r',pl,hz⟩:=I.tuple hq
  have hlen:=r'.length
  exact len_tuple pl (by simp only [aaF] <;> omega) ⟨.int ys.length,H,I.tok _,⟨s.toks+1,by rw [aaF,hlen]⟩,q⟩
def tyV (K:Frag)(T:String)(x:V)(H:Hp):Prop:=match x with
 | .str _=>T="str"
 | .int _=>T="int"
 | .ref p=>(T="list"/\∃xs,a8 K H p xs)\/(T="tuple"/\∃o,K.lookup p=some o/\o.cls=.type "tuple"/\o.dict=none)\/
   (T="dict"/\((∃kvs,H p=some (.dK kvs))\/∃kvs,H p=some (.dT kvs)))\/(T="set"/\∃S n,H p=some (.set S n))
 | _=>False
theorem EX {pins:ε}{σ:St}{H:Hp}{s:Shared}{T:String}{x:V}{v:Value}(I:Inv X pins σ H s)(r:RelV x v)(ty:tyV X.K T x H):
  s.TypeIs v T/\∀a,v=.ref a->∃ob,s.heap.get? a=some ob/\ob.dict=none:=by
 cases x with
 | str z=>
  obtain ⟨t,rfl⟩:=r
  cases (show T="str" from ty)
  exact ⟨typeIs_str s z t,fun _ e=>nomatch e⟩
 | int i=>
  obtain ⟨t,rfl⟩:=r
  cases (show T="int" from ty)
  exact ⟨typeIs_int s i t,fun _ e=>nomatch e⟩
 | ref p=>
  cases r
  rcases ty with ⟨rfl,xs,hq⟩ | ⟨rfl,o,hk,hc,hd⟩ | ⟨rfl,hk⟩ | ⟨rfl,S,n,hk⟩
  ·obtain ⟨its,_,pl,_⟩:=I.list hq
   refine ⟨pl.isList.typeIs,fun a e=>?_⟩
   cases e
   obtain ⟨o,n,e,c,hd,_⟩:=pl
   exact ⟨o,e,hd⟩
  ·refine ⟨⟨o,I.iZ p o hk,hc⟩,fun a e=>?_⟩
   cases e
   exact ⟨o,I.iZ _ o hk,hd⟩
  ·have z:∃o,s.heap.get? p=some o/\o.ExactDict:=by
    rcases hk with ⟨kvs,hk⟩ | ⟨kvs,hk⟩
    ·obtain ⟨_,_,_,_,o,_,_,e,ex,_⟩:=I.bK p _ hk
     exact ⟨o,e,ex⟩
    ·obtain ⟨_,_,_,_,o,_,_,e,ex,_⟩:=I.bK p _ hk
     exact ⟨o,e,ex⟩
   obtain ⟨o,e,ex⟩:=z
   refine ⟨⟨o,e,ex.1⟩,fun a e2=>?_⟩
   cases e2
   exact ⟨o,e,ex.2.1⟩
  ·obtain ⟨o,_,_,_,e,ex,_⟩:=I.bK p _ hk
   refine ⟨⟨o,e,ex.1⟩,fun a e2=>?_⟩
   cases e2
   exact ⟨o,e,ex.2.1⟩
 | _=>exact False.elim ty
def tBM (K:Frag)(T:String)(r:Φ)(to:TE)(t:TA):TE:=fun σ H Q=>to σ H fun x H1=>tyV K T x H1/\t σ H1 fun xs H2=>r x xs H2 Q
variable {o e:Expr}{es:ψ}{to:TE}{t:TA}{name:Str}{apos cw:Pos}{T id:String}{r:Φ}
theorem gd (pa:PlainAttrs T)(slot:Slot T name id)(hty:typeOf (.builtin id)=pure (.type "method_descriptor"))(hm:MtR X id r)(ho:PE X o to)(ha:PA X (e::es) t)
  (h_:attributeBase o name X.env (eval o X.env)=eval o X.env:=by rfl)
  (ZL:((backTo cw (starEach (e::es) X.env)).all (fun x=> !x.1) && (backToKw cw (keywordEach [] X.env)).all (fun x=>x.1.isSome)
   && decide ((e::es).length+([]:List Keyword).length+(if ([]:List Keyword).isEmpty then 0 else 1) < 30))=true:=by rfl)
  (ia:(apos.endLine==cw.line)=true:=by rfl) (hs:starEach (e::es) X.env=(false,eval e X.env)::starEach es X.env:=by rfl) (OE:(backTo cw (starEach es X.env)).any (·.1)=false:=by rfl):
  PE X (.Call (.Attribute o name apos) (e::es) [] cw) (tBM X.K T r to t):=by
 intro pins s σ H Q I h
 refine wpAny_Call_method_late h_ ZL ia rfl (bZ (ho pins s σ H _ I h) fun v s1 ⟨x,H1,I1,r1,ty,q1⟩=>?_)
 obtain ⟨h1,h2⟩:=EX I1 r1 ty
 refine ⟨T,id,pa,slot,hty,h1,h2,?_⟩
 have hA:=ha cw pins s1 σ H1 _ I1 q1
 rw [hs] at hA ⊢
 refine Calls.callWith_builtin (by show (false || (backTo cw (starEach es X.env)).any (·.1))=false;rw [OE] <;> rfl) (Calls.evalArgs_plain ?_)
 exact bZ hA fun us s2 ⟨vs,H2,I2,r2,q2⟩=>hm pins s2 σ H2 x vs v us Q I2 r1 r2 q2
end
end L2
namespace L2
open PySem PySem.Spec PyProof.Rows
def MtM (X:Cx)(id:String)(r:Φ):Prop:=
 ∀(pins:ε) (s:Shared) (σ:St) (H:Hp) (x:V) (xs:ζ) (v:Value) (us:ο) (Q:VK),Inv X pins σ H s->RelV x v->Vals xs us->r x xs H Q->
  wpAny (model X.prog X.w) X.A (call (.builtin id) (v::us)) (EP X pins σ Q) X.xe s
theorem Vals.one:∀{x:V} {us:ο},Vals [x] us->∃u,us=[u]/\RelV x u
 | _,_,.cons r .nil=>⟨_,rfl,r⟩
theorem Vals.eraseIdx:∀{xs:ζ} {us:ο} (i:Nat),Vals xs us->Vals (xs.eraseIdx i) (us.eraseIdx i)
 | _,_,_,.nil=>.nil
 | _,_,0,.cons _ t=>t
 | _,_,i+1,.cons r t=>.cons r (Vals.eraseIdx i t)
theorem Vals.rep {xs:ζ}{us:ο}(h:Vals xs us):∀k:Nat,Vals (aaJ k xs).flatten (aaJ k us).flatten
 | 0=>.nil
 | k+1=>by
  rw [ab4,ab4,ahB,ahB]
  exact Vals.append h (Vals.rep h k)
theorem qM {α:Type}:∀(l:List α) (i:Nat),(l.eraseIdx i).length<=l.length
 | [],_=>aaf _
 | _::_,0=>ah8 _
 | _::r,i+1=>Nat.succ_le_succ (qM r i)
theorem foldl_rep (its:ο):∀(k:Nat) (acc:ο),
  am_ (fun x1 x2=>x1++x2) acc.toArray (aaJ k its.toArray)=(acc++(aaJ k its).flatten).toArray
 | 0,acc=>by simp
 | k+1,acc=>by
  have e:acc.toArray++its.toArray=(acc++its).toArray:=by simp
  have e2:(acc++its)++(aaJ k its).flatten=acc++(aaJ (k+1) its).flatten:=by
   rw [ab4,ahB,ahk]
  rw [<- e2, <- foldl_rep its k (acc++its), <- e,ab4,List.foldl_cons]
section
variable {X:Cx}{pins:ε}{σ:St}{H:Hp}{s:Shared}{l b:Addr}{xs ys zs:ζ}
theorem Inv.OF {its its' :ο}{n:Nat}{f:Array Value->Array Value}{t' :Nat}(I:Inv X pins σ H s)(hH:H l=some (.lst xs))
  (e:s.heap.get? l=some {cls:=.type "list",data:=.seq its.toArray n}) (hf:f its.toArray=its'.toArray) (hv:Vals ys its') (hz:ys.length<=sizeLine):
  Inv X pins σ (upd H l (.lst ys)) {s with heap:=s.heap.update l (Obj.mapSeq f),toks:=t' }:=by
 have q:=PySem.IsL.update e f
 rw [hf] at q
 refine I.write (x:=l) (e:=l) (by rw [hH];exact trivial) (.inl rfl) (fun b' u hb hu=>(Heap.get?_update_other s.heap (Obj.mapSeq f) (aaW hb)).trans hu) ⟨_,q⟩ ?_
 exact ⟨hz,its',_,hv,q⟩
theorem Inv.OG {its:ο}{t' :Nat}(I:Inv X pins σ H s)(hv:Vals ys its)(hz:ys.length<=sizeLine):
  Inv X pins σ (upd H s.heap.objs.size (.lst ys)) {s with heap:=s.heap.push {cls:=.type "list",data:=.seq its.toArray},toks:=t' }:=
 I.laid (fun _ _ q=>Heap.get?_push_of_some _ q) (aaf _) ⟨hz,its,0,hv,Heap.get?_push_size _ rfl⟩
theorem Inv.fresh (I:Inv X pins σ H s):H s.heap.objs.size=none:=I.bK.fresh (aaf _)
theorem Inv.mm (I:Inv X pins σ H s)(hH:H l=some (.lst xs)):xs.length<=sizeLine/\∃(its:ο) (n:Nat),Vals xs its/\xs.length=its.length/\s.heap.get? l=some {cls:=.type "list",data:=.seq its.toArray n}:=by
 obtain ⟨z,its,n,r,e⟩:=I.bK l _ hH
 exact ⟨z,its,n,r,r.length,e⟩
theorem uw {n:Nat}(h:n<=sizeLine):Builtin.List.listTooLong n=false:=by
 unfold Builtin.List.listTooLong
 exact decide_eq_false (by omega)
end
section
variable {X:Cx}
inductive yr (x:V)(vs:ζ)(H:Hp)(Q:VK):Prop where
 | mk (l xs y:_) (_:x=.ref l) (_:vs=[y]) (_:H l=some (.lst xs)) (_:xs.length < sizeLine) (_:Q .cB (upd H l (.lst (xs++[y])))):yr x vs H Q
theorem cG:MtM X "list.append" yr:=by
 intro pins s σ H x vs v us Q I rx rv h
 obtain ⟨l,xs,y,rfl,rfl,hH,hz,q⟩:=h
 cases rx
 obtain ⟨u,rfl,ru⟩:=rv.one
 obtain ⟨z,its,n,r,hl,e⟩:=I.mm hH
 refine call_meets F.slot_list_append ⟨_,e,rfl⟩ F.entry_list_append (F.args_list_append_2 _ _) (PySem.list_append l its.toArray n u (by rw [aaF];omega)) ⟨e,?_⟩
 refine ⟨.cB,_,I.OF (its' :=its++[u]) hH e (by simp) (r.append (.cons ru .nil)) ?_,rfl,q⟩
 rw [aat,aip]
 omega
def OH:V->List V->Hp->VK->Prop:=fun x vs H Q=>∃l xs i k y,x=.ref l/\vs=[.int i]/\H l=some (.lst xs)/\ -(2^63)<=i/\i < 2^63/\seqIndex? i xs.length=some k/\xs[k]? =some y/\Q y (upd H l (.lst (xs.eraseIdx k)))
theorem uB:MtM X "list.pop" OH:=by
 intro pins s σ H x vs v us Q I rx rv h
 obtain ⟨l,xs,i,k,y,rfl,rfl,hH,h1,h2,hk,hy,q⟩:=h
 cases rx
 obtain ⟨u,rfl,ru⟩:=rv.one
 obtain ⟨t,rfl⟩:=ru
 obtain ⟨z,its,n,r,hl,e⟩:=I.mm hH
 obtain ⟨w,hw,mK⟩:=r.get hy
 refine call_meets F.slot_list_pop ⟨_,e,rfl⟩ F.entry_list_pop (F.args_list_pop_2 _ _)
  (MeetsSeq.list_pop_at l its.toArray n i t k w (fitsIndex_both h1 h2) (by rw [aaF, <- hl];exact hk) (by rw [<- Array.getElem?_toList];exact hw) (by rw [aaF];omega)) ⟨e,?_⟩
 refine ⟨y,_,I.OF (its' :=its.eraseIdx k) hH e ?_ (r.eraseIdx k) ?_,mK,q⟩
 ·show its.toArray.eraseIdxIfInBounds k=(its.eraseIdx k).toArray
  rw [List.eraseIdxIfInBounds_toArray]
 ·have:=qM xs k
  omega
inductive Se (x:V)(y:V)(H:Hp)(Q:VK):Prop where
 | mk (l b xs zs:_) (_:x=.ref l) (_:y=.ref b) (_:H l=some (.lst xs)) (_:H b=some (.lst zs)) (_:xs.length+zs.length<=sizeLine) (_:∀p,H p=none->Q (.ref p) (upd H p (.lst (xs++zs)))):Se x y H Q
theorem EY:iR X (binaryOp .Add) Se:=by
 intro pins s σ H x y v u Q I rx ry h
 obtain ⟨l,b,xs,zs,rfl,rfl,hH,hB,hz,q⟩:=h
 cases rx
 cases ry
 obtain ⟨z,its,n,r,hl,e⟩:=I.mm hH
 obtain ⟨z2,dW,n2,r2,wM,e2⟩:=I.mm hB
 refine PySem.P.add_list e e2 ?_ (by rw [aaF,aaF];omega)
 have ea:its.toArray++dW.toArray=(its++dW).toArray:=by simp
 rw [ea]
 exact ⟨.ref _,_,I.OG (t' :=s.toks) (r.append r2) (by rw [aat];omega),rfl,q _ I.fresh⟩
inductive Sf (x:V)(y:V)(H:Hp)(Q:VK):Prop where
 | mk (l k xs:_) (_:x=.ref l) (_:y=.int k) (_:H l=some (.lst xs)) (_: -(2^63)<=k) (_:k < 2^63) (_:xs.length*k.toNat<=sizeLine) (_:∀p,H p=none->Q (.ref p) (upd H p (.lst (aaJ k.toNat xs).flatten))):Sf x y H Q
theorem len_rep {α:Type}(xs:List α)(k:Nat):(aaJ k xs).flatten.length=k*xs.length:=by
 induction k with
 | zero=>simp
 | succ k ih=>rw [ab4,ahB,aat,ih,Nat.succ_mul,aif]
theorem OI:iR X (binaryOp .Mult) Sf:=by
 intro pins s σ H x y v u Q I rx ry h
 obtain ⟨l,k,xs,rfl,rfl,hH,h1,h2,hz,q⟩:=h
 cases rx
 obtain ⟨t,rfl⟩:=ry
 obtain ⟨z,its,n,r,hl,e⟩:=I.mm hH
 have hlen:its.toArray.size*k.toNat<=sizeLine:=by rw [aaF, <- hl];exact hz
 have ZM:¬ its.toArray.size*k.toNat > (2^63 - 1) / 8:=by
  have:(sizeLine:Nat)<=(2^63 - 1) / 8:=by decide
  omega
 have ZN:¬ (!Builtin.List.listFitsIndex k)=true:=by
  rw [fitsIndex_both h1 h2]
  exact aaG
 have EZ:¬ Builtin.List.listTooLong (its.toArray.size*k.toNat)=true:=by
  rw [uw hlen]
  exact aaG
 have ZO:am_ (fun x1 x2=>x1++x2) #[] (aaJ (if its.toArray.isEmpty=true then 0 else k.toNat) its.toArray)=(aaJ k.toNat its).flatten.toArray:=by
  have f0:∀m:Nat,am_ (fun x1 x2=>x1++x2) #[] (aaJ m its.toArray)=(aaJ m its).flatten.toArray:=fun m=>by
   have:=foldl_rep its m []
   rw [ahw] at this
   exact this
  rw [f0]
  cases its with
  | nil=>simp
  | cons a r' =>rw [if_neg (by simp)]
 refine wpAny_binaryOp_repeat_ref (T:="list") (U:="int") (by decide) ⟨_,e,rfl⟩ (fun s' =>typeIs_int s' k t) noFill_list_mul F.fills_int_mul F.slot_int_rmul repeat_list F.slot_int_index.lookup
  (call_meets F.slot_int_rmul (typeIs_int s k t) F.entry_int_rmul (F.args_int_rmul_2 _ _) (int___rmul___int_list k t l its.toArray n)
   ⟨e,rfl,⟨_,e,rfl⟩,call_meets F.slot_list_mul ⟨_,e,rfl⟩ F.entry_list_mul (F.args_list_mul_2 _ _) (AutoListH.list___mul___list_int_3 l its.toArray n k t ZN ZM EZ) ⟨e,?_⟩⟩)
 rw [ZO]
 exact ⟨.ref _,_,I.OG (t' :=s.toks) (r.rep k.toNat) (by rw [len_rep,ahY];exact hz),rfl,q _ I.fresh⟩
end
section
variable {prog:Program}{w:World}{A:Around}{E:δ}{s:Shared}
set_option maxRecDepth 100000 in
end
section
variable {X:Cx}
end
end L2
namespace Att
open PySem PySem.W PySem.Calls PyProof.Rows
theorem mn {P:Params}{h:Heap}:∀(ns:ξ) (vs:ο),WellAll P h vs (ns.map WData.int)->IntsAre vs ns:=by
 intro ns
 induction ns with
 | nil=>
  intro vs w
  rw [ab_] at w
  cases w
  exact .nil
 | cons n ns ih=>
  intro vs w
  rw [aal] at w
  cases w with
  | cons a b=>
   cases a
   exact .cons _ _ (ih _ b)
theorem zK {l:OpenLaw}{n:Nat}(hn:l.most=some n){P:Params}{h:Heap}{args:List WData}{vals:ο}
  (Kw:l.row.toRowW.claim.pre args=true) (ZP:WellAll P h vals args):
  ∃a vs ns,vals=[Value.ref a]/\args=[WData.list (ns.map WData.int)]/\h.get? a=some {cls:=.type "list",data:=.seq vs.toArray}/\IntsAre vs ns/\ns.length<=n:=by
 have hsh:WShape.hasAll [] args [.list .int]=true:=(pre_splitW Kw).1
 have hc:l.pre.holds [] {args:=args}=true:=(pre_splitW Kw).2
 obtain ⟨d,r,rfl,h1,h2⟩:=hasAllW_cons hsh
 obtain rfl:=hasAllW_nil h2
 obtain ⟨xs,rfl,h3⟩:=hasW_list h1
 obtain ⟨ns,rfl⟩:=items_int h3
 have hlen:ns.length<=n:=by
  unfold OpenLaw.pre at hc
  have h4:(WTm.not (.lt (.lit (.int (n:Int))) (.len (.arg 0)))).holds [] {args:=[.list (ns.map .int)]}=true:=by
   have h4:=(holds_andW hc).1
   rw [hn] at h4
   exact h4
  have h5:=condW_of h4 (w_not (w_lt w_lit (w_len_list (w_arg rfl))))
  rw [aab] at h5
  refine aic fun q=>?_
  have q' :(n:Int) < ((ns.length:Nat):Int):=by omega
  first
   | (rw [decide_eq_true q'] at h5;exact absurd h5 (by decide))
   | (simp at h5;omega)
 cases ZP with
 | cons w1 w2=>
  cases w2
  cases w1 with
  | list ho FA=>exact ⟨_,_,ns,rfl,rfl,ho,mn ns _ FA,hlen⟩
theorem zL (l:OpenLaw)(args:List WData):l.row.toRowW.claim.post args (.bool true) args=true:=
 postW_of (r:=l.row.toRowW) (X:=(true==true))
  (show WShape.has [] (.bool true) .bool=true by first | rfl | decide | simp [WShape.has,WShape.arms,WShape.armsAll])
  (show (WTm.eq .res (.lit (.bool true))).value [] {args:=args,res:=some (.bool true),after:=args}=some (.bool (true==true)) from w_eq_bool (w_res rfl) w_lit) rfl
section
variable {prog:Program}{w:World}{A:Around}{E:δ}{s:Shared}{K:Frag}
end
end Att
namespace L2
open PySem PySem.Spec PyProof.Rows
theorem qN:∀{vs:ο} {ns:ξ},IntsAre vs ns->Vals (ns.map V.int) vs
 | _,_,.nil=>.nil
 | _,_,.cons n t h=>.cons ⟨t,rfl⟩ (qN h)
def Sg (H:Hp):Prop:=∀b,H b=none\/∃o xs,H b=some (.dA o (.lst xs))
theorem FC {P:Program}{w:World}{K:Frag}{mg mb:ι}{CX:j6}{k:Nat}{fa a:Addr}{fd:FuncData}{x:Str}{sp:Sp}{s₁:Shared}{vs:ο}{ns:ξ}
  (KX:K.In s₁.heap) (hns:s₁.heap.Ns mainGlobals mg) (hb:s₁.heap.Ns builtinsNs mb) (hbb:∀x:Str,x≠ "__name__"->mb x=bootBuiltins x) (ZQ:s₁.heap.NoLimit) (Kx:s₁.heap.NoSeer) (hg:s₁.gens= #[])
  (ha:s₁.heap.get? a=some {cls:=.type "list",data:=.seq vs.toArray}) (hi:IntsAre vs ns) (hl:ns.length<=sizeLine) (hr:cD k callerA)
  (F:∀base:Heap,K.In base->base.Ns mainGlobals mg->cI P w K mg base CX k fa fd [x] sp) (Sh:∀(s:Shared) (u:Value),BindsTo s fd ⟨[u],[]⟩ [(x,u)])
  (pZ:∀H:Hp,Sg H->a8 K H a (ns.map V.int)->sp [.ref a] H (fun v _=>v=.bl true) fun _ _ _=>False)
  (hCX:∀H e s',CX [] H s₁ (fun _ _ _=>False) e s' ->False):
  codeAny (model P w) callerA (.call (.ref fa) ⟨[.ref a],[]⟩) (fun r s' =>r=.ok (.ret (.bool true))/\OldK s₁.heap s'.heap/\s'.os=s₁.os/\AllBare s'.gens) s₁:=by
 have rv:=qN hi
 have ZR:=hi.length
 have core:∀H:Hp,Sg H->a8 K H a (ns.map V.int)->iQ P w H s₁.heap->(∀b,H b≠none->b=a)->(H a≠none->K.lookup a=none)->
   codeAny (model P w) callerA (.call (.ref fa) ⟨[.ref a],[]⟩) (fun r s' =>r=.ok (.ret (.bool true))/\OldK s₁.heap s'.heap/\s'.os=s₁.os/\AllBare s'.gens) s₁:=by
  intro H hO hS bK hA hK
  have rV:∀{b:Addr} {o:Obj},s₁.heap.get? b=some o->H b=none->(rK s₁.heap H).get? b=some o:=fun e n=>DX e n
  have R5:∀{b:Addr} {o:Obj} {es:Array DictEntry} {ep:Nat},s₁.heap.get? b=some o->o.data=.dict es ep->H b=none:=fun {b o es ep} e d=>by
   cases q:H b with
   | none=>rfl
   | some u=>
    have e' :b=a:=hA b (by rw [q];simp)
    subst e'
    rw [ha] at e;cases e
    have d' :Data.seq vs.toArray _=Data.dict es ep:=d
    cases d'
  have M4:∀{b:Addr} {m:ι},s₁.heap.Ns b m->(rK s₁.heap H).Ns b m:=fun {b m} ⟨o,es,ep,e,d,r⟩=>⟨o,es,ep,rV e (R5 e d),d,r⟩
  have hKb:K.In (rK s₁.heap H):=fun b o e=>rV (KX b o e) (by
   cases q:H b with
   | none=>rfl
   | some u=>
    have e' :b=a:=hA b (by rw [q];simp)
    subst e'
    rw [hK (by rw [q];simp)] at e;cases e)
  have hM:Mod K mg (rK s₁.heap H):=⟨hKb,M4 hns,⟨mb,M4 hb,hbb⟩,let ⟨mc,h1,h2⟩:=ZQ;⟨mc,M4 h1,h2⟩,
   ⟨let ⟨mc,h1,h2⟩:=Kx.statics;⟨mc,M4 h1,h2⟩,let ⟨mc,h1,h2⟩:=Kx.mods;⟨mc,M4 h1,h2⟩,let ⟨mc,h1,h2⟩:=Kx.imp;⟨mc,M4 h1,h2⟩,
    let ⟨mg',bm,ob,h1,h2,h3,h4,h5⟩:=Kx.main;⟨mg',bm,ob,M4 h1,h2,rV h3 (by
     cases q:H bm with
     | none=>rfl
     | some u=>
      have e' :bm=a:=hA bm (by rw [q];simp)
      subst e'
      rw [ha] at h3
      cases h3
      have h4' :Value.type "list"=Value.type "module":=h4
      injection h4' with e9
      exact absurd e9 (by decide)),h4,h5⟩⟩⟩
  have e0:wH P w K mg (rK s₁.heap H) callerA [] s₁ H:=⟨rfl,hM,fun b o e=>Kb e,aie (zA _ _),trivial,fun b hb=>absurd (show b∈([]:List Addr) from hb) (by simp),bK,.of_eq hg⟩
  refine codeAny_mono ((F _ hKb (M4 hns)).run callerA [] s₁ H ⟨[.ref a],[]⟩ [.ref a] [.ref a] _ _ hr e0 (Sh s₁ (.ref a)) (.cons rfl .nil) (pZ H hO hS)) fun r s' h=>?_
  cases r with
  | error e=>exact (hCX H e s' h).elim
  | ok fl=>
   cases fl with
   | next=>exact False.elim h
   | brk=>exact False.elim h
   | cont=>exact False.elim h
   | ret u=>
    obtain ⟨v,H',os,bare,un,ZS,r',q⟩:=h
    have q' :v=.bl true:=q
    subst q'
    obtain rfl:u=Value.bool true:=r'
    refine ⟨rfl,OldK.of_keep fun b o e=>?_,os,bare⟩
    cases q:H b with
    | none=>exact un.keep b o e q (by intro z;exact absurd (show b∈([]:List Addr) from z) (by simp)) (by simp)
    | some u=>
     rcases hO b with z | ⟨ob,xs,z⟩
     ·rw [q] at z;cases z
     ·have z2:=un.m_ b ob _ z
      obtain ⟨e1,_⟩:=bK b _ z
      obtain ⟨e2,_⟩:=ZS b _ z2
      rw [e] at e1;cases e1
      exact e2
 cases hk:K.lookup a with
 | some o=>
  have e:=KX a o hk
  rw [ha] at e
  cases e
  refine core (fun _=>none) (fun _=>.inl rfl) (.inr ⟨_,vs.toArray,_,hk,rfl,rfl,rfl,by rw [aaF,ZR];exact hl,by simpa using rv⟩) (fun b u z=>by have z' :(none:Option HO)=some u:=z;cases z') (fun b z=>absurd rfl z) fun z=>absurd rfl z
 | none=>
  refine core (fun b=>if b=a then some (.dA {cls:=.type "list",data:=.seq vs.toArray} (.lst (ns.map V.int))) else none) (fun b=>?_) (.inl (.inr ⟨{cls:=.type "list",data:=.seq vs.toArray},if_pos rfl⟩)) (fun b u z=>?_) (fun b z=>?_) fun _=>hk
  ·by_cases hb:b=a
   ·exact .inr ⟨_,_,if_pos hb⟩
   ·exact .inl (if_neg hb)
  ·by_cases hb:b=a
   ·have z' :=(if_pos hb).symm.trans z
    cases z'
    subst hb
    exact ⟨ha,by rw [aab];exact hl,vs,_,rv,ha⟩
   ·have z' :=(if_neg hb).symm.trans z
    cases z'
  ·by_cases hb:b=a
   ·exact hb
   ·exact absurd (if_neg hb) z
end L2
namespace L2
open PySem PySem.Spec PyProof.Rows
abbrev KOf {K:Frag}{h:Heap}(_:K.In h):Frag:=K
end L2
namespace L2
open PySem PySem.Spec PyProof.Rows
def inClass (s:Stmt)(j:Nat):Stmt:=match s with
 | .ClassDef _ _ _ body _ _ _ _ _ _ _=>body.getD j (.Pass ⟨0,0,0,0⟩)
 | _=>.Pass ⟨0,0,0,0⟩
def ay (s:Stmt):Arguments:=match s with
 | .FunctionDef _ a _ _ _ _ _ _ _ _=>a
 | _=>{posonlyargs:=[],args:=[],vararg:=none,kwonlyargs:=[],kw_defaults:=[],kwarg:=none,defaults:=[]}
def aw (s:Stmt):List Stmt:=match s with
 | .FunctionDef _ _ b _ _ _ _ _ _ _=>b
 | _=>[]
def ag (s:Stmt):Scope:=match s with
 | .FunctionDef _ _ _ _ _ _ sc _ _ _=>sc
 | _=>{kind:=.function,names:=[],isGenerator:=false,isCoroutine:=false}
abbrev E0:XK:=fun _ _ _=>False
structure mO (K:Frag)(x qual:Str)(st:Stmt)(f:Addr)(fd:FuncData):Prop where
 ex:∃(oc:Value) (od:Θ) (kV doc pm:Value) (an:Θ) (bM ct:Value) (pJ:Κ),
  fd=fnOf x qual (ay st) (aw st) (ag st) .none kV doc pm an bM ct/\K.lookup f=some ⟨oc,od,.func fd,pJ⟩/\codeIn K bM qual=true
 kp:keepIn K (.ref f)=true
section
variable {P:Program}{w:World}{K:Frag}{mg:ι}{base:Heap}
theorem mO.binds {x qual:Str}{st:Stmt}{f:Addr}{fd:FuncData}{ps:ρ}(F:mO K x qual st f fd)
  (h:∀(kV doc pm:Value) (an:Θ) (bM ct:Value) (us:ο),us.length=ps.length->bindArgs (fnOf x qual (ay st) (aw st) (ag st) .none kV doc pm an bM ct) ⟨us,[]⟩=pure (ps.zip us)):Binds K fd ps []:=by
 obtain ⟨oc,od,kV,doc,pm,an,bM,ct,pJ,rfl,lk,pU⟩:=F.ex
 exact .all (h kV doc pm an bM ct)
theorem cV {x qual:Str}{st:Stmt}{f:Addr}{oc:Value}{od an:Θ}{pJ:Κ}{kV doc pm bM ct:Value}(l:K.lookup f=some ⟨oc,od,.func (fnOf x qual (ay st) (aw st) (ag st) .none kV doc pm an bM ct),pJ⟩)
  (c:codeIn K bM qual=true) (k:keepIn K (.ref f)=true):mO K x qual st f (fnOf x qual (ay st) (aw st) (ag st) .none kV doc pm an bM ct):=⟨⟨oc,od,kV,doc,pm,an,bM,ct,pJ,rfl,l,c⟩,k⟩
end
theorem bX {A:Around}{k:Nat}(hr:cD k A):A.units+1 < cLine:=aaq (Nat.add_le_add_left (by decide:1<=64) _) hr.units
section
variable {X:Cx}
theorem pv (i:Nat){x:Str}{pos:Pos}(hN:X.N[i]? =some x:=by rfl)(hv:Zn X.env.scope x:=by first | exact aan rfl | exact aa_ (aan rfl) | exact aa_ (aa_ rfl))(hd:(x==("__debug__":Str))=false:=by decide)
  (pU:(x==("__classdict__":Str))=false:=by decide):PE X (.Name x pos) (Kf i):=Og hN hv hd pU
end
theorem OJ {A B:Prop}(h:B):if false=true then A else B:=by
 rw [if_neg aaG]
 exact h
theorem OK {A B:Prop}(h:A):if true=true then A else B:=by
 rw [if_pos rfl]
 exact h
theorem bx {c A B:Prop}[Decidable c](h1:c->A)(h2:¬ c->B):if c then A else B:=by
 by_cases h:c
 ·rw [if_pos h]
  exact h1 h
 ·rw [if_neg h]
  exact h2 h
theorem M6 {c A B:Prop}[Decidable c](hc:c)(h:B):if (!decide c)=true then A else B:=by
 rw [decide_eq_true hc]
 exact OJ h
def au (H H' :Hp):Prop:=∀b o,H b=some o->H' b=some o
theorem au.refl (H:Hp):au H H:=fun _ _ h=>h
theorem au.trans {H H1 H2:Hp}(a:au H H1)(b:au H1 H2):au H H2:=fun c o h=>b c o (a c o h)
theorem au.free {H H' :Hp}(e:au H H'){l:Addr}(h:H' l=aqc):H l=aqc:=by
 cases q:H l with
 | none=>rfl
 | some o=>
  rw [e l o q] at h
  cases h
theorem au.seq {K:Frag}{H H' :Hp}{a:Addr}{xs:ζ}(e:au H H')(h:a8 K H a xs):a8 K H' a xs:=by
 rcases h with (h | ⟨o,h⟩) | h
 ·exact .inl (.inl (e _ _ h))
 ·exact .inl (.inr ⟨o,e _ _ h⟩)
 ·exact .inr h
end L2
namespace Ty
def gz (t b:Int):Int:=(abm t b:Nat)
def sg (t b:Int):Int:=if b < 0 then -gz t b else gz t b
def low (t b:Int):Int×Int:=(t.fdiv (sg t b),b.fdiv (sg t b))
theorem uC (a b:Int):abm b (a.fmod b)=abm a b:=by
 rw [aiG,Int.gcd_sub_mul_left_right,Int.gcd_comm]
theorem qO {a b:Int}(h:b≠0):(a.fmod b).natAbs < b.natAbs:=by
 rcases ah9 b 0 with q | q | q
 ·have h1:(-a).fmod (-b)= -(a.fmod b):=by
   rw [aiG,aiG,Int.neg_fdiv_neg,Int.neg_mul]
   omega
  have h2:=ag_ (-a) (show 0 < -b by omega)
  have h3:=ah1 (-a) (show 0 < -b by omega)
  omega
 ·exact absurd q h
 ·have h2:=ag_ a q
  have h3:=ah1 a q
  omega
theorem rW {t b:Int}(h:b≠0):0 < gz t b:=by
 have:=ai1.mpr (aa_ h:t≠0\/b≠0)
 show (0:Int) < ((abm t b:Nat):Int)
 omega
theorem Si {t b:Int}(h:b≠0):(gz t b).natAbs<=b.natAbs:=by
 have h1:abm t b ∣ b.natAbs:=ahi.mpr (ab' t b)
 have h2:=Nat.le_of_dvd (by omega) h1
 show ((abm t b:Nat):Int).natAbs<=_
 omega
theorem nJ {t b:Int}(h:b≠0):sg t b≠0:=by
 have:=rW (t:=t) h
 unfold sg
 split <;> omega
theorem OL {t b:Int}:(sg t b).natAbs=(gz t b).natAbs:=by
 unfold sg
 split
 ·exact ais _
 ·rfl
theorem uD (t b:Int):sg t b ∣ t:=by
 unfold sg gz
 split
 ·exact Int.neg_dvd.mpr (ae_ t b)
 ·exact ae_ t b
theorem rX (t b:Int):sg t b ∣ b:=by
 unfold sg gz
 split
 ·exact Int.neg_dvd.mpr (ab' t b)
 ·exact ab' t b
theorem cy {a g:Int}(h:g≠0)(d:g ∣ a):a=g*a.fdiv g:=by
 obtain ⟨c,hc⟩:=d
 have:=ahl h hc
 rw [this]
 exact hc
theorem mP {t b:Int}(h:b≠0):t=sg t b*(low t b).1:=cy (nJ h) (uD t b)
theorem jw {t b:Int}(h:b≠0):b=sg t b*(low t b).2:=cy (nJ h) (rX t b)
theorem jx {t b:Int}(h:b≠0):0 < (low t b).2:=by
 have e:=jw (t:=t) h
 have g:=rW (t:=t) h
 rcases ah9 (low t b).2 0 with q | q | q
 ·exfalso
  by_cases c:b < 0
  ·have s:sg t b= -gz t b:=by unfold sg;rw [if_pos c]
   rw [s] at e
   have:=Int.mul_pos_of_neg_of_neg (show -gz t b < 0 by omega) q
   omega
  ·have s:sg t b=gz t b:=by unfold sg;rw [if_neg c]
   rw [s] at e
   have:=ah6 g q
   omega
 ·exfalso
  rw [q,ahC] at e
  exact h e
 ·exact q
theorem zM {t b:Int}(h:b≠0):(low t b).1*b=t*(low t b).2:=by
 have e1:=mP (t:=t) h
 have e2:=jw (t:=t) h
 calc (low t b).1*b=(low t b).1*(sg t b*(low t b).2):=by rw [<- e2]
  _=sg t b*(low t b).1*(low t b).2:=by rw [<- ahP,acd (low t b).1]
  _=t*(low t b).2:=by rw [<- e1]
theorem mQ {t b:Int}(h:b≠0):abm (low t b).1 (low t b).2=1:=by
 have e1:=mP (t:=t) h
 have e2:=jw (t:=t) h
 have k:abm t b=(sg t b).natAbs*abm (low t b).1 (low t b).2:=by
  have q:=aiV (sg t b) (low t b).1 (low t b).2
  rw [<- e1, <- e2] at q
  exact q
 have g:(sg t b).natAbs=abm t b:=by
  rw [OL]
  rfl
 have p:=ai1.mpr (aa_ h:t≠0\/b≠0)
 rw [g] at k
 have k' :abm t b*1=abm t b*abm (low t b).1 (low t b).2:=by rw [Nat.mul_one];exact k
 exact (Nat.eq_of_mul_eq_mul_left p k').symm
theorem dC {g a:Int}(h:g≠0):a.natAbs<=(g*a).natAbs:=by
 rw [abZ]
 have:1<=g.natAbs:=by omega
 have:=aa4 a.natAbs this
 omega
theorem nK {t b:Int}(h:b≠0):(low t b).1.natAbs<=t.natAbs:=by
 have e:=mP (t:=t) h
 have:=dC (g:=sg t b) (a:=(low t b).1) (nJ h)
 rw [<- e] at this
 exact this
theorem nM {t b:Int}(h:b≠0):(low t b).2.natAbs<=b.natAbs:=by
 have e:=jw (t:=t) h
 have:=dC (g:=sg t b) (a:=(low t b).2) (nJ h)
 rw [<- e] at this
 exact this
theorem FD {t b g x y:Int}(hg:g≠0)(ht:t=g*x)(hb:b=g*y)(hy:0 < y)(h1:abm x y=1):low t b=(x,y):=by
 have hbn:b≠0:=by
  rw [hb]
  exact ai2 hg (by omega)
 have gg:abm t b=g.natAbs:=by
  rw [ht,hb,aiV,h1,Nat.mul_one]
 have s:sg t b=g:=by
  unfold sg gz
  rw [gg]
  by_cases c:g < 0
  ·have:b < 0:=by rw [hb];exact Int.mul_neg_of_neg_of_pos c hy
   rw [if_pos this]
   omega
  ·have:¬ b < 0:=by
    have:=Int.mul_nonneg (show 0<=g by omega) (show 0<=y by omega)
    omega
   rw [if_neg this]
   omega
 unfold low
 rw [s]
 rw [ahl hg ht,ahl hg hb]
theorem nN {x y:Int}(hy:0 < y)(h:abm x y=1):low x y=(x,y):=FD (g:=1) (by decide) (by omega) (by omega) hy h
theorem qP {t b k:Int}(hk:k≠0)(h:b≠0):low (k*t) (k*b)=low t b:=by
 refine FD (g:=k*sg t b) (ai2 hk (nJ h)) ?_ ?_ (jx h) (mQ h)
 ·rw [ahP]
  exact congrArg (k*·) (mP h)
 ·rw [ahP]
  exact congrArg (k*·) (jw h)
theorem qa {t b u c:Int}(hb:b≠0)(hc:c≠0)(h:t*c=u*b):low t b=low u c:=by
 rw [<- qP (t:=t) (b:=b) hc hb, <- qP (t:=u) (b:=c) hb hc]
 rw [acd c t,h,acd u b,acd c b]
end Ty
set_option maxHeartbeats 4000000
namespace Ty
open PySem PySem.Spec PyProof.Rows L2
open Builtin.Int (intBits)
section
variable {X:Cx}
def nO (i j:Int):Prop:=intBits i<=33554432/\intBits j<=33554432
theorem cF:iR X (binaryOp .Mult) (rI nO fun i j=>.int (i*j)):=
 Yr fun _ _ _ _ _ _ _ hc q=>mul_int q (IntMulOk.of_le hc.1 hc.2 (by decide))
def Sj (i j:Int):Prop:=j≠0/\intBits j<=9000
theorem ZT {i j:Int}(h:intBits j<=9000):Builtin.divisionGoesByPylong i j=false:=by
 refine PyProof.noPylong_of_log2 ?_
 have h1:=intBits_le_iff.mp h
 by_cases h0:j.natAbs=0
 ·rw [h0]
  decide+kernel
 ·exact (Nat.log2_lt h0).mpr h1
theorem uE:iR X (binaryOp .FloorDiv) (rI Sj fun i j=>.int (i.fdiv j)):=
 Yr fun _ _ _ _ _ _ _ hc q=>floordiv_int hc.1 q (.inl (ZT hc.2))
end
inductive Da where
 | v (x:V)
 | t (ds:List Da)
 | l (ds:List Da)
mutual
def Is (K:Frag)(H:Hp):Da->V->Prop
 | .v x,u=>u=x/\iS x=true
 | .t ds,u=>∃p xs,u=.ref p/\bU K H p xs/\eA K H ds xs
 | .l ds,u=>∃p xs,u=.ref p/\a8 K H p xs/\eA K H ds xs
def eA (K:Frag)(H:Hp):List Da->List V->Prop
 | [],[]=>True
 | d::ds,x::xs=>Is K H d x/\eA K H ds xs
 | _,_=>False
end
mutual
def gf:Da->Da->Bool
 | .v x,.v y=>mj x y
 | .t ds,.t es=>cW ds es
 | .l ds,.l es=>cW ds es
 | _,_=>false
def cW:List Da->List Da->Bool
 | [],[]=>true
 | d::ds,e::es=>gf d e && cW ds es
 | _,_=>false
end
mutual
def alike:Da->Da->Bool
 | .v _,.v _=>true
 | .t ds,.t es=>dc ds es
 | .l ds,.l es=>dc ds es
 | _,_=>false
def dc:List Da->List Da->Bool
 | d::ds,e::es=>alike d e && dc ds es
 | _,_=>true
end
mutual
def dep:Da->Nat
 | .v _=>0
 | .t ds=>dH ds+1
 | .l ds=>dH ds+1
def dH:List Da->Nat
 | []=>0
 | d::ds=>max (dep d) (dH ds)
end
theorem eA.length {K:Frag}{H:Hp}:∀{ds:List Da} {xs:ζ},eA K H ds xs->ds.length=xs.length
 | [],[],_=>rfl
 | _::_,_::_,h=>congrArg (·+1) (eA.length (by unfold eA at h;exact h.2))
 | [],_::_,h=>by unfold eA at h;exact h.elim
 | _::_,[],h=>by unfold eA at h;exact h.elim
def ib (ds es:List Da)(j:Nat):Bool:=match ds[j]?,es[j]? with
 | some d,some e=>gf d e
 | _,_=>true
theorem de:∀ds es:List Da,cW ds es=((abl (min ds.length es.length)).all (ib ds es) && ds.length==es.length)
 | [],[]=>rfl
 | [],_::_=>by simp [cW]
 | _::_,[]=>by simp [cW]
 | d::ds,e::es=>by
  have ih:=de ds es
  have r:min (d::ds).length (e::es).length=min ds.length es.length+1:=by simp [Nat.succ_min_succ]
  rw [r,aih,ahO,aiH]
  have b0:ib (d::ds) (e::es) 0=gf d e:=rfl
  have b1:(ib (d::ds) (e::es) ∘ Nat.succ)=ib ds es:=by
   funext j
   rfl
  have l1:((d::ds).length==(e::es).length)=(ds.length==es.length):=by simp
  rw [b0,b1,l1,Bool.and_assoc, <- ih]
  rfl
section
variable {X:Cx}{pins:ε}{σ:L2.St}{H:Hp}{s:Shared}
theorem uF {x:V}(h:iS x=true):mj x x=true:=by
 cases x <;> first | rfl | (simp [mj];done) | (cases h;done)
mutual
theorem rY (I:Inv X pins σ H s):∀(d e:Da) (x:V),Is X.K H d x->Is X.K H e x->alike d e=true->gf d e=true
 | .v a,.v b,x,h1,h2,_=>by
  unfold Is at h1 h2
  obtain ⟨rfl,f⟩:=h1
  obtain ⟨rfl,_⟩:=h2
  unfold gf
  exact uF f
 | .t ds,.t es,x,h1,h2,a=>by
  unfold Is at h1 h2
  obtain ⟨p,xs,rfl,q1,k1⟩:=h1
  obtain ⟨p',ys,e',q2,k2⟩:=h2
  cases e'
  cases I.gc q1 q2
  unfold gf
  unfold alike at a
  exact nQ I ds es xs k1 k2 a
 | .l ds,.l es,x,h1,h2,a=>by
  unfold Is at h1 h2
  obtain ⟨p,xs,rfl,q1,k1⟩:=h1
  obtain ⟨p',ys,e',q2,k2⟩:=h2
  cases e'
  cases I.hV q1 q2
  unfold gf
  unfold alike at a
  exact nQ I ds es xs k1 k2 a
 | .v _,.t _,_,_,_,a=>by unfold alike at a;cases a
 | .v _,.l _,_,_,_,a=>by unfold alike at a;cases a
 | .t _,.v _,_,_,_,a=>by unfold alike at a;cases a
 | .t _,.l _,_,_,_,a=>by unfold alike at a;cases a
 | .l _,.v _,_,_,_,a=>by unfold alike at a;cases a
 | .l _,.t _,_,_,_,a=>by unfold alike at a;cases a
theorem nQ (I:Inv X pins σ H s):∀(ds es:List Da) (xs:ζ),eA X.K H ds xs->eA X.K H es xs->dc ds es=true->cW ds es=true
 | [],[],_,_,_,_=>by unfold cW;rfl
 | d::ds,e::es,x::xs,h1,h2,a=>by
  unfold eA at h1 h2
  unfold dc at a
  rw [abC] at a
  unfold cW
  rw [rY I d e x h1.1 h2.1 a.1,nQ I ds es xs h1.2 h2.2 a.2]
  rfl
 | [],_::_,[],_,h2,_=>by unfold eA at h2;exact h2.elim
 | [],_::_,_::_,h1,_,_=>by unfold eA at h1;exact h1.elim
 | _::_,[],[],h1,_,_=>by unfold eA at h1;exact h1.elim
 | _::_,[],_::_,_,h2,_=>by unfold eA at h2;exact h2.elim
 | _::_,_::_,[],h1,_,_=>by unfold eA at h1;exact h1.elim
end
theorem in1_units (A:Around):A.in1.units=A.units+1:=rfl
mutual
theorem yt (I:Inv X pins σ H s):∀(d e:Da) (x y:V) (u w:Value) (A:Around),Is X.K H d x->Is X.K H e y->alike d e=true->RelV x u->RelV y w->A.units+dep d < cLine->SeqAt.EqAt A s u w (gf d e)
 | .v a,.v b,x,y,u,w,A,h1,h2,_,r1,r2,_=>by
  unfold Is at h1 h2
  obtain ⟨rfl,f1⟩:=h1
  obtain ⟨rfl,f2⟩:=h2
  unfold gf
  exact EV r1 r2 f1 f2
 | .t ds,.t es,x,y,u,w,A,h1,h2,a,r1,r2,hu=>by
  have dB :=h1
  have M7 :=h2
  unfold Is at h1 h2
  obtain ⟨p,xs,rfl,q1,k1⟩:=h1
  obtain ⟨p',ys,rfl,q2,k2⟩:=h2
  cases r1
  cases r2
  by_cases e:p=p'
  ·subst e
   rw [rY I _ _ _ dB M7 a]
   exact .same _
  ·refine .of_refs e ?_
   obtain ⟨its,v1,t1,_⟩:=I.tuple q1
   obtain ⟨dW,v2,t2,_⟩:=I.tuple q2
   unfold gf
   rw [de,k1.length,k2.length,v1.length,v2.length]
   have z:=SeqAt.RcAt.tuples (A:=A) (e:=ib ds es) t1 t2 (by unfold dep at hu;omega) fun j g1 g2=>by
    unfold dep at hu
    unfold alike at a
    exact ft I ds es xs ys its dW A.in1 k1 k2 a v1 v2 (by rw [in1_units];omega) j (by simpa using g1) (by simpa using g2)
   simpa using z
 | .l ds,.l es,x,y,u,w,A,h1,h2,a,r1,r2,hu=>by
  have dB :=h1
  have M7 :=h2
  unfold Is at h1 h2
  obtain ⟨p,xs,rfl,q1,k1⟩:=h1
  obtain ⟨p',ys,rfl,q2,k2⟩:=h2
  cases r1
  cases r2
  by_cases e:p=p'
  ·subst e
   rw [rY I _ _ _ dB M7 a]
   exact .same _
  ·refine .of_refs e ?_
   obtain ⟨its,v1,t1,_⟩:=I.list q1
   obtain ⟨dW,v2,t2,_⟩:=I.list q2
   unfold gf
   unfold dep at hu
   unfold alike at a
   by_cases el:its.length=dW.length
   ·rw [de,k1.length,k2.length,v1.length,v2.length]
    have z:=SeqAt.RcAt.lists (A:=A) (e:=ib ds es) t1.isList t2.isList (by simpa using el) (by omega) fun j g1 g2=>
     ft I ds es xs ys its dW A.in1 k1 k2 a v1 v2 (by rw [in1_units];omega) j (by simpa using g1) (by simpa using g2)
    rw [el,aiI,beq_self_eq_true,aiy]
    rw [aaF,el] at z
    exact z
   ·have ne:cW ds es=false:=by
     rw [de,k1.length,k2.length,v1.length,v2.length,beq_eq_false_iff_ne.mpr el,ah2]
    rw [ne]
    exact SeqAt.RcAt.lists_lengths t1.isList t2.isList (by simpa using el) (by omega)
 | .v _,.t _,_,_,_,_,_,_,_,a,_,_,_=>by unfold alike at a;cases a
 | .v _,.l _,_,_,_,_,_,_,_,a,_,_,_=>by unfold alike at a;cases a
 | .t _,.v _,_,_,_,_,_,_,_,a,_,_,_=>by unfold alike at a;cases a
 | .t _,.l _,_,_,_,_,_,_,_,a,_,_,_=>by unfold alike at a;cases a
 | .l _,.v _,_,_,_,_,_,_,_,a,_,_,_=>by unfold alike at a;cases a
 | .l _,.t _,_,_,_,_,_,_,_,a,_,_,_=>by unfold alike at a;cases a
theorem ft (I:Inv X pins σ H s):∀(ds es:List Da) (xs ys:ζ) (us ws:ο) (A:Around),eA X.K H ds xs->eA X.K H es ys->dc ds es=true->Vals xs us->Vals ys ws->A.units+dH ds < cLine->
  ∀(j:Nat) (h1:j < us.length) (h2:j < ws.length),SeqAt.EqAt A s us[j] ws[j] (ib ds es j)
 | d::ds,e::es,x::xs,y::ys,u::us,w::ws,A,k1,k2,a,.cons r1 v1,.cons r2 v2,hu,0,_,_=>by
  unfold eA at k1 k2
  unfold dc at a
  rw [abC] at a
  unfold dH at hu
  exact yt I d e x y u w A k1.1 k2.1 a.1 r1 r2 (by omega)
 | d::ds,e::es,x::xs,y::ys,u::us,w::ws,A,k1,k2,a,.cons r1 v1,.cons r2 v2,hu,j+1,h1,h2=>by
  unfold eA at k1 k2
  unfold dc at a
  rw [abC] at a
  unfold dH at hu
  exact ft I ds es xs ys us ws A k1.2 k2.2 a.2 v1 v2 (by omega) j (by simpa using h1) (by simpa using h2)
 | [],_,[],_,_,_,_,_,_,_,.nil,_,_,_,h1,_=>absurd h1 (abP _)
 | _,[],_,[],_,_,_,_,_,_,_,.nil,_,_,_,h2=>absurd h2 (abP _)
 | [],_,_::_,_,_,_,_,k1,_,_,_,_,_,_,_,_=>by unfold eA at k1;exact k1.elim
 | _::_,_,[],_,_,_,_,k1,_,_,_,_,_,_,_,_=>by unfold eA at k1;exact k1.elim
 | _,[],_,_::_,_,_,_,_,k2,_,_,_,_,_,_,_=>by unfold eA at k2;exact k2.elim
 | _,_::_,_,[],_,_,_,_,k2,_,_,_,_,_,_,_=>by unfold eA at k2;exact k2.elim
end
end
section
variable {X:Cx}
inductive FE (K:Frag)(x:V)(y:V)(H:Hp)(Q:VK):Prop where
 | mk (ds es:_) (_:((Is K H (.t ds) x/\Is K H (.t es) y)\/(Is K H (.l ds) x/\Is K H (.l es) y))) (_:dc ds es=true) (_:dH ds<=60) (_:Q (.bl (cW ds es)) H):FE K x y H Q
inductive uG (K:Frag)(x:V)(y:V)(H:Hp)(Q:VK):Prop where
 | mk (ds es:_) (_:((Is K H (.t ds) x/\Is K H (.t es) y)\/(Is K H (.l ds) x/\Is K H (.l es) y))) (_:dc ds es=true) (_:dH ds<=60) (_:Q (.bl (!cW ds es)) H):uG K x y H Q
theorem mR (hu:X.A.units+64 < cLine):iR X (compareOp .Eq) (FE X.K):=by
 intro pins s σ H x y v u Q I rx ry h
 obtain ⟨ds,es,h,a,hd,q⟩:=h
 rcases h with ⟨h1,h2⟩ | ⟨h1,h2⟩
 ·unfold Is at h1 h2
  obtain ⟨p,xs,rfl,q1,k1⟩:=h1
  obtain ⟨p',ys,rfl,q2,k2⟩:=h2
  cases rx
  cases ry
  obtain ⟨its,v1,t1,_⟩:=I.tuple q1
  obtain ⟨dW,v2,t2,_⟩:=I.tuple q2
  have z:=SeqAt.RcAt.tuples (A:=X.A) (e:=ib ds es) t1 t2 (by omega) fun j g1 g2=>
   ft I ds es xs ys its dW X.A.in1 k1 k2 a v1 v2 (by rw [in1_units];omega) j (by simpa using g1) (by simpa using g2)
  refine z X.prog X.w X.xe _ ⟨.bl _,H,I,rfl,?_⟩
  have e:=de ds es
  rw [k1.length,k2.length,v1.length,v2.length] at e
  simpa [e] using q
 ·unfold Is at h1 h2
  obtain ⟨p,xs,rfl,q1,k1⟩:=h1
  obtain ⟨p',ys,rfl,q2,k2⟩:=h2
  cases rx
  cases ry
  obtain ⟨its,v1,t1,_⟩:=I.list q1
  obtain ⟨dW,v2,t2,_⟩:=I.list q2
  have e:=de ds es
  rw [k1.length,k2.length,v1.length,v2.length] at e
  by_cases el:its.length=dW.length
  ·have z:=SeqAt.RcAt.lists (A:=X.A) (e:=ib ds es) t1.isList t2.isList (by simpa using el) (by omega) fun j g1 g2=>
    ft I ds es xs ys its dW X.A.in1 k1 k2 a v1 v2 (by rw [in1_units];omega) j (by simpa using g1) (by simpa using g2)
   refine z X.prog X.w X.xe _ ⟨.bl _,H,I,rfl,?_⟩
   rw [el,aiI,beq_self_eq_true,aiy] at e
   simpa [e,el] using q
  ·have ne:cW ds es=false:=by rw [e,beq_eq_false_iff_ne.mpr el,ah2]
   rw [ne] at q
   exact SeqAt.RcAt.lists_lengths t1.isList t2.isList (by simpa using el) (by omega) X.prog X.w X.xe _ ⟨.bl _,H,I,rfl,q⟩
theorem jy (hu:X.A.units+64 < cLine):iR X (compareOp .NotEq) (uG X.K):=by
 intro pins s σ H x y v u Q I rx ry h
 obtain ⟨ds,es,h,a,hd,q⟩:=h
 rcases h with ⟨h1,h2⟩ | ⟨h1,h2⟩
 ·unfold Is at h1 h2
  obtain ⟨p,xs,rfl,q1,k1⟩:=h1
  obtain ⟨p',ys,rfl,q2,k2⟩:=h2
  cases rx
  cases ry
  obtain ⟨its,v1,t1,_⟩:=I.tuple q1
  obtain ⟨dW,v2,t2,_⟩:=I.tuple q2
  have z:=SeqAt.RcNeAt.tuples (A:=X.A) (e:=ib ds es) t1 t2 (by omega) fun j g1 g2=>
   ft I ds es xs ys its dW X.A.in1 k1 k2 a v1 v2 (by rw [in1_units];omega) j (by simpa using g1) (by simpa using g2)
  refine z X.prog X.w X.xe _ ⟨.bl _,H,I,rfl,?_⟩
  have e:=de ds es
  rw [k1.length,k2.length,v1.length,v2.length] at e
  simpa [e] using q
 ·unfold Is at h1 h2
  obtain ⟨p,xs,rfl,q1,k1⟩:=h1
  obtain ⟨p',ys,rfl,q2,k2⟩:=h2
  cases rx
  cases ry
  obtain ⟨its,v1,t1,_⟩:=I.list q1
  obtain ⟨dW,v2,t2,_⟩:=I.list q2
  have e:=de ds es
  rw [k1.length,k2.length,v1.length,v2.length] at e
  by_cases el:its.length=dW.length
  ·have z:=SeqAt.RcNeAt.lists (A:=X.A) (e:=ib ds es) t1.isList t2.isList (by simpa using el) (by omega) fun j g1 g2=>
    ft I ds es xs ys its dW X.A.in1 k1 k2 a v1 v2 (by rw [in1_units];omega) j (by simpa using g1) (by simpa using g2)
   refine z X.prog X.w X.xe _ ⟨.bl _,H,I,rfl,?_⟩
   rw [el,aiI,beq_self_eq_true,aiy] at e
   simpa [e,el] using q
  ·have ne:cW ds es=false:=by rw [e,beq_eq_false_iff_ne.mpr el,ah2]
   rw [ne] at q
   exact SeqAt.RcNeAt.lists_lengths t1.isList t2.isList (by simpa using el) (by omega) X.prog X.w X.xe _ ⟨.bl _,H,I,rfl,q⟩
def OM:V->Value
 | .ty n=>.type n
 | .ref a=>.ref a
 | _=>.none
def M8:V->Bool
 | .ty _=>true
 | .ref _=>true
 | _=>false
theorem yu {c:V}{u:Value}(h:M8 c=true)(r:RelV c u):u=OM c:=by
 cases c <;> first | exact r | (cases h;done)
inductive Sk (K:Frag)(xs:ζ)(H:Hp)(Q:VK):Prop where
 | mk (x c t b:_) (_:xs=[x,c]) (_:M8 c=true) (_:j9 K H x t) (_:PySem.W.kitOne K t (OM c)=some b) (_:Q (.bl b) H):Sk K xs H Q
theorem gh:fg X (.builtin "isinstance") (Sk X.K):=by
 intro pins s σ H xs us Q I r h
 obtain ⟨x,c,t,b,rfl,hc,ty,e,q⟩:=h
 obtain ⟨u,w,rfl,r1,r2⟩:=vals2 r
 obtain rfl:=yu hc r2
 exact zH I r1 ty e fun tk=>⟨.bl b,H,I.tok tk,rfl,q⟩
end
section
variable {K:Frag}
theorem FF {a b:String}{v:Bool}(h:((Value.type a==Value.type b)=true->v=true)/\((Value.type a==Value.type b)=false->PySem.W.kitMeta b=true/\(fastBuiltinMro a).map (·.contains (Value.type b))=some v)):PySem.W.kitOne K (.type a) (.type b)=some v:=by
 unfold PySem.W.kitOne
 by_cases e:(Value.type a==Value.type b)=true
 ·rw [if_pos e,h.1 e]
 ·rw [if_neg e]
  obtain ⟨h1,h2⟩:=h.2 (by simpa using e)
  unfold PySem.W.kitCls
  dsimp only
  rw [if_pos h1]
  exact h2
end
theorem bT:bootBuiltins "len"=some (.builtin "len"):=by decide+kernel
theorem M9:bootBuiltins "abs"=some (.builtin "abs"):=by decide+kernel
theorem cz:bootBuiltins "isinstance"=some (.builtin "isinstance"):=by decide+kernel
theorem FG:bootBuiltins "all"=some (.builtin "all"):=by decide+kernel
theorem FH:bootBuiltins "int"=some (.type "int"):=by decide+kernel
theorem ON:bootBuiltins "bool"=some (.type "bool"):=by decide+kernel
theorem M_:bootBuiltins "str"=some (.type "str"):=by decide+kernel
theorem fS:bootBuiltins "list"=some (.type "list"):=by decide+kernel
theorem yv:bootBuiltins "tuple"=some (.type "tuple"):=by decide+kernel
theorem wN:bootBuiltins "dict"=some (.type "dict"):=by decide+kernel
theorem lR {X:Cx}{x:Str}{n:String}{pos:Pos}(hg:Gl X x)(hm:X.mg x=none)(hv:bootBuiltins x=some (.type n))(hn:x≠ "__name__":=by decide)(hd:(x==("__debug__":Str))=false:=by decide):PE X (.Name x pos) (tC (.ty n)):=Kg (v:=.ty n) hg hm hv rfl hn hd
def OO (_ j:Int):Prop:=j≠0
theorem nz {i j:Int}(h:j≠0):OO i j:=h
theorem eM {X:Cx}:iR X (binaryOp .Mod) (rI OO fun i j=>.int (i.fmod j)):=Kj
theorem Ky {a b:V}:dH [.v a,.v b]<=60:=by simp [dH,dep]
end Ty
set_option maxHeartbeats 4000000
namespace TyAtt
open PySem PySem.W PySem.Calls PyProof.Rows
open Builtin.Int (intBits)
theorem zN {ns:ξ}{n:Int}(h:(WData.list (ns.map WData.int)).layable=true)(hn:n∈ns):intBits n<=1048576:=by
 obtain ⟨_,_,hw⟩:=layableW_iff.mp h
 have a:∀(l:ξ),n∈l->intBits n<=WData.weightAll (l.map WData.int):=by
  intro l
  induction l with
  | nil=>intro q;cases q
  | cons y r ih=>
   intro q
   rw [aal]
   unfold WData.weightAll
   rcases aaN.mp q with z | z
   ·subst z
    have:intBits n<=WData.weight (.int n):=by
     unfold WData.weight
     exact aaf _
    omega
   ·have:=ih z
    omega
 have b:=a ns hn
 unfold WData.weight at hw
 omega
theorem uH {l:OpenLaw}{n:Nat}{q:Program}{loose:ρ}{XP:(Str->Option Value)->Heap->Prop}{YP:World->Heap->Prop}{d:DefRec}
  (hn:l.most=some n) (ZU:d.params.defaults=[])
  (call:∀(w:World) (s₀ s₁:Shared) (mg mb:ι) (fa:Addr) (o:Obj) (pm cd doc:Value) (a:Addr) (vs:ο) (ns:ξ),
   Ground q loose [] XP w s₀ mg mb s₁.heap->YP w s₁.heap->
   s₁.heap.get? fa=some o->o.data=.func (docDef d.name d.params d.body d.scope pm cd doc)->s₁.heap.CodeRec cd d.name->mg d.name=some (.ref fa)->
   s₁.heap.get? a=some {cls:=.type "list",data:=.seq vs.toArray}->IntsAre vs ns->ns.length<=n->(∀i∈ns,intBits i<=1048576)->s₁.gens= #[]->
   codeAny (model l.prog w) callerA (.call (.ref fa) ⟨[.ref a],[]⟩) (fun r s' =>r=.ok (.ret (.bool true))/\OldK s₁.heap s'.heap/\s'.os=s₁.os/\AllBare s'.gens) s₁):
  WalkO q loose XP YP l.row.toRowW d [] (fun f vs=>PySem.call f vs):=by
 intro w s₀ s₁ mg mb G Y fa o pm cd doc dV kV ho hd pU hD Sl hg args vals as Kw hlay hrd ZP hlo
 obtain rfl:dV=.none:=Dflts.none hD ZU
 obtain rfl:kV=.none:=Dflts.noKw hD
 obtain ⟨a,vs,ns,rfl,rfl,OP,hints,hlen⟩:=Att.zK hn Kw ZP
 have hb:∀i∈ns,intBits i<=1048576:=fun i hi=>zN (layW_cons hlay).1 hi
 refine enter_call (codeAny_mono (call w s₀ s₁ mg mb fa o pm cd doc a vs ns G Y ho (fd_plain hd) pU Sl OP hints hlen hb hg) fun r s' hq=>?_)
 obtain ⟨rfl,h2,h3,h4⟩:=hq
 exact ⟨.inl ⟨.bool true,.bool true,[],rfl,fun _=>rfl,.bool true,Att.zL l _,fun _=>⟨List.Pairwise.nil,fun _ hm=>(nomatch hm)⟩⟩,h2,h3,h4⟩
end TyAtt
namespace Ty
open PySem PySem.Spec PyProof.Rows L2
open Builtin.Int (intBits)
structure Fn (P:Program)(w:World)(K:Frag)(mg:ι)(base:Heap)(CX:j6)(k:Nat)(x:Str)(ps:ρ)(sp:Sp):Prop where
 ex:∃(f:Addr) (fd:FuncData),cI P w K mg base CX k f fd ps sp/\Binds K fd ps []/\mg x=some (.ref f)/\keepIn K (.ref f)=true
structure Def (K:Frag)(mg:ι)(x:Str)(st:Stmt)(ps:ρ):Prop where
 ex:∃(f:Addr) (dV oc:Value) (od:Θ) (kV doc pm:Value) (an:Θ) (bM ct:Value) (pJ:Κ),
  K.lookup f=some ⟨oc,od,.func (fnOf x x (ay st) (aw st) (ag st) dV kV doc pm an bM ct),pJ⟩/\codeIn K bM x=true/\keepIn K (.ref f)=true/\
  Binds K (fnOf x x (ay st) (aw st) (ag st) dV kV doc pm an bM ct) ps []/\mg x=some (.ref f)
theorem Def.of {K:Frag}{mg:ι}{x:Str}{st:Stmt}{ps:ρ}{f:Addr}{fd:FuncData}(F:mO K x x st f fd)(b:Binds K fd ps [])(m:mg x=some (.ref f)):Def K mg x st ps:=by
 obtain ⟨oc,od,kV,doc,pm,an,bM,ct,pJ,rfl,lk,pU⟩:=F.ex
 exact ⟨f,.none,oc,od,kV,doc,pm,an,bM,ct,pJ,lk,pU,F.kp,b,m⟩
section
variable {P:Program}{w:World}{K:Frag}{mg:ι}{base:Heap}{CX:j6}
theorem Def.ok {x:Str}{st:Stmt}{N ps:ρ}{k:Nat}{sp:Sp}(D:Def K mg x st ps)(S:aF N ps (ag st))(len:∀vs H Q E,sp vs H Q E->vs.length=ps.length)
  (js:∀(f:Addr) (bM:Value) (A:Around) (outer:List Env) (s:Shared) (H:Hp) (vs:ζ) (Q:VK) (E:XK),cD k (A.deeper (envOfC x (ag st) s.heap.objs.size f bM))->sp vs H Q E->
   ∃t,PSs (mi CX P w K mg base N x (ag st) f bM A outer s H E).yf (aw st) t/\t {nx:=fun _ H' =>Q .cB H',rt:=Q} (start N vs) H):Fn P w K mg base CX (k+1) x ps sp:=by
 obtain ⟨f,dV,oc,od,kV,doc,pm,an,bM,ct,pJ,lk,pU,kp,b,m⟩:=D.ex
 refine ⟨f,_,yn lk pU S len fun A outer s H vs Q E hr pZ=>?_,b,m,kp⟩
 obtain ⟨t,h,q⟩:=js f bM A outer s H vs Q E hr pZ
 exact ⟨t,h.yf,q⟩
theorem _root_.L2.mO.okG {x:Str}{st:Stmt}{f:Addr}{fd:FuncData}{N ps:ρ}{k:Nat}{sp:Sp}(F:mO K x x st f fd)(S:aF N ps (ag st))(len:∀vs H Q E,sp vs H Q E->vs.length=ps.length)
  (js:∀(bM:Value) (A:Around) (outer:List Env) (s:Shared) (H:Hp) (vs:ζ) (Q:VK) (E:XK),cD k (A.deeper (envOfC x (ag st) s.heap.objs.size f bM))->sp vs H Q E->
   ∃t,PSs (mi CX P w K mg base N x (ag st) f bM A outer s H E).yf (aw st) t/\t {nx:=fun _ H' =>Q .cB H',rt:=Q} (start N vs) H):cI P w K mg base CX (k+1) f fd ps sp:=by
 obtain ⟨oc,od,kV,doc,pm,an,bM,ct,pJ,rfl,lk,pU⟩:=F.ex
 refine yn lk pU S len fun A outer s H vs Q E hr pZ=>?_
 obtain ⟨t,h,q⟩:=js bM A outer s H vs Q E hr pZ
 exact ⟨t,h.yf,q⟩
def uI (CX:j6):Prop:=∀outer H s e s',CX outer H s E0 e s' ->False
theorem uJ {X:Cx}(h:uI CX):Passes CX X.yf E0:=fun _ _ _ _ _ _ _ q=>(h _ _ _ _ _ q).elim
section
variable {X:Cx}{k:Nat}{ps:ρ}{sp:Sp}{E:XK}{x:Str}{p pos:Pos}{e:Expr}{es:ψ}{t:TA}
theorem aD (F:Fn X.prog X.w X.K X.mg X.base CX k x ps sp)(hr:cD k X.A)(hx:Passes CX X E)(ha:PA X (e::es) t)(hg:Gl X x:=by rfl)(zI:(x==("__debug__":Str))=false:=by decide)
  (he:starEach (e::es) X.env=(false,eval e X.env)::starEach es X.env:=by rfl) (yl:(backTo pos (starEach es X.env)).any (·.1)=false:=by rfl):PE X (.Call (.Name x p) (e::es) [] pos) (MY sp [] E t):=by
 obtain ⟨f,fd,G,b,m,kp⟩:=F.ex
 exact Kn G hr hg m kp b .nil hx ha zI he yl
end
end
def FI (K:Frag):Sp:=fun vs H Q _=>∃(a:Addr) (ns:ξ),vs=[.ref a]/\a8 K H a (ns.map V.int)/\ns.length<=63/\(∀i∈ns,intBits i<=1048576)/\∀H',Q (.bl true) H'
theorem walk {l:PySem.W.OpenLaw}{q:Program}{loose:ρ}{XP:(Str->Option Value)->Heap->Prop}{YP:World->Heap->Prop}{d:DefRec}{K:Params->Frag}{CX:World->j6}{x:Str}{k:Nat}
  (hn:l.most=some 63) (ZU:d.params.defaults=[]) (hi:importsNone q=true) (hr:cD k callerA)
  (hY:∀(w:World) (h:Heap),YP w h->(K w.params).In h) (hm:∀w,uI (CX w))
  (F:∀(w:World) (mg:ι) (fa:Addr) (h:Heap),(K w.params).In h->h.Ns mainGlobals mg->mg d.name=some (.ref fa)->
   ∃fd:FuncData,(∀(s:Shared) (u:Value),BindsTo s fd ⟨[u],[]⟩ [(x,u)])/\
    ∀base:Heap,(K w.params).In base->base.Ns mainGlobals mg->cI l.prog w (K w.params) mg base (CX w) k fa fd [x] (FI (K w.params))):
  PySem.W.WalkO q loose XP YP l.row.toRowW d [] (fun f vs=>PySem.call f vs):=by
 refine TyAtt.uH hn ZU fun w s₀ s₁ mg mb fa o pm cd doc a vs ns G Y ho hd pU Sl OP hints hlen hb hg=>?_
 have KX:=hY w _ Y
 obtain ⟨fd,hbd,hF⟩:=F w mg fa _ KX G.T.g Sl
 exact FC KX G.T.g G.T.b G.T.builtins G.T.nolimit (G.T.seer hi) hg OP hints (aai hlen (by decide)) hr hF hbd (fun H hO hS=>⟨a,ns,rfl,hS,hlen,hb,fun _=>rfl⟩) fun H e s' =>hm w [] H s₁ e s'
end Ty
set_option maxHeartbeats 4000000
namespace Ty
open PySem PySem.Spec PyProof.Rows
def Kp {α:Type}:Sem α->Prop
 | .pure _=>True
 | .raise _=>True
 | .unsupported _=>True
 | .finish _=>True
 | .rule _ k=>Kp (k ())
 | .at _ k=>Kp (k ())
 | .load _ _ k=>∀o,Kp (k o)
 | .update _ _ f k=>(∀o,(f o).dict=o.dict/\(f o).isFreed=o.isFreed)/\Kp (k ())
 | .alloc _ k=>∀a,Kp (k a)
 | .loadIfAlive _ k=>∀o,Kp (k o)
 | .point _ k=>Kp (k ())
 | .fresh k=>∀t,Kp (k t)
 | .ask k=>∀t,Kp (k t)
 | .handled _ k=>∀t,Kp (k t)
 | .stack k=>∀t,Kp (k t)
 | .thread k=>∀t,Kp (k t)
 | _=>False
end Ty
set_option maxHeartbeats 4000000
namespace Ty
open PySem PySem.Spec PyProof.Rows L2
def DictAt (h:Heap)(a:Addr)(dx:Θ):Prop:=∃o,h.get? a=some o/\o.dict=dx
def bg (P:Program)(w:World):j6:=fun outer H s E e s' =>∃(a:Addr) (cls a0:Value) (dx:Θ) (H' :Hp) (B:Heap),
 e=.ref a/\Heap.FlyingW B outer a cls a0 s'.heap/\DictAt s'.heap a dx/\Un (ya outer) [] H H' s.heap s'.heap/\iQ P w H' s'.heap/\s'.os=s.os/\AllBare s'.gens/\
 (∀b o,s.heap.get? b=some o->b∉ya outer->∃o',B.get? b=some o')/\(∀b u,H' b=some u->∃o,B.get? b=some o)/\E cls dx H'
theorem bg.rZ {P:Program}{w:World}:uI (bg P w):=fun _ _ _ _ _ ⟨_,_,_,_,_,_,_,_,_,_,_,_,_,_,_,z⟩=>z
section
variable {P:Program}{w:World}{K:Frag}{mg:ι}{base:Heap}{N:ρ}{qual:Str}{scope:Scope}{f:Addr}{bM:Value}{A:Around}{outer:List Env}{s0:Shared}{H0:Hp}{E:XK}
abbrev cxr (P:Program)(w:World)(K:Frag)(mg:ι)(base:Heap)(N:ρ)(qual:Str)(scope:Scope)(f:Addr)(bM:Value)(A:Around)(outer:List Env)(s0:Shared)(H0:Hp)(E:XK):Cx:=mi (bg P w) P w K mg base N qual scope f bM A outer s0 H0 E
end
section
variable {X:Cx}{pins:ε}{σ:L2.St}{H H' :Hp}{s:Shared}
def XP (X:Cx)(pins:ε)(σ:L2.St)(E:XK)(e:Value)(s' :Shared):Prop:=∃H s,Inv X pins σ H s/\bg X.prog X.w X.stack H s E e s'
end
end Ty
set_option maxHeartbeats 4000000
namespace TyExc
open PySem PySem.W PySem.Calls PyProof.Rows Builtin Builtin.ObjectAttr Builtin.Getset_descriptor
section
variable {prog:Program}{w:World}{A:Around}{E:δ}{K:Frag}{h:Heap}{g:Array GenState}{d:Drawn}{t:Nat}{os:OsState}{a C:Addr}{o:Obj}
end
end TyExc
set_option maxHeartbeats 4000000
namespace Ty
open PySem PySem.Spec PyProof.Rows L2
section
variable {X:Cx}
end
end Ty
set_option maxHeartbeats 4000000
namespace TyExc
open PySem PySem.W PySem.Calls PyProof.Rows Builtin Builtin.ObjectAttr Builtin.Getset_descriptor
section
variable {prog:Program}{w:World}{A:Around}{E:δ}{K:Frag}{h:Heap}{g:Array GenState}{d:Drawn}{t:Nat}{os:OsState}{a C:Addr}{o:Obj}{od:Option Obj}{name:Str}{v:Value}
end
end TyExc
set_option maxHeartbeats 4000000
namespace TyExc
open PySem PySem.W PySem.Calls PyProof.Rows Builtin Builtin.ObjectAttr
section
variable {prog:Program}{w:World}{A:Around}{E:δ}{K:Frag}{s:Shared}{x C:Addr}{ox:Obj}{od:Option Obj}{name:Str}{v:Value}{cd:ClassData}
end
end TyExc
set_option maxHeartbeats 400000
namespace TyExc
open PySem PySem.W PySem.Calls PyProof.Rows Builtin
section
variable {prog:Program}{w:World}{A:Around}{K:Frag}{h:Heap}{g:Array GenState}{d:Drawn}{t:Nat}{os:OsState}{e C:Addr}{oe:Obj}{vs:Λ}{args:ο}{E:δ}
end
end TyExc
set_option maxHeartbeats 400000
namespace TyExc
open PySem PySem.W PySem.Calls PyProof.Rows Builtin
section
variable {prog:Program}{w:World}{A:Around}{K:Frag}{h:Heap}{g:Array GenState}{d:Drawn}{t:Nat}{os:OsState}{nm q:Str}{C N f:Addr}{bs bm bmB:ο}{ZV:Bool}{sn:ρ}{sub:ο}{ab:Bool}{col:Option Bool}{dd:Θ}{k0 k1 k2 k3 k5:Option Value}{B newId ZW:String}{rest:ο}{E:δ}
end
end TyExc
set_option maxHeartbeats 400000
namespace TyExc
open PySem PySem.W PySem.Calls PyProof.Rows Builtin
section
variable {M:Model}{A:Around}{E:δ}{env:Env}{nm q:Str}{C N:Addr}{bs bm:ο}{ZV:Bool}{sn:ρ}{sub:ο}{ab:Bool}{col:Option Bool}{dd:Θ}{k0 k1 k2 k3 k5:Option Value}{newId:String}{s:Shared}{x:Sem Value}{Q:Flow->Shared->Prop}
end
end TyExc
set_option maxHeartbeats 400000
namespace TyExc
open PySem PySem.W
end TyExc
namespace Ty
open PySem PySem.Spec PyProof.Rows L2
section
variable {P:Program}{w:World}{H:Hp}{h:Heap}{C a:Addr}{dx:Θ}
end
section
variable {X:Cx}
end
end Ty
set_option maxHeartbeats 1000000
namespace Ty
open PySem PySem.Spec PyProof.Rows L2
section
variable {P:Program}{w:World}{K:Frag}{mg:ι}{base:Heap}{N:ρ}{qual:Str}{scope:Scope}{f:Addr}{bM:Value}{A:Around}{outer:List Env}{s0:Shared}{H0:Hp}{E:XK}
end
section
variable {prog:Program}{w:World}{A:Around}{R:Ο}{s:Shared}
theorem r6 {elt target iter:Expr}{ifs:ψ}{scope:Scope}{pos:Pos}{it acc:Value}{env:Env}(I:Nat->Shared->Prop)
  (turn:∀n s,I n s->wpAny (model prog w) A (pyNext it) (fun r s₁=>match r with
   | none=>R (.ok .next) s₁
   | some v=>wpAny (model prog w) A (letOwnedTupleGo target it v) (fun _ s₁' =>wpAny (model prog w) A (assign target env v) (fun _ s₂=>
     wpAny (model prog w) A (forIn ifs true fun c r=>if r=true then do let ok <- isTrue c env (eval c env);pure (ForInStep.yield ok) else pure (ForInStep.yield r)) (fun ok s₃=>
      if ok=true then wpAny (model prog w) A (eval elt env) (fun x s₄=>
       wpAny (model prog w) A (call (.builtin "list.append") [acc,x]) (fun _ s₅=>∃m,m < n/\I m s₅) (fun _ _=>False) s₄) (fun _ _=>False) s₃
      else ∃m,m < n/\I m s₃) (fun _ _=>False) s₂) (fun _ _=>False) s₁') (fun _ _=>False) s₁) (fun _ _=>False) s)
  (n:Nat) (h:I n s):
  codeAny (model prog w) A (.compLoop (.ListComp elt [⟨target,iter,ifs,0⟩] scope pos) 0 it acc env) R s:=by
 refine codeAny_loop rfl I (fun n s hI=>?_) n h
 show wpAny _ A ((compTurn (.ListComp elt [⟨target,iter,ifs,0⟩] scope pos) 0 it acc env).onRaise (fun x=>do noteFrame x env;theTreesLotGoes x)) _ _ s
 refine wpAny_noted ?_
 rw [compTurn_list]
 refine wpAny_bind (wpAny_standAt (wpAny_bind (wpAny_mono (turn n s hI) (fun r s₁ h₁=>?_) fun _ _ h' =>h'.elim)))
 cases r with
 | none=>exact wpAny_pure h₁
 | some v=>
  refine wpAny_bind (wpAny_mono h₁ (fun _ s₁' h₁' =>?_) fun _ _ h' =>h'.elim)
  refine wpAny_bind (wpAny_mono h₁' (fun _ s₂ h₂=>wpAny_bind (wpAny_mono h₂ (fun ok s₃ h₃=>?_) fun _ _ h' =>h'.elim)) fun _ _ h' =>h'.elim)
  cases ok with
  | false=>exact wpAny_pure ⟨rfl,h₃⟩
  | true=>
   exact wpAny_bind (wpAny_bind (wpAny_mono h₃ (fun x s₄ h₄=>wpAny_bind (wpAny_mono h₄ (fun _ s₅ h₅=>wpAny_pure (wpAny_pure ⟨rfl,h₅⟩)) fun _ _ h' =>h'.elim)) fun _ _ h' =>h'.elim))
end
def bH (env:Env)(fr:ρ):List (Str×Addr):=fr.filterMap fun n=>(env.cells.lookup n).map fun c=>(n,c)
theorem lookup_mem {α:Type}{x:Str}{c:α}:∀{l:List (Str×α)},l.lookup x=some c->(x,c)∈l
 | [],h=>by simp at h
 | (y,d)::r,h=>by
  rw [ahs] at h
  cases e:x==y with
  | true=>
   rw [e] at h
   have e1:x=y:=by simpa using e
   cases h
   rw [e1]
   exact aap
  | false=>
   rw [e] at h
   exact aae _ (lookup_mem h)
theorem zO {env:Env}{fr:ρ}{x:Str}{c:Addr}(h:(x,c)∈bH env fr):env.cells.lookup x=some c:=by
 obtain ⟨n,_,e⟩:=ah0.mp h
 cases q:env.cells.lookup n with
 | none=>rw [q] at e;cases e
 | some d=>
  rw [q] at e
  have e' :(n,d)=(x,c):=aay e
  cases e'
  exact q
theorem fj {env:Env}{fr:ρ}{x:Str}{c:Addr}(h:(bH env fr).lookup x=some c):env.cells.lookup x=some c:=zO (lookup_mem h)
theorem kh {env:Env}{x:Str}{c:Addr}(q:env.cells.lookup x=some c):∀{fr:ρ},x∈fr->(bH env fr).lookup x=some c
 | [],h=>nomatch h
 | y::r,h=>by
  unfold bH
  rw [ahu]
  by_cases e:x=y
  ·subst e
   rw [q]
   simp
  ·have hr:x∈r:=by
    rcases aaN.mp h with z | z
    ·exact absurd z e
    ·exact z
   have ih:=kh q hr
   cases z:env.cells.lookup y with
   | none=>exact ih
   | some d=>
    show abY x ((y,d)::_)=_
    rw [ahs]
    have ne:(x==y)=false:=by simpa using e
    rw [ne]
    exact ih
def fT (env:Env):List Str->Prop
 | []=>True
 | y::r=>(env.kindOf y=some .cell\/env.kindOf y=some .free)/\fT env r
theorem fT.at {env:Env}{x:Str}:∀{fr:ρ},fT env fr->x∈fr->env.kindOf x=some .cell\/env.kindOf x=some .free
 | [],_,h=>nomatch h
 | y::r,a,h=>by
  rcases aaN.mp h with z | z
  ·rw [z]
   exact a.1
  ·exact fT.at a.2 z
section
variable {X:Cx}
def r8 (X:Cx)(NB:ρ)(scope:Scope)(fn:Str->Bool)(cl:List (Str×Addr))(C:Addr)(s:Shared)(H:Hp)(fp:τ):Cx:=
 {prog:=X.prog,w:=X.w,K:=X.K,mg:=X.mg,base:=X.base,A:=X.A,N:=NB,s₀:=s,H₀:=H,env:=compEnvC scope cl C X.env,outer:=X.stack,stack:=X.stack,ex:=fp,fn:=fn,calm:=X.calm,pn:=[],xe:=fun _ _=>False}
abbrev QW (X:Cx)(NB:ρ)(scope:Scope)(cl:List (Str×Addr))(C:Addr)(s:Shared)(H:Hp)(fp:τ):Cx:=r8 X NB scope (fun _=>false) cl C s H fp
structure FJ (X:Cx)(scope:Scope)(ow:Addr->List (Str×Addr))(fn:Str->Bool)(fr:ρ)(caps:List Nat):Prop where
 zP:closureFor scope X.env=pure (bH X.env fr)
 kind:scope.kind=.function
 names:∀y∈scope.names,y.2=.local->scope.names.lookup y.1=some .local
 free:∀y∈scope.names,y.2=.free->y.1∈fr
 caps:caps.map (fun i=>X.N[i]?)=fr.map some
 out:fT X.env fr
 Sn:fT (compEnvC scope [] 0 X.env) fr
 new:∀{s:Shared} {Q:Env->Shared->Prop} {E:δ},(∀h',h'.Ns s.heap.objs.size (fun _=>none)->(∀b o,s.heap.get? b=some o->h'.get? b=some o)->(∀x c,(ow s.heap.objs.size).lookup x=some c->h'.IsCell c none)->
   Q (newEnv scope s.heap.objs.size X.env.globals (ow s.heap.objs.size++bH X.env fr) X.env.qual none .none (some X.env) builtinsNs) {s with heap:=h',toks:=s.toks+([]:List (Str×Value)).length})->
  wpAny (model X.prog X.w) X.A (newFunctionEnv scope X.env.globals (bH X.env fr) [] X.env.qual none .none (some X.env)) Q E s
 ge:∀C x c,(ow C).lookup x=some c->C < c
 one:∀C x z c,(ow C).lookup x=some c->(ow C).lookup z=some c->x=z
 fn1:∀C x,fn x=true->(ow C).lookup x≠none
 only:∀z∈scope.names,z.2=.cell->fn z.1=true
 ny:∀C,∀x∈fr,(ow C).lookup x=none
theorem qQ {x:Str}{c:Addr}{o cl:List (Str×Addr)}(h:(o++cl).lookup x=some c):o.lookup x=some c\/(o.lookup x=none/\cl.lookup x=some c):=by
 rw [ah3] at h
 cases e:o.lookup x with
 | none=>rw [e] at h;exact .inr ⟨rfl,h⟩
 | some d=>rw [e] at h;exact .inl h
structure Kz (X:Cx)(scope:Scope)(fr:ρ)(caps:List Nat):Prop where
 zP:closureFor scope X.env=pure (bH X.env fr)
 cell:∀y∈scope.names,y.2≠.cell
 kind:scope.kind=.function
 names:∀y∈scope.names,y.2=.local->scope.names.lookup y.1=some .local
 free:∀y∈scope.names,y.2=.free->y.1∈fr
 caps:caps.map (fun i=>X.N[i]?)=fr.map some
 out:fT X.env fr
 Sn:fT (compEnvC scope [] 0 X.env) fr
def PF (X:Cx)(ifs:ψ)(t:TT):Prop:=
 ∀(pins:ε) (s:Shared) (σ:L2.St) (H:Hp) (Q:Bool->Hp->Prop),Inv X pins σ H s->t σ H Q->
  wpAny (model X.prog X.w) X.A (forIn ifs true fun c r=>if r=true then do let ok <- isTrue c X.env (eval c X.env);pure (ForInStep.yield ok) else pure (ForInStep.yield r)) (TP X pins σ Q) X.xe s
def ki:TT:=fun _ H Q=>Q true H
theorem df:PF X [] ki:=fun _ _ _ H _ I h=>wpAny_tests_nil ⟨H,I,h⟩
theorem FK {c:Expr}{t:TT}(h:PT X c t):PF X [c] t:=fun pins s σ H Q I q=>wpAny_tests_one (h pins s σ H Q I q)
def sB (k:Nat)(caps:List Nat)(σ:L2.St):L2.St:=aaJ k none++caps.map fun i=>(σ[i]?).getD none
def km (D:Addr)(g:TG)(tt:TT)(te:TE)(J:It)(σ0:L2.St)(H1:Hp)(Q:VK):Prop:=∃W:Nat->Nat->L2.St->List V->Hp->Prop,
 (∃m,W 0 m σ0 [] (upd H1 D (.lst [])))/\∀i m σ2 ys H2,W i m σ2 ys H2->(J.stop i H2/\Q (.ref D) H2)\/(J.go i H2/\∀x H3,J.DR i H2 x H3->g x σ2 H3 fun σ4 H4=>tt σ4 H4 fun b H5=>
  if b=true then te σ4 H5 fun v H6=>H6 D=some (.lst ys)/\ys.length < sizeLine/\∃m',m' < m/\W (i+1) m' σ4 (ys++[v]) (upd H6 D (.lst (ys++[v]))) else ∃m',m' < m/\W (i+1) m' σ4 ys H5)
def uK (k:Nat)(caps:List Nat)(wi:TI)(g:TG)(tt:TT)(te:TE):TE:=fun σ H Q=>wi σ H fun J H1=>∀D,H1 D=none->km D g tt te J (sB k caps σ) H1 Q
theorem OQ {k:Nat}{caps:List Nat}{σ:L2.St}{i:Nat}{v:V}(h:(sB k caps σ)[i]? =some (some v)):k<=i/\∃j,caps[i - k]? =some j/\σ[j]? =some (some v):=by
 unfold sB at h
 by_cases c:i < k
 ·rw [aaD (by simpa using c),ad_,if_pos c] at h
  cases h
 ·rw [aaY (by simpa using aic c),ahI,Wp] at h
  refine ⟨aic c,?_⟩
  cases e:caps[i - k]? with
  | none=>rw [e] at h;cases h
  | some j=>
   rw [e] at h
   refine ⟨j,rfl,?_⟩
   have h' :(σ[j]?).getD none=some v:=aay h
   cases z:σ[j]? with
   | none=>rw [z] at h';cases h'
   | some o=>
    rw [z] at h'
    exact congrArg some h'
theorem nR {ow:Addr->List (Str×Addr)}{fn:Str->Bool}{elt target iter:Expr}{ifs:ψ}{scope:Scope}{pos:Pos}{tn fr:ρ}{caps:List Nat}{g:TG}{tt:TT}{te:TE}{pins:ε}{σ:L2.St}{H2:Hp}{s2:Shared}{J:It}{fp:τ}{it:Addr}
  {Na:Nat->Heap->Prop} {Q:VK} {RR:Value->Addr->Result->Shared->Prop} {E:δ} (hc:X.calm=true) (B:FJ X scope ow fn fr caps)
  (hg:∀C s H fp,PG (r8 X (tn++fr) scope fn (ow C++bH X.env fr) C s H fp) target g) (ht:∀C s H fp,PF (r8 X (tn++fr) scope fn (ow C++bH X.env fr) C s H fp) ifs tt) (he:∀C s H fp,PE (r8 X (tn++fr) scope fn (ow C++bH X.env fr) C s H fp) elt te)
  (I2:Inv X pins σ H2 s2) (T:Turn X.prog X.w X.K target J fp it Na) (jk:Na 0 s2.heap) (f2:∀b∈fp,iL X pins H2 b) (q:∀D,H2 D=none->km D g tt te J (sB tn.length caps σ) H2 Q)
  (fin:∀D C H' s' m,Inv X pins σ H' s' ->s'.heap.Ns C m->iL X pins H' C->Q (.ref D) H' ->RR (.ref D) C (.ok .next) s'):
  wpAny (model X.prog X.w) X.A (newList []) (fun acc s₃=>wpAny (model X.prog X.w) X.A (newFunctionEnv scope X.env.globals (bH X.env fr) [] X.env.qual none .none (some X.env)) (fun So s₄=>
   codeAny (model X.prog X.w) X.A (.compStart (.ListComp elt [⟨target,iter,ifs,0⟩] scope pos) 0 (.ref it) acc {So with scope:=relabel scope X.env}) (RR acc So.locals) s₄) E s₃) E s2:=by
 refine wpAny_newObj_type (B.new (fun h₁ OR hk₁ hc₁=>?_))
 have I3:Inv X pins σ (upd H2 s2.heap.objs.size (.lst [])) {s2 with heap:=s2.heap.push {cls:=.type "list",data:=.seq ([]:List Value).toArray}}:=I2.OG (t' :=s2.toks) (its:=[]) .nil (aa6 _)
 obtain ⟨W,⟨m0,w0⟩,turn⟩:=q s2.heap.objs.size (I2.bK.fresh (aaf _))
 generalize hH3:upd H2 s2.heap.objs.size (.lst [])=H3 at I3 w0
 have f3:∀b∈fp,iL X pins H3 b:=fun b hb=>by
  obtain ⟨a0,a1⟩:=f2 b hb
  refine ⟨?_,a1⟩
  obtain ⟨o,e,_⟩:=T.obj _ _ jk b hb
  rw [<- hH3,ao (aa1 (Heap.lt_size e))]
  exact a0
 generalize hD:s2.heap.objs.size=D at*
 generalize Yt:({s2 with heap:=s2.heap.push {cls:=.type "list",data:=.seq ([]:List Value).toArray}}:Shared)=s3 at*
 have e3:s3.heap=s2.heap.push {cls:=.type "list",data:=.seq ([]:List Value).toArray}:=by rw [<- Yt]
 have ua:Na 0 s3.heap:=T.keep _ _ _ jk fun b _ o e=>by rw [e3];exact Heap.get?_push_of_some _ e
 have kept:∀b o,s3.heap.get? b=some o->h₁.get? b=some o:=fun b o e=>hk₁ b o e
 generalize hC:s3.heap.objs.size=C at*
 have Sq:s3.heap.objs.size<=C:=aie hC
 have I4:Inv X pins σ H3 {s3 with heap:=h₁,toks:=s3.toks+([]:List (Str×Value)).length}:=I3.kept kept
 have fpC:∀b∈fp,b≠C:=fun b hb z=>by
  obtain ⟨o,e,_⟩:=T.obj _ _ ua b hb
  exact absurd z (aa1 (aaI (Heap.lt_size e) Sq))
 have nst:∀b∈fp,b∉ya X.stack:=fun b hb z=>(aaN.mp (I3.wj b z)).elim (f3 b hb).2.1 (f3 b hb).2.2.1
 have old:∀x c,(bH X.env fr).lookup x=some c->c < C:=fun x c e=>by
  obtain ⟨v,ic⟩:=I3.cell x c (fj e)
  rw [<- hC]
  exact ic.lt
 have ZX:∀x z c,(ow C++bH X.env fr).lookup x=some c->(ow C++bH X.env fr).lookup z=some c->x=z:=fun x z c e1 e2=>by
  rcases qQ e1 with b1 | ⟨_,b1⟩ <;> rcases qQ e2 with b2 | ⟨_,b2⟩
  ·exact B.one _ _ _ _ b1 b2
  ·exact absurd (old z c b2) (Nat.lt_asymm (B.ge _ _ _ b1))
  ·exact absurd (old x c b1) (Nat.lt_asymm (B.ge _ _ _ b2))
  ·exact I3.ok.inj x z c (fj b1) (fj b2)
 have ZY:∀x c,fn x=true->(ow C++bH X.env fr).lookup x=some c->s3.heap.objs.size<=c:=fun x c hx e=>by
  rcases qQ e with b1 | ⟨a1,b1⟩
  ·exact aai (aie hC) (abA (B.ge _ _ _ b1))
  ·exact absurd a1 (B.fn1 C x hx)
 have nfp:∀b∈fp,∀x c,(ow C++bH X.env fr).lookup x=some c->c≠b:=fun b hb x c e=>by
  rcases qQ e with b1 | ⟨a1,b1⟩
  ·obtain ⟨o,eo,_⟩:=T.obj _ _ ua b hb
   have:=Heap.lt_size eo
   rw [hC] at this
   exact aaW (aa1 (aii this (B.ge _ _ _ b1)))
  ·exact (f3 b hb).2.2.2.2.1 x c (fj b1)
 have Sr:∀{x:Str} {c:Addr},x∈fr->(bH X.env fr).lookup x=some c->(ow C++bH X.env fr).lookup x=some c:=fun {x c} hx e=>by
  rw [ah3,B.ny C x hx]
  exact e
 have okB:(r8 X (tn++fr) scope fn (ow C++bH X.env fr) C s3 H3 fp).Ok:=by
  refine ⟨I3.ok.mod,B.kind,I3.ok.glob,I3.ok.blt,Sq,ZX,fun x hx=>?_,ZY,I3.ok.hd,I3.ok.frames,.inl rfl,
   fun b hb=>⟨fpC b hb,fun x c e=>nfp b hb x c e⟩,I3.bs,aai I3.ok.Kd I3.sz,fun b o e hb=>?_,nst,I3.stack,I3.yd⟩
  ·have hm:∃k,(x,k)∈scope.names/\k≠.local/\(k=.cell\/k=.free):=by
    have:∃k',(relabel scope X.env).names.lookup x=some k' /\(k' =.cell\/k' =.free):=by
     rcases hx with z | z
     ·exact ⟨_,z,.inl rfl⟩
     ·exact ⟨_,z,.inr rfl⟩
    obtain ⟨k',e',h'⟩:=this
    obtain ⟨⟨n,k⟩,hn,en⟩:=aad.mp (lookup_mem e')
    dsimp only at en
    by_cases cc:(k==NameKind.free && X.env.scope.kind==.function && X.env.kindOf n==some .cell)=true
    ·rw [if_pos cc] at en
     cases en
     have kf:k=.free:=by
      rw [abC,abC] at cc
      simpa using cc.1.1
     exact ⟨k,hn,(by intro z;rw [kf] at z;cases z),.inr kf⟩
    ·rw [if_neg cc] at en
     cases en
     exact ⟨k',hn,fun z' =>by rcases h' with y | y <;> (rw [y] at z';cases z'),h'⟩
   obtain ⟨k,hk,_,h2⟩:=hm
   rcases h2 with z | z
   ·cases e:(ow C).lookup x with
    | none=>exact absurd e (B.fn1 C x (B.only _ hk z))
    | some c=>exact ⟨c,by show abY x (ow C++_)=_;rw [ah3,e];rfl⟩
   ·have hf:=B.free _ hk z
    obtain ⟨c,ec⟩:=I3.ok.has x (B.out.at hf)
    exact ⟨c,Sr hf (kh ec hf)⟩
  ·obtain ⟨_,_,_,h1,_⟩:=f3 b hb
   rcases h1 with z | z
   ·exact I3.ok.DY b o e z
   ·exact abp _ (aaI (aaI (Heap.lt_size e) I3.ok.Kd) z)
 have IB:Inv (r8 X (tn++fr) scope fn (ow C++bH X.env fr) C s3 H3 fp) [] (sB tn.length caps σ) H3 {s3 with heap:=h₁,toks:=s3.toks+([]:List (Str×Value)).length}:=by
  refine ⟨okB,rfl,I3.bare,Un.kept kept,⟨_,OR,fun i x v e1 e2 _=>?_⟩,fun x c e=>(qQ e).elim (fun z=>⟨none,hc₁ x c z⟩) (fun z=>I4.cell x c (fj z.2)),?_,fun x c e=>(qQ e).elim (fun z=>I3.bK.fresh (aai Sq (abA (B.ge _ _ _ z)))) (fun z=>I3.gX x c (fj z.2)),fun p hp=>(nomatch hp),I3.bK.kept kept,?_⟩
  ·obtain ⟨hk,j,ej,es⟩:=OQ e2
   have zQ :fr[i - tn.length]? =some x:=by
    have z:(tn++fr)[i]? =some x:=e1
    rw [aaY hk] at z
    exact z
   have hx:x∈fr:=be zQ
   have eN:X.N[j]? =some x:=by
    have z:=congrArg (fun l:List (Option Str)=>l[i - tn.length]?) B.caps
    simp only [Wp,ej,zQ,ab9] at z
    exact aay z
   have ko:=B.out.at hx
   obtain ⟨m,hn,hl⟩:=I4.loc
   obtain ⟨u,r,lk⟩:=hl j x v eN es (by rcases ko with z | z;exact .inr (.inl z);exact .inr (.inr z))
   refine ⟨u,r,?_⟩
   rcases lk with ⟨k1,_⟩ | ⟨_,c,ec,ic⟩
   ·rcases ko with z | z <;> (rw [z] at k1;cases k1)
   ·exact .inr ⟨B.Sn.at hx,c,Sr hx (kh ec hx),ic⟩
  ·exact I3.bK.fresh Sq
  ·have:=congrArg abO B.caps
   simp only [aab] at this
   show (sB tn.length caps σ).length=(tn++fr).length
   unfold sB
   simp [this]
 have FL:∀{H' :Hp},(∀b∈fp,H' b=none)->∀b∈fp,iL (r8 X (tn++fr) scope fn (ow C++bH X.env fr) C s3 H3 fp) [] H' b:=fun hn b hb=>
  ⟨hn b hb,fpC b hb,nst b hb,.inl hb,nfp b hb,fun p hp=>(nomatch hp)⟩
 have QX:Na 0 h₁:=T.keep _ _ _ ua fun b _ o e=>kept b o e
 have loop:codeAny (model X.prog X.w) X.A (.compLoop (.ListComp elt [⟨target,iter,ifs,0⟩] scope pos) 0 (.ref it) (.ref D) (compEnvC scope (ow C++bH X.env fr) C X.env)) (RR (.ref D) C) {s3 with heap:=h₁,toks:=s3.toks+([]:List (Str×Value)).length}:=by
  refine r6 (fun n s' =>∃i σ' ys H',Inv (r8 X (tn++fr) scope fn (ow C++bH X.env fr) C s3 H3 fp) [] σ' H' s' /\Na i s'.heap/\(∀b∈fp,H' b=none)/\W i n σ' ys H') ?_ m0 ⟨0,_,[],H3,IB,QX,fun b hb=>(f3 b hb).1,w0⟩
  rintro n s5 ⟨i,σ5,ys,H5,I5,QT,Yq,w5⟩
  rcases turn i n σ5 ys H5 w5 with ⟨stop,qn⟩ | ⟨go,step⟩
  ·refine wpAny_mono (T.done (r8 X (tn++fr) scope fn (ow C++bH X.env fr) C s3 H3 fp) rfl rfl rfl hc i [] s5 σ5 H5 (fun _ _=>False) I5 (FL Yq) QT stop) (fun r s6 ⟨hr,I6⟩=>?_) fun _ _ z=>z
   subst hr
   obtain ⟨m,hn,_⟩:=I6.loc
   have J6:Inv X pins σ H5 s6:=I3.RI (ch:=fp) I6.os I6.base I6.bK I6.bare fun b hb=>⟨(f3 b hb).2.2.2.1,(f3 b hb).2.1,(f3 b hb).2.2.2.2.1,(f3 b hb).2.2.2.2.2⟩
   exact fin D C H5 s6 m J6 hn (I3.j7 Sq I6.free) qn
  ·refine wpAny_mono (T.item (r8 X (tn++fr) scope fn (ow C++bH X.env fr) C s3 H3 fp) rfl rfl rfl hc i [] s5 σ5 H5 (fun _ _=>False) I5 (FL Yq) QT go) (fun r s6 ⟨u,hr,h6⟩=>?_) fun _ _ z=>z
   subst hr
   refine wpAny_mono h6 (fun _ s7 ⟨x,H7,I7,r7,y7,ZZ,Z0⟩=>?_) fun _ _ z=>z
   have I7' :=I7.pinned (FL Z0) (T.obj _ _ ZZ)
   have held:∀{σ' :L2.St} {H' :Hp} {s' :Shared},Inv (r8 X (tn++fr) scope fn (ow C++bH X.env fr) C s3 H3 fp) ([]++nq fp s7.heap) σ' H' s' ->Na (i+1) s'.heap/\∀b∈fp,H' b=none:=fun {σ' H' s'} I' =>by
    refine ⟨T.keep _ _ _ ZZ fun b hb o e=>(I'.pin (b,o) (aa9 _ (aa9 _ (gF hb e)))).1,fun b hb=>?_⟩
    obtain ⟨o,e,d⟩:=T.obj _ _ ZZ b hb
    exact (I'.pin (b,o) (aa9 _ (aa9 _ (gF hb e)))).2.1
   refine wpAny_mono (hg C s3 H3 fp _ s7 σ5 H7 x u _ I7' r7 (step x H7 y7)) (fun _ s8 ⟨σ8,H8,I8,q8⟩=>?_) fun _ _ z=>z
   refine wpAny_mono (ht C s3 H3 fp _ s8 σ8 H8 _ I8 q8) (fun ok s9 ⟨H9,I9,q9⟩=>?_) fun _ _ z=>z
   cases ok with
   | false=>
    rw [if_neg aaG] at q9
    obtain ⟨m',hm,w9⟩:=q9
    rw [if_neg aaG]
    obtain ⟨a,b⟩:=held I9
    exact ⟨m',hm,i+1,σ8,ys,H9,I9.h8,a,b,w9⟩
   | true=>
    rw [if_pos rfl] at q9
    rw [if_pos rfl]
    refine wpAny_mono (he C s3 H3 fp _ s9 σ8 H9 _ I9 q9) (fun v KA ⟨y9,yw,I10,r10,hDD,hl,m',hm,w10⟩=>?_) fun _ _ z=>z
    refine wpAny_mono (cG (X:=r8 X (tn++fr) scope fn (ow C++bH X.env fr) C s3 H3 fp) _ KA σ8 yw (.ref D) [y9] (.ref D) [v] (fun _ H' =>W (i+1) m' σ8 (ys++[y9]) H') I10 rfl (.cons r10 .nil) ⟨D,ys,y9,rfl,rfl,hDD,hl,w10⟩) (fun _ Z1 ⟨z,Yu,I11,_,q11⟩=>?_) fun _ _ z=>z
    obtain ⟨a,b⟩:=held I11
    exact ⟨m',hm,i+1,σ8,ys++[y9],Yu,I11.h8,a,b,q11⟩
 exact codeAny_compStart_list loop (T.self X.A 0 _ _ _ QX loop)
theorem FN {ow:Addr->List (Str×Addr)}{fn:Str->Bool}{elt target iter:Expr}{ifs:ψ}{scope:Scope}{pos:Pos}{tn fr:ρ}{caps:List Nat}{wi:TI}{g:TG}{tt:TT}{te:TE}(hc:X.calm=true)(B:FJ X scope ow fn fr caps)(hi:PI X target iter wi)
  (hg:∀C s H fp,PG (r8 X (tn++fr) scope fn (ow C++bH X.env fr) C s H fp) target g) (ht:∀C s H fp,PF (r8 X (tn++fr) scope fn (ow C++bH X.env fr) C s H fp) ifs tt) (he:∀C s H fp,PE (r8 X (tn++fr) scope fn (ow C++bH X.env fr) C s H fp) elt te)
  (hs:∀x,foldedSetIterable iter X.env x=pure x:=by intro _;rfl):PE X (.ListComp elt [⟨target,iter,ifs,0⟩] scope pos) (uK tn.length caps wi g tt te):=by
 intro pins s σ H Q I h
 rw [eval_ListComp]
 refine wpAny_comprehension_free (use:=none) rfl hs B.zP B.kind B.names (bZ (hi pins s σ H _ I h) fun v s1 h1=>bZ h1 fun Yp s2 h2=>?_)
 obtain ⟨it,fp,Na,J,H2,rfl,I2,T,jk,f2,q⟩:=h2
 refine nR (Q:=Q) (RR:=fun acc C=>compPost (model X.prog X.w) X.A X.xe none (EP X pins σ Q) acc C) hc B hg ht he I2 T jk f2 q ?_
 intro D C H' s' m I' hn fc qq
 obtain ⟨g0,g1,g2,g3,g4,g5⟩:=fc
 exact ⟨m,hn,fun h' Nb =>⟨.ref D,H',I'.turned (t' :=s'.toks) (fun b o hb e=>(Nb.2 b hb).trans e) g0 g1 g3 g4 g5,rfl,qq⟩⟩
theorem uL {ow:Addr->List (Str×Addr)}{fn:Str->Bool}{i:Nat}{y:Str}{py:Pos}{uM:Pos}{elt target iter:Expr}{ifs:ψ}{scope:Scope}{pos:Pos}{tn fr:ρ}{caps:List Nat}{wi:TI}{g:TG}{tt:TT}{te:TE}(hN:X.N.Nodup)(Ss:X.N[i]? =some y)(hx:Loc X.env.scope y)
  (hc:X.calm=true) (B:FJ X scope ow fn fr caps) (hi:PI X target iter wi)
  (hg:∀C s H fp,PG (r8 X (tn++fr) scope fn (ow C++bH X.env fr) C s H fp) target g) (ht:∀C s H fp,PF (r8 X (tn++fr) scope fn (ow C++bH X.env fr) C s H fp) ifs tt) (he:∀C s H fp,PE (r8 X (tn++fr) scope fn (ow C++bH X.env fr) C s H fp) elt te)
  (zR:swapsWith (.ListComp elt [⟨target,iter,ifs,0⟩] scope pos) (some (.Name y py)) uM.line X.env=pure true:=by rfl)
  (hs:∀x,foldedSetIterable iter X.env x=pure x:=by intro _;rfl) (hf:X.fn y=true\/X.env.scope.names.lookup y=some .local:=by first | exact .inl rfl | exact .inr rfl | assumption):
  PS X (.Assign [.Name y py] (.ListComp elt [⟨target,iter,ifs,0⟩] scope pos) uM) (EB (uK tn.length caps wi g tt te) (c9 i)):=by
 intro pins s σ H D I h
 rw [exec_Assign_Name_used _ _ _ _ zR]
 refine wpAny_bind (wpAny_standAt (wpAny_bind ?_))
 show wpAny _ X.A (do let _ <- comprehension (.ListComp elt [⟨target,iter,ifs,0⟩] scope pos) scope X.env _ (newList []) false (eval iter X.env) (some (assign (.Name y py) X.env))) _ _ s
 refine wpAny_bind (wpAny_mono (wpAny_comprehension_free (use:=some (assign (.Name y py) X.env)) (Q:=fun _ s' =>SP X pins D .next s') rfl hs B.zP B.kind B.names
  (bZ (hi pins s σ H _ I h) fun v s1 h1=>bZ h1 fun Yp s2 h2=>?_)) (fun _ s' hq=>wpAny_pure (wpAny_pure hq)) fun _ _ e=>e)
 obtain ⟨it,fp,Na,J,H2,rfl,I2,T,jk,f2,q⟩:=h2
 refine nR (Q:=fun v H1=>c9 i v σ H1 D.nx) (RR:=fun acc C=>compPost (model X.prog X.w) X.A X.xe (some (assign (.Name y py) X.env)) (fun _ s' =>SP X pins D .next s') acc C) hc B hg ht he I2 T jk f2 q ?_
 intro DD C H' s' m I' hn fc qq
 obtain ⟨g0,g1,g2,g3,g4,g5⟩:=fc
 show wpAny _ X.A (assign (.Name y py) X.env (.ref DD)) _ _ _
 refine wpAny_assign_Name (qF I' hN Ss hx (v:=.ref DD) (u:=.ref DD) rfl (fun RY I'' ⟨a,sb,ha⟩=>?_) hf)
 have hCa:C≠a:=by
  rcases ha with z | z
  ·rw [z]
   exact g1
  ·exact fun e=>g4 y a z e.symm
 exact ⟨m,hn.sameBut sb hCa,fun h' Nb =>⟨_,H',I''.turned (t' :=RY.toks) (fun b o hb e=>(Nb.2 b hb).trans e) g0 g1 g3 g4 g5,qq⟩⟩
theorem Kz.g {scope:Scope}{fr:ρ}{caps:List Nat}(B:Kz X scope fr caps):FJ X scope (fun _=>[]) (fun _=>false) fr caps:=
 ⟨B.zP,B.kind,B.names,B.free,B.caps,B.out,B.Sn,fun hQ=>wpAny_newFunctionEnv B.cell (by intro y hy;simp at hy) (fun h₁ OR Z2=>hQ h₁ OR (fun b o e=>(Z2.2 b (aa1 (Heap.lt_size e))).trans (Heap.get?_push_of_some _ e)) fun _ _ z=>(nomatch z)) B.kind,
  fun _ _ _ z=>(nomatch z),fun _ _ _ _ z=>(nomatch z),fun _ _ z=>(nomatch z),fun z hz e=>absurd e (B.cell z hz),fun _ _ _=>rfl⟩
theorem cX {elt target iter:Expr}{ifs:ψ}{scope:Scope}{pos:Pos}{tn fr:ρ}{caps:List Nat}{wi:TI}{g:TG}{tt:TT}{te:TE}(hc:X.calm=true)(B:Kz X scope fr caps)(hi:PI X target iter wi)
  (hg:∀C s H fp,PG (QW X (tn++fr) scope (bH X.env fr) C s H fp) target g) (ht:∀C s H fp,PF (QW X (tn++fr) scope (bH X.env fr) C s H fp) ifs tt) (he:∀C s H fp,PE (QW X (tn++fr) scope (bH X.env fr) C s H fp) elt te)
  (hs:∀x,foldedSetIterable iter X.env x=pure x:=by intro _;rfl):PE X (.ListComp elt [⟨target,iter,ifs,0⟩] scope pos) (uK tn.length caps wi g tt te):=
 FN hc B.g hi hg ht he hs
theorem mS {i:Nat}{y:Str}{py:Pos}{uM:Pos}{elt target iter:Expr}{ifs:ψ}{scope:Scope}{pos:Pos}{tn fr:ρ}{caps:List Nat}{wi:TI}{g:TG}{tt:TT}{te:TE}(hN:X.N.Nodup)(Ss:X.N[i]? =some y)(hx:Loc X.env.scope y)
  (hc:X.calm=true) (B:Kz X scope fr caps) (hi:PI X target iter wi)
  (hg:∀C s H fp,PG (QW X (tn++fr) scope (bH X.env fr) C s H fp) target g) (ht:∀C s H fp,PF (QW X (tn++fr) scope (bH X.env fr) C s H fp) ifs tt) (he:∀C s H fp,PE (QW X (tn++fr) scope (bH X.env fr) C s H fp) elt te)
  (zR:swapsWith (.ListComp elt [⟨target,iter,ifs,0⟩] scope pos) (some (.Name y py)) uM.line X.env=pure true:=by rfl)
  (hs:∀x,foldedSetIterable iter X.env x=pure x:=by intro _;rfl) (hf:X.fn y=true\/X.env.scope.names.lookup y=some .local:=by first | exact .inl rfl | exact .inr rfl | assumption):
  PS X (.Assign [.Name y py] (.ListComp elt [⟨target,iter,ifs,0⟩] scope pos) uM) (EB (uK tn.length caps wi g tt te) (c9 i)):=
 uL hN Ss hx hc B.g hi hg ht he zR hs hf
end
section
variable {D:Addr}{te:TE}{cap:L2.St}{H1:Hp}{Q:VK}
theorem wO {J:It}(n:Nat)(xs:Nat->V)(Pv:Nat->List V->Hp->Prop)(h0:Pv 0 [] (upd H1 D (.lst [])))
  (go:∀i ys H,i < n->Pv i ys H->J.go i H/\∀x H',J.DR i H x H' ->H' =H/\x=xs i) (stop:∀ys H,Pv n ys H->J.stop n H)
  (hs:∀i ys H (R:VK),i < n->Pv i ys H->H D=some (.lst ys)->(∀v H6,H6 D=some (.lst ys)->ys.length < sizeLine->Pv (i+1) (ys++[v]) (upd H6 D (.lst (ys++[v])))->R v H6)->te (some (xs i)::cap) H R)
  (hd:∀ys H,Pv n ys H->H D=some (.lst ys)->Q (.ref D) H):km D (c9 0) ki te J (none::cap) H1 Q:=by
 refine ⟨fun i m σ ys H=>m=n - i/\i<=n/\(∃o,σ=o::cap)/\Pv i ys H/\H D=some (.lst ys),⟨n,by simp,aa6 _,⟨none,rfl⟩,h0,ak⟩,?_⟩
 rintro i m σ ys H ⟨rfl,hi,⟨o,rfl⟩,p,hD⟩
 by_cases jm:i < n
 ·obtain ⟨g1,g2⟩:=go i ys H jm p
  refine .inr ⟨g1,fun x H' y=>?_⟩
  obtain ⟨e1,e2⟩:=g2 x H' y
  subst e1 e2
  unfold c9 ki
  dsimp only
  rw [if_pos rfl]
  exact hs i ys _ _ jm p hD fun v H6 a b c=>⟨a,b,n - (i+1),by omega,rfl,by omega,⟨_,rfl⟩,c,ak⟩
 ·have e:i=n:=by omega
  subst e
  exact .inl ⟨stop ys H p,hd ys H p hD⟩
end
section
variable {X:Cx}{tg:Expr}
end
section
variable {prog:Program}{w:World}{A:Around}{E:δ}
end
structure QY (K:Frag)(C:Addr):Prop where
 makes:PySem.W.makesIn K C=true
 init:PySem.W.findIn K (.ref C) "__init__"=some (some (.builtin "object.__init__"))
 kp:keepIn K (.ref C)=true
def Su (C:Addr):TE:=fun _ H Q=>∀x dx,H x=none->H dx=none->dx≠x->Q (.ref x) (upd (upd H dx (.own x)) x (.ins C dx []))
section
variable {X:Cx}
theorem KC {pins:ε}{σ:L2.St}{H:Hp}{s:Shared}{Q:VK}{C:Addr}(M:QY X.K C)(I:Inv X pins σ H s)(h:Su C σ H Q):wpAny (model X.prog X.w) X.A (call (.ref C) []) (EP X pins σ Q) X.xe s:=by
 have hq:=h (s.heap.objs.size+1) s.heap.objs.size (I.bK.fresh (ah8 _)) (I.bK.fresh (aaf _)) (aa1 (aba _))
 have I2:=Inv.made (C:=C) I
 have Y:=PySem.W.makes_of (M:=model X.prog X.w) I.iZ M.makes
 refine wpAny_call (zF I.iZ M.makes M.init (fun self=>PySem.W.Looks.of_pure (PySem.W.oi_bind self)) ?_)
 have ho:((s.heap.push PySem.W.emptyDict).push (PySem.W.instObj C s.heap.objs.size)).get? (s.heap.objs.size+1)=some (PySem.W.instObj C s.heap.objs.size):=by
  have:=Heap.get?_push_size (s.heap.push PySem.W.emptyDict) (o:=PySem.W.instObj C s.heap.objs.size) rfl
  rwa [Heap.size_push] at this
 have t1:PySem.W.Looks (model X.prog X.w) ((s.heap.push PySem.W.emptyDict).push (PySem.W.instObj C s.heap.objs.size)) (typeOf (.ref (s.heap.objs.size+1))) (.ref C):=(PySem.W.Looks.ld ho).andThen .now
 have t2:PySem.W.Looks (model X.prog X.w) ((s.heap.push PySem.W.emptyDict).push (PySem.W.instObj C s.heap.objs.size)) (isInstance (.ref (s.heap.objs.size+1)) (.type "object")) true:=
  t1.andThen (Y.top.keeps fun b o e=>Heap.get?_push_of_some _ (Heap.get?_push_of_some _ e))
 refine codeAny_call_builtin PySem.W.oi_plain PySem.W.entry_oi (@PySem.W.check_slot (model X.prog X.w) _ _ _ "object.__init__" "object" "__init__" (.ref (s.heap.objs.size+1)) [] [] _ PySem.W.oi_kind PySem.W.oi_split t2 (PySem.W.oi_args (.ref (s.heap.objs.size+1))) ?_)
 rw [PySem.W.oi_run]
 exact wpAny_pure (And.intro rfl ⟨V.ref (s.heap.objs.size+1),_,I2,rfl,hq⟩)
theorem FO {x:Str}{p pos:Pos}{C:Addr}(M:QY X.K C)(hg:Gl X x)(hm:X.mg x=some (.ref C))(zI:(x==("__debug__":Str))=false:=by decide):PE X (.Call (.Name x p) [] [] pos) (Su C):=by
 intro pins s σ H Q I h
 refine wpAny_Call_Name_kw (jo I hg hm ?_ zI)
 exact PySem.W.callWith_K0 I.iZ M.kp (KC M I h)
end
structure bI (P:Program)(w:World)(K:Frag)(mg:ι)(base:Heap)(CX:j6)(k:Nat)(C:Addr)(m:Str)(ps:ρ)(sp:Sp):Prop where
 ex:∃(f:Addr) (fd:FuncData),uq K C/\Meth K C m f/\cI P w K mg base CX k f fd ps sp/\Binds K fd ps []
theorem bI.mono {P:Program}{w:World}{K:Frag}{mg:ι}{base:Heap}{CX:j6}{j k:Nat}{C:Addr}{m:Str}{ps:ρ}{sp:Sp}(M:bI P w K mg base CX j C m ps sp)(h:j<=k):bI P w K mg base CX k C m ps sp:=by
 obtain ⟨f,fd,a,b,c,d⟩:=M.ex
 exact ⟨f,fd,a,b,c.mono h,d⟩
section
variable {X:Cx}{CX:j6}{k:Nat}{E:XK}{m:Str}{pos apos:Pos}{e o:Expr}{es:ψ}{ta:TE}{t:TA}
inductive Nc (P:Program)(w:World)(K:Frag)(mg:ι)(base:Heap)(CX:j6)(k:Nat)(m:Str)(E:XK)(t:TA)(σ:L2.St)(Q:VK)(x:V)(H1:Hp):Prop where
 | mk (a C dx fs ps sp:_) (_:x=.ref a) (_:H1 a=some (.ins C dx fs)) (_:fs.lookup m=none) (_:bI P w K mg base CX k C m ps sp) (_:t σ H1 fun vs H2=>sp (x::vs) H2 Q E):Nc P w K mg base CX k m E t σ Q x H1
def Sv (P:Program)(w:World)(K:Frag)(mg:ι)(base:Heap)(CX:j6)(k:Nat)(m:Str)(E:XK)(ta:TE)(t:TA):TE:=fun σ H Q=>ta σ H fun x H1=>Nc P w K mg base CX k m E t σ Q x H1
theorem fK {pl:Sem Bool}(he:PE X o ta)(hr:cD k X.A)(hx:Passes CX X E)
  (ht:eval (.Call (.Attribute o m apos) [] [] pos) X.env=(do
   let ov <- eval o X.env
   standAt apos.atName
   let (f,first) <- holding [ov] (getMethod ov m pl)
   callWith pos f first (backTo pos (starEach [] X.env)) (backToKw pos (keywordEach [] X.env))):=by rfl):
  PE X (.Call (.Attribute o m apos) [] [] pos) (Sv X.prog X.w X.K X.mg X.base CX k m E ta dQ):=by
 intro pins s σ H Q I h
 refine PySem.W.methodCall_KW (pl:=pl) (bZ (he pins s σ H _ I h) fun u s1 ⟨x,H1,I1,rx,a,C,dx,fs,ps,sp,ex,ea,l,M,q⟩=>?_) ht
 subst ex
 obtain rfl:u=Value.ref a:=rx
 obtain ⟨f,fd,c,hm,F,hb⟩:=M.ex
 refine i6 I1 ea c hm l ?_
 exact PySem.W.callWith_K0 (first:=[.ref a]) I1.iZ hm.kp (rP (us:=[.ref a]) (vs:=[.ref a]) (dvs:=[]) F hr hb .nil hx I1 (.cons rfl .nil) q)
theorem cK {pl:Sem Bool}(he:PE X o ta)(hr:cD k X.A)(hx:Passes CX X E)(ha:PA X (e::es) t)
  (Kh:starEach (e::es) X.env=(false,eval e X.env)::starEach es X.env:=by rfl) (yl:(backTo pos (starEach es X.env)).any (·.1)=false:=by rfl)
  (ht:eval (.Call (.Attribute o m apos) (e::es) [] pos) X.env=(do
   let ov <- eval o X.env
   standAt apos.atName
   let (f,first) <- holding [ov] (getMethod ov m pl)
   callWith pos f first (backTo pos (starEach (e::es) X.env)) (backToKw pos (keywordEach [] X.env))):=by rfl):
  PE X (.Call (.Attribute o m apos) (e::es) [] pos) (Sv X.prog X.w X.K X.mg X.base CX k m E ta t):=by
 intro pins s σ H Q I h
 refine PySem.W.methodCall_KW (pl:=pl) (bZ (he pins s σ H _ I h) fun u s1 ⟨x,H1,I1,rx,a,C,dx,fs,ps,sp,ex,ea,l,M,q⟩=>?_) ht
 subst ex
 obtain rfl:u=Value.ref a:=rx
 obtain ⟨f,fd,c,hm,F,hb⟩:=M.ex
 refine i6 I1 ea c hm l ?_
 refine PySem.W.callWith_K (first:=[.ref a]) (h₀:=X.base) I.ok.mod.QR hm.kp (bZ (ha pos pins s1 σ H1 _ I1 q) fun us s2 ⟨vs,H2,I2,r,q2⟩=>⟨I2.iZ,?_⟩) Kh yl
 refine rP (us:=.ref a::us) (vs:=.ref a::vs) (dvs:=[]) F hr hb .nil hx I2 (.cons rfl r) ?_
 rw [ahS]
 exact q2
end
theorem uN {X:Cx}{CX:j6}(h:uI CX)(e:X.xe=fun _ _=>False):Passes CX X E0:=fun _ _ _ _ _ _ _ q=>(h _ _ _ _ _ q).elim
section
variable {σ:L2.St}{H:Hp}{Q:VK}{QB:Bool->Hp->Prop}{QA:List V->Hp->Prop}{D:Ends}{t u:TS}{ta tb te:TE}{tc td:TT}{t1:TA}
end
section
variable {X:Cx}
inductive Sw (x:V)(lo:Ξ)(hi:Ξ)(H:Hp)(Q:VK):Prop where
 | mk (z:_) (_:x=.str z) (_:z.length<=sizeLine) (_:Q (.str (Txt.slice z lo hi)) H):Sw x lo hi H Q
theorem OS:Sa X Sw:=by
 intro pins s σ H x v vl vu lo hi sl Q I rx hs pl pu h
 obtain ⟨z,rfl,hz,q⟩:=h
 obtain ⟨t,rfl⟩:=rx
 refine ⟨"str",_,F.slot_str_getitem.lookup,typeIs_str _ _ _,?_⟩
 cases pl <;> cases pu
 ·exact wpAny_getItem_str_slice (l:=none) (u:=none) (st:=none) hs rfl (post_val_or_str ⟨aai (Txt.slice_le z _ _) hz,fun t' k=>⟨.str _,H,I.tok k,⟨t',rfl⟩,q⟩⟩)
 ·rename_i j uj
  exact wpAny_getItem_str_slice (l:=none) (u:=some (j,uj)) (st:=none) hs rfl (post_val_or_str ⟨aai (Txt.slice_le z _ _) hz,fun t' k=>⟨.str _,H,I.tok k,⟨t',rfl⟩,q⟩⟩)
 ·rename_i i ui
  exact wpAny_getItem_str_slice (l:=some (i,ui)) (u:=none) (st:=none) hs rfl (post_val_or_str ⟨aai (Txt.slice_le z _ _) hz,fun t' k=>⟨.str _,H,I.tok k,⟨t',rfl⟩,q⟩⟩)
 ·rename_i i ui j uj
  exact wpAny_getItem_str_slice (l:=some (i,ui)) (u:=some (j,uj)) (st:=none) hs rfl (post_val_or_str ⟨aai (Txt.slice_le z _ _) hz,fun t' k=>⟨.str _,H,I.tok k,⟨t',rfl⟩,q⟩⟩)
inductive Nd (x:V)(y:V)(H:Hp)(Q:VK):Prop where
 | mk (z n:_) (_:x=.str z) (_:y=.int n) (_:MulOk z n) (_:Q (.str (Txt.mul z n)) H):Nd x y H Q
theorem r9:iR X (binaryOp .Mult) Nd:=by
 intro pins s σ H x y v u Q I rx ry h
 obtain ⟨z,n,rfl,rfl,ok,q⟩:=h
 obtain ⟨t,rfl⟩:=rx
 obtain ⟨t',rfl⟩:=ry
 exact SB.mul ok fun t' k=>⟨.str _,H,I.tok k,⟨t',rfl⟩,q⟩
theorem all_range (bs:List Bool):(abl bs.length).all (fun i=>(bs[i]?).getD true)=bs.all id:=by
 induction bs with
 | nil=>rfl
 | cons b r ih=>
  rw [aa5,aih,ahO,aiH,ahO, <- ih]
  rfl
inductive Sx (K:Frag)(xs:ζ)(H:Hp)(Q:VK):Prop where
 | mk (p:Addr) (bs:List Bool) (_:xs=[.ref p]) (_:a8 K H p (bs.map V.bl)) (_:Q (.bl (bs.all id)) H):Sx K xs H Q
theorem kq (hc:X.calm=true):fg X (.builtin "all") (Sx X.K):=by
 intro pins s σ H xs us Q I r h
 obtain ⟨p,bs,rfl,hq,q⟩:=h
 obtain ⟨u,rfl,r1⟩:=vals1 r
 cases r1
 obtain ⟨its,rv,pl,hz⟩:=I.list hq
 refine call_all_walk (wpAny_pyIter_list pl.isList ?_)
 have yx:p≠s.heap.objs.size:=by obtain ⟨o,ho,_⟩:=pl.isList;exact aa1 (Heap.lt_size ho)
 have I1:Inv X pins σ H {s with heap:=s.heap.push {cls:=.type "list_iterator",data:=.fields #[.ref p,.int 0 0]}}:=I.kept (t' :=s.toks) fun b o e=>Heap.get?_push_of_some _ e
 obtain ⟨f0,f1,f2,f3,f4,f5⟩:=I.j7 (H' :=H) (aaf s.heap.objs.size) (I.bK.fresh (aaf _))
 have hl:its.length=bs.length:=by rw [<- rv.length,aab]
 refine ⟨s.heap.objs.size,_,_,_,_,_,fun i=>(bs[i]?).getD true,rfl,Walks.list (A:=X.A.in1) (I.ok.hd hc) s.heap.objs.size p yx its.toArray,⟨⟨_,Heap.get?_push_size _ rfl,rfl,rfl⟩,pl.isList.at fun o e=>Heap.get?_push_of_some _ e⟩,?_,fun h' tk kk=>?_⟩
 ·intro i v s' Q' E' hv g7
  have Ow :its[i]? =some v:=by simpa using hv
  have hi:i < bs.length:=by rw [<- hl];exact (ir.mp Ow).1
  have eb:(bs.map V.bl)[i]? =some (.bl bs[i]):=by rw [Wp,gE hi];rfl
  obtain ⟨u,eu,ru⟩:=rv.get eb
  rw [Ow] at eu
  cases eu
  cases ru
  dsimp only at g7
  rw [gE hi] at g7
  exact wpAny_truthy_bool g7
 ·refine ⟨.bl (bs.all id),H,I1.turned (t' :=tk) (it:=s.heap.objs.size) (fun b o hb e=>kk b o (by simpa using hb) e) f0 f1 f3 f4 f5,?_,q⟩
  show _=_
  rw [<- all_range bs,aaF,hl]
end
end Ty
set_option maxHeartbeats 4000000
namespace Ty
open PySem PySem.Spec PyProof.Rows L2 PySem.NumText
def dg (m:Nat):List Nat:=(Nat.toDigits 10 m).map Char.toNat
def tx (n:Int):Str:=Str.ofString (toString n)
def Sy:Str:=Str.ofString "/"
def nt (q:Int×Int):Str:=if q.2=1 then tx q.1 else tx q.1++Sy++tx q.2
end Ty
set_option maxHeartbeats 4000000
namespace Ty
open PySem PySem.Spec PyProof.Rows L2 PySem.NumText
section
variable {X:Cx}
end
def isStar:Expr->Bool
 | .Starred .. =>true
 | _=>false
theorem zV {e:Expr}{es:ψ}{env:Env}(h:isStar e=false):starEach (e::es) env=(false,eval e env)::starEach es env:=by
 cases e <;> first | rfl | (cases h;done)
theorem ar {X:Cx}{e:Expr}{es:ψ}{te:TE}{t:TA}(ha:PE X e te)(hr:PA X es t)(h:isStar e=false:=by rfl):PA X (e::es) (MX te t):=Km ha hr (zV h)
end Ty
set_option maxHeartbeats 4000000
namespace Ty
open PySem PySem.Spec PyProof.Rows L2
section
variable {D:Addr}{te:TE}{cap:L2.St}{H1:Hp}{Q:VK}
def aX (D:Addr)(H H' :Hp):Prop:=∀b o,b≠D->H b=some o->H' b=some o
theorem aX.of {H H' :Hp}(s:au H H'):aX D H H' :=fun b o _ e=>s b o e
theorem aX.upd {H:Hp}{o:HO}:aX D H (upd H D o):=fun b o' n e=>by rw [ao n];exact e
theorem FP {J:It}(n:Nat)(xs:Nat->V)(Rel:Nat->V->Hp->Prop)(nD:H1 D=none)(hn:n < sizeLine)
  (go:∀i H,i < n->au H1 H->J.go i H/\∀x H',J.DR i H x H' ->H' =H/\x=xs i) (stop:∀H,au H1 H->J.stop n H)
  (hR:∀i v H H' ys,H D=some (.lst ys)->aX D H H' ->Rel i v H->Rel i v H')
  (he:∀i H (R:VK),i < n->au H1 H->(∀v H6,au H H6->Rel i v H6->R v H6)->te (some (xs i)::cap) H R)
  (hd:∀ys H,ys.length=n->(∀i v,ys[i]? =some v->Rel i v H)->au H1 H->H D=some (.lst ys)->Q (.ref D) H):
  km D (c9 0) ki te J (none::cap) H1 Q:=by
 refine wO n xs (fun i ys H=>ys.length=i/\(∀i v,ys[i]? =some v->Rel i v H)/\au H1 H) ⟨rfl,fun i v e=>by simp at e,fun b o e=>by rw [ao (aq e nD)];exact e⟩ ?_ ?_ ?_ ?_
 ·rintro i ys H hi ⟨_,_,s⟩
  exact go i H hi s
 ·rintro ys H ⟨_,_,s⟩
  exact stop H s
 ·rintro i ys H R hi ⟨l,r,s⟩ hD k
  refine he i H R hi s fun v H6 s6 rv=>k v H6 (s6 _ _ hD) (by omega) ⟨by simp [l],fun j u e=>?_,fun b o e=>?_⟩
  ·by_cases c:j < ys.length
   ·rw [aaD c] at e
    have ru:=hR j u H H6 ys hD (aX.of s6) (r j u e)
    exact hR j u H6 _ ys (s6 _ _ hD) aX.upd ru
   ·rw [aaY (by omega)] at e
    have ej:j=i:=by
     by_cases z:j - ys.length=0
     ·omega
     ·rw [aaj (by simp;omega)] at e
      cases e
    subst ej
    have:v=u:=by
     rw [show j - ys.length=0 by omega] at e
     exact aay e
    subst this
    exact hR j v H6 _ ys (s6 _ _ hD) aX.upd rv
  ·rw [ao (aq e nD)]
   exact s6 _ _ (s _ _ e)
 ·rintro ys H ⟨l,r,s⟩ hD
  exact hd ys H l r s hD
theorem cH {K:Frag}{a:Addr}{xs:ζ}(Rel:Nat->V->Hp->Prop)(nD:H1 D=none)(hn:xs.length < sizeLine)(hS:∀H,au H1 H->a8 K H a xs)
  (hR:∀i v H H' ys,H D=some (.lst ys)->aX D H H' ->Rel i v H->Rel i v H')
  (he:∀i x H (R:VK),xs[i]? =some x->au H1 H->(∀v H6,au H H6->Rel i v H6->R v H6)->te (some x::cap) H R)
  (hd:∀ys H,ys.length=xs.length->(∀i v,ys[i]? =some v->Rel i v H)->au H1 H->H D=some (.lst ys)->Q (.ref D) H):
  km D (c9 0) ki te (JE K a) (none::cap) H1 Q:=by
 refine FP xs.length (fun i=>(xs[i]?).getD .cB) Rel nD hn (fun i H hi s=>⟨⟨xs,xs[i],hS H s,gE hi⟩,fun x H' y=>⟨y.1,?_⟩⟩) (fun H s=>⟨xs,hS H s,aaf _⟩) hR (fun i H R hi s k=>?_) hd
 ·rw [y.2 xs (hS H s)];rfl
 ·have e:xs[i]? =some xs[i]:=gE hi
  have k' :=he i _ H R e s k
  rw [<- (show (xs[i]?).getD .cB=xs[i] by rw [e];rfl)] at k'
  exact k'
end
section
variable {X:Cx}{pins:ε}{σ:L2.St}{H:Hp}{s:Shared}{h' :Heap}
theorem Inv.mT {t' :Nat}{fp:τ}(I:Inv X pins σ H s)(k:∀b o,b∉fp->s.heap.get? b=some o->h'.get? b=some o)(hf:∀b∈fp,iL X pins H b):Inv X pins σ H {s with heap:=h',toks:=t' }:=by
 have MF:∀b u,H b=some u->b∉fp:=fun b u e z=>by rw [(hf b z).1] at e;cases e
 refine I.step (g' :=s.gens) (d' :=s.drawn) (ch:=fp) (fun b hb=>?_) (fun b o _ _ hc e _=>k b o hc e) (fun b o _ _ hc e _=>⟨o.slots,k b o hc e⟩) (fun _ _ _ _ n=>n)
  (fun b o hc e=>⟨o,k b o hc e⟩) (fun _ _ e=>e) (fun _ _ _ e=>e) (fun b ps e=>⟨#[],by rw [e];simp⟩) (fun m hm=>?_) (fun b u e=>?_) I.bare
 ·obtain ⟨f0,f1,f2,f3,f4,f5⟩:=hf b hb
  exact ⟨f3,f1,f4,f5⟩
 ·obtain ⟨o,es,ep,ho,r⟩:=hm
  exact ⟨o,es,ep,k _ o (fun z=>(hf _ z).2.1 rfl) ho,r⟩
 ·refine (I.bK b u e).pR (fun c v hc q=>k c v ?_ q) (fun _ q=>q) fun _ _ q=>q
  rcases hc with z | z
  ·rw [z];exact MF b u e
  ·exact MF c _ z
theorem Inv.r_ {t' :Nat}{fp:τ}{T:Addr}{xs:ζ}{its:ο}(I:Inv X pins σ H s)(k:∀b o,b∉fp->s.heap.get? b=some o->h'.get? b=some o)(hf:∀b∈fp,iL X pins H b)(hT:s.heap.objs.size<=T)
  (hz:xs.length<=sizeLine) (rv:Vals xs its) (ht:IsTup h' T its.toArray):Inv X pins σ (upd H T (.tup xs)) {s with heap:=h',toks:=t' }:=by
 have hn:=I.bK.fresh hT
 have MF:∀b u,H b=some u->b∉fp:=fun b u e z=>by rw [(hf b z).1] at e;cases e
 have ne:∀b o,s.heap.get? b=some o->b≠T:=fun b o e=>aa1 (aaI (Heap.lt_size e) hT)
 refine I.step (g' :=s.gens) (d' :=s.drawn) (ch:=fp) (fun b hb=>?_) (fun b o _ _ hc e _=>k b o hc e) (fun b o _ _ hc e _=>⟨o.slots,k b o hc e⟩) (fun b o _ e n=>by rw [ao (ne b o e)];exact n)
  (fun b o hc e=>⟨o,k b o hc e⟩) (fun b ys e=>by rw [ao (aq e hn)];exact e) (fun b o u e=>by rw [ao (aq e hn)];exact e) (fun b ps e=>⟨#[],by rw [ao (aq e hn),e];simp⟩) (fun m hm=>?_) (fun b u e=>?_) I.bare
 ·obtain ⟨f0,f1,f2,f3,f4,f5⟩:=hf b hb
  exact ⟨f3,f1,f4,f5⟩
 ·obtain ⟨o,es,ep,ho,r⟩:=hm
  exact ⟨o,es,ep,k _ o (fun z=>(hf _ z).2.1 rfl) ho,r⟩
 ·by_cases hb:b=T
  ·subst hb
   rw [ak] at e
   cases e
   exact ⟨hz,its,rv,ht⟩
  ·rw [ao hb] at e
   refine (I.bK b u e).pR (fun c v hc q=>k c v ?_ q) (fun c q=>by rw [ao (aq q hn)];exact q) fun c ys q=>by rw [ao (aq q hn)];exact q
   rcases hc with z | z
   ·rw [z];exact MF b u e
   ·exact MF c _ z
end
def Z3 (K:Frag)(a b:Addr):It:=
 ⟨fun i H=>∃xs ys x y,a8 K H a xs/\a8 K H b ys/\xs[i]? =some x/\ys[i]? =some y,
  fun i H v H' =>∃p x y,(∀xs,a8 K H a xs->xs[i]? =some x)/\(∀ys,a8 K H b ys->ys[i]? =some y)/\v=.ref p/\H p=none/\H' =upd H p (.tup [x,y]),
  fun i H=>∃xs ys,a8 K H a xs/\a8 K H b ys/\(xs.length<=i\/ys.length<=i)⟩
theorem FQ {P:Program}{w:World}{K:Frag}{es:ψ}{k:Nat}{pos:Pos}(a b z TI TO i1 i2:Addr)(D:ZipApart z TI TO i1 i2 a b):
  Turn P w K (.Tuple es k pos) (Z3 K a b) [z,TI,TO,i1,i2] z (fun i h=>IsZip h z TI TO .none/\IsPair h TI (.ref i1) (.ref i2)/\(∃x y,IsPair h TO x y)/\h.IsListIter i1 a i/\h.IsListIter i2 b i) where
 mem:=by simp
 obj:=fun i h st c hc=>by
  obtain ⟨hz,i7,⟨x,y,qR⟩,⟨o1,e1,c1,d1⟩,⟨o2,e2,c2,d2⟩⟩:=st
  have t_ :c=z\/c=TI\/c=TO\/c=i1\/c=i2:=by simpa using hc
  rcases t_ with e | e | e | e | e <;> subst e
  ·exact ⟨_,hz,fun v z=>by cases z⟩
  ·exact ⟨_,i7,fun v z=>by cases z⟩
  ·exact ⟨_,qR,fun v z=>by cases z⟩
  ·exact ⟨_,e1,fun v z=>by rw [d1] at z;cases z⟩
  ·exact ⟨_,e2,fun v z=>by rw [d2] at z;cases z⟩
 keep:=fun i h h' st k=>by
  obtain ⟨hz,i7,⟨x,y,qR⟩,h1,h2⟩:=st
  exact ⟨k z (by simp) _ hz,k TI (by simp) _ i7,⟨x,y,k TO (by simp) _ qR⟩,h1.at fun o e=>k i1 (by simp) o e,h2.at fun o e=>k i2 (by simp) o e⟩
 item:=by
  intro X hP hw hK hc i pins s σ H E I hf st hg
  subst hP hw hK
  obtain ⟨hz,i7,⟨x0,y0,qR⟩,h1,h2⟩:=st
  obtain ⟨xs,ys,x,y,qx,qy,ex,ey⟩:=hg
  obtain ⟨its,rv,p,_⟩:=I.list qx
  obtain ⟨SA,mK,p',_⟩:=I.list qy
  obtain ⟨u,hu,ru⟩:=rv.get ex
  obtain ⟨v,hv,rv'⟩:=mK.get ey
  refine wpAny_pyNext_zip_item D hz i7 qR h1 h2 p.isList p'.isList (x:=u) (y:=v) (by simpa using hu) (by simpa using hv) fun h' a1 a2 a3 a4 a5 a6 a7=>?_
  refine ⟨_,rfl,wpAny_letOwnedTupleGo_zip (s:={s with heap:=h' }) a1 fun JG b1 sb=>?_⟩
  have nz:∀c,c≠z->∀o,h'.get? c=some o->JG.get? c=some o:=fun c hc o e=>(sb.2 c hc).trans e
  have kk:∀b o,b∉[z,TI,TO,i1,i2]->s.heap.get? b=some o->JG.get? b=some o:=fun b o hb e=>by
   have gi :b≠z/\b≠TI/\b≠TO/\b≠i1/\b≠i2:=by simpa using hb
   exact nz b gi.1 o (a7 b o gi.1 gi.2.2.1 gi.2.2.2.1 gi.2.2.2.2 e)
  have sz:∀c o,s.heap.get? c=some o->s.heap.objs.size≠c:=fun c o e=>ahr (Heap.lt_size e)
  have tz:s.heap.objs.size≠z:=sz _ _ hz
  have hn:=I.bK.fresh (aaf s.heap.objs.size)
  have I2:Inv X pins σ (upd H s.heap.objs.size (.tup [x,y])) {s with heap:=JG,toks:=s.toks}:=
   Inv.r_ I kk hf (aaf _) (by show 2<=sizeLine;decide) (its:=[u,v]) (.cons ru (.cons rv' .nil)) ⟨_,nz _ tz _ a5,rfl,_,rfl⟩
  refine ⟨.ref s.heap.objs.size,_,I2,rfl,⟨s.heap.objs.size,x,y,fun xs' q=>by rw [I.hV q qx];exact ex,fun ys' q=>by rw [I.hV q qy];exact ey,rfl,hn,rfl⟩,⟨b1,nz _ D.TIz _ (a7 _ _ D.TIz D.TITO D.TIi1 D.TIi2 i7),⟨_,_,nz _ D.TOz _ a2⟩,a3.at fun o e=>nz _ D.i1z o e,a4.at fun o e=>nz _ D.i2z o e⟩,fun b hb=>?_⟩
  have ob:∃o,s.heap.get? b=some o:=by
   obtain ⟨o1,e1,_⟩:=h1
   obtain ⟨o2,e2,_⟩:=h2
   have t_ :b=z\/b=TI\/b=TO\/b=i1\/b=i2:=by simpa using hb
   rcases t_ with e | e | e | e | e <;> subst e
   ·exact ⟨_,hz⟩
   ·exact ⟨_,i7⟩
   ·exact ⟨_,qR⟩
   ·exact ⟨_,e1⟩
   ·exact ⟨_,e2⟩
  obtain ⟨o,e⟩:=ob
  rw [ao (aaW (sz _ _ e))]
  exact (hf b hb).1
 done:=by
  intro X hP hw hK hc i pins s σ H E I hf st hg
  subst hP hw hK
  obtain ⟨hz,i7,⟨x0,y0,qR⟩,h1,h2⟩:=st
  obtain ⟨xs,ys,qx,qy,ee⟩:=hg
  obtain ⟨its,rv,p,_⟩:=I.list qx
  obtain ⟨SA,mK,p',_⟩:=I.list qy
  have l1:=rv.length
  have l2:=mK.length
  refine wpAny_pyNext_zip_end (I.ok.hd hc) D hz i7 qR h1 h2 p.isList p'.isList ?_ fun h' kk=>⟨rfl,Inv.mT I (fun b o hb e=>?_) hf⟩
  ·rcases ee with e | e
   ·exact .inl (by simp;omega)
   ·exact .inr (by simp;omega)
  ·have gi :b≠z/\b≠TI/\b≠TO/\b≠i1/\b≠i2:=by simpa using hb
   exact kk b o gi.1 gi.2.2.1 gi.2.2.2.1 gi.2.2.2.2 e
 self:=fun _ _ _ _ _ st h=>wpAny_pyIter_zip st.1 h
theorem boot_zip:bootBuiltins "zip"=some (.type "zip"):=by decide+kernel
section
variable {X:Cx}
inductive Nf (K:Frag)(R:(It->Hp->Prop))(vs:ζ)(H1:Hp):Prop where
 | mk (a b:_) (_:vs=[.ref a,.ref b]) (_:(∃xs,a8 K H1 a xs)) (_:(∃ys,a8 K H1 b ys)) (_:R (Z3 K a b) H1):Nf K R vs H1
def Z4 (K:Frag)(ta:TA):TI:=fun σ H R=>ta σ H fun vs H1=>Nf K R vs H1
theorem OT {e1 e2:Expr}{ta:TA}{p pos:Pos}{es:ψ}{k:Nat}{rN:Pos}(hg:Gl X "zip")(hm:X.mg "zip"=none)(ha:PA X [e1,e2] ta)(hs:starEach [e1,e2] X.env=[(false,eval e1 X.env),(false,eval e2 X.env)]:=by rfl)(EM:starEach [e2] X.env=[(false,eval e2 X.env)]:=by rfl):
  PI X (.Tuple es k rN) (.Call (.Name "zip" p) [e1,e2] [] pos) (Z4 X.K ta):=by
 intro pins s σ H R I h
 refine Call_ (fQ I hg hm boot_zip (PyProof.Rows.callWith_type1 (bZ (ha pos pins s σ H _ I h) fun us s1 ⟨vs,H1,I1,r1,q1⟩=>?_) (by rw [hs,EM]) (by rw [EM];rfl)))
 obtain ⟨a,b,e,⟨xs,hx⟩,⟨ys,hy⟩,q⟩:=q1
 subst e
 cases r1 with
 | cons r rr=>
  cases rr with
  | cons r' rr=>
   cases rr
   cases r
   cases r'
   obtain ⟨its,rv,pl,_⟩:=I1.list hx
   obtain ⟨SA,mK,pl',_⟩:=I1.list hy
   have lt1:a < s1.heap.objs.size:=by obtain ⟨o,ho,_⟩:=pl.isList;exact Heap.lt_size ho
   have lt2:b < s1.heap.objs.size:=by obtain ⟨o,ho,_⟩:=pl'.isList;exact Heap.lt_size ho
   refine call_zip_2 pl.isList pl'.isList fun h' hz i7 qR OU SD hsz hk=>wpAny_pyIter_zip (s:={s1 with heap:=h' }) hz ?_
   refine ⟨s1.heap.objs.size+4,[s1.heap.objs.size+4,s1.heap.objs.size+2,s1.heap.objs.size+3,s1.heap.objs.size,s1.heap.objs.size+1],_,_,H1,rfl,I1.kept (t' :=s1.toks) hk,FQ a b _ _ _ _ _ ?_,⟨hz,i7,⟨_,_,qR⟩,OU,SD⟩,fun c hc=>?_,q⟩
   ·constructor <;> (intro z;simp only [Addr] at*;omega)
   ·have t_ :s1.heap.objs.size<=c:=by
     have:c=s1.heap.objs.size+4\/c=s1.heap.objs.size+2\/c=s1.heap.objs.size+3\/c=s1.heap.objs.size\/c=s1.heap.objs.size+1:=by simpa using hc
     simp only [Addr] at*
     omega
    exact I1.j7 t_ (I1.bK.fresh t_)
inductive wQ (K:Frag)(xs:ζ)(H:Hp)(Q:VK):Prop where
 | mk (p:Addr) (ys:ζ) (_:xs=[.ref p]) (_:a8 K H p ys) (_:∀l,H l=none->Q (.ref l) (upd H l (.lst ys))):wQ K xs H Q
theorem i8:fg X (.type "list") (wQ X.K):=by
 intro pins s σ H xs us Q I r h
 obtain ⟨p,ys,rfl,hq,q⟩:=h
 obtain ⟨u,rfl,r1⟩:=vals1 r
 cases r1
 obtain ⟨its,rv,⟨o,n,e,c,d1,d⟩,hz⟩:=I.list hq
 have hlen:=rv.length
 refine call_list_seq p (.inl rfl) e c d (fun h' c' hk hl=>?_) (by simp;omega)
 have hn:=I.bK.fresh (aaf s.heap.objs.size)
 have I2:Inv X pins σ (upd H s.heap.objs.size (.lst ys)) {s with heap:=h',toks:=s.toks}:=I.laid (t' :=s.toks) hk (aaf _) ⟨hz,its,c',rv,hl⟩
 exact ⟨.ref _,_,I2,rfl,q _ hn⟩
end
section
variable {X:Cx}{K:Frag}
theorem dX (h:X.K=K):QV X (EU K):=by subst h;exact kb
theorem FR (h:X.K=K):QV X (Kt K):=by subst h;exact ba
theorem yy {es:ψ}{k:Nat}{t:MJ}{n:Nat}{pos:Pos}(hK:X.K=K)(hc:X.calm=true)(h:RP X es t)
  (hn:(assignEach es X.env).length=n:=by rfl) (Kh:(assignEach es X.env).findIdx? (·.1)=none:=by rfl):PG X (.Tuple es k pos) (EA K n t):=by subst hK;exact fm hc h hn Kh
end
section
variable {D:Addr}{te:TE}{cap:L2.St}{H1:Hp}{Q:VK}
theorem FT {K:Frag}{a b:Addr}{xs ys:ζ}(Rel:Nat->V->Hp->Prop)(nD:H1 D=none)(hn:xs.length < sizeLine)(hl:ys.length=xs.length)(hX:∀H,au H1 H->a8 K H a xs)(hY:∀H,au H1 H->a8 K H b ys)
  (hR:∀i v H H' ys,H D=some (.lst ys)->aX D H H' ->Rel i v H->Rel i v H')
  (he:∀i x y H (R:VK),xs[i]? =some x->ys[i]? =some y->au H1 H->(∀v H6,au H H6->Rel i v H6->R v H6)->te (some x::some y::cap) H R)
  (hd:∀zs H,zs.length=xs.length->(∀i v,zs[i]? =some v->Rel i v H)->au H1 H->H D=some (.lst zs)->Q (.ref D) H):
  km D (EA K 2 (uk (c9 0) (uk (c9 1) Oj))) ki te (Z3 K a b) (none::none::cap) H1 Q:=by
 refine ⟨fun i m σ zs H=>m=xs.length - i/\i<=xs.length/\(∃o o',σ=o::o' ::cap)/\(zs.length=i/\(∀i v,zs[i]? =some v->Rel i v H)/\au H1 H)/\H D=some (.lst zs),⟨xs.length,by simp,aa6 _,⟨none,none,rfl⟩,⟨rfl,fun i v e=>by simp at e,fun b o e=>by rw [ao (aq e nD)];exact e⟩,ak⟩,?_⟩
 rintro i m σ zs H ⟨rfl,hi,⟨o,o',rfl⟩,⟨l,r,s⟩,hD⟩
 by_cases jm:i < xs.length
 ·have e1:xs[i]? =some xs[i]:=gE jm
  have e2:ys[i]? =some (ys[i]'(by omega)):=gE (by omega)
  refine .inr ⟨⟨xs,ys,_,_,hX H s,hY H s,e1,e2⟩,fun v H' y=>?_⟩
  obtain ⟨p,x,y,q1,q2,rfl,np,rfl⟩:=y
  have e1:=q1 xs (hX H s)
  have e2:=q2 ys (hY H s)
  have sp:au H (upd H p (.tup [x,y])):=fun b o e=>by rw [ao (aq e np)];exact e
  refine ⟨p,_,rfl,bU.of ak,rfl,_,_,rfl,_,_,rfl,rfl,?_⟩
  unfold ki
  dsimp only
  rw [if_pos rfl]
  refine he i x y _ _ e1 e2 (fun b o e=>sp _ _ (s _ _ e)) fun v H6 s6 rv=>⟨s6 _ _ (sp _ _ hD),by omega,xs.length - (i+1),by omega,rfl,by omega,⟨_,_,rfl⟩,⟨by simp [l],fun j u e=>?_,fun b o e=>?_⟩,ak⟩
  ·by_cases c:j < zs.length
   ·rw [aaD c] at e
    have ru:=hR j u H H6 zs hD (aX.of fun b o q=>s6 _ _ (sp _ _ q)) (r j u e)
    exact hR j u H6 _ zs (s6 _ _ (sp _ _ hD)) aX.upd ru
   ·rw [aaY (by omega)] at e
    have ej:j=i:=by
     by_cases z:j - zs.length=0
     ·omega
     ·rw [aaj (by simp;omega)] at e
      cases e
    subst ej
    have:v=u:=by
     rw [show j - zs.length=0 by omega] at e
     exact aay e
    subst this
    exact hR j v H6 _ zs (s6 _ _ (sp _ _ hD)) aX.upd rv
  ·rw [ao (aq e nD)]
   exact s6 _ _ (sp _ _ (s _ _ e))
 ·have e:i=xs.length:=by omega
  subst e
  exact .inl ⟨⟨xs,ys,hX H s,hY H s,.inl (aaf _)⟩,hd zs H l r s hD⟩
end
open Builtin.Int (intBits)
def vl (q:Int×Int):Rat:=(q.1:Rat) / (q.2:Rat)
structure Sm (T B:Nat)(q:Int×Int):Prop where
 pos:0 < q.2
 low:abm q.1 q.2=1
 top:q.1.natAbs<=2^T
 bot:q.2.natAbs<=2^B
theorem cY {b:Int}(h:b≠0):(b:Rat)≠0:=by simpa using h
theorem wU {t b:Int}(h:b≠0):vl (low t b)=(t:Rat) / (b:Rat):=by
 have c:=zM (t:=t) h
 have p:=jx (t:=t) h
 have h1:=cY h
 have h2:=cY (b:=(low t b).2) (by omega)
 have c' :((low t b).1:Rat)*b=t*(low t b).2:=by exact_mod_cast c
 unfold vl
 grind
theorem uO {t b u c:Int}(hb:b≠0)(hc:c≠0)(h:(t:Rat) / b=(u:Rat) / c):t*c=u*b:=by
 have h1:=cY hb
 have h2:=cY hc
 have:(t:Rat)*c=u*b:=by grind
 exact_mod_cast this
theorem OV {q r:Int×Int}(hq:0 < q.2)(hr:0 < r.2)(gq:abm q.1 q.2=1)(gr:abm r.1 r.2=1)(h:vl q=vl r):q=r:=by
 have c:=uO (t:=q.1) (b:=q.2) (u:=r.1) (c:=r.2) (by omega) (by omega) h
 have e:=qa (t:=q.1) (b:=q.2) (u:=r.1) (c:=r.2) (by omega) (by omega) c
 rw [nN hq gq,nN hr gr] at e
 exact ahQ (congrArg an_ e) (congrArg ao_ e)
theorem zW {b d:Int}(hd:d≠0)(h:d ∣ b):((b.fdiv d:Int):Rat)=(b:Rat) / d:=by
 have e:=cy hd h
 have h1:=cY hd
 have:(b:Rat)=d*(b.fdiv d:Int):=by exact_mod_cast e
 grind
def uP (ts:ξ)(qs:ς)(b:Int):Prop:=ts.length=qs.length/\∀(i:Nat) (t:Int) (q:Int×Int),ts[i]? =some t->qs[i]? =some q->(t:Rat)=vl q*b
theorem wV {a b:Int}{m n:Nat}(h1:a.natAbs<=2^m)(h2:b.natAbs<=2^n):(a*b).natAbs<=2^(m+n):=by
 rw [abZ,ahR]
 exact abJ h1 h2
theorem OW {a b:Int}{m:Nat}(h1:a.natAbs<=2^m)(h2:b.natAbs<=2^m):(a+b).natAbs<=2^(m+1):=by
 have:=ahm a b
 rw [ahD]
 omega
theorem Ng {a:Int}{m n:Nat}(h:a.natAbs<=2^m)(hm:m<=n):a.natAbs<=2^n:=aai h (aa0 (by decide) hm)
theorem iz {a:Int}{m n:Nat}(h:a.natAbs<=2^m)(hm:m < n):intBits a<=n:=intBits_le_iff.mpr (aaq h (Nat.pow_lt_pow_right (by decide) hm))
theorem mU {a b:Int}{m n:Nat}(h1:a.natAbs<=2^m)(h2:b.natAbs<=2^n)(hm:m < 30000000)(hn:n < 30000000):nO a b:=⟨aai (iz h1 hm) (by decide),aai (iz h2 hn) (by decide)⟩
theorem FU {b d:Int}(hb:0 < b)(hd:0 < d):0 < b.fdiv (gz b d)*d/\b ∣ b.fdiv (gz b d)*d/\d ∣ b.fdiv (gz b d)*d/\(b.fdiv (gz b d)*d).natAbs<=b.natAbs*d.natAbs:=by
 have gp:=rW (t:=b) (b:=d) (by omega)
 have g1:gz b d ∣ b:=ae_ ..
 have g2:gz b d ∣ d:=ab' ..
 have e1:=cy (g:=gz b d) (by omega) g1
 have e2:=cy (g:=gz b d) (by omega) g2
 generalize gz b d=g at*
 have p1:0 < b.fdiv g:=by
  rcases ah9 (b.fdiv g) 0 with z | z | z
  ·exfalso
   have:=ah6 gp z
   omega
  ·rw [z] at e1;omega
  ·exact z
 refine ⟨ahq p1 hd,⟨d.fdiv g,?_⟩,⟨b.fdiv g,acd ..⟩,?_⟩
 ·have:b.fdiv g*d=b.fdiv g*(g*d.fdiv g):=by rw [<- e2]
  rw [this]
  have h3:b*d.fdiv g=g*b.fdiv g*d.fdiv g:=by rw [<- e1]
  rw [h3]
  rw [<- ahP,acd (b.fdiv g) g]
 ·rw [abZ]
  exact aa4 _ (by
   have:=dC (g:=g) (a:=b.fdiv g) (by omega)
   rw [<- e1] at this
   exact this)
theorem zX {q:Int×Int}{b:Int}(hq:0 < q.2)(h:q.2 ∣ b):((q.1*b.fdiv q.2:Int):Rat)=vl q*b:=by
 have e:=zW (b:=b) (d:=q.2) (by omega) h
 have:((q.1*b.fdiv q.2:Int):Rat)=q.1*((b.fdiv q.2:Int):Rat):=by push_cast;rfl
 rw [this,e]
 unfold vl
 grind
theorem gj {b d:Int}(hd:d≠0)(h:d ∣ b):(b.fdiv d).natAbs<=b.natAbs:=by
 have:=dC (g:=d) (a:=b.fdiv d) hd
 rw [<- cy hd h] at this
 exact this
section
variable {D:Addr}{te:TE}{cap:L2.St}{H1:Hp}{Q:VK}
theorem zY {J:It}(n:Nat)(xs:Nat->V)(Rel:Nat->V->Hp->Prop)(nD:H1 D=none)(hn:n < sizeLine)
  (go:∀i H,i < n->au H1 H->J.go i H/\∀x H',J.DR i H x H' ->H' =H/\x=xs i) (stop:∀H,au H1 H->J.stop n H)
  (hR:∀i v H H' ys,H D=some (.lst ys)->aX D H H' ->Rel i v H->Rel i v H')
  (he:∀i H (R:VK),i < n->au H1 H->(∃ys,H D=some (.lst ys))->(∀v H6,au H H6->Rel i v H6->R v H6)->te (some (xs i)::cap) H R)
  (hd:∀ys H,ys.length=n->(∀i v,ys[i]? =some v->Rel i v H)->au H1 H->H D=some (.lst ys)->Q (.ref D) H):
  km D (c9 0) ki te J (none::cap) H1 Q:=by
 refine wO n xs (fun i ys H=>ys.length=i/\(∀i v,ys[i]? =some v->Rel i v H)/\au H1 H) ⟨rfl,fun i v e=>by simp at e,fun b o e=>by rw [ao (aq e nD)];exact e⟩ ?_ ?_ ?_ ?_
 ·rintro i ys H hi ⟨_,_,s⟩
  exact go i H hi s
 ·rintro ys H ⟨_,_,s⟩
  exact stop H s
 ·rintro i ys H R hi ⟨l,r,s⟩ hD k
  refine he i H R hi s ⟨_,hD⟩ fun v H6 s6 rv=>k v H6 (s6 _ _ hD) (by omega) ⟨by simp [l],fun j u e=>?_,fun b o e=>?_⟩
  ·by_cases c:j < ys.length
   ·rw [aaD c] at e
    have ru:=hR j u H H6 ys hD (aX.of s6) (r j u e)
    exact hR j u H6 _ ys (s6 _ _ hD) aX.upd ru
   ·rw [aaY (by omega)] at e
    have ej:j=i:=by
     by_cases z:j - ys.length=0
     ·omega
     ·rw [aaj (by simp;omega)] at e
      cases e
    subst ej
    have:v=u:=by
     rw [show j - ys.length=0 by omega] at e
     exact aay e
    subst this
    exact hR j v H6 _ ys (s6 _ _ hD) aX.upd rv
  ·rw [ao (aq e nD)]
   exact s6 _ _ (s _ _ e)
 ·rintro ys H ⟨l,r,s⟩ hD
  exact hd ys H l r s hD
theorem nX {K:Frag}{a:Addr}{xs:ζ}(Rel:Nat->V->Hp->Prop)(nD:H1 D=none)(hn:xs.length < sizeLine)(hS:∀H,au H1 H->a8 K H a xs)
  (hR:∀i v H H' ys,H D=some (.lst ys)->aX D H H' ->Rel i v H->Rel i v H')
  (he:∀i x H (R:VK),xs[i]? =some x->au H1 H->(∃ys,H D=some (.lst ys))->(∀v H6,au H H6->Rel i v H6->R v H6)->te (some x::cap) H R)
  (hd:∀ys H,ys.length=xs.length->(∀i v,ys[i]? =some v->Rel i v H)->au H1 H->H D=some (.lst ys)->Q (.ref D) H):
  km D (c9 0) ki te (JE K a) (none::cap) H1 Q:=by
 refine zY xs.length (fun i=>(xs[i]?).getD .cB) Rel nD hn (fun i H hi s=>⟨⟨xs,xs[i],hS H s,gE hi⟩,fun x H' y=>⟨y.1,?_⟩⟩) (fun H s=>⟨xs,hS H s,aaf _⟩) hR (fun i H R hi s dd k=>?_) hd
 ·rw [y.2 xs (hS H s)];rfl
 ·have e:xs[i]? =some xs[i]:=gE hi
  have k' :=he i _ H R e s dd k
  rw [<- (show (xs[i]?).getD .cB=xs[i] by rw [e];rfl)] at k'
  exact k'
end
theorem KD {M:Model}{A:Around}{E:δ}{s:Shared}{scope:Scope}{globals:Addr}{cl:List (Str×Addr)}{y:Str}{qual:Str}{outer:Env}{Q:Env->Shared->Prop}
  (hc:∀n acc,cellsFrom n scope.names acc=(y,n)::acc) (hp:∀h,pushCells h scope.names=h.push {cls:=.type "cell",data:=.cell none})
  (hQ:∀h',h'.Ns s.heap.objs.size (fun _=>none)->(∀b o,s.heap.get? b=some o->h'.get? b=some o)->h'.IsCell (s.heap.objs.size+1) none->
   Q (newEnv scope s.heap.objs.size globals ((y,s.heap.objs.size+1)::cl) qual none .none (some outer) builtinsNs) {s with heap:=h',toks:=s.toks+([]:List (Str×Value)).length}):
  wpAny M A (newFunctionEnv scope globals cl [] qual none .none (some outer)) Q E s:=by
 simp only [newFunctionEnv,aiz,if_true]
 refine wpAny_bind (wpAny_alloc ?_)
 refine wpAny_bind (wpAny_layCells _ (fun name kind cells=>by cases hkc:kind==NameKind.cell <;> simp [hkc]) _ _ _ _ ?_)
 rw [show ({s with heap:=s.heap.push {cls:=.type "dict",data:=.dict #[]}}:Shared).heap.objs.size=s.heap.objs.size+1 from Heap.size_push ..,hc,hp]
 rw [ait]
 refine wpAny_bind (wpAny_pure (wpAny_pure ?_))
 refine hQ _ ((Heap.Ns.new s.heap (.type "dict")).keeps fun b o e=>Heap.get?_push_of_some _ e) (fun b o e=>Heap.get?_push_of_some _ (Heap.get?_push_of_some _ e)) ?_
 have:=Heap.get?_push_size (s.heap.push {cls:=.type "dict",data:=.dict #[]}) (o:={cls:=.type "cell",data:=.cell none}) rfl
 rw [Heap.size_push] at this
 exact ⟨_,this,rfl⟩
section
variable {X:Cx}
theorem uQ {K:Frag}(h:X.K=K):fg X (.type "list") (wQ K):=by subst h;exact i8
theorem FV {K:Frag}{tg l:Expr}{tl:TE}(h:X.K=K)(hl:PE X l tl):PI X tg l (MM K tl):=by subst h;exact bD hl
abbrev OX (X:Cx)(NB:ρ)(scope:Scope)(y:Str)(cl:List (Str×Addr))(C:Addr)(s:Shared)(H:Hp)(fp:τ):Cx:=r8 X NB scope (fun x=>x==y) ((y,C+1)::cl) C s H fp
structure OY (X:Cx)(scope:Scope)(y:Str)(fr:ρ)(caps:List Nat):Prop where
 zP:closureFor scope X.env=pure (bH X.env fr)
 kind:scope.kind=.function
 names:∀y∈scope.names,y.2=.local->scope.names.lookup y.1=some .local
 free:∀y∈scope.names,y.2=.free->y.1∈fr
 caps:caps.map (fun i=>X.N[i]?)=fr.map some
 out:fT X.env fr
 Sn:fT (compEnvC scope [] 0 X.env) fr
 OZ:∀n acc,cellsFrom n scope.names acc=(y,n)::acc
 SE:∀h,pushCells h scope.names=h.push {cls:=.type "cell",data:=.cell none}
 only:∀z∈scope.names,z.2=.cell->z.1=y
 ny:y∉fr
theorem KG {y x:Str}{C c:Addr}(h:abY x [(y,C)]=some c):x=y/\c=C:=by
 rw [ahs] at h
 cases e:x==y with
 | true=>
  rw [e] at h
  exact ⟨by simpa using e,(aay h).symm⟩
 | false=>rw [e] at h;cases h
theorem OY.g {scope:Scope}{y:Str}{fr:ρ}{caps:List Nat}(B:OY X scope y fr caps):FJ X scope (fun C=>[(y,C+1)]) (fun x=>x==y) fr caps:=
 ⟨B.zP,B.kind,B.names,B.free,B.caps,B.out,B.Sn,fun hQ=>KD B.OZ B.SE fun h' a b c=>hQ h' a b fun x d e=>by rw [(KG e).2];exact c,
  fun C x c e=>by rw [(KG e).2];exact aba _,fun C x z c e1 e2=>(KG e1).1.trans (KG e2).1.symm,fun C x h e=>(by rw [ahs,h] at e;cases e),fun z hz e=>by simpa using B.only z hz e,
  fun C x hx=>by rw [ahs,show (x==y)=false by simpa using fun z:x=y=>B.ny (by rw [<- z];exact hx)];rfl⟩
end
end Ty
namespace L2
open PySem PySem.Spec PyProof.Rows
section
variable {κ:Type}[DecidableEq κ]
def bR (kvs:List (κ×V))(k:κ):Option V:=(kvs.find? fun kv=>decide (kv.1=k)).map (·.2)
def putK (kvs:List (κ×V))(k:κ)(v:V):List (κ×V):=
 if (kvs.any fun kv=>decide (kv.1=k))=true then kvs.map (fun kv=>if kv.1=k then (kv.1,v) else kv) else kvs++[(k,v)]
def dY (kvs:List (κ×V))(k:κ):List (κ×V):=kvs.filter fun kv=>decide (kv.1≠k)
theorem bQ {p:κ×V}{r:List (κ×V)}{k:κ}(e:p.1=k):bR (p::r) k=some p.2:=by simp [bR,ahf,e]
theorem bF {p:κ×V}{r:List (κ×V)}{k:κ}(e:¬ p.1=k):bR (p::r) k=bR r k:=by simp [bR,ahf,e]
theorem gk (k:κ):∀kvs:List (κ×V),(kvs.any fun kv=>decide (kv.1=k))=(bR kvs k).isSome
 | []=>rfl
 | p::r=>by
  rw [ahh]
  by_cases e:p.1=k
  ·simp only [bQ e,decide_eq_true e,Bool.true_or,aiz]
  ·rw [bF e,decide_eq_false e,Bool.false_or];exact gk k r
theorem uR (k j:κ)(y:V):∀kvs:List (κ×V),bR (kvs.map fun kv=>if kv.1=k then (kv.1,y) else kv) j=(bR kvs j).map fun x=>if j=k then y else x
 | []=>rfl
 | p::r=>by
  have ih:=uR k j y r
  rw [aal]
  by_cases h:p.1=k
  ·rw [if_pos h]
   by_cases e:p.1=j
   ·rw [bQ (p:=(p.1,y)) e,bQ e,ab9,if_pos (e.symm.trans h)]
   ·rw [bF (p:=(p.1,y)) e,bF e,ih]
  ·rw [if_neg h]
   by_cases e:p.1=j
   ·rw [bQ (p:=p) e,bQ e,ab9,if_neg (fun z=>h (e.trans z))]
   ·rw [bF (p:=p) e,bF e,ih]
theorem qS (k j:κ)(y:V):∀kvs:List (κ×V),bR kvs k=none->bR (kvs++[(k,y)]) j=if j=k then some y else bR kvs j
 | [],_=>by
  by_cases e:k=j
  ·rw [if_pos e.symm];exact bQ (p:=(k,y)) e
  ·rw [if_neg (fun z=>e z.symm)];exact bF (p:=(k,y)) e
 | p::r,hn=>by
  rw [ahM]
  have hk:¬ p.1=k:=fun z=>by rw [bQ z] at hn;cases hn
  rw [bF hk] at hn
  have ih:=qS k j y r hn
  by_cases e:p.1=j
  ·rw [bQ e,bQ e,if_neg (fun z=>hk (e.trans z))]
  ·rw [bF e,bF e,ih]
theorem FW (kvs:List (κ×V))(k j:κ)(y:V):bR (putK kvs k y) j=if j=k then some y else bR kvs j:=by
 unfold putK
 by_cases a:(kvs.any fun kv=>decide (kv.1=k))=true
 ·rw [if_pos a,uR]
  rw [gk] at a
  by_cases e:j=k
  ·obtain ⟨x,hx⟩:=ahv.mp a
   rw [if_pos e,e,hx,ab9,if_pos rfl]
  ·rw [if_neg e]
   cases bR kvs j with
   | none=>rfl
   | some x=>rw [ab9,if_neg e]
 ·rw [if_neg a]
  refine qS k j y kvs ?_
  rw [gk] at a
  cases q:bR kvs k with
  | none=>rfl
  | some x=>rw [q] at a;exact (a rfl).elim
theorem ie (kvs:List (κ×V))(k:κ)(v:V):(putK kvs k v).length<=kvs.length+1:=by
 unfold putK
 split
 ·rw [aab];omega
 ·rw [aat,aa5,ain];omega
theorem dD {kvs:List (κ×V)}{k:κ}(v:V)(h:bR kvs k=none):putK kvs k v=kvs++[(k,v)]:=by
 unfold putK
 rw [gk,h]
 exact if_neg (by decide)
theorem gD.gm {o:ω}{u:Option Value}(r:gD o u):o.isSome=u.isSome:=by
 cases o with
 | none=>cases u with
  | none=>rfl
  | some _=>exact (show False from r).elim
 | some _=>cases u with
  | none=>exact (show False from r).elim
  | some _=>rfl
theorem gD.getD {o:ω}{u:Option Value}{d:V}{d' :Value}(r:gD o u)(rd:RelV d d'):RelV (o.getD d) (u.getD d'):=by
 cases o with
 | none=>cases u with
  | none=>exact rd
  | some _=>exact (show False from r).elim
 | some _=>cases u with
  | none=>exact (show False from r).elim
  | some _=>exact r
theorem KV.val {kvs:List (κ×V)}{vs:List (κ×Value)}(r:KV kvs vs)(k:κ):gD (bR kvs k) (valueAt vs k):=by
 unfold KV at r
 induction r with
 | nil=>exact True.intro
 | @cons p q ps qs h t ih=>
  obtain ⟨h1,h2⟩:=h
  by_cases e:p.1=k
  ·have e' :q.1=k:=h1.symm.trans e
   have b:valueAt (q::qs) k=some q.2:=by simp [valueAt,ahf,e']
   rw [bQ e,b];exact h2
  ·have e' :¬ q.1=k:=fun z=>e (h1.trans z)
   have b:valueAt (q::qs) k=valueAt qs k:=by simp [valueAt,ahf,e']
   rw [bF e,b];exact ih
theorem KV.any {kvs:List (κ×V)}{vs:List (κ×Value)}(r:KV kvs vs)(k:κ):(kvs.any fun kv=>decide (kv.1=k))=vs.any fun kv=>decide (kv.1=k):=by
 unfold KV at r
 induction r with
 | nil=>rfl
 | cons h t ih=>rw [ahh,ahh,ih,h.1]
theorem KV.O0 {kvs:List (κ×V)}{vs:List (κ×Value)}(r:KV kvs vs)(k:κ){y:V}{u:Value}(ry:RelV y u):
  KV (kvs.map fun kv=>if kv.1=k then (kv.1,y) else kv) (vs.map fun kv=>if kv.1=k then (kv.1,u) else kv):=by
 unfold KV at r ⊢
 induction r with
 | nil=>exact .nil
 | @cons p q ps qs h t ih=>
  rw [aal,aal]
  refine .cons ?_ ih
  obtain ⟨h1,h2⟩:=h
  by_cases e:p.1=k
  ·rw [if_pos e,if_pos (h1.symm.trans e)];exact ⟨h1,ry⟩
  ·rw [if_neg e,if_neg (fun z=>e (h1.trans z))];exact ⟨h1,h2⟩
theorem KV.put {kvs:List (κ×V)}{vs:List (κ×Value)}(r:KV kvs vs)(k:κ){y:V}{u:Value}(ry:RelV y u):KV (putK kvs k y) (stored vs k u):=by
 unfold putK stored
 rw [r.any k]
 by_cases e:(vs.any fun kv=>decide (kv.1=k))=true
 ·rw [if_pos e,if_pos e];exact r.O0 k ry
 ·rw [if_neg e,if_neg e];exact Paired.snoc r ⟨rfl,ry⟩
theorem KV.drop {kvs:List (κ×V)}{vs:List (κ×Value)}(r:KV kvs vs)(k:κ):KV (dY kvs k) (without vs k):=by
 unfold KV at r ⊢
 unfold dY without
 induction r with
 | nil=>exact .nil
 | @cons p q ps qs h t ih=>
  obtain ⟨h1,h2⟩:=h
  rw [abW,abW]
  by_cases e:p.1=k
  ·have a:¬ decide (p.1≠k)=true:=by simp [e]
   have b:¬ decide (q.1≠k)=true:=by simp [h1.symm.trans e]
   rw [if_neg a,if_neg b];exact ih
  ·have e' :¬ q.1=k:=fun z=>e (h1.trans z)
   have a:decide (p.1≠k)=true:=by simp [e]
   have b:decide (q.1≠k)=true:=by simp [e']
   rw [if_pos a,if_pos b];exact .cons ⟨h1,h2⟩ ih
theorem KV.length {kvs:List (κ×V)}{vs:List (κ×Value)}(r:KV kvs vs):kvs.length=vs.length:=Paired.length r
theorem FX (kvs:List (κ×V))(k:κ):(dY kvs k).length<=kvs.length:=abU _ _
end
theorem jz {P:Program}{w:World}{k:Key}{u:Value}(r:RelV (kV k) u):(bo P w).is k u=true:=by
 cases k with
 | inl i=>obtain ⟨t,e⟩:=(show ∃t,u=Value.int i t from r);subst e;exact ue P w i t
 | inr x=>obtain ⟨t,e⟩:=(show ∃t,u=Value.str x t from r);subst e;exact uf P w x t
theorem qT {P:Program}{w:World}:∀{ks:List Key} {us:ο},Vals (ks.map kV) us->ItemsAre (bo P w) ks us
 | [],_,r=>by rw [ab_] at r;cases r;exact .nil
 | k::ks,_,r=>by
  rw [aal] at r
  cases r with
  | cons h t=>exact .cons (jz h) (qT t)
abbrev KT (H:Hp):List (List Key×V)->List (List Key×Addr×Value)->Prop:=Paired fun p q=>p.1=q.1/\H q.2.1=some (.tup (p.1.map kV))/\RelV p.2 q.2.2
theorem KT.val {H:Hp}{kvs:Ν}{xs:Ρ}(r:KT H kvs xs)(k:List Key):gD (bR kvs k) ((atKey xs k).map (·.2)):=by
 induction r with
 | nil=>exact True.intro
 | @cons p q ps qs h t ih=>
  obtain ⟨h1,_,h2⟩:=h
  by_cases e:p.1=k
  ·have e' :q.1=k:=h1.symm.trans e
   have b:atKey (q::qs) k=some q.2:=by simp [atKey,ahf,e']
   rw [bQ e,b];exact h2
  ·have e' :¬ q.1=k:=fun z=>e (h1.trans z)
   have b:atKey (q::qs) k=atKey qs k:=by simp [atKey,ahf,e']
   rw [bF e,b];exact ih
theorem KT.O0 {H:Hp}{kvs:Ν}{xs:Ρ}(r:KT H kvs xs)(k:List Key){y:V}{u:Value}(ry:RelV y u):
  KT H (kvs.map fun kv=>if kv.1=k then (kv.1,y) else kv) (xs.map (putAt k u)):=by
 induction r with
 | nil=>exact .nil
 | @cons p q ps qs h t ih=>
  rw [aal,aal]
  refine .cons ?_ ih
  obtain ⟨h1,h2,h3⟩:=h
  unfold putAt
  by_cases e:p.1=k
  ·rw [if_pos e,if_pos (h1.symm.trans e)];exact ⟨h1,h2,ry⟩
  ·rw [if_neg e,if_neg (fun z=>e (h1.trans z))];exact ⟨h1,h2,h3⟩
theorem KT.put {H:Hp}{kvs:Ν}{xs:Ρ}(r:KT H kvs xs)(k:List Key){b:Addr}{y:V}{u:Value}(hb:H b=some (.tup (k.map kV)))(ry:RelV y u):
  KT H (putK kvs k y) (storedH xs k b u):=by
 have e:(kvs.any fun kv=>decide (kv.1=k))=(atKey xs k).isSome:=by
  rw [gk,(r.val k).gm,ah_]
 unfold putK storedH
 rw [e]
 by_cases q:(atKey xs k).isSome=true
 ·rw [if_pos q,if_pos q];exact r.O0 k ry
 ·rw [if_neg q,if_neg q];exact Paired.snoc r ⟨rfl,hb,ry⟩
theorem KT.keeps {H H' :Hp}{kvs:Ν}{xs:Ρ}(r:KT H kvs xs)(ht:∀b ys,H b=some (.tup ys)->H' b=some (.tup ys)):KT H' kvs xs:=
 Paired.bJ r fun _ _ z=>⟨z.1,ht _ _ z.2.1,z.2.2⟩
section
variable {P:Program}{w:World}{H:Hp}{h:Heap}{a:Addr}
theorem Nh {u:HO}(ok:iQ P w H h)(e:Rd H a u):cE P w H h a u:=e.ok ok
theorem iT {kvs:γ}(ok:iQ P w H h)(e:Rd H a (.dK kvs)):kvs.length<=sizeLine/\(a==sysModules)=false/\∃vs,KV kvs vs/\h.DictOf (bo P w) a vs:=
 show cE P w H h a (.dK kvs) from Nh ok e
theorem iU {kvs:γ}(ok:iQ P w H h)(e:H a=some (.dK kvs)):kvs.length<=sizeLine/\(a==sysModules)=false/\∃vs,KV kvs vs/\h.DictOf (bo P w) a vs:=iT ok (.inl e)
theorem kr {ks:List Key}(ok:iQ P w H h)(e:H a=some (.tup (ks.map kV))):(tupleKind (bo P w)).is h ks a:=by
 obtain ⟨_,its,r,o,h1,h2,n,h3⟩:=(show cE P w H h a (.tup (ks.map kV)) from ok a _ e)
 exact ⟨o,its.toArray,n,h1,h2,h3,by simpa using qT r⟩
theorem nY {kvs:Ν}(ok:iQ P w H h)(e:Rd H a (.dT kvs)):kvs.length<=sizeLine/\(a==sysModules)=false/\
  ∃xs,KT H kvs xs/\h.DictOfH (tupleKind (bo P w)) a xs:=by
 obtain ⟨z,y,xs,r,o,es,ep,h1,h2,h3,h4,h5⟩:=(show cE P w H h a (.dT kvs) from Nh ok e)
 refine ⟨z,y,xs,r,o,es,ep,h1,h2,h3,h4,fun x hx=>?_,h5⟩
 have all:∀{l:Ν} {m:Ρ},KT H l m->∀x∈m,(tupleKind (bo P w)).is h x.1 x.2.1:=by
  intro l m q
  induction q with
  | nil=>intro x hx;exact nomatch hx
  | @cons p q ps qs hq t ih=>
   intro x hx
   rcases aaN.mp hx with e | hx
   ·subst e
    exact kr ok (by rw [<- hq.1];exact hq.2.1)
   ·exact ih x hx
 exact all r x hx
theorem SF {kvs:Ν}(ok:iQ P w H h)(e:H a=some (.dT kvs)):kvs.length<=sizeLine/\(a==sysModules)=false/\
  ∃xs,KT H kvs xs/\h.DictOfH (tupleKind (bo P w)) a xs:=nY ok (.inl e)
end
def cL (H:Hp)(a:Addr)(y:V)(r:ω):Prop:=
 (∃kvs k,Rd H a (.dK kvs)/\y=kV k/\r=bR kvs k)\/∃kvs k b,Rd H a (.dT kvs)/\y=.ref b/\H b=some (.tup (k.map kV))/\r=bR kvs k
def ku (H:Hp)(a:Addr)(y v:V)(H' :Hp):Prop:=
 (∃kvs k,H a=some (.dK kvs)/\y=kV k/\kvs.length < sizeLine/\H' =upd H a (.dK (putK kvs k v)))\/
 ∃kvs k b,H a=some (.dT kvs)/\y=.ref b/\H b=some (.tup (k.map kV))/\kvs.length < sizeLine/\H' =upd H a (.dT (putK kvs k v))
theorem cL.k {H:Hp}{a:Addr}{kvs:γ}{k:Key}(e:H a=some (.dK kvs)):cL H a (kV k) (bR kvs k):=.inl ⟨kvs,k,.inl e,rfl,rfl⟩
theorem ku.k {H:Hp}{a:Addr}{kvs:γ}{k:Key}{v:V}(e:H a=some (.dK kvs))(hl:kvs.length < sizeLine):ku H a (kV k) v (upd H a (.dK (putK kvs k v))):=.inl ⟨kvs,k,e,rfl,hl,rfl⟩
section
variable {X:Cx}{pins:ε}{σ:St}{H:Hp}{s:Shared}{a:Addr}{y v:V}{u r:Value}{o:ω}{A:Around}{E:δ}
theorem Inv.big (I:Inv X pins σ H s):sysModules < s.heap.objs.size:=by
 have h:mainGlobals < s.heap.objs.size:=(I.mod.glob.keeps I.bk).lt
 exact aii (by decide) h
theorem zZ {Q:δ}(hu:A.units+1 < cLine)(I:Inv X pins σ H s)(g:cL H a y (some v))(ry:RelV y u)(h:∀w' s',Inv X pins σ H s' ->RelV v w' ->Q w' s'):
  wpAny (model X.prog X.w) A (getItem (.ref a) u) Q E s:=by
 rcases g with ⟨kvs,k,e,ey,l⟩ | ⟨kvs,k,b,e,ey,eb,l⟩
 ·subst ey
  obtain ⟨z,hd,vs,rel,dd⟩:=iT I.bK e
  obtain ⟨w',hw,mK⟩:=gD.some_of (v:=v) (o:=valueAt vs k) (by rw [l];exact rel.val k)
  exact wpAny_getItem_of (jz ry) dd.mapOf hw (h w' _ (I.tok _) mK)
 ·subst ey
  cases (show u=Value.ref b from ry)
  obtain ⟨z,hd,xs,rel,dd⟩:=nY I.bK e
  obtain ⟨w',hw,mK⟩:=gD.some_of (v:=v) (o:=(atKey xs k).map (·.2)) (by rw [l];exact rel.val k)
  obtain ⟨p,hp,SG⟩:=aar.mp hw
  refine wpAny_getItem_heap (tupleKind_room_in1 hu) (kr I.bK eb) dd hp ?_
  rw [SG]
  exact h w' _ (I.tok _) mK
theorem Z5 {Q:δ}(hu:A.units+1 < cLine)(I:Inv X pins σ H s)(g:cL H a y o)(ry:RelV y u)(h:∀s',Inv X pins σ H s' ->Q (.bool o.isSome) s'):
  wpAny (model X.prog X.w) A (compareOp .In u (.ref a)) Q E s:=by
 rcases g with ⟨kvs,k,e,ey,l⟩ | ⟨kvs,k,b,e,ey,eb,l⟩
 ·subst ey
  obtain ⟨z,hd,vs,rel,dd⟩:=iT I.bK e
  refine wpAny_in_of (jz ry) hd dd.mapOf ?_
  rw [<- (rel.val k).gm, <- l]
  exact h _ (I.tok _)
 ·subst ey
  cases (show u=Value.ref b from ry)
  obtain ⟨z,hd,xs,rel,dd⟩:=nY I.bK e
  refine wpAny_in_heap (tupleKind_room_in1 hu) (kr I.bK eb) hd dd ?_
  have q:=(rel.val k).gm
  rw [ah_] at q
  rw [<- q, <- l]
  exact h _ (I.tok _)
theorem KH {Q:δ}(hu:A.units+1 < cLine)(I:Inv X pins σ H s)(g:cL H a y o)(ry:RelV y u)(h:∀s',Inv X pins σ H s' ->Q (.bool (!o.isSome)) s'):
  wpAny (model X.prog X.w) A (compareOp .NotIn u (.ref a)) Q E s:=by
 rcases g with ⟨kvs,k,e,ey,l⟩ | ⟨kvs,k,b,e,ey,eb,l⟩
 ·subst ey
  obtain ⟨z,hd,vs,rel,dd⟩:=iT I.bK e
  refine wpAny_notIn_of (jz ry) hd dd.mapOf ?_
  rw [<- (rel.val k).gm, <- l]
  exact h _ (I.tok _)
 ·subst ey
  cases (show u=Value.ref b from ry)
  obtain ⟨z,hd,xs,rel,dd⟩:=nY I.bK e
  refine wpAny_notIn_heap (tupleKind_room_in1 hu) (kr I.bK eb) hd dd ?_
  have q:=(rel.val k).gm
  rw [ah_] at q
  rw [<- q, <- l]
  exact h _ (I.tok _)
theorem iA {h' :Heap}{t' :Nat}{ob:HO}(I:Inv X pins σ H s)(mu:RD (H a))(hs:Heap.SameBut a s.heap h')(he:∃q,h'.get? a=some q)(new:cE X.prog X.w (upd H a ob) h' a ob):
  Inv X pins σ (upd H a ob) {s with heap:=h',toks:=t' }:=
 I.write (x:=a) (e:=a) mu (.inl rfl) (fun b q hb z=>(hs.2 b hb).trans z) he new
theorem nZ {P:Program}{w:World}{H' :Hp}{h' :Heap}{kvs:γ}{vs:List (Key×Value)}(z:kvs.length<=sizeLine)(hd:(a==sysModules)=false)(rel:KV kvs vs)(dd:h'.DictOf (bo P w) a vs):
  cE P w H' h' a (.dK kvs):=⟨z,hd,vs,rel,dd⟩
theorem z5 {H' :Hp}{Q:Unit->Shared->Prop}(hu:A.units+1 < cLine)(I:Inv X pins σ H s)(g:ku H a y v H')(ry:RelV y u)(rv:RelV v r)(h:∀s',Inv X pins σ H' s' ->Q () s'):
  wpAny (model X.prog X.w) A (setItem (.ref a) u r) Q E s:=by
 rcases g with ⟨kvs,k,e,ey,l,eH⟩ | ⟨kvs,k,b,e,ey,eb,l,eH⟩
 ·subst ey eH
  obtain ⟨z,hd,vs,rel,dd⟩:=iU I.bK e
  have hz:vs.length<=sizeLine:=by rw [<- rel.length];exact z
  have hl:(putK kvs k v).length<=sizeLine:=by have:=ie kvs k v;omega
  refine wpAny_setItem_pairs (hsz:=hz) (jz ry) dd fun h' z6 hs=>h _ ?_
  have he:∃q,h'.get? a=some q:=let ⟨q,_,_,hq,_⟩:=z6;⟨q,hq⟩
  exact iA I (by rw [e];exact True.intro) hs he (nZ hl hd (rel.put k rv) z6)
 ·subst ey eH
  cases (show u=Value.ref b from ry)
  obtain ⟨z,hd,xs,rel,dd⟩:=SF I.bK e
  have hz:xs.length<=sizeLine:=by rw [<- Paired.length rel];exact z
  have hl:(putK kvs k v).length<=sizeLine:=by have:=ie kvs k v;omega
  refine wpAny_setItem_heap (hsz:=hz) (tupleKind_room_in1 hu) (kr I.bK eb) dd fun h' z6 hs=>h _ ?_
  obtain ⟨q,es,ep,hq,h2,h3,h4,_,h5⟩:=z6
  refine iA I (by rw [e];exact True.intro) hs ⟨q,hq⟩ ⟨hl,hd,_,(rel.put k eb rv).keeps fun c ys ec=>?_,q,es,ep,hq,h2,h3,h4,h5⟩
  rw [ao (RC ec e (fun z=>nomatch z))]
  exact ec
end
section
variable {X:Cx}{pins:ε}{σ:St}{H:Hp}{s:Shared}{a:Addr}{kvs:γ}{k:Key}{u:Value}{A:Around}{E:δ}
theorem SH {v:V}{more:ο}{Q:δ}(I:Inv X pins σ H s)(e:H a=some (.dK kvs))(ry:RelV (kV k) u)(l:bR kvs k=some v)(hm:more=[]\/∃x,more=[x])
  (h:∀w' s',Inv X pins σ (upd H a (.dK (dY kvs k))) s' ->RelV v w' ->Q w' s'):wpAny (model X.prog X.w) A (call (.builtin "dict.pop") (.ref a::u::more)) Q E s:=by
 obtain ⟨z,hd,vs,rel,dd⟩:=iU I.bK e
 obtain ⟨w',hw,mK⟩:=gD.some_of (v:=v) (o:=valueAt vs k) (by rw [<- l];exact rel.val k)
 have hp:(keyPart u).isSome=true:=by
  cases k with
  | inl i=>obtain ⟨t,q⟩:=(show ∃t,u=Value.int i t from ry);subst q;rfl
  | inr x=>obtain ⟨t,q⟩:=(show ∃t,u=Value.str x t from ry);subst q;rfl
 have ha:argsOk "dict.pop" ⟨.ref a::u::more,[]⟩:=by
  rcases hm with q | ⟨x,q⟩
  ·subst q;exact PySem.F.args_dict_pop_2 _ _
  ·subst q;exact PySem.F.args_dict_pop_3 _ _ _
 refine call_meetsIn PySem.F.slot_dict_pop dd.typeIs PySem.F.entry_dict_pop ha (meets_dict_pop_there (bo X.prog X.w) a (jz ry) more hm hp)
  ⟨vs,w',dd,by rw [<- rel.length];exact z,hw,fun h' z6 hs=>h w' _ ?_ mK⟩
 have he:∃q,h'.get? a=some q:=let ⟨q,_,_,hq,_⟩:=z6;⟨q,hq⟩
 exact iA I (by rw [e];exact True.intro) hs he (nZ (aai (FX kvs k) z) hd (rel.drop k) z6)
theorem KI {Q:δ}(I:Inv X pins σ H s)(e:H a=some (.dK kvs))(h:∀s',Inv X pins σ (upd H a (.dK [])) s' ->Q .none s'):wpAny (model X.prog X.w) A (call (.builtin "dict.clear") [.ref a]) Q E s:=by
 obtain ⟨z,hd,vs,rel,dd⟩:=iU I.bK e
 refine call_meetsIn PySem.F.slot_dict_clear dd.typeIs PySem.F.entry_dict_clear (PySem.F.args_dict_clear_1 _) (meets_dict_clear (bo X.prog X.w) a) ⟨vs,dd,by rw [<- rel.length];exact z,fun h' z6 hs=>h _ ?_⟩
 have he:∃q,h'.get? a=some q:=let ⟨q,_,_,hq,_⟩:=z6;⟨q,hq⟩
 exact iA (t' :=s.toks) I (by rw [e];exact True.intro) hs he (nZ (aa6 _) hd .nil z6)
theorem SI {Q:δ}(I:Inv X pins σ H s)(e:Rd H a (.dK kvs))(h:∀t s',Inv X pins σ H s' ->Q (.int kvs.length t) s'):wpAny (model X.prog X.w) A (call (.builtin "len") [.ref a]) Q E s:=by
 obtain ⟨z,hd,vs,rel,dd⟩:=iT I.bK e
 refine call_len_dict hd dd (by rw [<- rel.length];rw [sizeLine_eq] at z;omega) ?_
 rw [<- rel.length]
 exact h _ _ (I.tok _)
end
def SJ (i:Expr):Prop:=∀ov iv,subscripted i false ov iv=operate [ov,iv] (getItem ov iv)
theorem KJ {prog:Program}{w:World}{A:Around}{E:δ}{s:Shared}{env:Env}{value slice:Expr}{pos:Pos}{T id:String}{Q:δ}
  (hl:typeLookup (.type T) "__getitem__"=pure (some (.builtin id))) (hs:SJ slice)
  (h:wpAny (model prog w) A (eval value env) (fun o s₁=>wpAny (model prog w) A (eval slice env) (fun i s₂=>s₂.TypeIs o T/\wpAny (model prog w) A (getItem o i) Q E s₂) E s₁) E s):
  wpAny (model prog w) A (eval (.Subscript value slice pos) env) Q E s:=by
 refine Subscript_ (wpAny_mono h (fun o s₁ h₁=>wpAny_mono h₁ (fun i s₂ h₂=>?_) fun _ _ x=>x) fun _ _ x=>x)
 obtain ⟨hT,h₂⟩:=h₂
 unfold subscriptTail
 refine wpAny_bind ?_
 rw [getitemInPython_of_ne hT.not_modules]
 refine wpAny_bind (wpAny_specialOf hT hl ?_)
 have fin:wpAny (model prog w) A (subscripted slice false o i) (fun r s₃=>wpAny (model prog w) A (letTemporaryGo value o r >>=fun _=>pure r) Q E s₃) E s₂:=by
  rw [hs o i]
  exact wpAny_operating (wpAny_mono h₂ (fun r s₃ h₃=>wpAny_bind (wpAny_letTemporaryGo (wpAny_pure h₃))) fun _ _ x=>x)
 first
  | exact wpAny_pure (wpAny_bind fin)
  | exact wpAny_bind (wpAny_pure (wpAny_bind fin))
  | exact wpAny_bind fin
theorem uS {X:Cx}{pins:ε}{σ:St}{H:Hp}{s:Shared}{a:Addr}{y:V}{o:ω}(I:Inv X pins σ H s)(g:cL H a y o):s.TypeIs (.ref a) "dict":=by
 rcases g with ⟨kvs,k,e,_,_⟩ | ⟨kvs,k,b,e,_,_,_⟩
 ·obtain ⟨_,_,vs,_,dd⟩:=iT I.bK e
  exact dd.typeIs
 ·obtain ⟨_,_,xs,_,dd⟩:=nY I.bK e
  exact dd.typeIs
inductive FY (Q:VK)(x:V)(y:V)(H2:Hp):Prop where
 | mk (a v:_) (_:x=.ref a) (_:cL H2 a y (some v)) (_:Q v H2):FY Q x y H2
def SK (td ty:TE):TE:=fun σ H Q=>td σ H fun x H1=>ty σ H1 fun y H2=>FY Q x y H2
inductive Ni (Q:VK)(y:V)(x:V)(H2:Hp):Prop where
 | mk (a o:_) (_:x=.ref a) (_:cL H2 a y o) (_:Q (.bl o.isSome) H2):Ni Q y x H2
def Z6 (ty td:TE):TE:=fun σ H Q=>ty σ H fun y H1=>td σ H1 fun x H2=>Ni Q y x H2
inductive uT (Q:VK)(y:V)(x:V)(H2:Hp):Prop where
 | mk (a o:_) (_:x=.ref a) (_:cL H2 a y o) (_:Q (.bl (!o.isSome)) H2):uT Q y x H2
def KN (ty td:TE):TE:=fun σ H Q=>ty σ H fun y H1=>td σ H1 fun x H2=>uT Q y x H2
inductive FZ (D:Ends)(σ:L2.St)(v:V)(x:V)(y:V)(H3:Hp):Prop where
 | mk (a H4:_) (_:x=.ref a) (_:ku H3 a y v H4) (_:D.nx σ H4):FZ D σ v x y H3
def SM (td ty tv:TE):TS:=fun D σ H=>tv σ H fun v H1=>td σ H1 fun x H2=>ty σ H2 fun y H3=>FZ D σ v x y H3
section
variable {X:Cx}{o i e value:Expr}{pos pos' rN:Pos}{td ty tv:TE}
theorem cA (hu:X.A.units+1 < cLine)(ho:PE X o td)(hi:PE X i ty)(hs:SJ i):PE X (.Subscript o i pos) (SK td ty):=by
 intro pins s σ H Q I h
 refine KJ PySem.F.slot_dict_getitem.lookup hs (bZ (ho pins s σ H _ I h) fun u s1 ⟨x,H1,I1,rx,q1⟩=>bZ (hi pins s1 σ H1 _ I1 q1) fun iv s2 ⟨y,H2,I2,ry,a,v,ex,g,q2⟩=>?_)
 subst ex
 obtain rfl:u=Value.ref a:=rx
 exact ⟨uS I2 g,zZ hu I2 g ry fun w' s3 I3 mK =>⟨v,H2,I3,mK,q2⟩⟩
theorem wW (hu:X.A.units+1 < cLine)(hi:PE X i ty)(ho:PE X o td):PC X .In i o (Z6 ty td):=by
 intro pins s σ H Q I h
 refine bZ (hi pins s σ H _ I h) fun iv s1 ⟨y,H1,I1,ry,q1⟩=>bZ (ho pins s1 σ H1 _ I1 q1) fun u s2 ⟨x,H2,I2,rx,a,ov,ex,g,q2⟩=>?_
 subst ex
 obtain rfl:u=Value.ref a:=rx
 exact Z5 hu I2 g ry fun s3 I3=>⟨.bl ov.isSome,H2,I3,rfl,q2⟩
theorem iB (hu:X.A.units+1 < cLine)(hi:PE X i ty)(ho:PE X o td):PC X .NotIn i o (KN ty td):=by
 intro pins s σ H Q I h
 refine bZ (hi pins s σ H _ I h) fun iv s1 ⟨y,H1,I1,ry,q1⟩=>bZ (ho pins s1 σ H1 _ I1 q1) fun u s2 ⟨x,H2,I2,rx,a,ov,ex,g,q2⟩=>?_
 subst ex
 obtain rfl:u=Value.ref a:=rx
 exact KH hu I2 g ry fun s3 I3=>⟨.bl (!ov.isSome),H2,I3,rfl,q2⟩
theorem fL (hu:X.A.units+1 < cLine)(ho:PE X o td)(hi:PE X i ty)(hv:PE X value tv)(hs:swapsWith value (some (.Subscript o i pos')) pos.line X.env=pure false):
  PS X (.Assign [.Subscript o i pos'] value pos) (SM td ty tv):=by
 intro pins s σ H D I h
 refine wpAny_Assign_Subscript (bZ (hv pins s σ H _ I h) fun r s1 ⟨v,H1,I1,rv,q1⟩=>bZ (ho pins s1 σ H1 _ I1 q1) fun u s2 ⟨x,H2,I2,rx,q2⟩=>bZ (hi pins s2 σ H2 _ I2 q2) fun iv s3 ⟨y,H3,I3,ry,a,H4,ex,g,q3⟩=>?_) hs
 subst ex
 obtain rfl:u=Value.ref a:=rx
 exact z5 hu I3 g ry rv fun s4 I4=>⟨σ,H4,I4,q3⟩
end
theorem uU {P:Program}{w:World}{H:Hp}(h:Heap)(hb:sysModules < h.objs.size):cE P w H (h.push {cls:=.type "dict",data:=.dict #[]}) h.objs.size (.dK []):=
 ⟨aa6 _,beq_eq_false_iff_ne.mpr (aaW (aa1 hb)),[],.nil,Heap.DictOf.new h⟩
def O1:TE:=fun _ H Q=>∀p,H p=none->Q (.ref p) (upd H p (.dK []))
section
variable {X:Cx}{pos:Pos}
theorem eR:PE X (.Dict [] [] pos) O1:=fun pins s σ H Q I h=>
 wpAny_Dict_empty ⟨.ref s.heap.objs.size,_,I.laid (a:=s.heap.objs.size) (o:=.dK []) (t' :=s.toks) (fun _ _ q=>Heap.get?_push_of_some _ q) (aaf _) (uU s.heap I.big),rfl,h _ (I.bK.fresh (aaf _))⟩
end
def wX:List (TE×TE)->St->Hp->(List (V×V)->Hp->Prop)->Prop
 | [],_,H,Q=>Q [] H
 | (tk,tv)::r,σ,H,Q=>tk σ H fun x H1=>tv σ H1 fun y H2=>wX r σ H2 fun ps H3=>Q ((x,y)::ps) H3
abbrev VV:List (V×V)->List (Value×Value)->Prop:=Paired fun p q=>RelV p.1 q.1/\RelV p.2 q.2
def Yv (X:Cx)(pos:Pos)(keys:List (Option Expr))(values:ψ)(KP:List (TE×TE)):Prop:=
 ∀(pins:ε) (s:Shared) (σ:St) (H:Hp) (Q:List (V×V)->Hp->Prop),Inv X pins σ H s->wX KP σ H Q->
  wpAny (model X.prog X.w) X.A (evalPairs (pairTrees keys values X.env pos)) (fun vs s' =>∃ps H',Inv X pins σ H' s' /\VV ps vs/\Q ps H') X.xe s
theorem yz {X:Cx}{pos:Pos}:Yv X pos [] [] []:=fun pins s σ H Q I h=>pairTrees_nil_walk ⟨[],H,I,.nil,h⟩
theorem n_ {X:Cx}{pos:Pos}{k v:Expr}{ks:List (Option Expr)}{vs:ψ}{tk tv:TE}{KP:List (TE×TE)}(hk:PE X k tk)(hv:PE X v tv)(hr:Yv X pos ks vs KP):
  Yv X pos (some k::ks) (v::vs) ((tk,tv)::KP):=fun pins s σ H Q I h=>
 pairTrees_cons_walk (bZ (hk pins s σ H _ I h) fun u s1 ⟨x,H1,I1,rx,q1⟩=>bZ (hv pins s1 σ H1 _ I1 q1) fun w2 s2 ⟨y,H2,I2,ry,q2⟩=>
  bZ (hr pins s2 σ H2 _ I2 q2) fun ws s3 ⟨ps,H3,I3,rel,q3⟩=>⟨(x,y)::ps,H3,I3,.cons ⟨rx,ry⟩ rel,q3⟩)
def cf (kvs more:γ):List (Key×V):=more.foldl (fun acc kv=>putK acc kv.1 kv.2) kvs
theorem KV.merge:∀{more:γ} {rs:List (Key×Value)} {kvs:γ} {vs:List (Key×Value)},KV more rs->KV kvs vs->KV (cf kvs more) (merged vs rs):=by
 intro more rs kvs vs r
 unfold KV at r
 induction r generalizing kvs vs with
 | nil=>intro q;exact q
 | @cons p q ps qs h t ih=>
  intro r0
  have e:KV (putK kvs p.1 p.2) (stored vs q.1 q.2):=by
   have:=r0.put p.1 h.2
   rw [<- h.1];exact this
  exact ih e
theorem fU:∀(more kvs:γ),(cf kvs more).length<=kvs.length+more.length
 | [],kvs=>by show kvs.length<=kvs.length+0;omega
 | p::r,kvs=>by
  have h1:=fU r (putK kvs p.1 p.2)
  have h2:=ie kvs p.1 p.2
  show (cf (putK kvs p.1 p.2) r).length<=_
  rw [aa5];omega
theorem og {P:Program}{w:World}:∀{kvs:γ} {ws:List (Value×Value)},VV (kvs.map fun kv=>(kV kv.1,kv.2)) ws->∃rs,Carries (bo P w) ws rs/\KV kvs rs
 | [],_,r=>by rw [ab_] at r;cases r;exact ⟨[],True.intro,.nil⟩
 | p::kvs,_,r=>by
  rw [aal] at r
  cases r with
  | @cons a b as bs h t=>
   obtain ⟨rs,c,q⟩:=og (P:=P) (w:=w) t
   obtain ⟨b1,b2⟩:=b
   exact ⟨(p.1,b2)::rs,⟨jz h.1,rfl,c⟩,.cons ⟨rfl,h.2⟩ q⟩
def SN (KP:List (TE×TE)):TE:=fun σ H Q=>∀p,H p=none->wX KP σ (upd H p (.dK [])) fun ps H2=>H2 p=some (.dK [])/\∃kvs:List (Key×V),ps=kvs.map (fun kv=>(kV kv.1,kv.2))/\kvs.length<=15/\Q (.ref p) (upd H2 p (.dK (cf [] kvs)))
theorem yA {X:Cx}{pos:Pos}{keys:List (Option Expr)}{values:ψ}{KP:List (TE×TE)}(h:Yv X pos keys values KP)(FA:keys.all (·.isSome)=true)(hl:keys.length=values.length)(h0:keys≠[])
  (SO:keys.length<=15):PE X (.Dict keys values pos) (SN KP):=by
 intro pins s σ H Q I q
 have hn:=I.bK.fresh (aaf s.heap.objs.size)
 have I1:=I.laid (a:=s.heap.objs.size) (o:=.dK []) (h' :=s.heap.push {cls:=.type "dict",data:=.dict #[]}) (t' :=s.toks) (fun _ _ q=>Heap.get?_push_of_some _ q) (aaf _) (uU s.heap I.big)
 refine wpAny_Dict_walk (knd:=bo X.prog X.w) FA hl h0 SO (bZ (h pins _ σ _ _ I1 (q _ hn)) fun ws s2 ⟨ps,H2,I2,rel,e,kvs,ep,lk,q2⟩=>?_)
 subst ep
 obtain ⟨rs,c,rk⟩:=og (P:=X.prog) (w:=X.w) rel
 obtain ⟨z,hd,SQ,r0,dd⟩:=iU I2.bK e
 cases r0
 refine ⟨rs,c,dd,fun h' z6 hs=>⟨.ref s.heap.objs.size,_,?_,rfl,q2⟩⟩
 have hz:(cf [] kvs).length<=sizeLine:=by
  have h1:=fU kvs []
  rw [ain] at h1
  rw [sizeLine_eq];omega
 have he:∃q,h'.get? s.heap.objs.size=some q:=let ⟨q,_,_,hq,_⟩:=z6;⟨q,hq⟩
 exact iA I2 (by rw [e];exact True.intro) hs he (nZ hz hd (rk.merge .nil) z6)
structure M1 (X:Cx)(o:Expr)(m:Str)(apos:Pos)(e:Expr)(cw:Pos):Prop where
 base:attributeBase o m X.env (eval o X.env)=eval o X.env
 Z7:((backTo cw (starEach [e] X.env)).all (fun x=> !x.1) && (backToKw cw (keywordEach [] X.env)).all (fun x=>x.1.isSome)
  && decide (([e]:List Expr).length+([]:List Keyword).length+(if ([]:List Keyword).isEmpty then 0 else 1) < 30))=true
 line:(apos.endLine==cw.line)=true
 trees:backTo cw (starEach [e] X.env)=[(false,eval e X.env)]
structure M2 (X:Cx)(o:Expr)(m:Str)(apos:Pos)(e f:Expr)(cw:Pos):Prop where
 base:attributeBase o m X.env (eval o X.env)=eval o X.env
 Z7:((backTo cw (starEach [e,f] X.env)).all (fun x=> !x.1) && (backToKw cw (keywordEach [] X.env)).all (fun x=>x.1.isSome)
  && decide (([e,f]:List Expr).length+([]:List Keyword).length+(if ([]:List Keyword).isEmpty then 0 else 1) < 30))=true
 line:(apos.endLine==cw.line)=true
 trees:backTo cw (starEach [e,f] X.env)=[(false,eval e X.env),(false,eval f X.env)]
def Z8 (H:Hp)(a:Addr):Prop:=(∃kvs,Rd H a (.dK kvs))\/∃kvs,Rd H a (.dT kvs)
theorem oh {X:Cx}{pins:ε}{σ:St}{H:Hp}{s:Shared}{a:Addr}(I:Inv X pins σ H s)(d:Z8 H a):
  s.TypeIs (.ref a) "dict"/\(∀b,Value.ref a=.ref b->∃ob,s.heap.get? b=some ob/\ob.dict=none)/\(a==sysModules)=false:=by
 rcases d with ⟨kvs,e⟩ | ⟨kvs,e⟩
 ·obtain ⟨_,hd,vs,_,dd⟩:=iT I.bK e
  refine ⟨dd.typeIs,fun b q=>?_,hd⟩
  cases q
  obtain ⟨ob,_,_,h1,h2,_⟩:=dd
  exact ⟨ob,h1,h2.2.1⟩
 ·obtain ⟨_,hd,xs,_,dd⟩:=nY I.bK e
  refine ⟨dd.typeIs,fun b q=>?_,hd⟩
  cases q
  obtain ⟨ob,_,_,h1,h2,_⟩:=dd
  exact ⟨ob,h1,h2.2.1⟩
section
variable {X:Cx}{pins:ε}{σ:St}{H:Hp}{s:Shared}{a:Addr}{y d:V}{u r:Value}{o:ω}{A:Around}{E:δ}
theorem O3 {Q:δ}(hu:A.units+1 < cLine)(I:Inv X pins σ H s)(g:cL H a y o)(ry:RelV y u)(rd:RelV d r)(h:∀w' s',Inv X pins σ H s' ->RelV (o.getD d) w' ->Q w' s'):
  wpAny (model X.prog X.w) A (call (.builtin "dict.get") [.ref a,u,r]) Q E s:=by
 rcases g with ⟨kvs,k,e,ey,l⟩ | ⟨kvs,k,b,e,ey,eb,l⟩
 ·subst ey
  obtain ⟨z,hd,vs,rel,dd⟩:=iT I.bK e
  refine call_meetsIn PySem.F.slot_dict_get dd.typeIs PySem.F.entry_dict_get (PySem.F.args_dict_get_3 _ _ _) (meets_dict_get_default (bo X.prog X.w) a (jz ry) hd r) ⟨_,dd.mapOf,h _ _ (I.tok _) ?_⟩
  rw [l]
  exact (rel.val k).getD rd
 ·subst ey
  cases (show u=Value.ref b from ry)
  obtain ⟨z,hd,xs,rel,dd⟩:=nY I.bK e
  refine call_meetsIn PySem.F.slot_dict_get dd.typeIs PySem.F.entry_dict_get (PySem.F.args_dict_get_3 _ _ _) (meetsH_dict_get_default (tupleKind (bo X.prog X.w)) a b hd r) ⟨tupleKind_room_in1 hu,k,xs,kr I.bK eb,dd,h _ _ (I.tok _) ?_⟩
  rw [l]
  exact (rel.val k).getD rd
end
def O4 (td ty tx:TE):TE:=fun σ H Q=>td σ H fun x H1=>∃a,x=.ref a/\Z8 H1 a/\ty σ H1 fun y H2=>tx σ H2 fun z H3=>∃o,cL H3 a y o/\Q (o.getD z) H3
def O5 (td ty:TE):TE:=fun σ H Q=>td σ H fun x H1=>∃a,x=.ref a/\Z8 H1 a/\ty σ H1 fun y H2=>∃kvs k v,H2 a=some (.dK kvs)/\y=kV k/\bR kvs k=some v/\Q v (upd H2 a (.dK (dY kvs k)))
section
variable {X:Cx}{o e f:Expr}{apos cw:Pos}{td ty tx:TE}
theorem uV (hu:X.A.units+1 < cLine)(ho:PE X o td)(he:PE X e ty)(hf:PE X f tx)(m:M2 X o "get" apos e f cw):PE X (.Call (.Attribute o "get" apos) [e,f] [] cw) (O4 td ty tx):=by
 intro pins s σ H Q I h
 refine wpAny_Call_method m.base m.Z7 m.line PySem.F.plainAttrs_dict PySem.F.slot_dict_get PySem.F.type_dict_get (bZ (ho pins s σ H _ I h) fun u s1 ⟨x,H1,I1,rx,a,ex,d,q1⟩=>?_)
 subst ex
 obtain rfl:u=Value.ref a:=rx
 obtain ⟨t1,t2,_⟩:=oh I1 d
 refine ⟨t1,t2,?_⟩
 rw [m.trees]
 refine Calls.callWith_builtin rfl (Calls.evalArgs_plain (Calls.spliced_cons (bZ (he pins s1 σ H1 _ I1 q1) fun iv s2 ⟨y,H2,I2,ry,q2⟩=>
  Calls.spliced_cons (bZ (hf pins s2 σ H2 _ I2 q2) fun fv s3 ⟨z,H3,I3,rz,ov,g,q3⟩=>Calls.spliced_nil ?_))))
 exact O3 hu I3 g ry rz fun w' s4 I4 mK =>⟨_,H3,I4,mK,q3⟩
theorem oi (ho:PE X o td)(he:PE X e ty)(m:M1 X o "pop" apos e cw):PE X (.Call (.Attribute o "pop" apos) [e] [] cw) (O5 td ty):=by
 intro pins s σ H Q I h
 refine wpAny_Call_method m.base m.Z7 m.line PySem.F.plainAttrs_dict PySem.F.slot_dict_pop PySem.F.type_dict_pop (bZ (ho pins s σ H _ I h) fun u s1 ⟨x,H1,I1,rx,a,ex,d,q1⟩=>?_)
 subst ex
 obtain rfl:u=Value.ref a:=rx
 obtain ⟨t1,t2,_⟩:=oh I1 d
 refine ⟨t1,t2,?_⟩
 rw [m.trees]
 refine Calls.callWith_builtin rfl (Calls.evalArgs_plain (Calls.spliced_cons (bZ (he pins s1 σ H1 _ I1 q1) fun iv s2 ⟨y,H2,I2,ry,kvs,k,v,ea,ey,l,q2⟩=>Calls.spliced_nil ?_)))
 subst ey
 exact SH I2 ea ry l (.inl rfl) fun w' s3 I3 mK =>⟨v,_,I3,mK,q2⟩
end
section
variable {X:Cx}{pins:ε}{σ:St}{H:Hp}{s:Shared}{a:Addr}{kvs:γ}{A:Around}{E:δ}
end
section
variable {X:Cx}{pins:ε}{σ:St}{H:Hp}{s:Shared}{a:Addr}{y:V}{u:Value}{A:Around}{E:δ}
end
end L2
set_option maxHeartbeats 4000000
namespace Ty
open PySem PySem.Spec PyProof.Rows L2
section
variable {X:Cx}
theorem KQ {pins:ε}{σ:L2.St}{H:Hp}{s:Shared}(I:Inv X pins σ H s):s.heap.NoSeer:=I.ok.mod.seer.keeps I.bk
theorem cD.py {k:Nat}{A:Around}(r:cD k A)(h:32<=k):A.depth+Builtin.pylongFrames < recursionLimit:=by
 have:=r.dp
 have:Builtin.pylongFrames=100:=rfl
 omega
theorem fu {env:Env}{l:List Env}(ht:X.prog.given.tree=none)(hd:X.A.depth+Builtin.pylongFrames < recursionLimit)(Kh:X.stack=env::l)(h1:env.scope.isGenerator=false)(h2:env.scope.isCoroutine=false)(h3:env.builtins=builtinsNs)(h4:env.globals=mainGlobals):
  iR X (binaryOp .FloorDiv) (rI OO fun i j=>.int (i.fdiv j)):=by
 intro pins s σ H x y v u Q I rx ry h
 obtain ⟨i,j,rfl,rfl,hc,q⟩:=h
 obtain ⟨t,rfl⟩:=rx
 obtain ⟨t',rfl⟩:=ry
 exact floordiv_int hc ⟨.int _,H,I.tok _,⟨_,rfl⟩,q⟩ (.inr (PylongRoom.of I.nolimit hd (SeerAt.of (KQ I) ht (by rw [I.ok.frames,Kh]) h1 h2 h3 h4)))
end
section
variable {prog:Program}{w:World}{A:Around}{E:δ}{s:Shared}{KK:Type}[DecidableEq KK]{knd:KeyKind prog w KK}
theorem z7 {d:Addr}{kvs:List (KK×Value)}{Q:Bool->Shared->Prop}(hm:s.heap.DictOf knd d kvs)(h:Q false s):wpAny (model prog w) A (Builtin.List.listLengthHint (.ref d)) Q E s:=by
 unfold Builtin.List.listLengthHint
 refine wpAny_bind (wpAny_specialOf (name:=Str.ofString "__len__") hm.typeIs F.slot_dict_len.lookup ?_)
 generalize hid:("dict.__len__":String)=id0
 wp_delta
 rw [show splitId id0=some ("dict","__len__") from by subst hid;decide+kernel]
 subst hid
 refine wpAny_bind (wpAny_isInstance (T:="dict") (b:=true) hm.typeIs (by rw [isSubtype_type];kernel_rfl) ?_)
 refine wpAny_ite_split (fun Z9=>absurd Z9 (by decide)) (fun _=>?_)
 refine wpAny_ite_split (fun _=>?_) (fun Z9=>absurd (by decide+kernel) Z9)
 refine wpAny_bind (wpAny_typeOf (T:="dict") hm.typeIs ?_)
 exact wpAny_pure h
theorem uW {R:Ο}{d:Addr}{kvs:List (KK×Value)}{ep:Nat}(hh:A.handled=none)(hd:(d==sysModules)=false)(hm:s.heap.DictAt knd d kvs ep)(hlen:kvs.length<=sizeLine)(S:Addr)(res:Value)(c₀:Nat)(hS:s.heap.get? S=some {cls:=.type "list",data:=.seq #[] c₀})
  (hR:∀h' tk gs c',(∀b o,b≠S->s.heap.get? b=some o->h'.get? b=some o)->h'.get? S=some {cls:=.type "list",dict:=none,data:=.seq gs c',slots:= #[]}->
   ItemsOf (fun i v=>∃k x,kvs[i]? =some (k,x)/\knd.is k v=true) gs kvs.length->R (.ok (.ret res)) {s with heap:=h',toks:=tk}):
  wpAny (model prog w) A.in1 (Builtin.List.listExtendWith (.ref S) (.ref d) res)
   (fun fin s' =>match fin with | .done f=>R (.ok f) s' | .again c' =>c'.quiet=true/\codeAny (model prog w) A c' R s') (fun e s' =>R (.error e) s') s:=by
 obtain ⟨od,es,QZ,pU,fV,hk0,hp0,hn0⟩:=id hm
 have hT:s.TypeIs (.ref d) "dict":=hm.dictOf.typeIs
 have Q0:S≠d:=fun e=>by
  rw [e] at hS
  rw [hS] at QZ
  cases QZ
  cases fV
 have hdI:d≠s.heap.objs.size:=aa1 (Heap.lt_size QZ)
 have Z_:S≠s.heap.objs.size:=aa1 (Heap.lt_size hS)
 have hSf:S∉[s.heap.objs.size,d]:=fun hm=>by
  rcases aaN.mp hm with z | z
  ·exact Z_ z
  ·exact Q0 (aax.mp z)
 have W:=(Walks.dictKeys (knd:=knd) (A:=A.in1) hh s.heap.objs.size d hdI kvs ep).toS
 unfold Builtin.List.listExtendWith
 refine wpAny_bind (wpAny_typeOf (T:="dict") hT ?_)
 have h1:Builtin.List.listSameRef (.ref S) (.ref d)=false:=by simp [Builtin.List.listSameRef,Q0]
 have h2:(Value.type "dict"==Value.type "list")=false:=by decide
 have h3:(Value.type "dict"==Value.type "tuple")=false:=by decide
 simp only [h1,h2,h3,aix,ahx,if_false]
 refine wpAny_bind (wpAny_pyIter_dict hd hm ?_)
 have yB:(s.heap.push {cls:=.type "dict_keyiterator",data:=.fields #[.ref d,.int 0 0,.int kvs.length 0,.int ep 0]}).DictAt knd d kvs ep:=hm.at' fun o e=>Heap.get?_push_of_some _ e
 refine wpAny_bind (wpAny_holding (z7 (knd:=knd) yB.dictOf ?_))
 have SR:=Heap.get?_push_of_some {cls:=.type "dict_keyiterator",data:=.fields #[.ref d,.int 0 0,.int kvs.length 0,.int ep 0]} hS
 have it₁:(s.heap.push {cls:=.type "dict_keyiterator",data:=.fields #[.ref d,.int 0 0,.int kvs.length 0,.int ep 0]}).IsKeyIter s.heap.objs.size d 0 kvs.length ep:=⟨_,Heap.get?_push_size _ rfl,rfl,rfl⟩
 have key:∀(h:Heap) (c₁ tk:Nat),h.IsKeyIter s.heap.objs.size d 0 kvs.length ep->h.DictAt knd d kvs ep->(∀b o,b≠S->s.heap.get? b=some o->h.get? b=some o)->
   h.get? S=some {cls:=.type "list",data:=.seq #[] c₁}->codeAny (model prog w) A (.builtin "list.extend.loop" ⟨[.ref S,.ref s.heap.objs.size,res],[]⟩) R {s with heap:=h,toks:=tk}:=by
  intro h c₁ tk hit hdm hk SR
  refine codeAny_extend_loopS W hlen S hSf res kvs.length 0 _ #[] c₁ rfl (aa6 _) ⟨hit,hdm⟩ SR (ItemsOf.nil _) fun s' gs c' hm' O6 ky=>?_
  rw [Moved.eq_with hm']
  refine hR s'.heap s'.toks gs c' (fun b o hb e=>hm'.heap b o (fun z8=>?_) (hk b o hb e)) O6 ky
  rcases aaN.mp z8 with e' | z8
  ·exact hb e'
  ·exact absurd (Heap.lt_size e) (by rw [aax.mp z8];exact abp _)
 refine wpAny_ite_split (fun _=>?_) (fun _=>wpAny_pure ⟨plainId_quiet F.plain_extend_loop _,key _ c₀ _ it₁ yB (fun b o _ e=>Heap.get?_push_of_some _ e) SR⟩)
 refine wpAny_bind (wpAny_rule ?_)
 refine wpAny_bind ?_
 show wpAny _ _ (updateSeq S (·.push .none) >>=fun _=>updateSeq S (·.pop)) _ _ _
 refine wpAny_bind (wpAny_updateSeq SR rfl ?_)
 have Yw:=Heap.get?_update_self (Obj.mapSeq (·.push Value.none)) SR rfl
 refine wpAny_updateSeq (hz:=by seq_fits) Yw rfl ?_
 have hS₃:=Heap.get?_update_self (Obj.mapSeq (·.pop)) Yw rfl
 refine wpAny_pure ⟨plainId_quiet F.plain_extend_loop _,key _ _ _ (it₁.at fun o e=>?_) (yB.at' fun o e=>?_) (fun b o hb e=>?_) hS₃⟩
 ·exact (Heap.get?_update_other _ _ Z_).trans ((Heap.get?_update_other _ _ Z_).trans e)
 ·exact (Heap.get?_update_other _ _ Q0).trans ((Heap.get?_update_other _ _ Q0).trans e)
 ·exact (Heap.get?_update_other _ _ (aaW hb)).trans ((Heap.get?_update_other _ _ (aaW hb)).trans (Heap.get?_push_of_some _ e))
theorem oj {R:Ο}{d:Addr}{kvs:List (KK×Value)}{ep:Nat}(hh:A.handled=none)(hd:(d==sysModules)=false)(hm:s.heap.DictAt knd d kvs ep)(hlen:kvs.length<=sizeLine)(S:Addr)(hS:s.heap.get? S=some {cls:=.type "list",data:=.seq #[]})
  (hR:∀h' tk gs c',(∀b o,b≠S->s.heap.get? b=some o->h'.get? b=some o)->h'.get? S=some {cls:=.type "list",dict:=none,data:=.seq gs c',slots:= #[]}->
   ItemsOf (fun i v=>∃k x,kvs[i]? =some (k,x)/\knd.is k v=true) gs kvs.length->R (.ok (.ret .none)) {s with heap:=h',toks:=tk}):
  wpAny (model prog w) A.in1 (Builtin.«list.__init__» ⟨[.ref S,.ref d],[]⟩)
   (fun fin s' =>match fin with | .done f=>R (.ok f) s' | .again c' =>c'.quiet=true/\codeAny (model prog w) A c' R s') (fun e s' =>R (.error e) s') s:=by
 obtain ⟨od,es,QZ,pU,fV,hk0,hp0,hn0⟩:=id hm
 have Q0:S≠d:=fun e=>by
  rw [e] at hS
  rw [hS] at QZ
  cases QZ
  cases fV
 show wpAny _ _ (do let old <- Builtin.List.listItems (.ref S);Builtin.List.listUpdate (.ref S) (fun _=> #[]);letGo old.toList.reverse;Builtin.List.listExtendWith (.ref S) (.ref d) .none) _ _ s
 refine wpAny_bind ?_
 unfold Builtin.List.listItems
 refine wpAny_bind (wpAny_seqItems hS rfl (wpAny_pure ?_))
 show wpAny _ _ (updateSeq S (fun _=> #[]) >>=fun _=>letGo (#[]:Array Value).toList.reverse >>=fun _=>Builtin.List.listExtendWith (.ref S) (.ref d) .none) _ _ s
 refine wpAny_bind (wpAny_updateSeq hS rfl ?_)
 have Yw:=Heap.get?_update_self (Obj.mapSeq (fun _=>(#[]:Array Value))) hS rfl
 have JH:∀b o,b≠S->s.heap.get? b=some o->(s.heap.update S (Obj.mapSeq (fun _=>(#[]:Array Value)))).get? b=some o:=
  fun b o hb e=>(Heap.get?_update_other _ _ (aaW hb)).trans e
 refine wpAny_bind (wpAny_letGo ?_)
 refine uW hh hd (hm.at' fun o e=>JH d o (aaW Q0) e) hlen S .none _ Yw fun h' tk gs c' hk O6 ky=>?_
 exact hR h' tk gs c' (fun b o hb e=>hk b o hb (JH b o hb e)) O6 ky
theorem om {Q:δ}{d:Addr}{kvs:List (KK×Value)}{ep:Nat}(hh:A.handled=none)(hd:(d==sysModules)=false)(hm:s.heap.DictAt knd d kvs ep)(hlen:kvs.length<=sizeLine)
  (hQ:∀h' tk gs c',(∀b o,s.heap.get? b=some o->h'.get? b=some o)->
   h'.get? s.heap.objs.size=some {cls:=.type "list",dict:=none,data:=.seq gs c',slots:= #[]}->ItemsOf (fun i v=>∃k x,kvs[i]? =some (k,x)/\knd.is k v=true) gs kvs.length->Q (.ref s.heap.objs.size) {s with heap:=h',toks:=tk}):
  wpAny (model prog w) A (call (.type "list") [.ref d]) Q E s:=by
 refine callType_codes (Q₁:=fun obj s₁=>obj=.ref s.heap.objs.size/\s₁={s with heap:=s.heap.push {cls:=.type "list",data:=.seq #[]}}) F.called_list (F.typeCall_list_1 _) F.entry_list_init
  (code_list_new _ ⟨rfl,rfl⟩) fun obj s₁ h₁=>?_
 obtain ⟨rfl,rfl⟩:=h₁
 have hS:(s.heap.push {cls:=.type "list",data:=.seq #[]}).get? s.heap.objs.size=some {cls:=.type "list",data:=.seq #[]}:=Heap.get?_push_size _ rfl
 refine ⟨⟨_,hS,rfl⟩,F.args_list_init_2 _ _,oj (A:=A.in1) hh hd (hm.at' fun o e=>Heap.get?_push_of_some _ e) hlen _ hS fun h' tk gs c' hk O6 ky=>?_⟩
 exact ⟨rfl,hQ h' tk gs c' (fun b o e=>hk b o (aa1 (Heap.lt_size e)) (Heap.get?_push_of_some _ e)) O6 ky⟩
end
theorem av {α β:Type}{F:α->β->Prop}:∀{l₁:List α} {l₂:List β} {i:Nat} {a:α},Paired F l₁ l₂->l₁[i]? =some a->∃b,l₂[i]? =some b/\F a b
 | _,_,_,_,.nil,h=>by simp at h
 | _,_,0,_,.cons r _,h=>by
  cases h
  exact ⟨_,rfl,r⟩
 | _,_,i+1,_,.cons _ t,h=>by
  obtain ⟨b,e,f⟩:=av (i:=i) t (by simpa using h)
  exact ⟨b,by simpa using e,f⟩
theorem b9 {α β:Type}{F:α->β->Prop}:∀{l₁:List α} {l₂:List β},l₁.length=l₂.length->(∀(i:Nat) (a:α) (b:β),l₁[i]? =some a->l₂[i]? =some b->F a b)->Paired F l₁ l₂
 | [],[],_,_=>.nil
 | a::l₁,b::l₂,h,f=>.cons (f 0 a b rfl rfl) (b9 (by simpa using h) fun i a b e1 e2=>f (i+1) a b (by simpa using e1) (by simpa using e2))
 | [],_::_,h,_=>by simp at h
 | _::_,[],h,_=>by simp at h
theorem mV {P:Program}{w:World}{k:Key}{u:Value}(h:(bo P w).is k u=true):RelV (kV k) u:=by
 rcases b7 h with ⟨i,t,rfl,rfl⟩ | ⟨x,t,rfl,rfl⟩
 ·exact ⟨t,rfl⟩
 ·exact ⟨t,rfl⟩
section
variable {X:Cx}
inductive F_ (xs:ζ)(H:Hp)(Q:VK):Prop where
 | mk (p:Addr) (kvs:γ) (_:xs=[.ref p]) (_:Rd H p (.dK kvs)) (_:∀l,H l=none->Q (.ref l) (upd H l (.lst (kvs.map fun kv=>kV kv.1)))):F_ xs H Q
theorem eG (hc:X.calm=true):fg X (.type "list") F_:=by
 intro pins s σ H xs us Q I r h
 obtain ⟨p,kvs,rfl,hq,q⟩:=h
 obtain ⟨u,rfl,r1⟩:=vals1 r
 cases r1
 obtain ⟨z,hd,vs,rel,o,es,ep,ho,hx,fV,hk,hp,hn⟩:=iT I.bK hq
 have hl:=rel.length
 refine om (knd:=bo X.prog X.w) (I.ok.hd hc) hd ⟨o,es,ho,hx,fV,hk,hp,hn⟩ (by omega) fun h' tk gs c' kk hS ky=>?_
 have Of :=I.bK.fresh (aaf s.heap.objs.size)
 have rv:Vals (kvs.map fun kv=>kV kv.1) gs.toList:=b9 (by have:=ky.1;simp;omega) fun i a b e1 e2=>by
  rw [Wp] at e1
  obtain ⟨kv,ek,rfl⟩:=aar.mp e1
  obtain ⟨q',eq,e3,_⟩:=av rel ek
  obtain ⟨k,x,e4,e5⟩:=ky.2 i b (by simpa using e2)
  rw [eq] at e4
  cases e4
  rw [e3]
  exact mV e5
 have I2:Inv X pins σ (upd H s.heap.objs.size (.lst (kvs.map fun kv=>kV kv.1))) {s with heap:=h',toks:=tk}:=I.laid (t' :=tk) kk (aaf _) ⟨by rw [aab];exact z,gs.toList,c',rv,by simpa using hS⟩
 exact ⟨.ref _,_,I2,rfl,q _ Of⟩
theorem Inv.freeze {pins:ε}{σ:L2.St}{H:Hp}{s:Shared}{d:Addr}{kvs:γ}{o:Obj}(I:Inv X pins σ H s)(e:H d=some (.dK kvs))(ho:s.heap.get? d=some o):Inv X pins σ (upd H d (.dA o (.dK kvs))) s:=by
 have nx:∀b u,H b=some u->b≠d->upd H d (.dA o (.dK kvs)) b=some u:=fun b u q n=>by rw [ao n];exact q
 refine I.step (g' :=s.gens) (t' :=s.toks) (d' :=s.drawn) (ch:=[]) (fun _ z=>nomatch z) (fun b o _ _ _ e _=>e) (fun b o _ _ _ e _=>⟨o.slots,e⟩) (fun b o _ _ n=>by rw [ao (fun z=>by rw [z,e] at n;cases n)];exact n) (fun b o _ e=>⟨o,e⟩)
  (fun b xs q=>nx b _ q fun z=>by rw [z,e] at q;cases q) (fun b o' u q=>nx b _ q fun z=>by rw [z,e] at q;cases q) (fun b ps q=>⟨#[],by rw [nx b _ q fun z=>by rw [z,e] at q;cases q];simp⟩) (fun m hm=>hm) (fun b u q=>?_) I.bare
 by_cases hb:b=d
 ·subst hb
  rw [ak] at q
  cases q
  exact ⟨ho,I.bK b _ e⟩
 ·rw [ao hb] at q
  exact (I.bK b u q).pR (fun _ _ _ k=>k) (fun c k=>nx c _ k fun z=>by rw [z,e] at k;cases k) fun c xs k=>nx c _ k fun z=>by rw [z,e] at k;cases k
def O7 (d:Addr)(o:Obj)(kvs:γ):It:=
 ⟨fun i H=>H d=some (.dA o (.dK kvs))/\i < kvs.length,
  fun i H v H' =>∃p k x,kvs[i]? =some (k,x)/\v=.ref p/\H p=none/\H' =upd H p (.tup [kV k,x]),
  fun i H=>H d=some (.dA o (.dK kvs))/\kvs.length<=i⟩
theorem se {P:Program}{w:World}{H:Hp}{h:Heap}{d:Addr}{o:Obj}{kvs:γ}{Q3:Array DictEntry}{ep:Nat}(ok:iQ P w H h)(e:H d=some (.dA o (.dK kvs)))(he:o.data=.dict Q3 ep):
  (d==sysModules)=false/\∃vs,KV kvs vs/\h.DictAt (bo P w) d vs ep/\kvs.length<=sizeLine:=by
 obtain ⟨h1,z,hd,vs,rel,o',es,v3,ho,hx,fV,hk,hp,hn⟩:=ok d _ e
 rw [h1] at ho
 cases ho
 rw [he] at fV
 cases fV
 exact ⟨hd,vs,rel,⟨o,Q3,h1,hx,he,hk,hp,hn⟩,z⟩
theorem kz:entryFor table "dict_itemiterator.__iter__"=some Builtin.«dict_keyiterator.__iter__»:=
 entryFor_alias (id' :="dict_keyiterator.__iter__") (by kernel_rfl) (by first | rfl | decide+kernel | (unfold String.splitOn;simp+decide [String.splitOnAux])) (by decide+kernel) (by kernel_rfl)
theorem wY {P:Program}{w:World}{A:Around}{E:δ}{s:Shared}{it d:Addr}{i n ep:Nat}{ok ov:Value}{Q:δ}(st:IsItemIter s.heap it d i n ep ok ov)(h:Q (.ref it) s):wpAny (model P w) A (pyIter (.ref it)) Q E s:=by
 have hT:s.TypeIs (.ref it) "dict_itemiterator":=⟨_,st,rfl⟩
 refine wpAny_pyIter_slot hT F.slot_dict_itemiterator_iter (wpAny_call_entry F.slot_dict_itemiterator_iter hT kz ?_ (F.args_dict_itemiterator_iter_1 _))
 show wpAny _ _ (ret (.ref it)) _ _ s
 exact wpAny_pure ⟨_,rfl,"dict_itemiterator",_,hT,F.slot_dict_itemiterator_next.lookup,h⟩
theorem oq {P:Program}{w:World}{K:Frag}{es:ψ}{k:Nat}{pos:Pos}(d it:Addr)(o:Obj)(kvs:γ){Q3:Array DictEntry}{ep:Nat}(he:o.data=.dict Q3 ep)(yx:it≠d):
  Turn P w K (.Tuple es k pos) (O7 d o kvs) [it] it (fun i h=>∃ok ov,IsItemIter h it d i kvs.length ep ok ov) where
 mem:=by simp
 obj:=fun i h st b hb=>by
  have e:b=it:=by simpa using hb
  subst e
  obtain ⟨ok,ov,st⟩:=st
  exact ⟨_,st,fun v z=>by cases z⟩
 keep:=fun i h h' st k=>by
  obtain ⟨ok,ov,st⟩:=st
  exact ⟨ok,ov,k it (by simp) _ st⟩
 item:=by
  intro X hP hw hK hc i pins s σ H E I hf st hg
  subst hP hw hK
  obtain ⟨ok,ov,st⟩:=st
  obtain ⟨fz,hi⟩:=hg
  obtain ⟨hd,vs,rel,da,_⟩:=se I.bK fz he
  have ek:kvs[i]? =some kvs[i]:=gE hi
  obtain ⟨⟨k',u⟩,ev,e1,ru⟩:=av rel ek
  have lv:=rel.length
  rw [lv] at st
  refine wpAny_pyNext_items_item st da ev fun key h' EK out tup sz kk=>?_
  refine ⟨_,rfl,wpAny_letOwnedTupleGo_items (s:={s with heap:=h' }) out fun JG Z' sb=>?_⟩
  have hsz:∀c o,s.heap.get? c=some o->s.heap.objs.size≠c:=fun c o e=>ahr (Heap.lt_size e)
  have tz:s.heap.objs.size≠it:=hsz _ _ st
  have nz:∀c,c≠it->∀o,h'.get? c=some o->JG.get? c=some o:=fun c hc o e=>(sb.2 c hc).trans e
  have hn:=I.bK.fresh (aaf s.heap.objs.size)
  have zQ :kvs[i].1=k' :=e1
  have I2:Inv X pins σ (upd H s.heap.objs.size (.tup [kV kvs[i].1,kvs[i].2])) {s with heap:=JG,toks:=s.toks}:=
   Inv.r_ I (fun b o hb e=>nz b (by simpa using hb) o (kk b o (by simpa using hb) e)) hf (aaf _) (by show 2<=sizeLine;decide) (its:=[key,u]) (.cons (by rw [zQ];exact mV EK) (.cons ru .nil)) ⟨_,nz _ tz _ tup,rfl,_,rfl⟩
  refine ⟨.ref s.heap.objs.size,_,I2,rfl,⟨s.heap.objs.size,kvs[i].1,kvs[i].2,ek,rfl,hn,rfl⟩,⟨_,_,by rw [lv];exact Z'⟩,fun b hb=>?_⟩
  have eb:b=it:=by simpa using hb
  rw [ao (by rw [eb];exact aaW tz)]
  exact (hf b hb).1
 done:=by
  intro X hP hw hK hc i pins s σ H E I hf st hg
  subst hP hw hK
  obtain ⟨ok,ov,st⟩:=st
  obtain ⟨fz,hi⟩:=hg
  obtain ⟨hd,vs,rel,da,_⟩:=se I.bK fz he
  have lv:=rel.length
  rw [lv] at st
  obtain ⟨f0,f1,f2,f3,f4,f5⟩:=hf it (by simp)
  exact wpAny_pyNext_items_end (I.ok.hd hc) st da (aaj (by omega)) fun h' eb=>⟨rfl,I.turned (t' :=s.toks) (fun b o hb e=>eb b o hb e) f0 f1 f3 f4 f5⟩
 self:=fun _ _ _ _ _ st h=>by
  obtain ⟨ok,ov,st⟩:=st
  exact wY st h
inductive yC (R:(It->Hp->Prop))(x:V)(H1:Hp):Prop where
 | mk (d kvs:_) (_:x=.ref d) (_:H1 d=some (.dK kvs)) (_:∀o,R (O7 d o kvs) (upd H1 d (.dA o (.dK kvs)))):yC R x H1
def O8 (te:TE):TI:=fun σ H R=>te σ H fun x H1=>yC R x H1
theorem jA {e:Expr}{te:TE}{apos cw:Pos}{es:ψ}{k:Nat}{rN:Pos}(ho:PE X e te)(h_:attributeBase e "items" X.env (eval e X.env)=eval e X.env:=by rfl)(ia:(apos.endLine==cw.line)=true:=by rfl):
  PI X (.Tuple es k rN) (.Call (.Attribute e "items" apos) [] [] cw) (O8 te):=by
 intro pins s σ H R I h
 refine wpAny_Call_method0_late h_ ia (bZ (ho pins s σ H _ I h) fun v s1 ⟨x,H1,I1,r1,q1⟩=>?_)
 obtain ⟨d,kvs,rfl,e,q⟩:=q1
 cases r1
 obtain ⟨z,hd,vs,rel,o,KR,ep,v8,hx,fV,hk,hp,hn⟩:=iU I1.bK e
 obtain ⟨h1,h2⟩:=EX (T:="dict") I1 (show RelV (.ref d) (.ref d) from rfl) (.inr (.inr (.inl ⟨rfl,.inl ⟨kvs,e⟩⟩)))
 have da:s1.heap.DictAt (bo X.prog X.w) d vs ep:=⟨o,KR,v8,hx,fV,hk,hp,hn⟩
 have lv:=rel.length
 refine ⟨"dict","dict.items",F.plainAttrs_dict,F.slot_dict_items,F.type_dict_items,h1,h2,Calls.callWith_builtin rfl (PySem.evalArgs_none ?_)⟩
 refine call_meetsIn F.slot_dict_items h1 F.entry_dict_items (F.args_dict_items_1 _) (meets_dict_items (bo X.prog X.w) d hd) ⟨⟨vs,da.dictOf⟩,?_⟩
 have I2:=Inv.freeze I1 e v8
 have O9:(s1.heap.push {cls:=.type "dict_items",data:=.fields #[.ref d]}).DictAt (bo X.prog X.w) d vs ep:=da.at' fun o e=>Heap.get?_push_of_some _ e
 show wpAny (model X.prog X.w) X.A (pyIter (.ref s1.heap.objs.size)) _ _ _
 refine wpAny_pyIter_items (s:={s1 with heap:=s1.heap.push {cls:=.type "dict_items",data:=.fields #[.ref d]}}) ⟨_,Heap.get?_push_size _ rfl,rfl,rfl⟩ O9 ?_
 have sz:(s1.heap.push {cls:=.type "dict_items",data:=.fields #[.ref d]}).objs.size=s1.heap.objs.size+1:=Heap.size_push ..
 have ne:(s1.heap.push {cls:=.type "dict_items",data:=.fields #[.ref d]}).objs.size≠d:=by
  rw [sz]
  exact aaW (aa1 (ab1 (Heap.lt_size v8)))
 have I3:Inv X pins σ (upd H1 d (.dA o (.dK kvs))) {s1 with heap:=(s1.heap.push {cls:=.type "dict_items",data:=.fields #[.ref d]}).push {cls:=.type "dict_itemiterator",data:=.fields #[.none,.bool false,.ref d,.int 0 0,.int vs.length 0,.int ep 0,.none,.none]}}:=I2.kept (t' :=s1.toks) fun b o e=>Heap.get?_push_of_some _ (Heap.get?_push_of_some _ e)
 refine ⟨_,[_],_,_,_,rfl,I3,oq d _ o kvs fV ne,⟨_,_,by rw [lv];exact Heap.get?_push_size _ rfl⟩,fun b hb=>?_,q o⟩
 have eb:b=(s1.heap.push {cls:=.type "dict_items",data:=.fields #[.ref d]}).objs.size:=by simpa using hb
 have le:s1.heap.objs.size<=b:=by rw [eb,sz];exact ah8 _
 exact I2.j7 le (I2.bK.fresh le)
end
end Ty
set_option maxHeartbeats 4000000
namespace Ty
def ev:List Int->(Nat->Rat)->Rat
 | [],_=>0
 | a::r,z=>(a:Rat)*z 0+ev r (fun i=>z (i+1))
theorem F':∀(l:ξ) (z y:Nat->Rat),ev l (fun i=>z i+y i)=ev l z+ev l y
 | [],_,_=>by simp [ev];grind
 | a::r,z,y=>by
  simp only [ev]
  rw [F' r (fun i=>z (i+1)) (fun i=>y (i+1))]
  grind
theorem sf:∀(l:ξ) (z:Nat->Rat),(∀j,((l.getD j 0:Int):Rat)*z j=0)->ev l z=0
 | [],_,_=>rfl
 | a::r,z,h=>by
  have h0:=h 0
  have ih:=sf r (fun i=>z (i+1)) (fun j=>by simpa using h (j+1))
  simp only [ev]
  rw [ih]
  simp at h0
  grind
theorem wZ:∀(l:ξ) (z:Nat->Rat) (p:Nat),(∀j,j≠p->((l.getD j 0:Int):Rat)*z j=0)->ev l z=((l.getD p 0:Int):Rat)*z p
 | [],_,_,_=>by simp [ev]
 | a::r,z,0,h=>by
  have ih:=sf r (fun i=>z (i+1)) (fun j=>by simpa using h (j+1) (by omega))
  simp only [ev]
  rw [ih]
  simp
  grind
 | a::r,z,p+1,h=>by
  have h0:=h 0 (by omega)
  have ih:=wZ r (fun i=>z (i+1)) p (fun j hj=>by simpa using h (j+1) (by omega))
  simp only [ev]
  rw [ih]
  simp at h0
  simp
  grind
theorem GB {s t u:Int}:∀{new line lead:ξ},new.length=line.length->lead.length=line.length->(∀j,s*new.getD j 0=t*line.getD j 0 - u*lead.getD j 0)->∀z:Nat->Rat,(s:Rat)*ev new z=t*ev line z - u*ev lead z
 | [],[],[],_,_,_,z=>by simp [ev];grind
 | a::new,b::line,c::lead,h1,h2,h,z=>by
  have h0:=h 0
  have ih:=GB (by simpa using h1) (by simpa using h2) (fun j=>by simpa using h (j+1)) (fun i=>z (i+1))
  simp at h0
  have h0' :(s:Rat)*a=t*b - u*c:=by exact_mod_cast h0
  simp only [ev]
  grind
 | [],_::_,_,h,_,_,_=>by simp at h
 | _::_,[],_,h,_,_,_=>by simp at h
 | _,[],_::_,_,h,_,_=>by simp at h
 | _,_::_,[],_,h,_,_=>by simp at h
def ou:List Rat->List (List Int)->Nat->Rat
 | c::y,o::os,j=>c*((o.getD j 0:Int):Rat)+ou y os j
 | _,_,_=>0
theorem uX {s t u:Rat}(hs:s≠0)(j:Nat):∀(os:η) (y1 y2:List Rat),y1.length=os.length->y2.length=os.length->s*ou (ace (fun a b=>(t*a - u*b) / s) y1 y2) os j=t*ou y1 os j - u*ou y2 os j
 | [],[],[],_,_=>by simp [ou];grind
 | o::os,a::y1,b::y2,h1,h2=>by
  have ih:=uX (t:=t) (u:=u) hs j os y1 y2 (by simpa using h1) (by simpa using h2)
  simp only [aij,ou]
  grind
 | [],_::_,_,h,_=>by simp at h
 | [],[],_::_,_,h=>by simp at h
 | _::_,[],_,h,_=>by simp at h
 | _::_,_::_,[],_,h=>by simp at h
theorem qU (j:Nat):∀(os:η),ou (aaJ os.length 0) os j=0
 | []=>rfl
 | o::os=>by
  simp only [aa5,ab4,ou]
  rw [qU j os]
  grind
def si (os:η)(l:ξ):Prop:=∃y:List Rat,y.length=os.length/\∀j,((l.getD j 0:Int):Rat)=ou y os j
theorem uY:∀{os:η} {l:ξ},l∈os->si os l
 | o::os,l,h=>by
  rcases aaN.mp h with z | z
  ·subst z
   refine ⟨1::aaJ os.length 0,by simp,fun j=>?_⟩
   simp only [ou]
   rw [qU]
   grind
  ·obtain ⟨y,hl,hy⟩:=uY z
   refine ⟨0::y,by simp [hl],fun j=>?_⟩
   simp only [ou]
   rw [<- hy j]
   grind
theorem GG {os:η}{new line lead:ξ}{s t u:Int}(hs:s≠0)(h:∀j,s*new.getD j 0=t*line.getD j 0 - u*lead.getD j 0)(h1:si os line)(h2:si os lead):si os new:=by
 obtain ⟨y1,l1,e1⟩:=h1
 obtain ⟨y2,l2,e2⟩:=h2
 have Nb :=cY hs
 refine ⟨ace (fun a b=>((t:Rat)*a - u*b) / s) y1 y2,by simp [l1,l2],fun j=>?_⟩
 have k:=uX (t:=(t:Rat)) (u:=(u:Rat)) Nb j os y1 y2 l1 l2
 rw [<- e1 j, <- e2 j] at k
 have h' :(s:Rat)*(new.getD j 0:Int)=t*(line.getD j 0:Int) - u*(lead.getD j 0:Int):=by exact_mod_cast h j
 rw [<- h'] at k
 grind
structure pK (line lead new:ξ)(c:Nat):Prop where
 len:new.length=line.length
 GH:new.getD c 0=0
 qc:∃s t u:Int,s≠0/\t≠0/\∀j,s*new.getD j 0=t*line.getD j 0 - u*lead.getD j 0
theorem pK.zero {line lead new:ξ}{c:Nat}(h:pK line lead new c){j:Nat}(h1:line.getD j 0=0)(h2:lead.getD j 0=0):new.getD j 0=0:=by
 obtain ⟨s,t,u,hs,_,e⟩:=h.qc
 have:=e j
 rw [h1,h2,ahC,ahC,Int.sub_self] at this
 rcases aio.mp this with z | z
 ·exact absurd z hs
 ·exact z
theorem pK.at {line lead new:ξ}{c:Nat}(h:pK line lead new c){j:Nat}(h2:lead.getD j 0=0)(h1:line.getD j 0≠0):new.getD j 0≠0:=by
 obtain ⟨s,t,u,hs,ht,e⟩:=h.qc
 have:=e j
 rw [h2] at this
 intro z
 rw [z,ahC,ahC,Int.sub_zero] at this
 rcases aio.mp this.symm with y | y
 ·exact ht y
 ·exact h1 y
theorem pK.comb {os:η}{line lead new:ξ}{c:Nat}(h:pK line lead new c)(h1:si os line)(h2:si os lead):si os new:=by
 obtain ⟨s,t,u,hs,ht,e⟩:=h.qc
 exact GG hs e h1 h2
theorem pK.ev {line lead new:ξ}{c:Nat}(h:pK line lead new c)(hl:lead.length=line.length){z:Nat->Rat}(h2:Ty.ev lead z=0):Ty.ev new z=0 ↔ Ty.ev line z=0:=by
 obtain ⟨s,t,u,hs,ht,e⟩:=h.qc
 have k:=GB h.len hl e z
 rw [h2] at k
 have Nb :=cY hs
 have ht' :=cY ht
 constructor
 ·intro w
  rw [w] at k
  grind
 ·intro w
  rw [w] at k
  grind
end Ty
set_option maxHeartbeats 4000000
namespace Ty
open PySem PySem.Spec PyProof.Rows L2
def SS (K:Frag)(a:Addr):It:=
 ⟨fun i H=>∃xs x,a8 K H a xs/\xs[i]? =some x,
  fun i H v H' =>∃p x,(∀xs,a8 K H a xs->xs[i]? =some x)/\v=.ref p/\H p=none/\H' =upd H p (.tup [.int (i:Int),x]),
  fun i H=>∃xs,a8 K H a xs/\xs.length<=i⟩
theorem z9 {P:Program}{w:World}{K:Frag}{es:ψ}{k:Nat}{pos:Pos}(a e it:Addr)(yx:e≠it):
  Turn P w K (.Tuple es k pos) (SS K a) [e,it] e (fun i h=>(∃old,IsEnum h e it ((i:Nat):Int) old)/\h.IsListIter it a i) where
 mem:=by simp
 obj:=fun i h st c hc=>by
  obtain ⟨⟨old,he⟩,⟨o1,e1,c1,d1⟩⟩:=st
  have t_ :c=e\/c=it:=by simpa using hc
  rcases t_ with z | z <;> subst z
  ·exact ⟨_,he,fun v z=>by cases z⟩
  ·exact ⟨_,e1,fun v z=>by rw [d1] at z;cases z⟩
 keep:=fun i h h' st k=>by
  obtain ⟨⟨old,he⟩,h1⟩:=st
  exact ⟨⟨old,k e (by simp) _ he⟩,h1.at fun o e=>k it (by simp) o e⟩
 item:=by
  intro X hP hw hK hc i pins s σ H E I hf st hg
  subst hP hw hK
  obtain ⟨⟨old,he⟩,h1⟩:=st
  obtain ⟨xs,x,qx,ex⟩:=hg
  obtain ⟨its,rv,p,_⟩:=I.list qx
  obtain ⟨u,hu,ru⟩:=rv.get ex
  refine wpAny_pyNext_enum_item he h1 p.isList (x:=u) (by simpa using hu) yx fun h' a1 a2 a3 a4 a5=>?_
  refine ⟨_,rfl,wpAny_letOwnedTupleGo_enum (s:={s with heap:=h',toks:=s.toks+1}) a1 fun JG b1 sb=>?_⟩
  have nz:∀c,c≠e->∀o,h'.get? c=some o->JG.get? c=some o:=fun c hc o q=>(sb.2 c hc).trans q
  have kk:∀b o,b∉[e,it]->s.heap.get? b=some o->JG.get? b=some o:=fun b o hb q=>by
   have gi :b≠e/\b≠it:=by simpa using hb
   exact nz b gi.1 o (a5 b o gi.1 gi.2 q)
  have sz:∀c o,s.heap.get? c=some o->s.heap.objs.size≠c:=fun c o q=>ahr (Heap.lt_size q)
  have tz:s.heap.objs.size≠e:=sz _ _ he
  have hn:=I.bK.fresh (aaf s.heap.objs.size)
  have I2:Inv X pins σ (upd H s.heap.objs.size (.tup [.int (i:Int),x])) {s with heap:=JG,toks:=s.toks+1}:=
   Inv.r_ I kk hf (aaf _) (by show 2<=sizeLine;decide) (its:=[.int i s.toks,u]) (.cons ⟨_,rfl⟩ (.cons ru .nil)) ⟨_,nz _ tz _ a3,rfl,_,rfl⟩
  refine ⟨.ref s.heap.objs.size,_,I2,rfl,⟨s.heap.objs.size,x,fun xs' q=>by rw [I.hV q qx];exact ex,rfl,hn,rfl⟩,⟨⟨_,by exact b1⟩,a2.at fun o q=>nz _ (aaW yx) o q⟩,fun b hb=>?_⟩
  have ob:∃o,s.heap.get? b=some o:=by
   obtain ⟨o1,e1,_⟩:=h1
   have t_ :b=e\/b=it:=by simpa using hb
   rcases t_ with z | z <;> subst z
   ·exact ⟨_,he⟩
   ·exact ⟨_,e1⟩
  obtain ⟨o,q⟩:=ob
  rw [ao (aaW (sz _ _ q))]
  exact (hf b hb).1
 done:=by
  intro X hP hw hK hc i pins s σ H E I hf st hg
  subst hP hw hK
  obtain ⟨⟨old,he⟩,h1⟩:=st
  obtain ⟨xs,qx,ee⟩:=hg
  obtain ⟨its,rv,p,_⟩:=I.list qx
  have l1:=rv.length
  refine wpAny_pyNext_enum_end (I.ok.hd hc) he h1 p.isList (by simp;omega) fun h' kk=>⟨rfl,Inv.mT I (fun b o hb q=>?_) hf⟩
  have gi :b≠e/\b≠it:=by simpa using hb
  exact kk b o gi.2 q
 self:=fun _ _ _ _ _ st h=>by
  obtain ⟨⟨old,he⟩,_⟩:=st
  exact wpAny_pyIter_enum he h
theorem boot_enumerate:bootBuiltins "enumerate"=some (.type "enumerate"):=by decide+kernel
section
variable {X:Cx}
inductive GJ (K:Frag)(R:(It->Hp->Prop))(vs:ζ)(H1:Hp):Prop where
 | mk (a:_) (_:vs=[.ref a]) (_:(∃xs,a8 K H1 a xs)) (_:R (SS K a) H1):GJ K R vs H1
def SU (K:Frag)(ta:TA):TI:=fun σ H R=>ta σ H fun vs H1=>GJ K R vs H1
theorem KS {e1:Expr}{ta:TA}{p pos:Pos}{es:ψ}{k:Nat}{rN:Pos}(hg:Gl X "enumerate")(hm:X.mg "enumerate"=none)(ha:PA X [e1] ta)(hs:starEach [e1] X.env=[(false,eval e1 X.env)]:=by rfl):
  PI X (.Tuple es k rN) (.Call (.Name "enumerate" p) [e1] [] pos) (SU X.K ta):=by
 intro pins s σ H R I h
 refine Call_ (fQ I hg hm boot_enumerate (PyProof.Rows.callWith_type1 (bZ (ha pos pins s σ H _ I h) fun us s1 ⟨vs,H1,I1,r1,q1⟩=>?_) hs rfl))
 obtain ⟨a,e,⟨xs,hx⟩,q⟩:=q1
 subst e
 cases r1 with
 | cons r rr=>
  cases rr
  cases r
  obtain ⟨its,rv,pl,_⟩:=I1.list hx
  refine call_enumerate_list pl.isList fun h' hE hI hsz hk=>wpAny_pyIter_enum (s:={s1 with heap:=h' }) hE ?_
  refine ⟨s1.heap.objs.size+1,[s1.heap.objs.size+1,s1.heap.objs.size],_,_,H1,rfl,I1.kept (t' :=s1.toks) hk,z9 a _ _ (Nat.succ_ne_self _),⟨⟨_,hE⟩,hI⟩,fun c hc=>?_,q⟩
  have t_ :s1.heap.objs.size<=c:=by
   have:c=s1.heap.objs.size+1\/c=s1.heap.objs.size:=by simpa using hc
   simp only [Addr] at*
   omega
  exact I1.j7 t_ (I1.bK.fresh t_)
theorem any_range (bs:List Bool):(abl bs.length).any (fun i=>(bs[i]?).getD true)=bs.any id:=by
 rw [abq,ahN,ahN]
 constructor
 ·rintro ⟨i,hi,h⟩
  have SV :i < bs.length:=abe.mp hi
  rw [gE SV] at h
  exact ⟨bs[i],abn SV,h⟩
 ·rintro ⟨b,hb,h⟩
  obtain ⟨i,hi⟩:=aas hb
  exact ⟨i,abe.mpr (ir.mp hi).1,by rw [hi];exact h⟩
inductive O_ (K:Frag)(xs:ζ)(H:Hp)(Q:VK):Prop where
 | mk (p:Addr) (bs:List Bool) (_:xs=[.ref p]) (_:a8 K H p (bs.map V.bl)) (_:Q (.bl (bs.any id)) H):O_ K xs H Q
theorem z_ (hc:X.calm=true):fg X (.builtin "any") (O_ X.K):=by
 intro pins s σ H xs us Q I r h
 obtain ⟨p,bs,rfl,hq,q⟩:=h
 obtain ⟨u,rfl,r1⟩:=vals1 r
 cases r1
 obtain ⟨its,rv,pl,hz⟩:=I.list hq
 refine call_any_walk (wpAny_pyIter_list pl.isList ?_)
 have yx:p≠s.heap.objs.size:=by obtain ⟨o,ho,_⟩:=pl.isList;exact aa1 (Heap.lt_size ho)
 have I1:Inv X pins σ H {s with heap:=s.heap.push {cls:=.type "list_iterator",data:=.fields #[.ref p,.int 0 0]}}:=I.kept (t' :=s.toks) fun b o e=>Heap.get?_push_of_some _ e
 obtain ⟨f0,f1,f2,f3,f4,f5⟩:=I.j7 (H' :=H) (aaf s.heap.objs.size) (I.bK.fresh (aaf _))
 have hl:its.length=bs.length:=by rw [<- rv.length,aab]
 refine ⟨s.heap.objs.size,_,_,_,_,_,fun i=>(bs[i]?).getD true,rfl,Walks.list (A:=X.A.in1) (I.ok.hd hc) s.heap.objs.size p yx its.toArray,⟨⟨_,Heap.get?_push_size _ rfl,rfl,rfl⟩,pl.isList.at fun o e=>Heap.get?_push_of_some _ e⟩,?_,fun h' tk kk=>?_⟩
 ·intro i v s' Q' E' hv g7
  have Ow :its[i]? =some v:=by simpa using hv
  have hi:i < bs.length:=by rw [<- hl];exact (ir.mp Ow).1
  have eb:(bs.map V.bl)[i]? =some (.bl bs[i]):=by rw [Wp,gE hi];rfl
  obtain ⟨u,eu,ru⟩:=rv.get eb
  rw [Ow] at eu
  cases eu
  cases ru
  dsimp only at g7
  rw [gE hi] at g7
  exact wpAny_truthy_bool g7
 ·refine ⟨.bl (bs.any id),H,I1.turned (t' :=tk) (it:=s.heap.objs.size) (fun b o hb e=>kk b o (by simpa using hb) e) f0 f1 f3 f4 f5,?_,q⟩
  show _=_
  rw [<- any_range bs,aaF,hl]
theorem SW:bootBuiltins "any"=some (.builtin "any"):=by decide+kernel
end
theorem GK {K:Frag}{a:Addr}{xs:ζ}{g:TG}{tb:TS}{D:Ends}{σ:L2.St}{H:Hp}(Pv:Nat->L2.St->Hp->Prop)(h0:Pv 0 σ H)(hl:∀i σ H,i<=xs.length->Pv i σ H->a8 K H a xs)
  (hs:∀i x σ H p,xs[i]? =some x->Pv i σ H->H p=none->g (.ref p) σ (upd H p (.tup [.int (i:Int),x])) fun σ2 H2=>tb {D with nx:=Pv (i+1),ct:=Pv (i+1),bk:=D.nx} σ2 H2) (hd:∀σ H,Pv xs.length σ H->D.nx σ H):
  ∃W:Nat->Nat->L2.St->Hp->Prop,(∃m,W 0 m σ H)/\∀i m σ H,W i m σ H->
   ((SS K a).stop i H/\D.nx σ H)\/((SS K a).go i H/\∃N:L2.St->Hp->Prop,(∀σ' H',N σ' H' ->∃m',m' < m/\W (i+1) m' σ' H')/\∀x H',(SS K a).DR i H x H' ->g x σ H' fun σ2 H2=>tb {D with nx:=N,ct:=N,bk:=D.nx} σ2 H2):=by
 refine ⟨fun i m σ H=>m=xs.length - i/\i<=xs.length/\Pv i σ H,⟨xs.length,by simp,aa6 _,h0⟩,?_⟩
 rintro i m σ H ⟨rfl,hi,p⟩
 have q:=hl i σ H hi p
 by_cases jm:i < xs.length
 ·have e:xs[i]? =some xs[i]:=gE jm
  refine .inr ⟨⟨xs,_,q,e⟩,Pv (i+1),fun σ' H' z=>⟨xs.length - (i+1),by omega,rfl,by omega,z⟩,fun x H' y=>?_⟩
  obtain ⟨pp,x',y1,rfl,np,rfl⟩:=y
  exact hs i x' σ H pp (y1 xs q) p np
 ·have e:i=xs.length:=by omega
  subst e
  exact .inl ⟨⟨xs,q,aaf _⟩,hd σ H p⟩
theorem iC {d:Addr}{o:Obj}{kvs:γ}{g:TG}{tb:TS}{D:Ends}{σ:L2.St}{H:Hp}(Pv:Nat->L2.St->Hp->Prop)(h0:Pv 0 σ H)(hl:∀i σ H,i<=kvs.length->Pv i σ H->H d=some (.dA o (.dK kvs)))
  (hs:∀i k x σ H p,kvs[i]? =some (k,x)->Pv i σ H->H p=none->g (.ref p) σ (upd H p (.tup [kV k,x])) fun σ2 H2=>tb {D with nx:=Pv (i+1),ct:=Pv (i+1),bk:=D.nx} σ2 H2) (hd:∀σ H,Pv kvs.length σ H->D.nx σ H):
  ∃W:Nat->Nat->L2.St->Hp->Prop,(∃m,W 0 m σ H)/\∀i m σ H,W i m σ H->
   ((O7 d o kvs).stop i H/\D.nx σ H)\/((O7 d o kvs).go i H/\∃N:L2.St->Hp->Prop,(∀σ' H',N σ' H' ->∃m',m' < m/\W (i+1) m' σ' H')/\∀x H',(O7 d o kvs).DR i H x H' ->g x σ H' fun σ2 H2=>tb {D with nx:=N,ct:=N,bk:=D.nx} σ2 H2):=by
 refine ⟨fun i m σ H=>m=kvs.length - i/\i<=kvs.length/\Pv i σ H,⟨kvs.length,by simp,aa6 _,h0⟩,?_⟩
 rintro i m σ H ⟨rfl,hi,p⟩
 have q:=hl i σ H hi p
 by_cases jm:i < kvs.length
 ·refine .inr ⟨⟨q,jm⟩,Pv (i+1),fun σ' H' z=>⟨kvs.length - (i+1),by omega,rfl,by omega,z⟩,fun x H' y=>?_⟩
  obtain ⟨pp,k,x',y1,rfl,np,rfl⟩:=y
  exact hs i k x' σ H pp y1 p np
 ·have e:i=kvs.length:=by omega
  subst e
  exact .inl ⟨⟨q,aaf _⟩,hd σ H p⟩
open Builtin.Int (intBits)
section
variable {X:Cx}
def GL (i j:Int):Prop:=intBits i+intBits j<=134217728
theorem jB:iR X (binaryOp .Mult) (rI GL fun i j=>.int (i*j)):=
 Yr fun _ _ _ _ _ _ _ hc q=>mul_int q (IntMulOk.of_le (aaf _) (aaf _) hc)
theorem ig {a b:Int}{m n:Nat}(h1:a.natAbs<=2^m)(h2:b.natAbs<=2^n)(h:m+n<=134000000):GL a b:=by
 have x1:=iz h1 (aba m)
 have x2:=iz h2 (aba n)
 unfold GL
 omega
inductive Nj (K:Frag)(xs:ζ)(H:Hp)(Q:VK):Prop where
 | mk (p ys:_) (_:xs=[.ref p,.ty "tuple"]) (_:bU K H p ys) (_:Q (.bl true) H):Nj K xs H Q
theorem qV:fg X (.builtin "isinstance") (Nj X.K):=by
 intro pins s σ H xs us Q I r h
 obtain ⟨p,ys,rfl,hq,q⟩:=h
 obtain ⟨u,w,rfl,r1,r2⟩:=vals2 r
 obtain rfl:=yu (c:=.ty "tuple") rfl r2
 cases r1
 obtain ⟨its,rv,⟨o,h1,h2,_⟩,_⟩:=I.tuple hq
 have e:PySem.W.kitOne X.K (.type "tuple") (OM (.ty "tuple"))=some true:=by unfold PySem.W.kitOne;rw [if_pos (by decide)]
 exact PySem.W.kia_one PySem.W.kitx_tuple I.iZ ⟨o,h1,h2⟩ e (fun z=>nomatch z) fun tk=>⟨.bl true,H,I.tok tk,rfl,q⟩
end
theorem au.bN {K:Frag}{H H' :Hp}{a:Addr}{xs:ζ}(e:au H H')(h:bU K H a xs):bU K H' a xs:=by
 rcases h with (h | ⟨o,h⟩) | h
 ·exact .inl (.inl (e _ _ h))
 ·exact .inl (.inr ⟨o,e _ _ h⟩)
 ·exact .inr h
section
variable {D:Addr}{te:TE}{cap:L2.St}{H1:Hp}{Q:VK}
end
def mw (K:Frag)(H:Hp)(v:V)(q:Int×Int):Prop:=∃p,v=.ref p/\bU K H p [.int q.1,.int q.2]
theorem mw.same {K:Frag}{H H' :Hp}{v:V}{q:Int×Int}(h:mw K H v q)(s:au H H'):mw K H' v q:=by
 obtain ⟨p,e,k⟩:=h
 exact ⟨p,e,Ty.au.bN s k⟩
def du (K:Frag)(H:Hp)(us:ζ)(qs:ς):Prop:=us.length=qs.length/\∀(i:Nat) (u:V) (q:Int×Int),us[i]? =some u->qs[i]? =some q->mw K H u q
theorem du.same {K:Frag}{H H' :Hp}{us:ζ}{qs:ς}(h:du K H us qs)(s:au H H'):du K H' us qs:=⟨h.1,fun i u q e1 e2=>(h.2 i u q e1 e2).same s⟩
theorem du.set {K:Frag}{H:Hp}{us:ζ}{qs:ς}{j:Nat}{v:V}{q:Int×Int}(h:du K H us qs)(n:mw K H v q):du K H (us.set j v) (qs.set j q):=by
 refine ⟨by simp [h.1],fun i u q' e1 e2=>?_⟩
 rw [abj] at e1 e2
 by_cases c:j=i
 ·subst c
  rw [if_pos rfl] at e1 e2
  have l:=h.1
  by_cases hj:j < us.length
  ·rw [if_pos hj] at e1
   rw [if_pos (by omega)] at e2
   cases e1
   cases e2
   exact n
  ·rw [if_neg hj] at e1
   cases e1
 ·rw [if_neg c] at e1 e2
  exact h.2 i u q' e1 e2
def aaa (K:Frag)(H:Hp)(a:Addr)(qs:ς):Prop:=∃us,a8 K H a us/\du K H us qs
def sumTo:Nat->(Nat->Rat)->Rat
 | 0,_=>0
 | n+1,f=>f 0+sumTo n (fun i=>f (i+1))
theorem qW (c:Rat):∀(n:Nat) (f:Nat->Rat),sumTo n (fun i=>c*f i)=c*sumTo n f
 | 0,_=>by simp [sumTo]
 | n+1,f=>by
  simp only [sumTo]
  rw [qW c n (fun i=>f (i+1))]
  grind
theorem oy:∀(n:Nat) (f:Nat->Rat),(∀i,f i=0)->sumTo n f=0
 | 0,_,_=>rfl
 | n+1,f,h=>by
  simp only [sumTo]
  rw [h 0,oy n (fun i=>f (i+1)) (fun i=>h (i+1))]
  grind
theorem uZ:∀(n:Nat) (l:ξ) (z:Nat->Rat),l.length<=n->ev l z=sumTo n (fun j=>((l.getD j 0:Int):Rat)*z j)
 | n,[],z,_=>by
  rw [oy n _ (fun i=>by simp)]
  rfl
 | 0,_::_,_,h=>by simp at h
 | n+1,a::r,z,h=>by
  simp only [ev,sumTo]
  rw [uZ n r (fun i=>z (i+1)) (by simpa using h)]
  simp
theorem Pa {H:Hp}{d:Addr}{o:HO}(e:H d=some o):upd H d o=H:=by
 funext b
 by_cases z:b=d
 ·subst z
  rw [ak,e]
 ·rw [ao z]
section
variable {X:Cx}
def KU (te:TE):TI:=fun σ H R=>te σ H fun x H1=>∃d kvs,x=.ref d/\Rd H1 d (.dK kvs)/\∀o,R (O7 d o kvs) (upd H1 d (.dA o (.dK kvs)))
theorem AA {e:Expr}{te:TE}{apos cw:Pos}{es:ψ}{k:Nat}{rN:Pos}(ho:PE X e te)(h_:attributeBase e "items" X.env (eval e X.env)=eval e X.env:=by rfl)(ia:(apos.endLine==cw.line)=true:=by rfl):
  PI X (.Tuple es k rN) (.Call (.Attribute e "items" apos) [] [] cw) (KU te):=by
 intro pins s σ H R I h
 refine wpAny_Call_method0_late h_ ia (bZ (ho pins s σ H _ I h) fun v s1 ⟨x,H1,I1,r1,q1⟩=>?_)
 obtain ⟨d,kvs,rfl,e,q⟩:=q1
 cases r1
 obtain ⟨z,hd,vs,rel,o,KR,ep,v8,hx,fV,hk,hp,hn⟩:=iT I1.bK e
 have da:s1.heap.DictAt (bo X.prog X.w) d vs ep:=⟨o,KR,v8,hx,fV,hk,hp,hn⟩
 have h1:s1.TypeIs (.ref d) "dict":=da.dictOf.typeIs
 have h2:∀a,Value.ref d=.ref a->∃ob,s1.heap.get? a=some ob/\ob.dict=none:=fun a z=>by
  cases z
  exact ⟨o,v8,hx.2.1⟩
 have lv:=rel.length
 refine ⟨"dict","dict.items",F.plainAttrs_dict,F.slot_dict_items,F.type_dict_items,h1,h2,Calls.callWith_builtin rfl (PySem.evalArgs_none ?_)⟩
 refine call_meetsIn F.slot_dict_items h1 F.entry_dict_items (F.args_dict_items_1 _) (meets_dict_items (bo X.prog X.w) d hd) ⟨⟨vs,da.dictOf⟩,?_⟩
 have I2:Inv X pins σ (upd H1 d (.dA o (.dK kvs))) s1:=by
  rcases e with e | ⟨o',e⟩
  ·exact Inv.freeze I1 e v8
  ·have g:=(I1.bK d _ e).1
   rw [v8] at g
   cases g
   rw [Pa e]
   exact I1
 have O9:(s1.heap.push {cls:=.type "dict_items",data:=.fields #[.ref d]}).DictAt (bo X.prog X.w) d vs ep:=da.at' fun o e=>Heap.get?_push_of_some _ e
 show wpAny (model X.prog X.w) X.A (pyIter (.ref s1.heap.objs.size)) _ _ _
 refine wpAny_pyIter_items (s:={s1 with heap:=s1.heap.push {cls:=.type "dict_items",data:=.fields #[.ref d]}}) ⟨_,Heap.get?_push_size _ rfl,rfl,rfl⟩ O9 ?_
 have sz:(s1.heap.push {cls:=.type "dict_items",data:=.fields #[.ref d]}).objs.size=s1.heap.objs.size+1:=Heap.size_push ..
 have ne:(s1.heap.push {cls:=.type "dict_items",data:=.fields #[.ref d]}).objs.size≠d:=by
  rw [sz]
  exact aaW (aa1 (ab1 (Heap.lt_size v8)))
 have I3:Inv X pins σ (upd H1 d (.dA o (.dK kvs))) {s1 with heap:=(s1.heap.push {cls:=.type "dict_items",data:=.fields #[.ref d]}).push {cls:=.type "dict_itemiterator",data:=.fields #[.none,.bool false,.ref d,.int 0 0,.int vs.length 0,.int ep 0,.none,.none]}}:=I2.kept (t' :=s1.toks) fun b o e=>Heap.get?_push_of_some _ (Heap.get?_push_of_some _ e)
 refine ⟨_,[_],_,_,_,rfl,I3,oq d _ o kvs fV ne,⟨_,_,by rw [lv];exact Heap.get?_push_size _ rfl⟩,fun b hb=>?_,q o⟩
 have eb:b=(s1.heap.push {cls:=.type "dict_items",data:=.fields #[.ref d]}).objs.size:=by simpa using hb
 have le:s1.heap.objs.size<=b:=by rw [eb,sz];exact ah8 _
 exact I2.j7 le (I2.bK.fresh le)
end
section
variable {D:Addr}{te:TE}{cap:L2.St}{H1:Hp}{Q:VK}
end
section
variable {X:Cx}
inductive Nk (xs:ζ)(H:Hp)(Q:VK):Prop where
 | mk (p:Addr) (kvs:γ) (_:xs=[.ref p]) (_:Rd H p (.dK kvs)) (_:Q (.int (kvs.length:Int)) H):Nk xs H Q
theorem qX:fg X (.builtin "len") Nk:=by
 intro pins s σ H xs us Q I r h
 obtain ⟨p,kvs,rfl,hq,q⟩:=h
 obtain ⟨u,rfl,r1⟩:=vals1 r
 cases r1
 exact SI I hq fun t s' I' =>⟨.int _,H,I',⟨t,rfl⟩,q⟩
end
section
variable {D:Addr}{te:TE}{cap:L2.St}{H1:Hp}{Q:VK}
end
section
variable {X:Cx}
theorem Inv.SX {pins:ε}{σ:L2.St}{H:Hp}{s:Shared}{d:Addr}{u:HO}{o:Obj}(I:Inv X pins σ H s)(e:H d=some (.dA o u))(n:∀o' u',X.H₀ d≠some (.dA o' u'))(nt:∀xs,u≠.tup xs):Inv X pins σ (upd H d u) s:=by
 have nx:∀b u',H b=some u' ->b≠d->upd H d u b=some u' :=fun b u q n=>by rw [ao n];exact q
 have nn:∀b,H b=none->upd H d u b=none:=fun b q=>by rw [ao (fun z=>by rw [z,e] at q;cases q)];exact q
 refine ⟨I.ok,I.os,I.bare,⟨I.base.keep,I.base.slot,fun b ob q z hx=>nn b (I.base.free b ob q z hx),I.base.there,fun b xs q=>?_,fun b ob u' q=>?_,fun b ps q=>?_⟩,I.loc,I.cell,nn _ I.free,fun x c q=>nn _ (I.gX x c q),fun p hp=>?_,?_,I.len⟩
 ·have z:=I.base.pS b xs q
  exact nx b _ z fun y=>by rw [y,e] at z;cases z
 ·have z:=I.base.m_ b ob u' q
  exact nx b _ z fun y=>by rw [y] at q;exact n _ _ q
 ·obtain ⟨m,z⟩:=I.base.pT b ps q
  exact ⟨m,nx b _ z fun y=>by rw [y,e] at z;cases z⟩
 ·obtain ⟨a1,a2,a3⟩:=I.pin p hp
  exact ⟨a1,nn _ a2,a3⟩
 ·have st:∀{b u'},cE X.prog X.w H s.heap b u' ->cE X.prog X.w (upd H d u) s.heap b u' :=fun {b u'} k=>k.pR (fun _ _ _ z=>z) (fun c z=>nx c _ z fun y=>by rw [y,e] at z;cases z) fun c xs z=>nx c _ z fun y=>by rw [y,e] at z;cases z
  intro b u' q
  by_cases hb:b=d
  ·subst hb
   rw [ak] at q
   cases q
   exact st (I.bK b _ e).2
  ·rw [ao hb] at q
   exact st (I.bK b u' q)
def SY (H0:Hp)(t:TS):TS:=fun D σ H=>t {D with nx:=fun σ' H' =>∃d o kvs,H' d=some (.dA o (.dK kvs))/\(∀o' u',H0 d≠some (.dA o' u'))/\D.nx σ' (upd H' d (.dK kvs))} σ H
theorem jC {st:Stmt}{t:TS}(h:PS X st t):PS X st (SY X.H₀ t):=by
 intro pins s σ H D I q
 refine wpAny_mono (h pins s σ H _ I q) (fun f s' z=>?_) fun _ _ z=>z
 cases f with
 | next=>
  obtain ⟨σ',H',I',d,o,kvs,e,n,k⟩:=z
  exact ⟨σ',_,Inv.SX I' e n (fun _ z=>nomatch z),k⟩
 | brk=>exact z
 | cont=>exact z
 | ret u=>exact z
def S0 (d:Addr)(o:Obj)(kvs:γ):It:=
 ⟨fun i H=>H d=some (.dA o (.dK kvs))/\i < kvs.length,
  fun i H v H' =>H' =H/\∃k x,kvs[i]? =some (k,x)/\v=kV k,
  fun i H=>H d=some (.dA o (.dK kvs))/\kvs.length<=i⟩
theorem AB {P:Program}{w:World}{K:Frag}{tg:Expr}(d it:Addr)(o:Obj)(kvs:γ){Q3:Array DictEntry}{ep:Nat}(he:o.data=.dict Q3 ep):
  Turn P w K tg (S0 d o kvs) [it] it (fun i h=>h.IsKeyIter it d i kvs.length ep) where
 mem:=by simp
 obj:=fun i h st b hb=>by
  have e:b=it:=by simpa using hb
  subst e
  obtain ⟨o,e,c,d⟩:=st
  exact ⟨o,e,fun v z=>by rw [d] at z;cases z⟩
 keep:=fun i h h' st k=>st.at fun o e=>k it (by simp) o e
 item:=by
  intro X hP hw hK hc i pins s σ H E I hf st hg
  subst hP hw hK
  obtain ⟨fz,hi⟩:=hg
  obtain ⟨hd,vs,rel,da,_⟩:=se I.bK fz he
  have ek:kvs[i]? =some kvs[i]:=gE hi
  obtain ⟨⟨k',u⟩,ev,e1,ru⟩:=av rel ek
  have lv:=rel.length
  rw [lv] at st
  obtain ⟨f0,f1,f2,f3,f4,f5⟩:=hf it (by simp)
  refine wpAny_pyNext_dict_item st da ev fun key h' EK yh sb=>?_
  have I1:Inv X pins σ H {s with heap:=h' }:=I.turned (t' :=s.toks) (fun b o hb e=>(sb.2 b hb).trans e) f0 f1 f3 f4 f5
  rw [<- lv] at yh
  obtain ⟨o',e',c',d'⟩:=id yh
  have zQ :kvs[i].1=k' :=e1
  exact ⟨key,rfl,yg (s:={s with heap:=h' }) e' c' d' (by decide) ⟨kV kvs[i].1,H,I1,by rw [zQ];exact mV EK,⟨rfl,kvs[i].1,kvs[i].2,ek,rfl⟩,yh,fun b hb=>(hf b hb).1⟩⟩
 done:=by
  intro X hP hw hK hc i pins s σ H E I hf st hg
  subst hP hw hK
  obtain ⟨fz,hi⟩:=hg
  obtain ⟨hd,vs,rel,da,_⟩:=se I.bK fz he
  have lv:=rel.length
  rw [lv] at st
  obtain ⟨f0,f1,f2,f3,f4,f5⟩:=hf it (by simp)
  exact wpAny_pyNext_dict_end (I.ok.hd hc) st da (aaj (by omega)) fun h' eb=>⟨rfl,I.turned (t' :=s.toks) (fun b o hb e=>eb b o hb e) f0 f1 f3 f4 f5⟩
 self:=fun _ _ _ _ _ st h=>wpAny_pyIter_keyiter st h
inductive GN (R:(It->Hp->Prop))(x:V)(H1:Hp):Prop where
 | mk (d kvs:_) (_:x=.ref d) (_:H1 d=some (.dK kvs)) (_:∀o,R (S0 d o kvs) (upd H1 d (.dA o (.dK kvs)))):GN R x H1
def S1 (te:TE):TI:=fun σ H R=>te σ H fun x H1=>GN R x H1
theorem KW {e:Expr}{te:TE}{tg:Expr}(ho:PE X e te):PI X tg e (S1 te):=by
 intro pins s σ H R I h
 refine bZ (ho pins s σ H _ I h) fun v s1 ⟨x,H1,I1,r1,q1⟩=>?_
 obtain ⟨d,kvs,rfl,e,q⟩:=q1
 cases r1
 obtain ⟨z,hd,vs,rel,o,KR,ep,v8,hx,fV,hk,hp,hn⟩:=iU I1.bK e
 have da:s1.heap.DictAt (bo X.prog X.w) d vs ep:=⟨o,KR,v8,hx,fV,hk,hp,hn⟩
 have lv:=rel.length
 have I2:=Inv.freeze I1 e v8
 refine wpAny_pyIter_dict hd da ?_
 have I3:Inv X pins σ (upd H1 d (.dA o (.dK kvs))) {s1 with heap:=s1.heap.push {cls:=.type "dict_keyiterator",data:=.fields #[.ref d,.int 0 0,.int vs.length 0,.int ep 0]}}:=I2.kept (t' :=s1.toks) fun b o e=>Heap.get?_push_of_some _ e
 refine ⟨s1.heap.objs.size,[s1.heap.objs.size],_,_,_,rfl,I3,AB d _ o kvs fV,(show Heap.IsKeyIter _ _ d 0 kvs.length ep from ⟨_,Heap.get?_push_size _ rfl,rfl,by rw [lv];rfl⟩),fun b hb=>?_,q o⟩
 have eb:b=s1.heap.objs.size:=by simpa using hb
 have le:s1.heap.objs.size<=b:=by rw [eb];exact aaf _
 exact I2.j7 le (I2.bK.fresh le)
theorem GO {d:Addr}{o:Obj}{kvs:γ}{g:TG}{tb:TS}{D:Ends}{σ:L2.St}{H:Hp}(Pv:Nat->L2.St->Hp->Prop)(h0:Pv 0 σ H)(hl:∀i σ H,i<=kvs.length->Pv i σ H->H d=some (.dA o (.dK kvs)))
  (hs:∀i k x σ H,kvs[i]? =some (k,x)->Pv i σ H->g (kV k) σ H fun σ2 H2=>tb {D with nx:=Pv (i+1),ct:=Pv (i+1),bk:=D.nx} σ2 H2) (hd:∀σ H,Pv kvs.length σ H->D.nx σ H):
  ∃W:Nat->Nat->L2.St->Hp->Prop,(∃m,W 0 m σ H)/\∀i m σ H,W i m σ H->
   ((S0 d o kvs).stop i H/\D.nx σ H)\/((S0 d o kvs).go i H/\∃N:L2.St->Hp->Prop,(∀σ' H',N σ' H' ->∃m',m' < m/\W (i+1) m' σ' H')/\∀x H',(S0 d o kvs).DR i H x H' ->g x σ H' fun σ2 H2=>tb {D with nx:=N,ct:=N,bk:=D.nx} σ2 H2):=by
 refine ⟨fun i m σ H=>m=kvs.length - i/\i<=kvs.length/\Pv i σ H,⟨kvs.length,by simp,aa6 _,h0⟩,?_⟩
 rintro i m σ H ⟨rfl,hi,p⟩
 have q:=hl i σ H hi p
 by_cases jm:i < kvs.length
 ·refine .inr ⟨⟨q,jm⟩,Pv (i+1),fun σ' H' z=>⟨kvs.length - (i+1),by omega,rfl,by omega,z⟩,fun x H' y=>?_⟩
  obtain ⟨rfl,k,x',ek,rfl⟩:=y
  exact hs i k x' σ _ ek p
 ·have e:i=kvs.length:=by omega
  subst e
  exact .inl ⟨⟨q,aaf _⟩,hd σ H p⟩
end
section
variable {prog:Program}{w:World}{KK:Type}[DecidableEq KK]{knd:KeyKind prog w KK}{A:Around}{E:δ}{s:Shared}
open MeetsSeq MeetsSeq2 MeetsSeq3 SeqRoads2 in
open MeetsSeq MeetsSeq2 MeetsSeq3 SeqRoads2 in
end
section
variable {X:Cx}
end
structure Pb (K:Frag)(x qual:Str)(st:Stmt)(f:Addr)(fd:FuncData):Prop where
 ex:∃(dV oc:Value) (od:Θ) (kV doc pm:Value) (an:Θ) (bM ct:Value) (pJ:Κ),
  fd=fnOf x qual (ay st) (aw st) (ag st) dV kV doc pm an bM ct/\K.lookup f=some ⟨oc,od,.func fd,pJ⟩/\codeIn K bM qual=true
 kp:keepIn K (.ref f)=true
section
variable {P:Program}{w:World}{K:Frag}{mg:ι}{base:Heap}{CX:j6}
theorem KY {x qual:Str}{st:Stmt}{f:Addr}{dV oc:Value}{od an:Θ}{pJ:Κ}{kV doc pm bM ct:Value}(l:K.lookup f=some ⟨oc,od,.func (fnOf x qual (ay st) (aw st) (ag st) dV kV doc pm an bM ct),pJ⟩)
  (c:codeIn K bM qual=true) (k:keepIn K (.ref f)=true):Pb K x qual st f (fnOf x qual (ay st) (aw st) (ag st) dV kV doc pm an bM ct):=⟨⟨dV,oc,od,kV,doc,pm,an,bM,ct,pJ,rfl,l,c⟩,k⟩
theorem cZ {name qual:Str}{st:Stmt}{f:Addr}{fd:FuncData}{N ps:ρ}{k:Nat}{sp:Sp}(F:mO K name qual st f fd)(S:aF N ps (ag st))(len:∀vs H Q E,sp vs H Q E->vs.length=ps.length)
  (js:∀(bM:Value) (A:Around) (outer:List Env) (s:Shared) (H:Hp) (vs:ζ) (Q:VK) (E:XK),cD k (A.deeper (envOfC qual (ag st) s.heap.objs.size f bM))->sp vs H Q E->
   ∃t,PSs (cxr P w K mg base N qual (ag st) f bM A outer s H E).yf (aw st) t/\t {nx:=fun _ H' =>Q .cB H',rt:=Q} (start N vs) H):cI P w K mg base (bg P w) (k+1) f fd ps sp:=by
 obtain ⟨oc,od,kV,doc,pm,an,bM,ct,pJ,rfl,lk,pU⟩:=F.ex
 exact yn lk pU S len fun A outer s H vs Q E hr pZ=>by
  obtain ⟨t,h,q⟩:=js bM A outer s H vs Q E hr pZ
  exact ⟨t,h.yf,q⟩
theorem GP {name qual:Str}{st:Stmt}{f:Addr}{fd:FuncData}{N ps:ρ}{k:Nat}{sp:Sp}(F:Pb K name qual st f fd)(S:aF N ps (ag st))(len:∀vs H Q E,sp vs H Q E->vs.length=ps.length)
  (js:∀(bM:Value) (A:Around) (outer:List Env) (s:Shared) (H:Hp) (vs:ζ) (Q:VK) (E:XK),cD k (A.deeper (envOfC qual (ag st) s.heap.objs.size f bM))->sp vs H Q E->
   ∃t,PSs (cxr P w K mg base N qual (ag st) f bM A outer s H E).yf (aw st) t/\t {nx:=fun _ H' =>Q .cB H',rt:=Q} (start N vs) H):cI P w K mg base (bg P w) (k+1) f fd ps sp:=by
 obtain ⟨dV,oc,od,kV,doc,pm,an,bM,ct,pJ,rfl,lk,pU⟩:=F.ex
 exact yn lk pU S len fun A outer s H vs Q E hr pZ=>by
  obtain ⟨t,h,q⟩:=js bM A outer s H vs Q E hr pZ
  exact ⟨t,h.yf,q⟩
end
structure sj (P:Program)(w:World)(K:Frag)(mg:ι)(base:Heap)(CX:j6)(k:Nat)(C:Addr)(m:Str)(ps:ρ)(ds:ο)(sp:Sp):Prop where
 ex:∃(f:Addr) (fd:FuncData),uq K C/\Meth K C m f/\cI P w K mg base CX k f fd ps sp/\Binds K fd ps ds
section
variable {X:Cx}{CX:j6}{k:Nat}{E:XK}{m:Str}{pos apos:Pos}{e o:Expr}{es:ψ}{ta:TE}{t:TA}
inductive GQ (P:Program)(w:World)(K:Frag)(mg:ι)(base:Heap)(CX:j6)(k:Nat)(m:Str)(E:XK)(t:TA)(σ:L2.St)(Q:VK)(x:V)(H1:Hp):Prop where
 | mk (a C dx fs ps sp:_) (_:x=.ref a) (_:H1 a=some (.ins C dx fs)) (_:fs.lookup m=none) (_:sj P w K mg base CX k C m ps [.none] sp) (_:t σ H1 fun vs H2=>sp (x::vs++[.cB]) H2 Q E):GQ P w K mg base CX k m E t σ Q x H1
def S2 (P:Program)(w:World)(K:Frag)(mg:ι)(base:Heap)(CX:j6)(k:Nat)(m:Str)(E:XK)(ta:TE)(t:TA):TE:=fun σ H Q=>ta σ H fun x H1=>GQ P w K mg base CX k m E t σ Q x H1
theorem yD {pl:Sem Bool}(he:PE X o ta)(hr:cD k X.A)(hx:Passes CX X E)(ha:PA X (e::es) t)
  (Kh:starEach (e::es) X.env=(false,eval e X.env)::starEach es X.env:=by rfl) (yl:(backTo pos (starEach es X.env)).any (·.1)=false:=by rfl)
  (ht:eval (.Call (.Attribute o m apos) (e::es) [] pos) X.env=(do
   let ov <- eval o X.env
   standAt apos.atName
   let (f,first) <- holding [ov] (getMethod ov m pl)
   callWith pos f first (backTo pos (starEach (e::es) X.env)) (backToKw pos (keywordEach [] X.env))):=by rfl):
  PE X (.Call (.Attribute o m apos) (e::es) [] pos) (S2 X.prog X.w X.K X.mg X.base CX k m E ta t):=by
 intro pins s σ H Q I h
 refine PySem.W.methodCall_KW (pl:=pl) (bZ (he pins s σ H _ I h) fun u s1 ⟨x,H1,I1,rx,a,C,dx,fs,ps,sp,ex,ea,l,M,q⟩=>?_) ht
 subst ex
 obtain rfl:u=Value.ref a:=rx
 obtain ⟨f,fd,c,hm,F,hb⟩:=M.ex
 refine i6 I1 ea c hm l ?_
 refine PySem.W.callWith_K (first:=[.ref a]) (h₀:=X.base) I.ok.mod.QR hm.kp (bZ (ha pos pins s1 σ H1 _ I1 q) fun us s2 ⟨vs,H2,I2,r,q2⟩=>⟨I2.iZ,?_⟩) Kh yl
 exact rP (us:=.ref a::us) (vs:=.ref a::vs) (dvs:=[.cB]) F hr hb (.cons rfl .nil) hx I2 (.cons rfl r) q2
end
theorem u0 {κ:Type}[DecidableEq κ]{k:κ}{v:V}:∀{kvs:List (κ×V)},bR kvs k=some v->(k,v)∈kvs
 | p::r,h=>by
  by_cases e:p.1=k
  ·rw [bQ e] at h
   cases h
   subst e
   exact aap ..
  ·rw [bF e] at h
   exact aae _ (u0 h)
theorem dh {κ:Type}[DecidableEq κ]{k:κ}:∀{kvs:List (κ×V)},k∉kvs.map (·.1)->bR kvs k=none
 | [],_=>rfl
 | p::r,h=>by
  rw [aal,aaN,not_or] at h
  rw [bF (fun e=>h.1 e.symm)]
  exact dh h.2
theorem eI {κ:Type}[DecidableEq κ]{k:κ}:∀{kvs:List (κ×V)},k∈kvs.map (·.1)->∃v,bR kvs k=some v
 | p::r,h=>by
  by_cases e:p.1=k
  ·exact ⟨_,bQ e⟩
  ·rw [bF e]
   rw [aal,aaN] at h
   rcases h with h | h
   ·exact absurd h.symm e
   ·exact eI h
theorem GS {k n:Nat}(h:k < n):seqIndex? (k:Int) n=some k:=by
 unfold seqIndex?
 simp [h]
 omega
structure AD (K:Frag)(C:Addr):Prop where
 cls:uq K C
 pl:fq K C "pin_places"
 wy:fq K C "pin_ways"
 br:fq K C "bar_ends"
abbrev frF (pP pW pB:Addr):List (Str×V):=[("pin_places",.ref pP),("pin_ways",.ref pW),("bar_ends",.ref pB)]
abbrev Pt:=(Int×Int)×(Int×Int)
abbrev _root_.Ε:=List (Str×Pt)
abbrev eD (p:Pt):List Da:=[.t [.v (.int p.1.1),.v (.int p.1.2)],.t [.v (.int p.2.1),.v (.int p.2.2)]]
def aY (H H' :Hp):Prop:=∀b xs,Rd H b (.tup xs)->Rd H' b (.tup xs)
theorem aY.of {H H' :Hp}(s:au H H'):aY H H' :=fun b xs e=>by
 rcases e with e | ⟨o,e⟩
 ·exact .inl (s _ _ e)
 ·exact .inr ⟨o,s _ _ e⟩
theorem aY.trans {H H1 H2:Hp}(a:aY H H1)(b:aY H1 H2):aY H H2:=fun c xs e=>b c xs (a c xs e)
theorem aY.dict {H:Hp}{d:Addr}{kvs:γ}{o:HO}(e:H d=some (.dK kvs)):aY H (upd H d o):=fun b xs r=>by
 rcases r with r | ⟨o,r⟩
 ·exact .inl (by rw [ao (fun z=>by rw [z,e] at r;cases r)];exact r)
 ·exact .inr ⟨o,by rw [ao (fun z=>by rw [z,e] at r;cases r)];exact r⟩
theorem aY.list {H:Hp}{d:Addr}{xs:ζ}{o:HO}(e:H d=some (.lst xs)):aY H (upd H d o):=fun b xs r=>by
 rcases r with r | ⟨o,r⟩
 ·exact .inl (by rw [ao (fun z=>by rw [z,e] at r;cases r)];exact r)
 ·exact .inr ⟨o,by rw [ao (fun z=>by rw [z,e] at r;cases r)];exact r⟩
theorem aY.bN {K:Frag}{H H' :Hp}(s:aY H H'){p:Addr}{xs:ζ}(q:bU K H p xs):bU K H' p xs:=by
 rcases q with q | q
 ·exact .inl (s _ _ q)
 ·exact .inr q
theorem mw.aU {K:Frag}{H H' :Hp}{v:V}{q:Int×Int}(h:mw K H v q)(s:aY H H'):mw K H' v q:=by
 obtain ⟨p,e,k⟩:=h
 exact ⟨p,e,s.bN k⟩
def Spot (K:Frag)(H:Hp)(v:V)(p:Pt):Prop:=∃a u1 u2,v=.ref a/\bU K H a [u1,u2]/\mw K H u1 p.1/\mw K H u2 p.2
theorem Spot.aU {K:Frag}{H H' :Hp}{v:V}{p:Pt}(h:Spot K H v p)(s:aY H H'):Spot K H' v p:=by
 obtain ⟨a,u1,u2,e,h1,h2,h3⟩:=h
 exact ⟨a,u1,u2,e,s.bN h1,h2.aU s,h3.aU s⟩
theorem mW {K:Frag}{H:Hp}{v:V}{q:Int×Int}(h:mw K H v q):Is K H (.t [.v (.int q.1),.v (.int q.2)]) v:=by
 obtain ⟨p,rfl,e⟩:=h
 unfold Is
 refine ⟨p,_,rfl,e,?_⟩
 unfold eA
 refine ⟨by unfold Is;exact ⟨rfl,rfl⟩,?_⟩
 unfold eA
 refine ⟨by unfold Is;exact ⟨rfl,rfl⟩,?_⟩
 unfold eA
 trivial
theorem Spot.is {K:Frag}{H:Hp}{v:V}{p:Pt}(h:Spot K H v p):Is K H (.t (eD p)) v:=by
 obtain ⟨a,u1,u2,rfl,h1,h2,h3⟩:=h
 unfold Is
 refine ⟨a,_,rfl,h1,?_⟩
 unfold eA
 refine ⟨mW h2,?_⟩
 unfold eA
 refine ⟨mW h3,?_⟩
 unfold eA
 trivial
theorem u3 (p q:Pt):cW (eD p) (eD q)=decide (p=q):=by
 have e:cW (eD p) (eD q)=((p.1.1==q.1.1 && (p.1.2==q.1.2 && true)) && ((p.2.1==q.2.1 && (p.2.2==q.2.2 && true)) && true)):=by
  simp only [eD,cW,gf,mj]
 rw [e]
 obtain ⟨⟨a,b⟩,c,d⟩:=p
 obtain ⟨⟨a',b'⟩,c',d'⟩:=q
 by_cases h:a=a' <;> by_cases h1:b=b' <;> by_cases h2:c=c' <;> by_cases h3:d=d' <;> simp [h,h1,h2,h3,Prod.mk.injEq]
theorem lS (p q:Pt):dc (eD p) (eD q)=true:=by simp [eD,dc,alike]
theorem qY (p:Pt):dH (eD p)<=60:=by simp [eD,dH,dep]
structure dZ (K:Frag)(H:Hp)(C a dx pP pW pB:Addr)(ps:Ε)(bs:υ)(kP kW kB:γ):Prop where
 obj:H a=some (.ins C dx (frF pP pW pB))
 pl:H pP=some (.dK kP)
 wy:H pW=some (.dK kW)
 br:H pB=some (.dK kB)
 ne1:pP≠pW
 ne2:pP≠pB
 ne3:pW≠pB
 rp:Paired (fun (p:Str×Pt) (kv:Key×V)=>kv.1=.inr p.1/\Spot K H kv.2 p.2) ps kP
 rb:Paired (fun (b:Str×Str×Str) (kv:Key×V)=>kv.1=.inr b.1/\∃p,kv.2=.ref p/\Rd H p (.tup [.str b.2.1,.str b.2.2])) bs kB
section
variable {K:Frag}{H H' :Hp}{C a dx pP pW pB:Addr}{ps:Ε}{bs:υ}{kP kW kB:γ}
theorem eT {α:Type}{R:(Str×α)->(Key×V)->Prop}:∀{l:List (Str×α)} {kvs:γ},Paired (fun b kv=>kv.1=.inr b.1/\R b kv) l kvs->kvs.map (·.1)=l.map (fun b=>(abc b.1:Key))
 | _,_,.nil=>rfl
 | _,_,.cons h t=>by rw [aal,aal,h.1,eT t]
theorem d0 {l:ρ}{x:Str}:(abc x:Key)∈l.map (fun b=>(abc b:Key)) ↔ x∈l:=by
 constructor
 ·intro h
  obtain ⟨y,hy,e⟩:=aad.mp h
  exact abx e▸hy
 ·exact fun h=>aad.mpr ⟨x,h,rfl⟩
theorem dZ.bY (R:dZ K H C a dx pP pW pB ps bs kP kW kB)(s:aY H H')(h1:H' a=H a)(h2:H' pP=H pP)(h3:H' pW=H pW)(h4:H' pB=H pB):dZ K H' C a dx pP pW pB ps bs kP kW kB:=
 ⟨h1.trans R.obj,h2.trans R.pl,h3.trans R.wy,h4.trans R.br,R.ne1,R.ne2,R.ne3,Paired.bJ R.rp fun _ _ h=>⟨h.1,h.2.aU s⟩,Paired.bJ R.rb fun _ _ h=>⟨h.1,by obtain ⟨p,e,k⟩:=h.2;exact ⟨p,e,s _ _ k⟩⟩⟩
theorem dZ.same (R:dZ K H C a dx pP pW pB ps bs kP kW kB)(s:au H H'):dZ K H' C a dx pP pW pB ps bs kP kW kB:=
 R.bY (.of s) ((s _ _ R.obj).trans R.obj.symm) ((s _ _ R.pl).trans R.pl.symm) ((s _ _ R.wy).trans R.wy.symm) ((s _ _ R.br).trans R.br.symm)
theorem dZ.lW (R:dZ K H C a dx pP pW pB ps bs kP kW kB):kB.map (·.1)=(bs.map (·.1)).map (fun b=>(abc b:Key)):=by
 rw [eT R.rb,aaE]
 rfl
theorem dZ.u4 (R:dZ K H C a dx pP pW pB ps bs kP kW kB):kP.map (·.1)=(ps.map (·.1)).map (fun b=>(abc b:Key)):=by
 rw [eT R.rp,aaE]
 rfl
theorem dZ.bar (R:dZ K H C a dx pP pW pB ps bs kP kW kB)(x:Str):(bR kB (.inr x)).isSome=decide (x∈bs.map (·.1)):=by
 by_cases h:x∈bs.map (·.1)
 ·obtain ⟨v,e⟩:=eI (kvs:=kB) (k:=.inr x) (by rw [R.lW];exact d0.mpr h)
  rw [e,decide_eq_true h]
  rfl
 ·rw [dh (by rw [R.lW];exact fun z=>h (d0.mp z)),decide_eq_false h]
  rfl
theorem dZ.pin (R:dZ K H C a dx pP pW pB ps bs kP kW kB)(x:Str):(bR kP (.inr x)).isSome=decide (x∈ps.map (·.1)):=by
 by_cases h:x∈ps.map (·.1)
 ·obtain ⟨v,e⟩:=eI (kvs:=kP) (k:=.inr x) (by rw [R.u4];exact d0.mpr h)
  rw [e,decide_eq_true h]
  rfl
 ·rw [dh (by rw [R.u4];exact fun z=>h (d0.mp z)),decide_eq_false h]
  rfl
theorem dZ.ab (R:dZ K H C a dx pP pW pB ps bs kP kW kB):a≠pP/\a≠pW/\a≠pB:=
 ⟨fun z=>(by have h:=R.obj;rw [z,R.pl] at h;cases h),fun z=>(by have h:=R.obj;rw [z,R.wy] at h;cases h),fun z=>(by have h:=R.obj;rw [z,R.br] at h;cases h)⟩
theorem dZ.Pc (R:dZ K H C a dx pP pW pB ps bs kP kW kB){x one other:Str}{t:Addr}(ht:Rd H t (.tup [.str one,.str other])):
  dZ K (upd H pB (.dK (kB++[(.inr x,.ref t)]))) C a dx pP pW pB ps (bs++[(x,one,other)]) kP kW (kB++[(.inr x,.ref t)]):=by
 have s:aY H (upd H pB (.dK (kB++[(.inr x,.ref t)]))):=.dict R.br
 exact ⟨by rw [ao R.ab.2.2];exact R.obj,by rw [ao R.ne2];exact R.pl,by rw [ao R.ne3];exact R.wy,ak,R.ne1,R.ne2,R.ne3,Paired.bJ R.rp fun _ _ h=>⟨h.1,h.2.aU s⟩,
  Paired.snoc (Paired.bJ R.rb fun _ _ h=>⟨h.1,by obtain ⟨p,e,k⟩:=h.2;exact ⟨p,e,s _ _ k⟩⟩) ⟨rfl,t,rfl,s _ _ ht⟩⟩
theorem fM {α:Type}{R:(Str×α)->(Key×V)->Prop}(x:Str):∀{l:List (Str×α)} {kvs:γ},Paired (fun b kv=>kv.1=.inr b.1/\R b kv) l kvs->Paired (fun b kv=>kv.1=.inr b.1/\R b kv) (l.filter fun b=>decide (b.1≠x)) (dY kvs (.inr x))
 | _,_,.nil=>.nil
 | b::_,kv::_,.cons h t=>by
  unfold dY
  rw [abW,abW]
  have ih:=fM x t
  unfold dY at ih
  by_cases e:b.1=x
  ·have e' :kv.1=.inr x:=by rw [h.1,e]
   rw [if_neg (by simp [e]),if_neg (by simp [e'])]
   exact ih
  ·have e' :¬ kv.1=.inr x:=fun z=>e (abx (h.1.symm.trans z))
   rw [if_pos (by simp [e]),if_pos (by simp [e'])]
   exact .cons h ih
theorem dZ.KZ (R:dZ K H C a dx pP pW pB ps bs kP kW kB)(x:Str):
  dZ K (upd H pB (.dK (dY kB (.inr x)))) C a dx pP pW pB ps (bs.filter fun b=>decide (b.1≠x)) kP kW (dY kB (.inr x)):=by
 have s:aY H (upd H pB (.dK (dY kB (.inr x)))):=.dict R.br
 exact ⟨by rw [ao R.ab.2.2];exact R.obj,by rw [ao R.ne2];exact R.pl,by rw [ao R.ne3];exact R.wy,ak,R.ne1,R.ne2,R.ne3,Paired.bJ R.rp fun _ _ h=>⟨h.1,h.2.aU s⟩,
  fM x (Paired.bJ R.rb fun _ _ h=>⟨h.1,by obtain ⟨p,e,k⟩:=h.2;exact ⟨p,e,s _ _ k⟩⟩)⟩
theorem bG {α β:Type}{R:α->β->Prop}:∀{l:List α} {m:List β},Paired R l m->Paired (fun b a=>R a b) m l
 | _,_,.nil=>.nil
 | _,_,.cons h t=>.cons h (bG t)
theorem dZ.Pd (R:dZ K H C a dx pP pW pB ps bs kP kW kB){x:Str}{p:Pt}{t:Addr}(ht:Spot K H (.ref t) p):
  dZ K (upd H pP (.dK (kP++[(.inr x,.ref t)]))) C a dx pP pW pB (ps++[(x,p)]) bs (kP++[(.inr x,.ref t)]) kW kB:=by
 have s:aY H (upd H pP (.dK (kP++[(.inr x,.ref t)]))):=.dict R.pl
 exact ⟨by rw [ao R.ab.1];exact R.obj,ak,by rw [ao (aaW R.ne1)];exact R.wy,by rw [ao (aaW R.ne2)];exact R.br,R.ne1,R.ne2,R.ne3,
  Paired.snoc (Paired.bJ R.rp fun _ _ h=>⟨h.1,h.2.aU s⟩) ⟨rfl,ht.aU s⟩,Paired.bJ R.rb fun _ _ h=>⟨h.1,by obtain ⟨p,e,k⟩:=h.2;exact ⟨p,e,s _ _ k⟩⟩⟩
theorem dZ.sk (R:dZ K H C a dx pP pW pB ps bs kP kW kB)(iM :γ):dZ K (upd H pW (.dK iM)) C a dx pP pW pB ps bs kP iM kB:=by
 have s:aY H (upd H pW (.dK iM)):=.dict R.wy
 exact ⟨by rw [ao R.ab.2.1];exact R.obj,by rw [ao R.ne1];exact R.pl,ak,by rw [ao (aaW R.ne3)];exact R.br,R.ne1,R.ne2,R.ne3,
  Paired.bJ R.rp fun _ _ h=>⟨h.1,h.2.aU s⟩,Paired.bJ R.rb fun _ _ h=>⟨h.1,by obtain ⟨p,e,k⟩:=h.2;exact ⟨p,e,s _ _ k⟩⟩⟩
theorem u5 {x:Str}:∀(xs:ρ),Kv (.str x) (xs.map V.str)=decide (x∈xs)
 | []=>rfl
 | y::ys=>by
  have ih:=u5 (x:=x) ys
  unfold Kv at ih ⊢
  rw [aal,ahh,ih]
  by_cases e:y=x
  ·subst e
   simp [mj]
  ·have e' :¬ x=y:=fun z=>e z.symm
   simp [mj,e,e']
end
open Builtin.Int (intBits)
def qr (r:Rat):Int×Int:=(r.num,(r.den:Int))
theorem dw (r:Rat):0 < (qr r).2:=by
 have:=r.den_pos
 show (0:Int) < (r.den:Int)
 omega
theorem oz (r:Rat):abm (qr r).1 (qr r).2=1:=by
 have:=r.reduced
 show abm r.num (r.den:Int)=1
 unfold abm
 simpa [Nat.Coprime] using this
theorem gu (r:Rat):vl (qr r)=r:=by
 show (r.num:Rat) / ((r.den:Int):Rat)=r
 rw [<- aiJ]
 exact aiA r
theorem qZ {q:Int×Int}(h:0 < q.2)(g:abm q.1 q.2=1):q=qr (vl q):=OV h (dw _) g (oz _) (gu _).symm
theorem gH {t b:Int}(h:b≠0):low t b=qr ((t:Rat) / (b:Rat)):=by
 rw [<- wU h]
 exact qZ (jx h) (mQ h)
theorem gI {a b:Rat}(h:qr a=qr b):a=b:=by
 rw [<- gu a, <- gu b,h]
theorem oA (i:Int):qr (i:Rat)=(i,1):=by
 have e:(i,(1:Int))=qr (vl (i,1)):=qZ (by show (0:Int) < 1;decide) (by show abm i 1=1;simp)
 have v:vl (i,(1:Int))=(i:Rat):=by
  unfold vl
  show (i:Rat) / ((1:Int):Rat)=i
  have:((1:Int):Rat)=1:=by rfl
  rw [this]
  grind
 rw [e,v]
theorem w4 {r:Rat}:((qr r).2:Rat)≠0:=cY (abK (dw r))
theorem Pe (a b:Rat):low ((qr a).1*(qr b).2+(qr b).1*(qr a).2) ((qr a).2*(qr b).2)=qr (a+b):=by
 have ha:=dw a
 have hb:=dw b
 rw [gH (abK (ahq ha hb))]
 have e1:=gu a
 have e2:=gu b
 have z1:=w4 (r:=a)
 have z2:=w4 (r:=b)
 unfold vl at e1 e2
 congr 1
 push_cast
 grind
theorem GU (a b:Rat):low ((qr a).1*(qr b).2 - (qr b).1*(qr a).2) ((qr a).2*(qr b).2)=qr (a - b):=by
 have ha:=dw a
 have hb:=dw b
 rw [gH (abK (ahq ha hb))]
 have e1:=gu a
 have e2:=gu b
 have z1:=w4 (r:=a)
 have z2:=w4 (r:=b)
 unfold vl at e1 e2
 congr 1
 push_cast
 grind
structure Sz (k:Nat)(r:Rat):Prop where
 top:intBits (qr r).1<=k
 bot:intBits (qr r).2<=k
theorem Sz.up {k l:Nat}{r:Rat}(h:Sz k r)(kl:k<=l):Sz l r:=⟨aai h.top kl,aai h.bot kl⟩
theorem AE {a b:Int}{k:Nat}(ha:intBits a<=k)(hb:intBits b<=k):intBits (a+b)<=k+1:=by
 rw [intBits_le_iff] at ha hb ⊢
 have:=ahm a b
 rw [ahD]
 omega
theorem AF {a b:Int}{k:Nat}(ha:intBits a<=k)(hb:intBits b<=k):intBits (a - b)<=k+1:=by
 rw [intBits_le_iff] at ha hb ⊢
 have:=Int.natAbs_sub_le a b
 rw [ahD]
 omega
theorem GV {t b:Int}{k:Nat}(hb:b≠0)(h1:intBits t<=k)(h2:intBits b<=k):Sz k ((t:Rat) / (b:Rat)):=by
 rw [<- wU hb]
 have e:=qZ (jx (t:=t) hb) (mQ hb)
 exact ⟨by rw [<- e];exact intBits_le_of_natAbs (nK hb) h1,by rw [<- e];exact intBits_le_of_natAbs (nM hb) h2⟩
theorem Nl {t b:Int}{k:Nat}{r:Rat}(hb:b≠0)(e:low t b=qr r)(h1:intBits t<=k)(h2:intBits b<=k):Sz k r:=by
 have z:=gH (t:=t) hb
 rw [z] at e
 have:=gI e
 rw [<- this]
 exact GV hb h1 h2
theorem Sz.add {k l:Nat}{a b:Rat}(ha:Sz k a)(hb:Sz l b):Sz (k+l+1) (a+b):=
 Nl (abK (ahq (dw a) (dw b))) (Pe a b) (AE (intBits_mul_le ha.top hb.bot) (by rw [aif];exact intBits_mul_le hb.top ha.bot)) (aiK (intBits_mul_le ha.bot hb.bot))
theorem Sz.sub {k l:Nat}{a b:Rat}(ha:Sz k a)(hb:Sz l b):Sz (k+l+1) (a - b):=
 Nl (abK (ahq (dw a) (dw b))) (GU a b) (AF (intBits_mul_le ha.top hb.bot) (by rw [aif];exact intBits_mul_le hb.top ha.bot)) (aiK (intBits_mul_le ha.bot hb.bot))
theorem kA {i:Int}{k:Nat}(h:i.natAbs < 2^k)(hk:1<=k):Sz k (i:Rat):=by
 refine ⟨?_,?_⟩
 ·rw [oA]
  exact intBits_le_iff.mpr h
 ·rw [oA]
  refine intBits_le_iff.mpr ?_
  show 1 < 2^k
  exact Nat.one_lt_two_pow (by omega)
def fW (K:Frag)(H:Hp)(v:V)(r:Rat):Prop:=mw K H v (qr r)
def fe (K:Frag)(H:Hp)(v:V)(p:Rat×Rat):Prop:=∃a u1 u2,v=.ref a/\bU K H a [u1,u2]/\fW K H u1 p.1/\fW K H u2 p.2
section
variable {K:Frag}{H H' :Hp}{v:V}{r:Rat}{p:Rat×Rat}
theorem fW.aU (h:fW K H v r)(s:aY H H'):fW K H' v r:=mw.aU h s
theorem fW.same (h:fW K H v r)(s:au H H'):fW K H' v r:=mw.same h s
theorem fe.aU (h:fe K H v p)(s:aY H H'):fe K H' v p:=by
 obtain ⟨a,u1,u2,e,h1,h2,h3⟩:=h
 exact ⟨a,u1,u2,e,s.bN h1,h2.aU s,h3.aU s⟩
theorem fe.same (h:fe K H v p)(s:au H H'):fe K H' v p:=h.aU (.of s)
abbrev oC (p:Rat×Rat):Pt:=(qr p.1,qr p.2)
theorem fe.S3 (h:fe K H v p):Spot K H v (oC p):=h
def g8 (K:Frag)(H:Hp)(us:ζ)(ps:Ι):Prop:=Paired (fe K H) us ps
theorem g8.aU {us:ζ}{ps:Ι}(h:g8 K H us ps)(s:aY H H'):g8 K H' us ps:=Paired.bJ h fun _ _ z=>z.aU s
theorem g8.same {us:ζ}{ps:Ι}(h:g8 K H us ps)(s:au H H'):g8 K H' us ps:=h.aU (.of s)
end
section
variable {X:Cx}
theorem yE {pins:ε}{σ:L2.St}{H:Hp}{s:Shared}{v:V}{p q:Rat×Rat}(I:Inv X pins σ H s)(h1:fe X.K H v p)(h2:fe X.K H v q):p=q:=by
 obtain ⟨a,u1,u2,rfl,t1,⟨b1,rfl,n1⟩,b2,rfl,n2⟩:=h1
 obtain ⟨a',w1,w2,e,t2,⟨c1,rfl,m1⟩,c2,rfl,m2⟩:=h2
 cases e
 cases I.gc t1 t2
 have e1:=I.gc n1 m1
 have e2:=I.gc n2 m2
 simp only [List.cons.injEq,V.int.injEq,and_true] at e1 e2
 exact ahQ (gI (ahQ e1.1 e1.2)) (gI (ahQ e2.1 e2.2))
def S4 (K:Frag)(neg:Bool):R2:=fun x y H Q=>∃p l us ps,y=.ref l/\a8 K H l us/\fe K H x p/\g8 K H us ps/\Q (.bl (if neg then !decide (p∈ps) else decide (p∈ps))) H
theorem S5 {pins:ε}{σ:L2.St}{H:Hp}{s:Shared}{A:Around}{x:V}{v:Value}{p:Rat×Rat}{us:ζ}{its:ο}{ps:Ι}(I:Inv X pins σ H s)(hu:A.units+60 < cLine)(hx:fe X.K H x p)(rx:RelV x v)(hp:g8 X.K H us ps)(rv:Vals us its):
  ∃e:Value->Bool,(∀y,y∈its.toArray->SeqAt.EqAt A s y v (e y))/\its.toArray.any e=decide (p∈ps):=by
 have key:∀(j:Nat) (y:Value),its[j]? =some y->∃u q,us[j]? =some u/\ps[j]? =some q/\RelV u y/\fe X.K H u q:=fun j y ey=>by
  obtain ⟨u,eu,ru⟩:=av (bG rv) ey
  obtain ⟨q,eq,hq⟩:=av hp eu
  exact ⟨u,q,eu,eq,ru,hq⟩
 refine ⟨fun y=> @decide (∃u q,RelV u y/\fe X.K H u q/\q=p) (abD _),fun y hy=>?_,?_⟩
 ·obtain ⟨j,hj,ey⟩:=abE.mp (by simpa using hy:y∈its)
  obtain ⟨u,q,eu,eq,ru,hq⟩:=key j y (by rw [gE hj,ey])
  have z:=yt (A:=A) I (.t (eD (oC q))) (.t (eD (oC p))) u x y v hq.S3.is hx.S3.is (by unfold alike;exact lS _ _) ru rx (by have:=qY (oC q);unfold dep;simp only [eD,dH,dep] at this ⊢;omega)
  have e:gf (.t (eD (oC q))) (.t (eD (oC p)))= @decide (∃u q,RelV u y/\fe X.K H u q/\q=p) (abD _):=by
   unfold gf
   rw [u3]
   by_cases c:q=p
   ·subst c
    rw [decide_eq_true rfl]
    symm
    exact @decide_eq_true _ (abD _) ⟨u,q,ru,hq,rfl⟩
   ·rw [decide_eq_false (fun z=>c (ahQ (gI (congrArg an_ z)) (gI (congrArg ao_ z))))]
    symm
    refine @decide_eq_false _ (abD _) fun ⟨u',q',ru',g7,e'⟩=>?_
    obtain ⟨a,_,_,rfl,_⟩:=id hq
    obtain ⟨a',_,_,rfl,_⟩:=id g7
    have r1:y=Value.ref a:=ru
    have r2:y=Value.ref a' :=ru'
    rw [r1] at r2
    cases r2
    exact c ((yE I hq g7).trans e')
  rw [e] at z
  exact z
 ·rw [abq,decide_eq_true_iff]
  simp only [List.any_toArray,ahN]
  constructor
  ·rintro ⟨y,hy,ey⟩
   obtain ⟨j,hj,ej⟩:=abE.mp hy
   obtain ⟨u,q,eu,eq,ru,hq⟩:=key j y (by rw [gE hj,ej])
   obtain ⟨u',q',ru',g7,e'⟩:= @of_decide_eq_true _ (abD _) ey
   obtain ⟨a,_,_,rfl,_⟩:=id hq
   obtain ⟨a',_,_,rfl,_⟩:=id g7
   have r1:y=Value.ref a:=ru
   have r2:y=Value.ref a' :=ru'
   rw [r1] at r2
   cases r2
   rw [<- e', <- yE I hq g7]
   exact be eq
  ·intro hm
   obtain ⟨j,hj,ej⟩:=abE.mp hm
   have lu:us.length=ps.length:=Paired.length hp
   have li:us.length=its.length:=rv.length
   have Yx :j < its.length:=by omega
   refine ⟨its[j],abn Yx,?_⟩
   obtain ⟨u,q,eu,eq,ru,hq⟩:=key j its[j] (gE Yx)
   rw [gE hj,ej] at eq
   cases eq
   exact @decide_eq_true _ (abD _) ⟨u,p,ru,hq,rfl⟩
theorem K0 (hu:X.A.units+64 < cLine):iR X (compareOp .In) (S4 X.K false):=by
 intro pins s σ H x y v u Q I rx ry h
 obtain ⟨p,l,us,ps,rfl,hq,hx,hp,q⟩:=h
 cases ry
 obtain ⟨its,rv,pl,hz⟩:=I.list hq
 obtain ⟨e,he,ea⟩:=S5 (A:=X.A.in1) I (by rw [in1_units];omega) hx rx hp rv
 refine SeqAt.in_listAt e pl.isList he ⟨.bl _,H,I,rfl,?_⟩
 rw [ea]
 exact q
end
theorem gJ {α:Type}{R:(Str×α)->(Key×V)->Prop}{x:Str}{y:α}:∀{l:List (Str×α)} {kvs:γ},Paired (fun b kv=>kv.1=.inr b.1/\R b kv) l kvs->(l.map (·.1)).Nodup->(x,y)∈l->∃v,bR kvs (.inr x)=some v/\R (x,y) (.inr x,v)
 | _::_,kv::_,.cons h t,nd,m=>by
  rw [aal,aaX] at nd
  rcases aaN.mp m with e | m
  ·subst e
   have h1:kv.1=.inr x:=h.1
   refine ⟨kv.2,bQ h1,?_⟩
   have h2:=h.2
   rw [<- h1]
   exact h2
  ·obtain ⟨v,e,r⟩:=gJ t nd.2 m
   refine ⟨v,?_,r⟩
   rw [bF (fun z=>?_)]
   ·exact e
   ·rw [h.1] at z
    exact nd.1 (abx z▸aad.mpr ⟨_,m,rfl⟩)
def pM (K:Frag)(H:Hp)(pw:Ζ)(kW:γ):Prop:=
 Paired (fun (p:Str×List (Rat×Rat)) (kv:Key×V)=>kv.1=.inr p.1/\∃l us,kv.2=.ref l/\H l=some (.lst us)/\g8 K H us p.2) pw kW
theorem pM.same {K:Frag}{H H' :Hp}{pw:Ζ}{kW:γ}(h:pM K H pw kW)(s:au H H'):pM K H' pw kW:=
 Paired.bJ h fun _ _ z=>⟨z.1,by obtain ⟨l,us,e1,e2,e3⟩:=z.2;exact ⟨l,us,e1,s _ _ e2,e3.same s⟩⟩
theorem pM.dict {K:Frag}{H:Hp}{pw:Ζ}{kW kvs:γ}{d:Addr}{o:HO}(h:pM K H pw kW)(e:H d=some (.dK kvs)):pM K (upd H d o) pw kW:=
 Paired.bJ h fun _ _ z=>⟨z.1,by
  obtain ⟨l,us,e1,e2,e3⟩:=z.2
  exact ⟨l,us,e1,by rw [ao (fun q=>by rw [q,e] at e2;cases e2)];exact e2,e3.aU (.dict e)⟩⟩
theorem pM.keys {K:Frag}{H:Hp}{pw:Ζ}{kW:γ}(h:pM K H pw kW):kW.map (·.1)=(pw.map (·.1)).map (fun b=>(abc b:Key)):=by
 rw [eT h,aaE]
 rfl
theorem dZ.ends {K:Frag}{H:Hp}{C a dx pP pW pB:Addr}{ps:Ε}{bs:υ}{kP kW kB:γ}(R:dZ K H C a dx pP pW pB ps bs kP kW kB)(nd:(bs.map (·.1)).Nodup){x one other:Str}(m:(x,one,other)∈bs):
  ∃p,bR kB (.inr x)=some (.ref p)/\Rd H p (.tup [.str one,.str other]):=by
 obtain ⟨v,e,p,ep,r⟩:=gJ R.rb nd m
 have v3 :v=.ref p:=ep
 exact ⟨p,by rw [e,v3],r⟩
theorem dZ.place {K:Frag}{H:Hp}{C a dx pP pW pB:Addr}{ps:Ε}{bs:υ}{kP kW kB:γ}(R:dZ K H C a dx pP pW pB ps bs kP kW kB)(nd:(ps.map (·.1)).Nodup){x:Str}{p:Pt}(m:(x,p)∈ps):
  ∃v,bR kP (.inr x)=some v/\Spot K H v p:=gJ R.rp nd m
end Ty
namespace Ty
open PySem PySem.Spec PyProof.Rows L2
structure aA where
 nm:Str
 sp:Rat×Rat
 ws:List (Rat×Rat)
abbrev _root_.ν:=List aA
structure aT where
 nm:Str
 one:aA
 other:aA
abbrev _root_.π:=List aT
structure JI (K:Frag)(H:Hp)(C a:Addr)(pins:ν)(bars:π):Prop where
 ex:∃(dx pP pW pB:Addr) (kP kW kB:γ),dZ K H C a dx pP pW pB (pins.map fun p=>(p.nm,oC p.sp)) (bars.map fun b=>(b.nm,b.one.nm,b.other.nm)) kP kW kB/\pM K H (pins.map fun p=>(p.nm,p.ws)) kW
structure fh (pins:ν)(bars:π):Prop where
 np:(pins.map (·.nm)).Nodup
 nb:(bars.map (·.nm)).Nodup
 ends:∀b∈bars,b.one∈pins/\b.other∈pins/\b.one.nm≠b.other.nm
 sz:∀p∈pins,Sz 44 p.sp.1/\Sz 44 p.sp.2/\∀w∈p.ws,Sz 22 w.1/\Sz 22 w.2
 lp:pins.length<=9
 lb:bars.length<=40
 lw:∀p∈pins,p.ws.length<=2
theorem JI.same {K:Frag}{H H' :Hp}{C a:Addr}{pins:ν}{bars:π}(h:JI K H C a pins bars)(s:au H H'):JI K H' C a pins bars:=by
 obtain ⟨dx,pP,pW,pB,kP,kW,kB,R,W⟩:=h.ex
 exact ⟨dx,pP,pW,pB,kP,kW,kB,R.same s,W.same s⟩
def Q4 (K:Frag)(H:Hp)(kvs:γ)(F:Β):Prop:=
 ∀nm,(bR kvs (.inr nm)=none/\F nm=none)\/∃v p,bR kvs (.inr nm)=some v/\F nm=some p/\fe K H v p
section
variable {K:Frag}{H H' :Hp}{kvs:γ}
theorem Q4.same {F:Β}(h:Q4 K H kvs F)(s:au H H'):Q4 K H' kvs F:=fun nm=>by
 rcases h nm with h | ⟨v,q,h1,h2,h3⟩
 ·exact .inl h
 ·exact .inr ⟨v,q,h1,h2,h3.same s⟩
theorem Q4.aac {F:Β}(h:Q4 K H kvs F){x:Str}{v:V}{q:Rat×Rat}(n:fe K H v q):fe K H ((bR kvs (.inr x)).getD v) ((F x).getD q):=by
 rcases h x with ⟨h1,h2⟩ | ⟨u,q',h1,h2,h3⟩
 ·rw [h1,h2]
  exact n
 ·rw [h1,h2]
  exact h3
end
end Ty
namespace Ty
open PySem PySem.Spec PyProof.Rows L2
end Ty
namespace Ty
open PySem PySem.Spec PyProof.Rows L2
theorem Pf {α:Type}{nm:α->Str}{l:List α}(nd:(l.map nm).Nodup){b b' :α}(h:b∈l)(h' :b' ∈l)(e:nm b=nm b'):b=b' :=by
 obtain ⟨i,hi,ei⟩:=abE.mp h
 obtain ⟨j,hj,ej⟩:=abE.mp h'
 have q1:(l.map nm)[i]? =some (nm b):=by rw [Wp,gE hi,ei];rfl
 have q2:(l.map nm)[j]? =some (nm b):=by rw [Wp,gE hj,ej,e];rfl
 have ij:=(ahn (by rw [aab];exact hi) nd).mp (q1.trans q2.symm)
 subst ij
 rw [<- ei, <- ej]
theorem jD {α:Type}{nm:α->Str}{l:List α}(nd:(l.map nm).Nodup){i:Nat}{b b' :α}(h:l[i]? =some b)(m:b' ∈l.take i):nm b' ≠nm b:=fun e=>by
 have il:=(ir.mp h).1
 obtain ⟨j,hj,ej⟩:=abE.mp m
 rw [aiL] at ej
 rw [aa2] at hj
 have q1:(l.map nm)[j]? =some (nm b):=by rw [Wp,gE (by omega),ej, <- e];rfl
 have q2:(l.map nm)[i]? =some (nm b):=by rw [Wp,h];rfl
 have:=(ahn (by rw [aab];omega) nd).mp (q1.trans q2.symm)
 omega
theorem take_snoc {α:Type}{l:List α}{i:Nat}{b:α}(h:l[i]? =some b):l.take (i+1)=l.take i++[b]:=by rw [aiM,h];rfl
end Ty
namespace Ty
open PySem PySem.Spec PyProof.Rows L2
theorem AG {xs:ρ}(h:xs.Nodup):(xs.map fun x=>(abc x:Key)).Nodup:=by
 unfold apH
 rw [aho]
 exact List.Pairwise.imp (fun h e=>h (abx e)) h
theorem kC {H H' :Hp}(s:au H H'){p:Addr}(n:H' p=none):H p=none:=by
 cases e:H p with
 | none=>rfl
 | some o=>rw [s _ _ e] at n;cases n
end Ty
namespace Ty
open PySem PySem.Spec PyProof.Rows L2
section
variable {X:Cx}
end
section
variable {D:Addr}{te:TE}{cap:L2.St}{H1:Hp}{Q:VK}
end
abbrev fw (h:Heap)(z TI TO:Addr)(f0:Value)(fb:Bool):Prop:=
 h.get? z=some {cls:=.type "zip",dict:=none,data:=.fields #[f0,.bool fb,.bool false,.ref TI,.ref TO],slots:= #[]}
section
variable {prog:Program}{w:World}{A:Around}{E:δ}{s:Shared}
theorem u6 {a:Addr}{o:Obj}{Q:Option Obj->Shared->Prop}(h:s.heap.get? a=some o)(q:Q (some o) s):wpAny (model prog w) A (loadIfAlive a) Q E s:=fun Γ p _=>by
 show Sem.wp _ _ (.loadIfAlive a .pure) _ _ _ _
 rw [Sem.wp_loadIfAlive,h]
 exact q
theorem u9 {z TI TO T:Addr}{fb:Bool}{o:Obj}{Q:Bool->Shared->Prop}(hz:fw s.heap z TI TO (rawInt T) fb)(hT:s.heap.get? T=some o)
  (hQ:∀h',fw h' z TI TO (rawInt T) true->Heap.SameBut z s.heap h' ->Q false {s with heap:=h' }):wpAny (model prog w) A (Builtin.SmallTypes.ownedTupleIsFree (.ref z)) Q E s:=by
 unfold Builtin.SmallTypes.ownedTupleIsFree
 refine wpAny_bind (wpAny_field hz rfl (x:=rawInt T) rfl ?_)
 show wpAny _ _ (loadIfAlive ((T:Int)).toNat >>=_) _ _ _
 refine wpAny_bind (u6 (o:=o) (by simpa using hT) ?_)
 simp only [Option.isNone_some,ahx,if_false]
 refine wpAny_bind (wpAny_field hz rfl (x:=.bool fb) rfl ?_)
 cases fb with
 | true=>
  show wpAny _ _ (if (Value.bool true !=Value.bool true)=true then _ else _) _ _ _
  rw [if_neg (by decide)]
  exact wpAny_pure (hQ s.heap hz ⟨rfl,fun _ _=>rfl⟩)
 | false=>
  show wpAny _ _ (if (Value.bool false !=Value.bool true)=true then _ else _) _ _ _
  rw [if_pos (by decide)]
  refine wpAny_bind (wpAny_setField_rec hz (by simp) fun h' hz' Nb =>wpAny_pure (hQ h' hz' Nb))
theorem AH {z TI TO T i1 i2 l1 l2:Addr}{fb:Bool}{o:Obj}{k1 k2:Nat}{xs ys:Λ}{x y:Value}{Q:δ}(D:ZipApart z TI TO i1 i2 l1 l2)
  (hz:fw s.heap z TI TO (rawInt T) fb) (hT:s.heap.get? T=some o) (i7:IsPair s.heap TI (.ref i1) (.ref i2))
  (h1:s.heap.IsListIter i1 l1 k1) (h2:s.heap.IsListIter i2 l2 k2) (yF:s.heap.IsList l1 xs) (wM:s.heap.IsList l2 ys) (hx:xs[k1]? =some x) (hy:ys[k2]? =some y)
  (hQ:∀h',fw h' z TI TO (rawInt T) true->h'.IsListIter i1 l1 (k1+1)->h'.IsListIter i2 l2 (k2+1)->IsPair h' s.heap.objs.size x y->h'.objs.size=s.heap.objs.size+1->
   (∀c o,c≠z->c≠i1->c≠i2->s.heap.get? c=some o->h'.get? c=some o)->Q (.ref s.heap.objs.size) {s with heap:=h' }):
  wpAny (model prog w) A (Builtin.«zip.__next__» ⟨[.ref z],[]⟩) (fun fin s' =>∃v,fin=.done (.ret v)/\Q v s') E s:=by
 show wpAny _ _ (field (.ref z) 2 >>=_) _ _ _
 refine wpAny_bind (wpAny_field hz rfl (x:=.bool false) rfl ?_)
 show wpAny _ _ (field (.ref z) 3 >>=_) _ _ _
 refine wpAny_bind (wpAny_field hz rfl (x:=.ref TI) rfl ?_)
 refine wpAny_bind (wpAny_seqItems i7 rfl ?_)
 show wpAny _ _ (Builtin.SmallTypes.ownedTupleIsFree (.ref z) >>=_) _ _ _
 refine wpAny_bind (u9 hz hT fun h₁ hz₁ w6=>?_)
 simp only [ahx,if_false]
 refine wpAny_bind ?_
 show wpAny _ _ (forIn [Value.ref i1,Value.ref i2].toArray _ _) _ _ _
 rw [aiB]
 simp only [ai3,ait]
 refine wpAny_bind (wpAny_bind (wpAny_holding ?_))
 show wpAny _ _ (Builtin.SmallTypes.nextOf (.ref i1) >>=_) _ _ _
 refine wpAny_bind (wpAny_nextOf_list_item (h1.extBut w6.extBut D.i1z) (yF.extBut w6.extBut D.l1z) hx fun h₂ h1₂ GX=>wpAny_pure ?_)
 refine wpAny_pure ?_
 refine wpAny_bind (wpAny_bind (wpAny_holding ?_))
 show wpAny _ _ (Builtin.SmallTypes.nextOf (.ref i2) >>=_) _ _ _
 refine wpAny_bind (wpAny_nextOf_list_item ((h2.extBut w6.extBut D.i2z).extBut GX.extBut D.i12.symm) ((wM.extBut w6.extBut D.l2z).extBut GX.extBut D.l2i1) hy fun h₄ h2₄ Q6=>wpAny_pure ?_)
 refine wpAny_pure (wpAny_pure ?_)
 refine wpAny_bind (wpAny_newTuple (hsz:=(by show 2<=sizeLine;decide)) ?_)
 have hsz:h₄.objs.size=s.heap.objs.size:=by rw [Q6.1,GX.1,w6.1]
 refine wpAny_pure ⟨_,rfl,?_⟩
 have hz₄:fw h₄ z TI TO (rawInt T) true:=Q6.extBut _ _ D.i2z.symm (GX.extBut _ _ D.i1z.symm hz₁)
 show Q (.ref h₄.objs.size) _
 rw [hsz]
 refine hQ _ (Heap.get?_push_of_some _ hz₄) ((h1₂.extBut Q6.extBut D.i12).at fun o e=>Heap.get?_push_of_some _ e) (h2₄.at fun o e=>Heap.get?_push_of_some _ e) ?_ (by rw [Heap.size_push,hsz]) fun c o c1 c3 c4 e=>Heap.get?_push_of_some _ (Q6.extBut _ _ c4 (GX.extBut _ _ c3 (w6.extBut _ _ c1 e)))
 show (h₄.push _).get? _=_
 rw [<- hsz]
 exact Heap.get?_push_size _ rfl
theorem GY {z TI TO T i1 i2 l1 l2:Addr}{fb:Bool}{o:Obj}{k1 k2:Nat}{xs ys:Λ}{Q:Fin->Shared->Prop}(hh:A.handled=none)(D:ZipApart z TI TO i1 i2 l1 l2)
  (hz:fw s.heap z TI TO (rawInt T) fb) (hT:s.heap.get? T=some o) (i7:IsPair s.heap TI (.ref i1) (.ref i2))
  (h1:s.heap.IsListIter i1 l1 k1) (h2:s.heap.IsListIter i2 l2 k2) (yF:s.heap.IsList l1 xs) (wM:s.heap.IsList l2 ys) (AI:xs[k1]? =none\/ys[k2]? =none)
  (hE:∀h' e,(∀c o,c≠z->c≠i1->c≠i2->s.heap.get? c=some o->h'.get? c=some o)->(∃o,h'.get? e=some o/\o.cls=.type "StopIteration")->E (.ref e) {s with heap:=h' }):
  wpAny (model prog w) A (Builtin.«zip.__next__» ⟨[.ref z],[]⟩) Q E s:=by
 show wpAny _ _ (field (.ref z) 2 >>=_) _ _ _
 refine wpAny_bind (wpAny_field hz rfl (x:=.bool false) rfl ?_)
 show wpAny _ _ (field (.ref z) 3 >>=_) _ _ _
 refine wpAny_bind (wpAny_field hz rfl (x:=.ref TI) rfl ?_)
 refine wpAny_bind (wpAny_seqItems i7 rfl ?_)
 show wpAny _ _ (Builtin.SmallTypes.ownedTupleIsFree (.ref z) >>=_) _ _ _
 refine wpAny_bind (u9 hz hT fun h₁ hz₁ w6=>?_)
 simp only [ahx,if_false]
 refine wpAny_bind ?_
 show wpAny _ _ (forIn [Value.ref i1,Value.ref i2].toArray _ _) _ _ _
 rw [aiB]
 simp only [ai3,ait]
 refine wpAny_bind (wpAny_bind (wpAny_holding ?_))
 show wpAny _ _ (Builtin.SmallTypes.nextOf (.ref i1) >>=_) _ _ _
 cases hx:xs[k1]? with
 | none=>
  refine wpAny_bind (wpAny_nextOf_list_end hh (h1.extBut w6.extBut D.i1z) (yF.extBut w6.extBut D.l1z) hx fun h₂ e GX he=>?_)
  exact hE h₂ e (fun c o c1 c3 _ x=>GX _ _ c3 (w6.extBut _ _ c1 x)) he
 | some x=>
  have hy:ys[k2]? =none:=by rcases AI with h | h;rw [hx] at h;cases h;exact h
  refine wpAny_bind (wpAny_nextOf_list_item (h1.extBut w6.extBut D.i1z) (yF.extBut w6.extBut D.l1z) hx fun h₂ h1₂ GX=>wpAny_pure ?_)
  refine wpAny_pure ?_
  refine wpAny_bind (wpAny_bind (wpAny_holding ?_))
  show wpAny _ _ (Builtin.SmallTypes.nextOf (.ref i2) >>=_) _ _ _
  refine wpAny_bind (wpAny_nextOf_list_end hh ((h2.extBut w6.extBut D.i2z).extBut GX.extBut D.i12.symm) ((wM.extBut w6.extBut D.l2z).extBut GX.extBut D.l2i1) hy fun h₄ e Q6 he=>?_)
  exact hE h₄ e (fun c o c1 c3 c4 x=>Q6 _ _ c4 (GX.extBut _ _ c3 (w6.extBut _ _ c1 x))) he
theorem w8 {z TI TO T i1 i2 l1 l2:Addr}{fb:Bool}{o:Obj}{k1 k2:Nat}{xs ys:Λ}{x y:Value}{Q:Τ}(D:ZipApart z TI TO i1 i2 l1 l2)
  (hz:fw s.heap z TI TO (rawInt T) fb) (hT:s.heap.get? T=some o) (i7:IsPair s.heap TI (.ref i1) (.ref i2))
  (h1:s.heap.IsListIter i1 l1 k1) (h2:s.heap.IsListIter i2 l2 k2) (yF:s.heap.IsList l1 xs) (wM:s.heap.IsList l2 ys) (hx:xs[k1]? =some x) (hy:ys[k2]? =some y)
  (hQ:∀h',fw h' z TI TO (rawInt T) true->h'.IsListIter i1 l1 (k1+1)->h'.IsListIter i2 l2 (k2+1)->IsPair h' s.heap.objs.size x y->h'.objs.size=s.heap.objs.size+1->
   (∀c o,c≠z->c≠i1->c≠i2->s.heap.get? c=some o->h'.get? c=some o)->Q (some (.ref s.heap.objs.size)) {s with heap:=h' }):
  wpAny (model prog w) A (pyNext (.ref z)) Q E s:=by
 have S6 :s.TypeIs (.ref z) "zip":=⟨_,hz,rfl⟩
 unfold pyNext
 exact wpAny_bind (wpAny_attempt (wpAny_callSpecial?_slot (name:=Str.ofString "__next__") S6 F.slot_zip_next
  (wpAny_call_entry F.slot_zip_next S6 F.entry_zip_next
   (AH D hz hT i7 h1 h2 yF wM hx hy fun h' a1 a3 a4 a5 a6 a7=>wpAny_pure (hQ h' a1 a3 a4 a5 a6 a7)) (F.args_zip_next_1 _))))
theorem AJ {z TI TO T i1 i2 l1 l2:Addr}{fb:Bool}{o:Obj}{k1 k2:Nat}{xs ys:Λ}{Q:Τ}(hh:A.handled=none)(D:ZipApart z TI TO i1 i2 l1 l2)
  (hz:fw s.heap z TI TO (rawInt T) fb) (hT:s.heap.get? T=some o) (i7:IsPair s.heap TI (.ref i1) (.ref i2))
  (h1:s.heap.IsListIter i1 l1 k1) (h2:s.heap.IsListIter i2 l2 k2) (yF:s.heap.IsList l1 xs) (wM:s.heap.IsList l2 ys) (AI:xs[k1]? =none\/ys[k2]? =none)
  (hQ:∀h',(∀c o,c≠z->c≠i1->c≠i2->s.heap.get? c=some o->h'.get? c=some o)->Q none {s with heap:=h' }):wpAny (model prog w) A (pyNext (.ref z)) Q E s:=by
 have S6 :s.TypeIs (.ref z) "zip":=⟨_,hz,rfl⟩
 unfold pyNext
 refine wpAny_bind (wpAny_attempt (wpAny_callSpecial?_slot (name:=Str.ofString "__next__") S6 F.slot_zip_next
  (wpAny_call_entry F.slot_zip_next S6 F.entry_zip_next (GY hh D hz hT i7 h1 h2 yF wM AI fun h' e hk he=>?_) (F.args_zip_next_1 _))))
 obtain ⟨o,ho,hc⟩:=he
 refine wpAny_bind (wpAny_isInstance (T:="StopIteration") (b:=true) ⟨o,ho,hc⟩ isSubtype_stop ?_)
 exact wpAny_pure (hQ _ hk)
end
def JJ (h:Heap)(z TI TO i1 i2 a b S:Addr)(i:Nat):Prop:=(fw h z TI TO .none false\/∃(T:Addr) (o:Obj) (fb:Bool),fw h z TI TO (rawInt T) fb/\h.get? T=some o/\T≠z/\T≠TO/\T≠i1/\T≠i2/\T≠S)/\IsPair h TI (.ref i1) (.ref i2)/\(∃x y,IsPair h TO x y)/\h.IsListIter i1 a i/\h.IsListIter i2 b i
section
variable {prog:Program}{w:World}{A:Around}{E:δ}{s:Shared}{z TI TO i1 i2 a b S:Addr}{i:Nat}
theorem JJ.frame {h h' :Heap}(st:JJ h z TI TO i1 i2 a b S i)(k:∀c o,c≠S->h.get? c=some o->h'.get? c=some o)(nz:z≠S)(n1:TI≠S)(n2:TO≠S)(n3:i1≠S)(n4:i2≠S):JJ h' z TI TO i1 i2 a b S i:=by
 obtain ⟨hz,i7,⟨x,y,qR⟩,h1,h2⟩:=st
 refine ⟨?_,k _ _ n1 i7,⟨x,y,k _ _ n2 qR⟩,h1.at fun o e=>k _ o n3 e,h2.at fun o e=>k _ o n4 e⟩
 rcases hz with hz | ⟨T,o,fb,hz,hT,t1,t2,t3,t4,t5⟩
 ·exact .inl (k _ _ nz hz)
 ·exact .inr ⟨T,o,fb,k _ _ nz hz,k _ _ t5 hT,t1,t2,t3,t4,t5⟩
theorem JJ.item {oS:Obj}{xs ys:Λ}{x y:Value}{Q:Τ}(D:ZipApart z TI TO i1 i2 a b)(st:JJ s.heap z TI TO i1 i2 a b S i)(hS:s.heap.get? S=some oS)
  (yF:s.heap.IsList a xs) (wM:s.heap.IsList b ys) (hx:xs[i]? =some x) (hy:ys[i]? =some y)
  (hQ:∀h',JJ h' z TI TO i1 i2 a b S (i+1)->IsPair h' s.heap.objs.size x y->(∀c o,c∉[z,TI,TO,i1,i2]->s.heap.get? c=some o->h'.get? c=some o)->Q (some (.ref s.heap.objs.size)) {s with heap:=h' }):
  wpAny (model prog w) A (pyNext (.ref z)) Q E s:=by
 obtain ⟨hz,i7,⟨x0,y0,qR⟩,h1,h2⟩:=st
 have lt:∀{c o},s.heap.get? c=some o->s.heap.objs.size≠c:=fun e=>ahr (Heap.lt_size e)
 have e1:∃o,s.heap.get? i1=some o:=by obtain ⟨o,e,_⟩:=h1;exact ⟨o,e⟩
 have e2:∃o,s.heap.get? i2=some o:=by obtain ⟨o,e,_⟩:=h2;exact ⟨o,e⟩
 obtain ⟨o1,e1⟩:=e1
 obtain ⟨o2,e2⟩:=e2
 have S7:∀{c:Addr},c∉[z,TI,TO,i1,i2]->c≠z/\c≠TI/\c≠TO/\c≠i1/\c≠i2:=fun h=>by simpa using h
 rcases hz with hz | ⟨T,o,fb,hz,hT,t1,t2,t3,t4,t5⟩
 ·refine wpAny_pyNext_zip_item D hz i7 qR h1 h2 yF wM hx hy fun h' a1 a2 a3 a4 a5 a6 a7=>?_
  refine hQ h' ⟨.inr ⟨_,_,false,a1,a5,lt hz,lt qR,lt e1,lt e2,lt hS⟩,a7 _ _ D.TIz D.TITO D.TIi1 D.TIi2 i7,⟨_,_,a2⟩,a3,a4⟩ a5 fun c o hc e=>?_
  obtain ⟨c1,c2,c3,c4,c5⟩:=S7 hc
  exact a7 c o c1 c3 c4 c5 e
 ·refine w8 D hz hT i7 h1 h2 yF wM hx hy fun h' a1 a3 a4 a5 a6 a7=>?_
  refine hQ h' ⟨.inr ⟨T,o,true,a1,a7 _ _ t1 t3 t4 hT,t1,t2,t3,t4,t5⟩,a7 _ _ D.TIz D.TIi1 D.TIi2 i7,⟨_,_,a7 _ _ D.TOz D.TOi1 D.TOi2 qR⟩,a3,a4⟩ a5 fun c o hc e=>?_
  obtain ⟨c1,c2,c3,c4,c5⟩:=S7 hc
  exact a7 c o c1 c4 c5 e
theorem JJ.fin {xs ys:Λ}{Q:Τ}(hh:A.handled=none)(D:ZipApart z TI TO i1 i2 a b)(st:JJ s.heap z TI TO i1 i2 a b S i)
  (yF:s.heap.IsList a xs) (wM:s.heap.IsList b ys) (AI:xs[i]? =none\/ys[i]? =none)
  (hQ:∀h',(∀c o,c∉[z,TI,TO,i1,i2]->s.heap.get? c=some o->h'.get? c=some o)->Q none {s with heap:=h' }):wpAny (model prog w) A (pyNext (.ref z)) Q E s:=by
 obtain ⟨hz,i7,⟨x0,y0,qR⟩,h1,h2⟩:=st
 have S7:∀{c:Addr},c∉[z,TI,TO,i1,i2]->c≠z/\c≠TI/\c≠TO/\c≠i1/\c≠i2:=fun h=>by simpa using h
 rcases hz with hz | ⟨T,o,fb,hz,hT,t1,t2,t3,t4,t5⟩
 ·refine wpAny_pyNext_zip_end hh D hz i7 qR h1 h2 yF wM AI fun h' kk=>hQ h' fun c o hc e=>?_
  obtain ⟨c1,c2,c3,c4,c5⟩:=S7 hc
  exact kk c o c1 c3 c4 c5 e
 ·refine AJ hh D hz hT i7 h1 h2 yF wM AI fun h' kk=>hQ h' fun c o hc e=>?_
  obtain ⟨c1,c2,c3,c4,c5⟩:=S7 hc
  exact kk c o c1 c4 c5 e
end
end Ty
namespace Ty
open PySem PySem.Spec PyProof.Rows L2
section
variable {X:Cx}{pins:ε}{σ:L2.St}
theorem AK {H:Hp}{p:Addr}(h:H p=none)(o:HO):au H (upd H p o):=fun b u q=>by rw [ao (aq q h)];exact q
theorem boot_list:bootBuiltins "list"=some (.type "list"):=by decide+kernel
end
section
variable {X:Cx}
section
variable {k:Nat}{m:Str}{pos apos:Pos}{e o:Expr}{es:ψ}{ta:TE}{t:TA}
end
end
section
variable {P:Program}{w:World}{K:Frag}{mg:ι}{base:Heap}
end
theorem K1 (l:Addr)(its:Λ)(n:Nat)(b:Addr)(dW:Λ)(n2:Nat)(d:Θ)(sl:Κ)(hs0:¬(!its.isEmpty && Builtin.List.listTooLong (its.size+dW.size))=true)(hs1:its.size<=sizeLine)(EM:its.size+dW.size<=sizeLine+1):
  Meets (Builtin.«list.extend» ⟨[.ref l,.ref b],[]⟩) (fun _ R s=>s.heap.get? l=some {cls:=.type "list",dict:=none,data:=.seq its n,slots:= #[]}/\s.heap.get? b=some {cls:=.type "tuple",dict:=d,data:=.seq dW n2,slots:=sl}/\
   R (.ok (.ret Value.none)) {s with heap:=s.heap.update l (Obj.mapSeq fun x=>x++dW),toks:=s.toks}):=
 .of_wp fun prog w A R s h=>by
  obtain ⟨hp,g,dd,tk,os⟩:=s
  obtain ⟨hl,hb,h⟩:=h
  have f1:=AutoSeq1.idx_int
  have f2:=AutoSeq1.sub_tuple_tuple
  have f3:=AutoSeq1.sub_list_list
  have f4:=AutoSeq1.sub_tuple_list
  have f5:=AutoSeq1.sub_list_tuple
  have hz' :(its++dW).size<=sizeLine+1:=by rw [Array.size_append];exact EM
  wp_walk using (wpAny_updateSeq hl rfl (hz:=hs1) (_hz' :=hz')),wpAny_loadPart' hl,wpAny_loadPart' hb
  exact ⟨_,rfl,h⟩
section
variable {X:Cx}
def S8 (K:Frag):V->List V->Hp->VK->Prop:=fun x vs H Q=>∃l b xs zs,x=.ref l/\vs=[.ref b]/\H l=some (.lst xs)/\bU K H b zs/\xs.length+zs.length<=1000/\Q .cB (upd H l (.lst (xs++zs)))
theorem K2:MtR X "list.extend" (S8 X.K):=by
 intro pins s σ H x vs v us Q I rx rv h
 obtain ⟨l,b,xs,zs,rfl,rfl,hH,hB,hz,q⟩:=h
 cases rx
 obtain ⟨u,rfl,ru⟩:=rv.one
 cases ru
 obtain ⟨z,its,n,r,hl,e⟩:=I.mm hH
 obtain ⟨dW,r2,tp,z2⟩:=I.tuple hB
 have wM:=r2.length
 have big:(1000:Nat)<=sizeLine:=by decide
 have hsz:its.toArray.size+dW.toArray.size<=sizeLine:=by rw [aaF,aaF];omega
 have EZ:¬ (!its.toArray.isEmpty && Builtin.List.listTooLong (its.toArray.size+dW.toArray.size))=true:=by
  rw [uw hsz,ah2]
  exact aaG
 obtain ⟨⟨c,d,dt,sl⟩,e2,hc,n2,hd⟩:=tp
 obtain rfl:c=Value.type "tuple":=hc
 obtain rfl:dt=_:=hd
 refine call_meets F.slot_list_extend ⟨_,e,rfl⟩ F.entry_list_extend (F.args_list_extend_2 _ _)
  (K1 l its.toArray n b dW.toArray n2 d sl EZ (by rw [aaF];omega) (by omega)) ⟨e,e2,?_⟩
 refine ⟨.cB,_,I.OF (its' :=its++dW) hH e (by simp) (r.append r2) ?_,rfl,q⟩
 rw [aat]
 omega
end
theorem so:typeLookup (.type "zip") "__getattr__"=pure none:=by rw [typeLookup_type,builtinLookup_eq_fast];kernel_rfl
theorem AL:typeLookup (.type "zip") "keys"=pure none:=by rw [typeLookup_type,builtinLookup_eq_fast];kernel_rfl
theorem w_:entryFor table "zip.__getattribute__"=some Builtin.«object.__getattribute__»:=
 entryFor_alias (id' :="object.__getattribute__") (by kernel_rfl) (by decide+kernel) (by decide+kernel) (by kernel_rfl)
theorem lX:entryFor table "dict.update.loop"=some Builtin.«dict.update.loop»:=entryFor_of_tree (by kernel_rfl)
theorem fN:plainId "dict.update.loop"=true:=by decide+kernel
theorem GZ (a:Addr)(vs:Λ)(u:Tok):
  Meets (Builtin.«object.__getattribute__» ⟨[.ref a,.str "keys" u],[]⟩) (fun A R s=>s.heap.get? a=some {cls:=.type "zip",dict:=none,data:=.fields vs,slots:= #[]}/\raisesAttr (.ref a) "keys" A R s):=
 Meets.of_wp fun prog w A R s hs=>by
  obtain ⟨hp,g,d,tk,os⟩:=s
  obtain ⟨hx,hs⟩:=hs
  have hT:(⟨hp,g,d,tk,os⟩:Shared).TypeIs (.ref a) "zip":=⟨_,hx,rfl⟩
  have hm:=AL
  unfold Builtin.«object.__getattribute__»
  repeat (any_goals (first | (assumption) | wp_step))
  exact wpAny_raiseAttrError hs.1 hs.2 (attrMsg_fits (by decide+kernel) (by decide+kernel))
section
variable {prog:Program}{w:World}{A:Around}{E:δ}{s:Shared}
theorem u_ {z:Addr}{vs:Λ}{Q:Τ}(hx:s.heap.get? z=some {cls:=.type "zip",dict:=none,data:=.fields vs,slots:= #[]})(hA:A.handled=none)
  (h:∀h' tk,(∀b o,s.heap.get? b=some o->h'.get? b=some o)->Q none {s with heap:=h',toks:=tk}):wpAny (model prog w) A (getAttr? (.ref z) "keys") Q E s:=by
 obtain ⟨hp,g,d,tk,os⟩:=s
 have hT:∀tk',(⟨hp,g,d,tk',os⟩:Shared).TypeIs (.ref z) "zip":=fun _=>⟨_,hx,rfl⟩
 have f1:=sub_AttributeError
 have f3:=F.slot_zip_getattribute.lookup
 have f4:=F.slot_zip_getattribute.bind (.ref z)
 have f5:=so
 unfold getAttr? getAttrBy? getAttrBy
 repeat (any_goals (first | (assumption) | exact hT _ | ((with_reducible show wpAny _ _ (call (Value.builtin "zip.__getattribute__") _ _) _ _ _);refine call_meets F.slot_zip_getattribute (hT _) w_ (F.args_zip_getattribute_2 _ _) (GZ z vs _) ⟨hx,hA,fun h' tk' e v7 =>?_⟩) | wp_step))
 obtain ⟨t',u',he⟩:=v7.there
 show wpAny _ _ (getattributeRaised _ _ _ _ _ _ _) _ _ _
 unfold getattributeRaised
 repeat (any_goals (first | (assumption) | wp_step))
 exact h _ _ v7.keeps
theorem qd {z TI TO:Addr}{f0:Value}{Q:δ}(hA:A.in1.in1.handled=none)(hz:IsZip s.heap z TI TO f0)
  (hL:∀(h' :Heap) (tk:Nat) (R:Ο),(∀b o,s.heap.get? b=some o->h'.get? b=some o)->h'.get? s.heap.objs.size=some {cls:=.type "dict",data:=.dict #[]}->
   (∀s',Q (.ref s.heap.objs.size) s' ->R (.ok (.ret .none)) s')->codeAny (model prog w) A.in1 (.builtin "dict.update.loop" ⟨[.ref s.heap.objs.size,.ref z,rawInt 0,.none],[]⟩) R {s with heap:=h',toks:=tk}):
  wpAny (model prog w) A (call (.type "dict") [.ref z]) Q E s:=by
 refine callType_codes (Q₁:=fun obj s₁=>obj=.ref s.heap.objs.size/\s₁={s with heap:=s.heap.push {cls:=.type "dict",data:=.dict #[]}}) F.kt_called_dict (F.kt_typeCall_dict_1 _) F.entry_dict_init (kt_code_dict_new _ ⟨rfl,rfl⟩) ?_
 rintro obj s₁ ⟨rfl,rfl⟩
 have hS:(s.heap.push {cls:=.type "dict",data:=.dict #[]}).get? s.heap.objs.size=some {cls:=.type "dict",data:=.dict #[]}:=Heap.get?_push_size _ rfl
 have k0:∀b o,s.heap.get? b=some o->(s.heap.push {cls:=.type "dict",data:=.dict #[]}).get? b=some o:=fun b o e=>Heap.get?_push_of_some _ e
 generalize hN:s.heap.objs.size=S at hS hL ⊢
 generalize s.heap.push {cls:=.type "dict",data:=.dict #[]}=hp at hS k0 ⊢
 have Pg:hp.get? z=_:=k0 _ _ hz
 have hTS:Shared.TypeIs {s with heap:=hp} (.ref S) "dict":=⟨_,hS,rfl⟩
 have hT:Shared.TypeIs {s with heap:=hp} (.ref z) "zip":=⟨_,Pg,rfl⟩
 refine ⟨hTS,F.args_dict_init_2 _ _,?_⟩
 unfold Builtin.«dict.__init__»
 refine wpAny_bind ?_
 unfold Builtin.Dict.selfAndRest
 refine wpAny_bind (wpAny_notOrdered_dict hTS ?_)
 refine wpAny_pure ?_
 show wpAny _ _ (Builtin.Dict.updateFrom "dict.__init__" S (.ref z) [] .none) _ _ _
 unfold Builtin.Dict.updateFrom
 refine wpAny_bind (wpAny_typeOf hT ?_)
 rw [if_pos (by decide)]
 refine wpAny_bind (u_ (s:={s with heap:=hp}) Pg hA fun h' tk k1=>?_)
 rw [if_pos (by rfl)]
 refine wpAny_bind (wpAny_rule ?_)
 have hz3:IsZip h' z TI TO f0:=k1 _ _ Pg
 refine wpAny_bind (wpAny_pyIter_zip (s:={s with heap:=h',toks:=tk}) hz3 ?_)
 exact wpAny_pure ⟨plainId_quiet fN _,hL _ _ _ (fun b o e=>k1 _ _ (k0 _ _ e)) (k1 _ _ hS) fun s' hq=>⟨rfl,hq⟩⟩
end
section
variable {X:Cx}{pins:ε}{σ:L2.St}
theorem va (kvs more:γ)(kv:Key×V):cf kvs (more++[kv])=putK (cf kvs more) kv.1 kv.2:=by
 unfold cf
 rw [List.foldl_append]
 rfl
theorem Ph {z TI TO i1 i2 a b S:Addr}{A' :Around}{R:Ο}{ks:List Key}{ys:ζ}{H0:Hp}(hh:A'.in1.handled=none)(D:ZipApart z TI TO i1 i2 a b)(na:a≠S)(nb:b≠S)(hk1:ks.length<=1000):
  ∀(k i:Nat) (s:Shared) (H:Hp),min ks.length ys.length - i=k->i<=min ks.length ys.length->Inv X pins σ H s->(∀c∈[z,TI,TO,i1,i2],iL X pins H c)->JJ s.heap z TI TO i1 i2 a b S i->
  H a=some (.lst (ks.map kV))->H b=some (.lst ys)->H S=some (.dK (cf [] ((ks.zip ys).take i)))->aX S H0 H->
  (∀s' H',Inv X pins σ H' s' ->aX S H0 H' ->H' S=some (.dK (cf [] (ks.zip ys)))->R (.ok (.ret .none)) s')->
  codeAny (model X.prog X.w) A' (.builtin "dict.update.loop" ⟨[.ref S,.ref z,rawInt (i:Int),.none],[]⟩) R s:=by
 have aqK:(ks.zip ys).length=min ks.length ys.length:=List.length_zip
 intro k
 induction k with
 | zero=>
  intro i s H hk hi I hf st ha hb hS K3 hR
  refine codeAny_builtin lX ?_
  rw [Around.under_plainId fN _]
  show wpAny _ A'.in1 (pyNext (.ref z) >>=_) _ _ s
  obtain ⟨z1,its,n1,r1,l1,e1⟩:=I.mm ha
  obtain ⟨z2,SA,n2,r2,l2,e2⟩:=I.mm hb
  rw [aab] at l1
  refine wpAny_bind (st.fin hh D ⟨_,e1,rfl,_,rfl⟩ ⟨_,e2,rfl,_,rfl⟩ ?_ fun h' kk=>?_)
  ·by_cases c:ks.length<=i
   ·exact .inl (by simp;omega)
   ·exact .inr (by simp;omega)
  ·rw [ahc (by omega)] at hS
   exact wpAny_bind (wpAny_pure (wpAny_pure (hR _ H (Inv.mT (t' :=s.toks) I kk hf) K3 hS)))
 | succ k ih=>
  intro i s H hk hi I hf st ha hb hS K3 hR
  refine codeAny_builtin lX ?_
  rw [Around.under_plainId fN _]
  show wpAny _ A'.in1 (pyNext (.ref z) >>=_) _ _ s
  obtain ⟨z1,its,n1,r1,l1,e1⟩:=I.mm ha
  obtain ⟨z2,SA,n2,r2,l2,e2⟩:=I.mm hb
  have lx:i < ks.length:=by omega
  have ly:i < ys.length:=by omega
  obtain ⟨u,hu,ru⟩:=r1.get (i:=i) (x:=kV ks[i]) (by rw [Wp,gE lx];rfl)
  obtain ⟨v,hv,rv⟩:=r2.get (i:=i) (x:=ys[i]) (gE ly)
  obtain ⟨zS0,aqL,SQ,aqM,dd0⟩:=iU I.bK hS
  obtain ⟨oS,_,_,eS,_⟩:=id dd0
  refine wpAny_bind (st.item D eS ⟨_,e1,rfl,_,rfl⟩ ⟨_,e2,rfl,_,rfl⟩ (x:=u) (y:=v) (by simpa using hu) (by simpa using hv) fun h' yh ht kk=>?_)
  have Q7:∀c∈[z,TI,TO,i1,i2],c≠S:=fun c hc e=>by
   have:=(hf c hc).1
   rw [e,hS] at this
   cases this
  have I2:Inv X pins σ H {s with heap:=h',toks:=s.toks}:=Inv.mT (t' :=s.toks) I kk hf
  obtain ⟨zS,hdS,vs,rel,dd⟩:=iU I2.bK hS
  have hT:Shared.TypeIs {s with heap:=h',toks:=s.toks} (.ref s.heap.objs.size) "tuple":=⟨_,ht,rfl⟩
  refine wpAny_bind (wpAny_holding ?_)
  refine wpAny_bind (wpAny_tryCatch ?_)
  unfold Builtin.Dict.pairItems
  refine wpAny_bind (wpAny_typeOf hT ?_)
  rw [if_pos (by decide)]
  refine wpAny_bind (wpAny_seqItems ht rfl (wpAny_pure ?_))
  show wpAny _ A'.in1 (holding [u,v] (dictSet S u v)) _ _ _
  refine wpAny_holding ?_
  have hlen:vs.length<=sizeLine:=by rw [<- rel.length];exact zS
  refine wpAny_dictSet_pairs (hsz:=hlen) (jz ru) dd fun h2 R8 sb=>?_
  have he:∃q,h2.get? S=some q:=let ⟨q,_,_,hq,_⟩:=R8;⟨q,hq⟩
  have etk:(ks.zip ys).take (i+1)=(ks.zip ys).take i++[(ks[i],ys[i])]:=by
   rw [aiM]
   have:(ks.zip ys)[i]? =some (ks[i],ys[i]):=by rw [List.getElem?_zip_eq_some];exact ⟨gE lx,gE ly⟩
   rw [this]
   rfl
  have S9:cf [] ((ks.zip ys).take (i+1))=putK (cf [] ((ks.zip ys).take i)) ks[i] ys[i]:=by rw [etk,va]
  have hl:(putK (cf [] ((ks.zip ys).take i)) ks[i] ys[i]).length<=sizeLine:=by
   rw [<- S9]
   have h1:=fU ((ks.zip ys).take (i+1)) []
   rw [aa2,ain] at h1
   exact aai (show (cf [] ((ks.zip ys).take (i+1))).length<=1000 by omega) (by decide)
  have I3:Inv X pins σ (upd H S (.dK (putK (cf [] ((ks.zip ys).take i)) ks[i] ys[i]))) {s with heap:=h2,toks:=s.toks+1}:=iA (s:={s with heap:=h',toks:=s.toks}) (t' :=s.toks+1) I2 (by rw [hS];exact True.intro) sb he (nZ hl hdS (rel.put ks[i] rv) R8)
  have kS:∀c o,c≠S->h'.get? c=some o->h2.get? c=some o:=fun c o n e=>(sb.2 c n).trans e
  refine wpAny_pure ⟨plainId_quiet fN _,?_⟩
  have nn:∀{c:Addr} {o:HO},H c=some o->c≠S->(upd H S (.dK (putK (cf [] ((ks.zip ys).take i)) ks[i] ys[i]))) c=some o:=fun {c o} e n=>by rw [ao n];exact e
  refine ih (i+1) _ _ (by omega) (by omega) I3 (fun c hc=>?_) (yh.frame kS (Q7 z (by simp)) (Q7 TI (by simp)) (Q7 TO (by simp)) (Q7 i1 (by simp)) (Q7 i2 (by simp))) (nn ha na) (nn hb nb) (by rw [S9,ak]) (fun c o n e=>nn (K3 c o n e) n) hR
  obtain ⟨f0,f1,f2,f3,f4,f5⟩:=hf c hc
  exact ⟨by rw [ao (Q7 c hc)];exact f0,f1,f2,f3,f4,f5⟩
def Pj (ta:TA):TE:=fun σ H Q=>ta σ H fun vs H1=>∃(a b:Addr) (ks:List Key) (ys:ζ),vs=[.ref a,.ref b]/\H1 a=some (.lst (ks.map kV))/\H1 b=some (.lst ys)/\ks.length<=1000/\
 ∀(l:Addr) (H' :Hp),au H1 H' ->H1 l=none->H' l=some (.dK (cf [] (ks.zip ys)))->Q (.ref l) H'
theorem boot_dict:bootBuiltins "dict"=some (.type "dict"):=by decide+kernel
theorem G_ {e1 e2:Expr}{ta:TA}{p pos p' pos' :Pos}(hc:X.calm=true)(hgl:Gl X "dict")(hml:X.mg "dict"=none)(hg:Gl X "zip")(hm:X.mg "zip"=none)(ha:PA X [e1,e2] ta)(hs:starEach [e1,e2] X.env=[(false,eval e1 X.env),(false,eval e2 X.env)]:=by rfl)(EM:starEach [e2] X.env=[(false,eval e2 X.env)]:=by rfl)
  (Yt:starEach [(.Call (.Name "zip" p) [e1,e2] [] pos:Expr)] X.env=[(false,eval (.Call (.Name "zip" p) [e1,e2] [] pos) X.env)]:=by rfl):
  PE X (.Call (.Name "dict" p') [.Call (.Name "zip" p) [e1,e2] [] pos] [] pos') (Pj ta):=by
 intro pins s σ H Q I h
 refine Call_ (fQ I hgl hml boot_dict (PyProof.Rows.callWith_type1 ?_ Yt rfl))
 rw [Yt]
 show wpAny _ _ (spliced ((false,eval (.Call (.Name "zip" p) [e1,e2] [] pos) X.env)::[])) _ _ s
 refine Calls.spliced_cons ?_
 refine Call_ (fQ I hg hm boot_zip (PyProof.Rows.callWith_type1 (bZ (ha pos pins s σ H _ I h) fun us s1 ⟨vs,H1,I1,r1,q1⟩=>?_) (by rw [hs,EM]) (by rw [EM];rfl)))
 obtain ⟨a,b,ks,ys,e,hx,hy,hkl,q⟩:=q1
 subst e
 cases r1 with
 | cons r rr=>
  cases rr with
  | cons r' rr=>
   cases rr
   cases r
   cases r'
   obtain ⟨z1,its,n1,r1,l1,e1⟩:=I1.mm hx
   obtain ⟨z2,SA,n2,r2,l2,e2⟩:=I1.mm hy
   have lt1:a < s1.heap.objs.size:=Heap.lt_size e1
   have lt2:b < s1.heap.objs.size:=Heap.lt_size e2
   refine call_zip_2 ⟨_,e1,rfl,_,rfl⟩ ⟨_,e2,rfl,_,rfl⟩ fun h' hz i7 qR OU SD hsz hk=>Calls.spliced_nil ?_
   have I2:Inv X pins σ H1 {s1 with heap:=h',toks:=s1.toks}:=I1.kept (t' :=s1.toks) hk
   have hS:=I2.bK.fresh (aaf h'.objs.size)
   refine qd (s:={s1 with heap:=h' }) (I1.ok.hd hc) hz fun h2 tk R k2 S_ hR=>?_
   have lt' :mainGlobals < h'.objs.size:=(I2.mod.glob.keeps I2.bk).lt
   have ns:(h'.objs.size==sysModules)=false:=beq_eq_false_iff_ne.mpr (aaW (aa1 (aii (by decide) lt')))
   have I3:Inv X pins σ (upd H1 h'.objs.size (.dK [])) {s1 with heap:=h2,toks:=tk}:=I2.laid (t' :=tk) k2 (aaf _) ⟨aa6 _,ns,[],.nil,_,_,_,S_,⟨rfl,rfl,rfl⟩,rfl,fun _ he=>by simp at he,Pairs.nil,apI⟩
   have st:JJ h2 (s1.heap.objs.size+4) (s1.heap.objs.size+2) (s1.heap.objs.size+3) s1.heap.objs.size (s1.heap.objs.size+1) a b h'.objs.size 0:=
    ⟨.inl (k2 _ _ hz),k2 _ _ i7,⟨_,_,k2 _ _ qR⟩,OU.at fun o e=>k2 _ o e,SD.at fun o e=>k2 _ o e⟩
   have na:a≠h'.objs.size:=aq hx hS
   have nb:b≠h'.objs.size:=aq hy hS
   have ub:=AK hS (.dK [])
   refine Ph (A' :=X.A.in1) (H0:=H1) (ks:=ks) (ys:=ys) (I1.ok.hd hc) ?_ na nb hkl (min ks.length ys.length) 0 _ _ (by omega) (aa6 _) I3 (fun c' t_ =>?_) st (ub _ _ hx) (ub _ _ hy) ak (fun b' o n e=>ub _ _ e) fun s' H' I' ks' O6 =>hR s' ⟨.ref h'.objs.size,H',I',rfl,q _ H' (fun b' o e=>ks' b' o (aq e hS) e) hS O6⟩
   ·constructor <;> (intro z;simp only [Addr] at*;omega)
   ·have Oy:c' =s1.heap.objs.size+4\/c' =s1.heap.objs.size+2\/c' =s1.heap.objs.size+3\/c' =s1.heap.objs.size\/c' =s1.heap.objs.size+1:=by simpa using t_
    have hb:s1.heap.objs.size<=c' :=by
     simp only [Addr] at*
     omega
    have hb2:c' ≠h'.objs.size:=by
     rw [hsz]
     simp only [Addr] at*
     omega
    refine I1.j7 hb ?_
    rw [ao hb2]
    exact I1.bK.fresh hb
end
theorem du.snoc {K:Frag}{H:Hp}{us:ζ}{qs:ς}{v:V}{q:Int×Int}(h:du K H us qs)(n:mw K H v q):du K H (us++[v]) (qs++[q]):=by
 refine ⟨by simp [h.1],fun i u q' e1 e2=>?_⟩
 have l:=h.1
 by_cases c:i < us.length
 ·rw [aaD c] at e1
  rw [aaD (by omega)] at e2
  exact h.2 i u q' e1 e2
 ·rw [aaY (by omega)] at e1 e2
  by_cases z:i - us.length=0
  ·rw [z] at e1
   rw [show i - qs.length=0 by omega] at e2
   cases e1
   cases e2
   exact n
  ·rw [aaj (by simp;omega)] at e1
   cases e1
theorem du.aU {K:Frag}{H H' :Hp}{us:ζ}{qs:ς}(h:du K H us qs)(s:aY H H'):du K H' us qs:=⟨h.1,fun i u q e1 e2=>(h.2 i u q e1 e2).aU s⟩
variable {X:Cx}
section
variable {X:Cx}{pins:ε}{σ:L2.St}{H:Hp}{s:Shared}
theorem Inv.laidIn {a:Addr}{o:HO}(I:Inv X pins σ H s)(f:iL X pins H a)(new:cE X.prog X.w (upd H a o) s.heap a o):Inv X pins σ (upd H a o) s:=by
 obtain ⟨f0,f1,f2,f3,f4,f5⟩:=f
 have nx:∀b u,H b=some u->upd H a o b=some u:=fun b u q=>by rw [ao (fun z=>by rw [z,f0] at q;cases q)];exact q
 refine ⟨I.ok,I.os,I.bare,⟨I.base.keep,I.base.slot,fun b ob q z hx=>?_,I.base.there,fun b xs q=>nx b _ (I.base.pS b xs q),fun b ob u' q=>nx b _ (I.base.m_ b ob u' q),fun b ps q=>?_⟩,I.loc,I.cell,?_,fun x c q=>?_,fun p hp=>?_,?_,I.len⟩
 ·rw [ao (fun e=>?_)]
  ·exact I.base.free b ob q z hx
  ·rcases f3 with f3 | f3
   ·exact hx (e▸f3)
   ·exact absurd (Heap.lt_size q) (by rw [e];exact Nat.not_lt.mpr f3)
 ·obtain ⟨m,z⟩:=I.base.pT b ps q
  exact ⟨m,nx b _ z⟩
 ·rw [ao (aaW f1)]
  exact I.free
 ·rw [ao (f4 x c q)]
  exact I.gX x c q
 ·obtain ⟨a1,a2,a3⟩:=I.pin p hp
  exact ⟨a1,by rw [ao (f5 p hp)];exact a2,a3⟩
 ·intro b u q
  by_cases hb:b=a
  ·subst hb
   rw [ak] at q
   cases q
   exact new
  ·rw [ao hb] at q
   exact (I.bK b u q).pR (fun _ _ _ z=>z) (fun c z=>nx c _ z) fun c xs z=>nx c _ z
theorem q_:∀(as:τ) (kvs:γ) (H:Hp),Inv X pins σ H s->as.Pairwise (· < ·)->(∀a∈as,iL X pins H a)->as.length=kvs.length->
  (∀(j:Nat) (a:Addr) (kv:Key×V),as[j]? =some a->kvs[j]? =some kv->∃its,Vals [kV kv.1,kv.2] its/\IsTup s.heap a its.toArray)->
  ∃H',Inv X pins σ H' s/\(∀b,b∉as->H' b=H b)/\∀(j:Nat) (a:Addr) (kv:Key×V),as[j]? =some a->kvs[j]? =some kv->H' a=some (.tup [kV kv.1,kv.2])
 | [],kvs,H,I,_,_,_,_=>⟨H,I,fun _ _=>rfl,fun j a kv e=>by simp at e⟩
 | a::as,[],H,_,_,_,hl,_=>by simp at hl
 | a::as,kv::kvs,H,I,hr,hf,hl,hp=>by
  obtain ⟨r1,r2⟩:=ahy.mp hr
  obtain ⟨its,v,t⟩:=hp 0 a kv rfl rfl
  have I2:=Inv.laidIn (o:=.tup [kV kv.1,kv.2]) I (hf a aap) ⟨by show 2<=sizeLine;decide,its,v,t⟩
  obtain ⟨H',I',k',t'⟩:=q_ as kvs _ I2 r2 (fun b hb=>by
   obtain ⟨f0,f1⟩:=hf b (aae _ hb)
   exact ⟨by rw [ao (ahr (r1 b hb))];exact f0,f1⟩) (by simpa using hl) (fun j b S' e1 e2=>hp (j+1) b S' (by simpa using e1) (by simpa using e2))
  have na:a∉as:=fun z=>abp _ (r1 a z)
  refine ⟨H',I',fun b hb=>?_,fun j b S' e1 e2=>?_⟩
  ·rw [k' b (fun z=>hb (aae _ z)),ao (fun z=>hb (by rw [z];exact aap))]
  ·cases j with
   | zero=>
    cases e1
    cases e2
    rw [k' a na,ak]
   | succ j=>exact t' j b S' (by simpa using e1) (by simpa using e2)
inductive vb (Q:VK)(x:V)(H1:Hp):Prop where
 | mk (d kvs:_) (_:x=.ref d) (_:H1 d=some (.dK kvs)) (_:∀(l:Addr) (us:ζ) (H' :Hp),au H1 H' ->H1 l=none->H' l=some (.lst us)->Paired (fun u (kv:Key×V)=>∃p,u=.ref p/\H' p=some (.tup [kV kv.1,kv.2])) us kvs->Q (.ref l) H'):vb Q x H1
def K4 (te:TE):TE:=fun σ H Q=>te σ H fun x H1=>vb Q x H1
theorem AM {e:Expr}{te:TE}{apos cw p pos:Pos}(hc:X.calm=true)(hg:Gl X "list")(hm:X.mg "list"=none)(ho:PE X e te)(h_:attributeBase e "items" X.env (eval e X.env)=eval e X.env:=by rfl)(ia:(apos.endLine==cw.line)=true:=by rfl)
  (hs:starEach [(.Call (.Attribute e "items" apos) [] [] cw:Expr)] X.env=[(false,eval (.Call (.Attribute e "items" apos) [] [] cw) X.env)]:=by rfl):
  PE X (.Call (.Name "list" p) [.Call (.Attribute e "items" apos) [] [] cw] [] pos) (K4 te):=by
 intro pins s σ H Q I h
 refine Call_ (fQ I hg hm boot_list (PyProof.Rows.callWith_type1 ?_ hs rfl))
 rw [hs]
 show wpAny _ _ (spliced ((false,eval (.Call (.Attribute e "items" apos) [] [] cw) X.env)::[])) _ _ s
 refine Calls.spliced_cons ?_
 refine wpAny_Call_method0_late h_ ia (bZ (ho pins s σ H _ I h) fun v s1 ⟨x,H1,I1,r1,q1⟩=>?_)
 obtain ⟨d,kvs,rfl,e,q⟩:=q1
 cases r1
 obtain ⟨h1,h2,hd⟩:=oh I1 (.inl ⟨kvs,.inl e⟩)
 obtain ⟨z,JC,vs,rel,o,KR,ep,v8,hx,fV,hk,hp,hn⟩:=iU I1.bK e
 have da:s1.heap.DictAt (bo X.prog X.w) d vs ep:=⟨o,KR,v8,hx,fV,hk,hp,hn⟩
 have lv:=rel.length
 refine ⟨"dict","dict.items",F.plainAttrs_dict,F.slot_dict_items,F.type_dict_items,h1,h2,Calls.callWith_builtin rfl (PySem.evalArgs_none ?_)⟩
 refine call_meetsIn F.slot_dict_items h1 F.entry_dict_items (F.args_dict_items_1 _) (meets_dict_items (bo X.prog X.w) d hd) ⟨⟨vs,da.dictOf⟩,Calls.spliced_nil ?_⟩
 have O9:(s1.heap.push {cls:=.type "dict_items",data:=.fields #[.ref d]}).DictAt (bo X.prog X.w) d vs ep:=da.at' fun o e=>Heap.get?_push_of_some _ e
 have I2:Inv X pins σ H1 {s1 with heap:=s1.heap.push {cls:=.type "dict_items",data:=.fields #[.ref d]},toks:=s1.toks}:=I1.kept (t' :=s1.toks) fun b o e=>Heap.get?_push_of_some _ e
 refine PySem.W.kdx_call (s:={s1 with heap:=s1.heap.push {cls:=.type "dict_items",data:=.fields #[.ref d]}}) (knd:=bo X.prog X.w) (r:=s1.heap.objs.size) (kvs:=vs) (ep:=ep) (I1.ok.hd hc) ⟨_,Heap.get?_push_size _ rfl,rfl,rfl⟩ O9 (by omega) fun h' tk acc c as kk hS hl hG ky=>?_
 generalize EM:(s1.heap.push {cls:=.type "dict_items",data:=.fields #[.ref d]})=M7 at*
 have Of :=I2.bK.fresh (aaf M7.objs.size)
 have sz:as.length<=sizeLine:=by omega
 have I3:Inv X pins σ H1 {s1 with heap:=h',toks:=tk}:=I2.kept (t' :=tk) kk
 have fp:∀{b:Addr},M7.objs.size<=b->iL X pins H1 b:=fun {b} hb=>I2.j7 hb (I2.bK.fresh hb)
 have I4:=Inv.laidIn (o:=.lst (as.map V.ref)) I3 (fp (aaf _)) ⟨by rw [aab];exact sz,acc.toList,c,by
  rw [ky]
  exact b9 (by simp) fun i a b e1 e2=>by
   rw [Wp] at e1 e2
   obtain ⟨x,ex,rfl⟩:=aar.mp e1
   rw [ex] at e2
   cases e2
   rfl,by simpa using hS⟩
 obtain ⟨H',I5,k5,t5⟩:=q_ as kvs _ I4 hG.rise (fun a ha=>by
  obtain ⟨f0,f1⟩:=fp (abA (hG.above a ha))
  exact ⟨by rw [ao (ahr (hG.above a ha))];exact f0,f1⟩) (by omega) (fun j a kv e1 e2=>by
  obtain ⟨key,k,x,g1,g2,g3⟩:=hG.pairs j a e1
  obtain ⟨q',eq,e3,e4⟩:=av rel e2
  rw [eq] at g1
  cases g1
  exact ⟨[key,x],.cons (by rw [e3];exact mV g2) (.cons e4 .nil),⟨_,g3,rfl,_,rfl⟩⟩)
 have nS:M7.objs.size∉as:=fun z=>abp _ (hG.above _ z)
 refine ⟨.ref _,H',I5,rfl,q _ (as.map V.ref) H' (fun b o eb=>?_) Of (by rw [k5 _ nS,ak]) (b9 (by rw [aab];omega) fun i u kv e1 e2=>?_)⟩
 ·have nb:∀{b' :Addr},M7.objs.size<=b' ->b≠b' :=fun {b'} hb z=>by rw [z,(fp hb).1] at eb;cases eb
  rw [k5 b (fun z=>nb (abA (hG.above b z)) rfl),ao (nb (aaf _))]
  exact eb
 ·rw [Wp] at e1
  obtain ⟨a,ea,rfl⟩:=aar.mp e1
  exact ⟨a,rfl,t5 i a kv ea e2⟩
theorem xa {K:Frag}(h:X.K=K):iR X (compareOp .In) (ZK K false):=by subst h;exact ke
end
section
variable {X:Cx}
end
section
variable {D:Addr}{te:TE}{cap:L2.St}{H1:Hp}{Q:VK}
end
section
variable {X:Cx}{o e:Expr}{es:ψ}{to:TE}{t:TA}{name:Str}{apos cw:Pos}{T id:String}{r:Φ}
end
section
variable {X:Cx}{K:Frag}
inductive vc (Q:VK)(x:V)(H1:Hp):Prop where
 | mk (d kvs:_) (_:x=.ref d) (_:H1 d=some (.dK kvs)) (_:Q .cB (upd H1 d (.dK []))):vc Q x H1
def K5 (te:TE):TE:=fun σ H Q=>te σ H fun x H1=>vc Q x H1
theorem ra {e:Expr}{te:TE}{apos cw:Pos}(ho:PE X e te)(h_:attributeBase e "clear" X.env (eval e X.env)=eval e X.env:=by rfl)(ia:(apos.endLine==cw.line)=true:=by rfl):
  PE X (.Call (.Attribute e "clear" apos) [] [] cw) (K5 te):=by
 intro pins s σ H Q I h
 refine wpAny_Call_method0_late h_ ia (bZ (ho pins s σ H _ I h) fun v s1 ⟨x,H1,I1,r1,q1⟩=>?_)
 obtain ⟨d,kvs,rfl,e,q⟩:=q1
 cases r1
 obtain ⟨h1,h2,hd⟩:=oh I1 (.inl ⟨kvs,.inl e⟩)
 refine ⟨"dict","dict.clear",F.plainAttrs_dict,F.slot_dict_clear,F.type_dict_clear,h1,h2,Calls.callWith_builtin rfl (PySem.evalArgs_none ?_)⟩
 exact KI I1 e fun s' I3=>⟨.cB,_,I3,rfl,q⟩
end
section
variable {D:Addr}{te:TE}{cap:L2.St}{H1:Hp}{Q:VK}
theorem xf {K:Frag}{a:Addr}{xs:ζ}(J:List V->Hp->Prop)(nD:H1 D=none)(hn:xs.length < sizeLine)(hS:∀H,au H1 H->a8 K H a xs)(h0:J [] (upd H1 D (.lst [])))
  (he:∀(i:Nat) x ys H (R:VK),xs[i]? =some x->ys.length=i->J ys H->au H1 H->H D=some (.lst ys)->(∀v H6,au H H6->J (ys++[v]) (upd H6 D (.lst (ys++[v])))->R v H6)->te (some x::cap) H R)
  (hd:∀ys H,ys.length=xs.length->J ys H->au H1 H->H D=some (.lst ys)->Q (.ref D) H):
  km D (c9 0) ki te (JE K a) (none::cap) H1 Q:=by
 refine wO xs.length (fun i=>(xs[i]?).getD .cB) (fun i ys H=>ys.length=i/\J ys H/\au H1 H) ⟨rfl,h0,fun b o e=>by rw [ao (aq e nD)];exact e⟩ ?_ ?_ ?_ ?_
 ·rintro i ys H hi ⟨_,_,s⟩
  exact ⟨⟨xs,xs[i],hS H s,gE hi⟩,fun x H' y=>⟨y.1,by rw [y.2 xs (hS H s)];rfl⟩⟩
 ·rintro ys H ⟨_,_,s⟩
  exact ⟨xs,hS H s,aaf _⟩
 ·rintro i ys H R hi ⟨l,j,s⟩ hD k
  have e:xs[i]? =some xs[i]:=gE hi
  have k' :=he i _ ys H R e l j s hD fun v H6 s6 jv=>k v H6 (s6 _ _ hD) (by omega) ⟨by simp [l],jv,fun b o e=>by rw [ao (aq e nD)];exact s6 _ _ (s _ _ e)⟩
  rw [<- (show (xs[i]?).getD .cB=xs[i] by rw [e];rfl)] at k'
  exact k'
 ·rintro ys H ⟨l,j,s⟩ hD
  exact hd ys H l j s hD
end
end Ty
set_option maxHeartbeats 4000000
namespace Ty
theorem rf {α:Type}[DecidableEq α]:∀{l m:List α},l.Nodup->(∀x∈l,x∈m)->l.length<=m.length
 | [],_,_,_=>aa6 _
 | x::l,m,h,k=>by
  obtain ⟨h1,h2⟩:=aaX.mp h
  have hx:=k x aap
  have:=rf (l:=l) (m:=m.erase x) h2 fun y hy=>(List.mem_erase_of_ne (fun z:y=x=>h1 (by rw [<- z];exact hy))).mpr (k y (aae _ hy))
  rw [List.length_erase_of_mem hx] at this
  have p:=List.length_pos_of_mem hx
  show l.length+1<=m.length
  omega
def box (B:Nat):Nat->List (List Int)
 | 0=>[[]]
 | n+1=>(box B n).flatMap fun y=>(abl (B+1)).map fun (a:Nat)=>(a:Int)::y
theorem yG {α:Type}(c:Nat):∀l:List α,(l.map fun _=>c).sum=l.length*c
 | []=>by simp
 | _::l=>by
  rw [aal,aib,yG c l,aa5,acf]
  omega
theorem sr (B:Nat):∀n,(box B n).length=(B+1)^n
 | 0=>rfl
 | n+1=>by
  have ih:=sr B n
  unfold box
  rw [List.length_flatMap]
  have:((box B n).map fun y=>((abl (B+1)).map fun (a:Nat)=>(a:Int)::y).length)=(box B n).map fun _=>B+1:=abt fun y _=>by rw [aab,ahE]
  rw [this,yG,ih,ahD]
theorem rh (B:Nat):∀n,(box B n).Nodup
 | 0=>by simp [box]
 | n+1=>by
  have ih:=rh B n
  unfold box
  unfold apH at ih ⊢
  rw [List.pairwise_flatMap]
  refine ⟨fun y _=>?_,ih.imp fun {y1 y2} ne x hx z hz e=>?_⟩
  ·rw [aho]
   exact aiW.imp fun {a b} ne e=>ne (by injection e with e _;exact Int.ofNat.inj e)
  ·obtain ⟨a,_,rfl⟩:=aad.mp hx
   obtain ⟨b,_,rfl⟩:=aad.mp hz
   injection e with _ e
   exact ne e
theorem iD {B:Nat}:∀{n:Nat} {y:ξ},y∈box B n ↔ y.length=n/\∀a∈y,0<=a/\a<=(B:Int)
 | 0,y=>by
  unfold box
  rw [aax]
  constructor
  ·intro e
   rw [e]
   exact ⟨rfl,fun a h=>nomatch h⟩
  ·intro h
   exact ahz.mp h.1
 | n+1,y=>by
  unfold box
  rw [abb]
  constructor
  ·rintro ⟨z,hz,hy⟩
   obtain ⟨a,ha,rfl⟩:=aad.mp hy
   obtain ⟨h1,h2⟩:=(iD (n:=n)).mp hz
   have:=abe.mp ha
   refine ⟨by simp [h1],fun b hb=>?_⟩
   rcases aaN.mp hb with e | e
   ·rw [e]
    omega
   ·exact h2 b e
  ·rintro ⟨h1,h2⟩
   match y,h1 with
   | a::z,h1=>
    have ha:=h2 a aap
    refine ⟨z,(iD (n:=n)).mpr ⟨by simpa using h1,fun b hb=>h2 b (aae _ hb)⟩,aad.mpr ⟨a.toNat,abe.mpr (show a.toNat < B+1 by omega),?_⟩⟩
    rw [show ((a.toNat:Nat):Int)=a by omega]
def gw:List Int->List Int->Int
 | a::e,b::y=>a*b+gw e y
 | _,_=>0
theorem vd:∀(e:ξ) {y z:ξ},y.length=z.length->gw e (ace (fun a b=>a - b) y z)=gw e y - gw e z
 | [],y,z,h=>by simp [gw]
 | a::e,[],[],h=>by simp [gw]
 | a::e,b::y,c::z,h=>by
  have ih:=vd e (y:=y) (z:=z) (by simpa using h)
  rw [aij]
  simp only [gw]
  rw [ih,Int.mul_sub]
  omega
theorem yH {A B:Nat}:∀{e y:ξ},(∀a∈e,a.natAbs<=A)->(∀b∈y,b.natAbs<=B)->(gw e y).natAbs<=e.length*(A*B)
 | [],y,_,_=>by simp [gw]
 | a::e,[],_,_=>by simp [gw]
 | a::e,b::y,h1,h2=>by
  have ih:=yH (e:=e) (y:=y) (fun x hx=>h1 x (aae _ hx)) fun x hx=>h2 x (aae _ hx)
  simp only [gw]
  have m:(a*b).natAbs<=A*B:=by
   rw [abZ]
   exact abJ (h1 a aap) (h2 b aap)
  have t:=ahm (a*b) (gw e y)
  rw [aa5,acf,aiu]
  omega
theorem G' {n A:Nat}{eqs:η}(hn:eqs.length < n)(hA:1<=A)(he:∀e∈eqs,e.length=n/\∀a∈e,a.natAbs<=A):∃z:List Int,z.length=n/\(∃a∈z,a≠0)/\(∀a∈z,a.natAbs<=(2*n*A)^eqs.length)/\∀e∈eqs,gw e z=0:=by
 generalize hC:2*n*A=C
 generalize hB:C^eqs.length=B
 have c1:1<=C:=by
  rw [<- hC]
  exact abJ (show 1<=2*n by omega) hA
 generalize hM:n*(A*B)=M
 have key:¬ ∀y∈box B n,∀z∈box B n,(eqs.map fun e=>gw e y+(M:Int))=(eqs.map fun e=>gw e z+(M:Int))->y=z:=by
  intro inj
  have nd:((box B n).map fun y=>eqs.map fun e=>gw e y+(M:Int)).Nodup:=by
   unfold apH
   rw [aho]
   refine List.Pairwise.imp_of_mem (fun {y z} hy hz ne e=>ne (inj y hy z hz e)) (rh B n)
  have le:=rf nd (m:=box (2*M) eqs.length) fun x hx=>by
   obtain ⟨y,hy,rfl⟩:=aad.mp hx
   obtain ⟨ly,by'⟩:=iD.mp hy
   refine iD.mpr ⟨by simp,fun a ha=>?_⟩
   obtain ⟨e,Yy,rfl⟩:=aad.mp ha
   have b1:=yH (A:=A) (B:=B) (he e Yy).2 (y:=y) fun b hb=>by
    have:=by' b hb
    omega
   rw [(he e Yy).1,hM] at b1
   omega
  rw [aab,sr,sr] at le
  have e1:2*M+1<=C*(B+1):=by
   have e3:2*M=C*B:=by rw [<- hM, <- hC, <- Nat.mul_assoc, <- Nat.mul_assoc]
   rw [e3,Nat.mul_add]
   omega
  have e2:(2*M+1)^eqs.length<=B*(B+1)^eqs.length:=by
   have:=ahW e1 eqs.length
   rw [Nat.mul_pow,hB] at this
   exact this
  have e4:(B+1)^(eqs.length+1)<=(B+1)^n:=aa0 (by omega) hn
  have e5:B*(B+1)^eqs.length < (B+1)^(eqs.length+1):=by
   rw [ahD,ahY ((B+1)^eqs.length)]
   exact Nat.mul_lt_mul_of_pos_right (aba B) (Nat.pow_pos (by omega))
  omega
 obtain ⟨y,k1⟩:=aiv.mp key
 obtain ⟨hy,k2⟩:=ah'.mp k1
 obtain ⟨z,k3⟩:=aiv.mp k2
 obtain ⟨hz,k4⟩:=ah'.mp k3
 obtain ⟨ee,ne⟩:=ah'.mp k4
 obtain ⟨ly,by'⟩:=iD.mp hy
 obtain ⟨lz,bz⟩:=iD.mp hz
 have hl:y.length=z.length:=by omega
 refine ⟨ace (fun a b=>a - b) y z,by rw [List.length_zipWith];omega,?_,?_,fun e Yy=>?_⟩
 ·apply abr
  intro h
  refine ne (List.ext_getElem hl fun i h1 h2=>?_)
  have h' :∀a∈ace (fun a b=>a - b) y z,a=0:=fun a ha=>abr fun q=>h ⟨a,ha,q⟩
  have m:y[i] - z[i]∈ace (fun a b=>a - b) y z:=by
   refine be (i:=i) ?_
   rw [ahj,gE h1,gE h2]
  have:=h' _ m
  omega
 ·intro a ha
  obtain ⟨i,ei⟩:=aas ha
  rw [ahj] at ei
  have hi:i < y.length:=by
   apply abr
   intro q
   rw [aaj (by omega)] at ei
   cases ei
  rw [gE hi,gE (show i < z.length by omega)] at ei
  have ea:y[i] - z[i]=a:=aay ei
  have q1:=by' _ (abn hi)
  have q2:=bz _ (abn (show i < z.length by omega))
  omega
 ·rw [vd e hl]
  obtain ⟨i,ei⟩:=aas Yy
  have e1:=congrArg (fun l:List Int=>l[i]?) ee
  simp only [Wp,ei,ab9,Option.some.injEq] at e1
  omega
def col (l:ξ)(j:Nat):Rat:=((l.getD j 0:Int):Rat)
inductive cJ (A:η):(Nat->Rat)->Prop
 | zero:cJ A (fun _=>0)
 | put {f:Nat->Rat} (c:Rat) {a:ξ} (h:a∈A) (hf:cJ A f):cJ A (fun j=>f j+c*col a j)
theorem cJ.congr {A:η}{f g:Nat->Rat}(h:cJ A f)(e:∀j,f j=g j):cJ A g:=(funext e:f=g)▸h
theorem cJ.add {A:η}{f g:Nat->Rat}(hf:cJ A f)(hg:cJ A g):cJ A (fun j=>f j+g j):=by
 induction hg with
 | zero=>exact hf.congr fun j=>by grind
 | put c h _ ih=>exact (cJ.put c h ih).congr fun j=>by grind
theorem cJ.mul {A:η}{f:Nat->Rat}(k:Rat)(hf:cJ A f):cJ A (fun j=>k*f j):=by
 induction hf with
 | zero=>exact cJ.zero.congr fun j=>by grind
 | put c h _ ih=>exact (cJ.put (k*c) h ih).congr fun j=>by grind
theorem cJ.mem {A:η}{a:ξ}(h:a∈A):cJ A (col a):=(cJ.put 1 h cJ.zero).congr fun j=>by grind
theorem cJ.trans {A B:η}{f:Nat->Rat}(hf:cJ A f)(h:∀a∈A,cJ B (col a)):cJ B f:=by
 induction hf with
 | zero=>exact cJ.zero
 | put c ha _ ih=>exact ih.add ((h _ ha).mul c)
theorem cJ.mono {A B:η}{f:Nat->Rat}(hf:cJ A f)(h:∀a∈A,a∈B):cJ B f:=hf.trans fun a ha=>cJ.mem (h a ha)
theorem cJ.first {l:ξ}{A:η}{f:Nat->Rat}(hf:cJ (l::A) f):∃a:Rat,cJ A (fun j=>f j - a*col l j):=by
 induction hf with
 | zero=>exact ⟨0,cJ.zero.congr fun j=>by grind⟩
 | put c h _ ih=>
  obtain ⟨a,ha⟩:=ih
  rcases aaN.mp h with e | e
  ·subst e
   exact ⟨a+c,ha.congr fun j=>by grind⟩
  ·exact ⟨a,(cJ.put c e ha).congr fun j=>by grind⟩
theorem cJ.last {l:ξ}{A:η}{f:Nat->Rat}(hf:cJ (A++[l]) f):∃a:Rat,cJ A (fun j=>f j - a*col l j):=cJ.first (hf.mono fun a ha=>by
 rcases aaA.mp ha with z | z
 ·exact aae _ z
 ·rw [aax.mp z]
  exact aap)
theorem cJ.van {A:η}{f:Nat->Rat}{c:Nat}(hf:cJ A f)(h:∀a∈A,col a c=0):f c=0:=by
 induction hf with
 | zero=>rfl
 | put k ha _ ih=>
  dsimp only
  rw [ih,h _ ha]
  grind
structure DS (nd:θ):Prop where
 nn:(nd.map (·.1)).Nodup
 here:∀x∈nd,x.2.getD x.1 0≠0
 off:∀x∈nd,∀y∈nd,x.1≠y.1->x.2.getD y.1 0=0
theorem DS.zero:∀{nd:θ} {f:Nat->Rat},DS nd->cJ (nd.map (·.2)) f->(∀x∈nd,f x.1=0)->∀j,f j=0
 | [],f,_,hf,_=>fun j=>by
  have:∀{g:Nat->Rat},cJ [] g->g j=0:=fun {g} h=>h.van fun a ha=>nomatch ha
  exact this hf
 | x::r,f,P,hf,hz=>by
  obtain ⟨a,ha⟩:=cJ.first hf
  have nn:=aaX.mp P.nn
  have v:f x.1 - a*col x.2 x.1=0:=ha.van (c:=x.1) fun b hb=>by
   obtain ⟨y,hy,rfl⟩:=aad.mp hb
   unfold col
   rw [P.off y (aae _ hy) x aap (fun z=>nn.1 (by show x.1∈_;rw [<- z];exact aad.mpr ⟨y,hy,rfl⟩))]
   rfl
  rw [hz x aap] at v
  have yx:col x.2 x.1≠0:=cY (P.here x aap)
  have a0:a=0:=by grind
  subst a0
  have P' :DS r:=⟨nn.2,fun y hy=>P.here y (aae _ hy),fun y hy z hz=>P.off y (aae _ hy) z (aae _ hz)⟩
  exact DS.zero P' (ha.congr (g:=f) fun j=>by grind) fun y hy=>hz y (aae _ hy)
theorem DS.one {nd:θ}{f:Nat->Rat}(P:DS nd)(hf:cJ (nd.map (·.2)) f){x:Nat×List Int}(hx:x∈nd)(hz:∀y∈nd,y.1≠x.1->f y.1=0):∃a:Rat,∀j,f j=a*col x.2 j:=by
 have yx:col x.2 x.1≠0:=cY (P.here x hx)
 refine ⟨f x.1 / col x.2 x.1,fun j=>?_⟩
 have g:cJ (nd.map (·.2)) fun j=>f j+ -(f x.1 / col x.2 x.1)*col x.2 j:=cJ.put _ (aad.mpr ⟨x,hx,rfl⟩) hf
 have:=P.zero g (fun y hy=>by
  by_cases c:y.1=x.1
  ·rw [c]
   grind
  ·rw [hz y hy c]
   have:col x.2 y.1=0:=by
    unfold col
    rw [P.off x hx y hy (aaW c)]
    rfl
   rw [this]
   grind) j
 grind
def iV:List Int->List (List Int)->Nat->Int
 | z::zs,a::A,j=>z*a.getD j 0+iV zs A j
 | _,_,_=>0
theorem jE:∀(zs:ξ) (A:η),cJ A (fun j=>((iV zs A j:Int):Rat))
 | [],A=>cJ.zero.congr fun j=>by simp [iV]
 | _::_,[]=>cJ.zero.congr fun j=>by simp [iV]
 | z::zs,a::A=>by
  have ih:=(jE zs A).mono (B:=a::A) fun b hb=>aae _ hb
  refine (cJ.put (z:Rat) (aap) ih).congr fun j=>?_
  simp only [iV,col]
  push_cast
  grind
theorem sx (c:Nat):∀(zs:ξ) (A:η),gw (A.map fun a=>a.getD c 0) zs=iV zs A c
 | [],A=>by cases A <;> simp [iV,gw]
 | _::_,[]=>by simp [iV,gw]
 | z::zs,a::A=>by
  simp only [aal,gw,iV]
  rw [sx c zs A,acd]
theorem xg {Z E:Nat}(j:Nat):∀{zs:ξ} {A:η},(∀z∈zs,z.natAbs<=Z)->(∀a∈A,(a.getD j 0).natAbs<=E)->(iV zs A j).natAbs<=A.length*(Z*E)
 | [],A,_,_=>by simp [iV]
 | _::_,[],_,_=>by simp [iV]
 | z::zs,a::A,h1,h2=>by
  have ih:=xg j (zs:=zs) (A:=A) (fun x hx=>h1 x (aae _ hx)) fun x hx=>h2 x (aae _ hx)
  simp only [iV]
  have m:(z*a.getD j 0).natAbs<=Z*E:=by
   rw [abZ]
   exact abJ (h1 z aap) (h2 a aap)
  have t:=ahm (z*a.getD j 0) (iV zs A j)
  rw [aa5,acf,aiu]
  omega
theorem oE (j:Nat):∀{zs:ξ} {A:η} (z:Int) (a:ξ),zs.length=A.length->iV (zs++[z]) (A++[a]) j=iV zs A j+z*a.getD j 0
 | [],[],z,a,_=>by simp [iV]
 | y::zs,b::A,z,a,h=>by
  have ih:=oE j (zs:=zs) (A:=A) z a (by simpa using h)
  simp only [ahM,iV]
  rw [ih]
  omega
def Ta (l:ξ):Prop:=∀d:Int,(∀j,d ∣ l.getD j 0)->d.natAbs=1
theorem HA {l:ξ}(p:Ta l){v:Nat->Int}{a:Rat}(ha:a≠0)(h:∀j,((v j:Int):Rat)=a*col l j)(j:Nat):(l.getD j 0).natAbs<=(v j).natAbs:=by
 have e:∀j,v j*(a.den:Int)=a.num*l.getD j 0:=fun j=>by
  have h1:=h j
  have h2:a=(a.num:Rat) / ((a.den:Int):Rat):=by
   rw [<- aiJ]
   exact (aiA a).symm
  have hd:((a.den:Int):Rat)≠0:=cY (by have:=a.den_pos;omega)
  rw [h2] at h1
  unfold col at h1
  have h3:((v j*(a.den:Int):Int):Rat)=((a.num*l.getD j 0:Int):Rat):=by
   rw [abB,abB]
   generalize ((a.den:Int):Rat)=D at hd h1
   grind
  exact ahT.mp h3
 have dv:∀j,(a.den:Int) ∣ l.getD j 0:=fun j=>by
  have h1:a.den ∣ a.num.natAbs*(l.getD j 0).natAbs:=by
   rw [<- abZ, <- e j,abZ]
   exact ⟨(v j).natAbs,by rw [ahY];rfl⟩
  have h2:=Nat.Coprime.dvd_of_dvd_mul_left (Nat.Coprime.symm a.reduced) h1
  exact ahi.mp (by simpa using h2)
 have d1:a.den=1:=by simpa using p _ dv
 have ej:=e j
 rw [d1] at ej
 have n0:a.num≠0:=fun z=>ha (Rat.num_eq_zero.mp z)
 have:v j=a.num*l.getD j 0:=by simpa using ej
 rw [this,abZ]
 exact Nat.le_mul_of_pos_left _ (by omega)
theorem HB {l:ξ}(p:Ta l):¬ ∀j,l.getD j 0=0:=fun h=>by
 have:=p 0 fun j=>by rw [h j];exact Int.dvd_refl 0
 simp at this
structure DT (os:η)(nd:θ)(lv ps qs:η):Prop where
 po:∀p∈ps,p∈os
 qo:∀q∈qs,q∈os
 lp:ps.length=nd.length
 lq:qs.length=lv.length
 s1:∀x∈nd,cJ ps (col x.2)
 s2:∀p∈ps,cJ (nd.map (·.2)) (col p)
 s3:∀(i:Nat) (l q:ξ),lv[i]? =some l->qs[i]? =some q->cJ (ps++[q]) (col l)/\cJ (nd.map (·.2)++[l]) (col q)
 ind:∀zs:List Int,zs.length=ps.length->(∀j,iV zs ps j=0)->∀a∈zs,a=0
theorem DT.start (os:η):DT os [] os [] os:=by
 refine ⟨by simp,fun q hq=>hq,rfl,rfl,by simp,by simp,fun i l q e1 e2=>?_,fun zs h _ a ha=>?_⟩
 ·rw [e1] at e2
  cases e2
  exact ⟨cJ.mem (by simp),cJ.mem (by simp)⟩
 ·rw [ahz.mp h] at ha
  cases ha
theorem DS.cols {nd:θ}(P:DS nd){l:ξ}(hl:cJ (nd.map (·.2)) (col l))(hz:∀x∈nd,l.getD x.1 0=0):∀j,l.getD j 0=0:=fun j=>by
 have:=P.zero hl (fun x hx=>by unfold col;rw [hz x hx];rfl) j
 unfold col at this
 exact ahT.mp (this.trans (by rfl))
theorem ve {A:η}{b c:Nat}(hA:∀a∈A,∀j,(a.getD j 0).natAbs<=2^b):(A.map fun a=>a.getD c 0).length=A.length/\∀x∈A.map (fun a=>a.getD c 0),x.natAbs<=2^b:=by
 refine ⟨by simp,fun x hx=>?_⟩
 obtain ⟨a,ha,rfl⟩:=aad.mp hx
 exact hA a ha c
theorem DT.left {os:η}{nd:θ}{lv ps qs:η}(O:DT os nd lv ps qs)(P:DS nd){i b:Nat}{l:ξ}(e:lv[i]? =some l)(hz:∀x∈nd,l.getD x.1 0=0)(hb:∀o∈os,∀j,(o.getD j 0).natAbs<=2^b)(pr:Ta l)(j:Nat):(l.getD j 0).natAbs<=(nd.length+1)*((2*(nd.length+1)*2^b)^nd.length*2^b):=by
 have hi:i < qs.length:=by
  rw [O.lq]
  exact (ir.mp e).1
 obtain ⟨q,eq⟩:∃q,qs[i]? =some q:=⟨_,gE hi⟩
 obtain ⟨t1,t2⟩:=O.s3 i l q e eq
 have hA:∀a∈ps++[q],∀j,(a.getD j 0).natAbs<=2^b:=fun a ha=>by
  rcases aaA.mp ha with z | z
  ·exact hb a (O.po a z)
  ·rw [aax.mp z]
   exact hb q (O.qo q (be eq))
 have lA:(ps++[q]).length=nd.length+1:=by simp [O.lp]
 obtain ⟨zs,lz,nz,bz,sz⟩:=G' (n:=nd.length+1) (A:=2^b) (eqs:=nd.map fun x=>(ps++[q]).map fun a=>a.getD x.1 0) (by simp) (ahd) fun y hy=>by
  obtain ⟨x,hx,rfl⟩:=aad.mp hy
  rw [<- lA]
  exact ve hA
 rw [aab] at bz
 have v0:∀x∈nd,iV zs (ps++[q]) x.1=0:=fun x hx=>by
  rw [<- sx]
  exact sz _ (aad.mpr ⟨x,hx,rfl⟩)
 have hv:cJ (nd.map (·.2)++[l]) fun j=>((iV zs (ps++[q]) j:Int):Rat):=(jE zs (ps++[q])).trans fun a ha=>by
  rcases aaA.mp ha with z | z
  ·exact (O.s2 a z).mono fun y hy=>aa7 _ hy
  ·rw [aax.mp z]
   exact t2
 obtain ⟨a,ha⟩:=cJ.last hv
 have ez:=P.zero ha fun x hx=>by
  rw [v0 x hx]
  unfold col
  rw [hz x hx]
  show ((0:Int):Rat) - a*((0:Int):Rat)=0
  grind
 by_cases c:a=0
 ·exfalso
  subst c
  have vz:∀j,iV zs (ps++[q]) j=0:=fun j=>by
   have:=ez j
   have h:((iV zs (ps++[q]) j:Int):Rat)=((0:Int):Rat):=by grind
   exact ahT.mp h
  obtain ⟨mX,z,rfl⟩:∃mX z,zs=mX ++[z]:=by
   rcases aiq zs with h | ⟨mX,z,h⟩
   ·rw [h] at lz
    simp at lz
   ·exact ⟨mX,z,by rw [h,air]⟩
  have Tb :mX.length=ps.length:=by
   rw [O.lp]
   simpa using lz
  have sp:∀j,iV mX ps j+z*q.getD j 0=0:=fun j=>by
   rw [<- oE j z q Tb]
   exact vz j
  by_cases z0:z=0
  ·subst z0
   obtain ⟨x,hx,nx⟩:=nz
   have all:=O.ind mX Tb fun j=>by simpa using sp j
   rcases aaA.mp hx with h | h
   ·exact nx (all x h)
   ·exact nx (aax.mp h)
  ·have hq:cJ ps (col q):=((jE mX ps).mul (-1 / (z:Rat))).congr fun j=>by
    have s' :((iV mX ps j+z*q.getD j 0:Int):Rat)=((0:Int):Rat):=by rw [sp j]
    rw [ai4,abB] at s'
    have zr:(z:Rat)≠0:=cY z0
    unfold col
    grind
   have hl:cJ ps (col l):=t1.trans fun a ha=>by
    rcases aaA.mp ha with h | h
    ·exact cJ.mem h
    ·rw [aax.mp h]
     exact hq
   exact HB pr (P.cols (hl.trans O.s2) hz)
 ·have le:=HA pr c (v:=fun j=>iV zs (ps++[q]) j) (fun j=>by have:=ez j;grind) j
  refine aai le ?_
  have:=xg j (zs:=zs) (A:=ps++[q]) bz fun a ha=>hA a ha j
  rw [lA] at this
  exact this
theorem DT.need {os:η}{nd:θ}{lv ps qs:η}(O:DT os nd lv ps qs)(P:DS nd){b:Nat}{x:Nat×List Int}(hx:x∈nd)(hb:∀o∈os,∀j,(o.getD j 0).natAbs<=2^b)(pr:Ta x.2)(j:Nat):(x.2.getD j 0).natAbs<=(nd.length+1)*((2*(nd.length+1)*2^b)^nd.length*2^b):=by
 have hA:∀a∈ps,∀j,(a.getD j 0).natAbs<=2^b:=fun a ha=>hb a (O.po a ha)
 have lf:(nd.filter fun y=>decide (y.1≠x.1)).length < nd.length:=by
  have h1:(nd.filter fun y=>decide (y.1≠x.1)).length<=nd.length:=abU ..
  rcases Nat.lt_or_eq_of_le h1 with h | h
  ·exact h
  ·have:=List.length_filter_eq_length_iff.mp h x hx
   simp at this
 obtain ⟨zs,lz,nz,bz,sz⟩:=G' (n:=nd.length) (A:=2^b) (eqs:=(nd.filter fun y=>decide (y.1≠x.1)).map fun y=>ps.map fun a=>a.getD y.1 0) (by rw [aab];exact lf) (ahd) fun y hy=>by
  obtain ⟨z,hz,rfl⟩:=aad.mp hy
  rw [<- O.lp]
  exact ve hA
 rw [aab] at bz
 have v0:∀y∈nd,y.1≠x.1->iV zs ps y.1=0:=fun y hy ne=>by
  rw [<- sx]
  exact sz _ (aad.mpr ⟨y,abM.mpr ⟨hy,by simpa using ne⟩,rfl⟩)
 have hv:cJ (nd.map (·.2)) fun j=>((iV zs ps j:Int):Rat):=(jE zs ps).trans O.s2
 obtain ⟨a,ha⟩:=P.one hv hx fun y hy ne=>by
  rw [v0 y hy ne]
  rfl
 have c:a≠0:=fun z=>by
  subst z
  obtain ⟨y,hy,ny⟩:=nz
  refine ny (O.ind zs (by rw [lz,O.lp]) (fun j=>?_) y hy)
  have h:((iV zs ps j:Int):Rat)=((0:Int):Rat):=by
   rw [ha j]
   show 0*col x.2 j=0
   grind
  exact ahT.mp h
 have le:=HA pr c (v:=fun j=>iV zs ps j) ha j
 refine aai le ?_
 have:=xg j (zs:=zs) (A:=ps) bz fun a ha=>hA a ha j
 rw [O.lp] at this
 refine aai this (abJ (by omega) (abJ ?_ (aaf _)))
 refine aai (ahW (aa4 _ (show 2*nd.length<=2*(nd.length+1) by omega)) _) ?_
 exact aa0 (Nat.mul_pos (by omega) (ai5 _)) (by omega)
theorem Pk {s b:Nat}(hs:s+1<=1024):(s+1)*((2*(s+1)*2^b)^s*2^b)<=2^((s+1)*(b+11)):=by
 have h1:2*(s+1)*2^b<=2^(b+11):=by
  have:2*(s+1)<=2^11:=by
   show 2*(s+1)<=2048
   omega
  rw [ahR,ahY (2^b)]
  exact aa4 _ this
 have h2:(2*(s+1)*2^b)^s<=2^((b+11)*s):=by
  rw [Nat.pow_mul]
  exact ahW h1 s
 have h3:s+1<=2^11:=by
  show s+1<=2048
  omega
 have e:(s+1)*(b+11)=11+((b+11)*s+b):=by
  rw [acf,aiu,ahY s]
  omega
 rw [e,ahR,ahR]
 exact abJ h3 (aa4 _ h2)
theorem yI {B:η}{line lead new:ξ}{c:Nat}(k:pK line lead new c)(h1:cJ B (col line))(h2:cJ B (col lead)):cJ B (col new):=by
 obtain ⟨s,t,u,hs,ht,e⟩:=k.qc
 have zs:=cY hs
 refine ((h1.mul ((t:Rat) / s)).add (h2.mul (-(u:Rat) / s))).congr fun j=>?_
 have ej:((s*new.getD j 0:Int):Rat)=((t*line.getD j 0 - u*lead.getD j 0:Int):Rat):=by rw [e j]
 rw [abB,ai_,abB,abB] at ej
 unfold col
 grind
theorem yJ {B:η}{line lead new:ξ}{c:Nat}(k:pK line lead new c)(h1:cJ B (col new))(h2:cJ B (col lead)):cJ B (col line):=by
 obtain ⟨s,t,u,hs,ht,e⟩:=k.qc
 have zt:=cY ht
 refine ((h1.mul ((s:Rat) / t)).add (h2.mul ((u:Rat) / t))).congr fun j=>?_
 have ej:((s*new.getD j 0:Int):Rat)=((t*line.getD j 0 - u*lead.getD j 0:Int):Rat):=by rw [e j]
 rw [abB,ai_,abB,abB] at ej
 unfold col
 grind
theorem DT.step {os:η}{nd iN :θ}{lv xh ps qs:η}{lead:ξ}{j c:Nat}(O:DT os nd lv ps qs)(P:DS nd)(ej:lv[j]? =some lead)(hz:∀x∈nd,lead.getD x.1 0=0)(hc:lead.getD c 0≠0)
  (lL:xh.length=(lv.eraseIdx j).length) (ML:∀(i:Nat) (x:ξ),(lv.eraseIdx j)[i]? =some x->∃y,xh[i]? =some y/\pK x lead y c) (lN:iN.length=nd.length) (MN:∀(i:Nat) (x:ξ),(nd.map (·.2))[i]? =some x->∃y,(iN.map (·.2))[i]? =some y/\pK x lead y c):∃ps' Tc,DT os (iN ++[(c,lead)]) xh ps' Tc :=by
 have hj:j < lv.length:=(ir.mp ej).1
 obtain ⟨q,eq⟩:∃q,qs[j]? =some q:=⟨_,gE (by rw [O.lq];exact hj)⟩
 obtain ⟨t1,t2⟩:=O.s3 j lead q ej eq
 have ml:lead∈(iN ++[(c,lead)]).map (·.2):=by simp
 have old:∀x∈nd.map (·.2),cJ ((iN ++[(c,lead)]).map (·.2)) (col x):=fun x hx=>by
  obtain ⟨i,ei⟩:=aas hx
  obtain ⟨y,ey,k⟩:=MN i x ei
  refine yJ k (cJ.mem ?_) (cJ.mem ml)
  rw [aaH]
  exact aa7 _ (be ey)
 have aag:∀y∈iN.map (·.2),∃x∈nd.map (·.2),pK x lead y c:=fun y hy=>by
  obtain ⟨i,ei⟩:=aas hy
  have hi:=(ir.mp ei).1
  rw [aab] at hi
  obtain ⟨x,ex⟩:∃x,(nd.map (·.2))[i]? =some x:=⟨_,gE (by rw [aab];omega)⟩
  obtain ⟨y',DV,k⟩:=MN i x ex
  rw [ei] at DV
  cases DV
  exact ⟨x,be ex,k⟩
 have up:∀{f:Nat->Rat},cJ ps f->cJ (ps++[q]) f:=fun h=>h.mono fun a ha=>aa7 _ ha
 refine ⟨ps++[q],qs.eraseIdx j,fun p hp=>?_,fun p hp=>O.qo p (ac_ hp),by simp [O.lp,lN],?_,fun x hx=>?_,fun p hp=>?_,fun i l' q' e1 e2=>?_,fun zs lz hzs a ha=>?_⟩
 ·rcases aaA.mp hp with z | z
  ·exact O.po p z
  ·rw [aax.mp z]
   exact O.qo q (be eq)
 ·rw [lL,ab0,ab0,O.lq]
 ·rcases aaA.mp hx with z | z
  ·obtain ⟨y,hy,k⟩:=aag x.2 (aad.mpr ⟨x,z,rfl⟩)
   obtain ⟨x0,Yz,rfl⟩:=aad.mp hy
   exact yI k (up (O.s1 x0 Yz)) t1
  ·rw [aax.mp z]
   exact t1
 ·rcases aaA.mp hp with z | z
  ·exact (O.s2 p z).trans old
  ·rw [aax.mp z]
   refine t2.trans fun a ha=>?_
   rcases aaA.mp ha with h | h
   ·exact old a h
   ·rw [aax.mp h]
    exact cJ.mem ml
 ·have hi:=(ir.mp e1).1
  obtain ⟨x,ex⟩:∃x,(lv.eraseIdx j)[i]? =some x:=⟨_,gE (by omega)⟩
  obtain ⟨y',DV,k⟩:=ML i x ex
  rw [e1] at DV
  cases DV
  obtain ⟨i',f1,f2⟩:∃i',lv[i']? =some x/\qs[i']? =some q' :=by
   rw [abL] at ex e2
   by_cases h:i < j
   ·rw [if_pos h] at ex e2
    exact ⟨_,ex,e2⟩
   ·rw [if_neg h] at ex e2
    exact ⟨_,ex,e2⟩
  obtain ⟨u1,u2⟩:=O.s3 i' x q' f1 f2
  constructor
  ·refine yI k (u1.mono fun a ha=>?_) (t1.mono fun a ha=>aa7 _ ha)
   rcases aaA.mp ha with h | h
   ·exact aa7 _ (aa7 _ h)
   ·exact aa9 _ h
  ·refine u2.trans fun a ha=>?_
   rcases aaA.mp ha with h | h
   ·exact (old a h).mono fun b hb=>aa7 _ hb
   ·rw [aax.mp h]
    exact yJ k (cJ.mem (by simp)) (cJ.mem (aa7 _ ml))
 ·obtain ⟨mX,z,rfl⟩:∃mX z,zs=mX ++[z]:=by
   rcases aiq zs with h | ⟨mX,z,h⟩
   ·rw [h] at lz
    simp at lz
   ·exact ⟨mX,z,by rw [h,air]⟩
  have Tb :mX.length=ps.length:=by simpa using lz
  have sp:∀j,iV mX ps j+z*q.getD j 0=0:=fun j=>by
   rw [<- oE j z q Tb]
   exact hzs j
  have z0:z=0:=by
   apply abr
   intro z0
   have hq:cJ ps (col q):=((jE mX ps).mul (-1 / (z:Rat))).congr fun j=>by
    have s' :((iV mX ps j+z*q.getD j 0:Int):Rat)=((0:Int):Rat):=by rw [sp j]
    rw [ai4,abB] at s'
    have zr:(z:Rat)≠0:=cY z0
    unfold col
    grind
   have hl:cJ ps (col lead):=t1.trans fun a ha=>by
    rcases aaA.mp ha with h | h
    ·exact cJ.mem h
    ·rw [aax.mp h]
     exact hq
   exact hc (P.cols (hl.trans O.s2) hz c)
  rcases aaA.mp ha with h | h
  ·exact O.ind mX Tb (fun j=>by have:=sp j;rw [z0] at this;simpa using this) a h
  ·rw [aax.mp h]
   exact z0
end Ty
set_option maxHeartbeats 4000000
namespace Ty
open PySem PySem.Spec PyProof.Rows L2
section
variable {prog:Program}{w:World}{A:Around}{E:δ}{s:Shared}
end
section
variable {X:Cx}
end
section
variable {prog:Program}{w:World}{A:Around}{E:δ}{s:Shared}
theorem vf (d:Addr)(hd:(d==sysModules)=false):
  MeetsIn prog w (Builtin.«dict.values» ⟨[.ref d],[]⟩) (fun _ R s=>s.TypeIs (.ref d) "dict"/\
   R (.ok (.ret (.ref s.heap.objs.size))) {s with heap:=s.heap.push {cls:=.type "dict_values",data:=.fields #[.ref d]}}):=
 .of_wp fun A R s ⟨hT,h⟩=>by
  refine wpAny_bind ?_
  unfold Builtin.Dict.noArgs
  refine wpAny_bind (wpAny_notOrdered_dict hT ?_)
  show wpAny _ _ (pure d) _ _ s
  refine wpAny_pure ?_
  show wpAny _ _ (Builtin.Dict.showsAll d >>=_) _ _ s
  unfold Builtin.Dict.showsAll
  rw [if_neg (by rw [hd];exact aaG)]
  refine wpAny_bind (wpAny_pure ?_)
  exact wpAny_bind (wpAny_newObj_type (wpAny_pure ⟨_,rfl,h⟩))
end
section
variable {X:Cx}
theorem K6 {K:Frag}(h:X.K=K):Sa X (OB K):=by subst h;exact wK
theorem HC {i:Nat}{y yc:Str}{py:Pos}{uM:Pos}{elt target iter:Expr}{ifs:ψ}{scope:Scope}{pos:Pos}{tn fr:ρ}{caps:List Nat}{wi:TI}{g:TG}{tt:TT}{te:TE}(hN:X.N.Nodup)(Ss:X.N[i]? =some y)(hx:Loc X.env.scope y)
  (hc:X.calm=true) (B:OY X scope yc fr caps) (hi:PI X target iter wi)
  (hg:∀C s H fp,PG (OX X (tn++fr) scope yc (bH X.env fr) C s H fp) target g) (ht:∀C s H fp,PF (OX X (tn++fr) scope yc (bH X.env fr) C s H fp) ifs tt) (he:∀C s H fp,PE (OX X (tn++fr) scope yc (bH X.env fr) C s H fp) elt te)
  (zR:swapsWith (.ListComp elt [⟨target,iter,ifs,0⟩] scope pos) (some (.Name y py)) uM.line X.env=pure true:=by rfl)
  (hs:∀x,foldedSetIterable iter X.env x=pure x:=by intro _;rfl) (hf:X.fn y=true\/X.env.scope.names.lookup y=some .local:=by first | exact .inl rfl | exact .inr rfl | assumption):
  PS X (.Assign [.Name y py] (.ListComp elt [⟨target,iter,ifs,0⟩] scope pos) uM) (EB (uK tn.length caps wi g tt te) (c9 i)):=
 uL hN Ss hx hc B.g hi hg ht he zR hs hf
end
theorem vg {D:Addr}{te:TE}{tt:TT}{cap:L2.St}{H1:Hp}{Q:VK}{n:Nat}(p:Nat->Bool)(nD:H1 D=none)(hn:n < sizeLine)
  (ht:∀i H (R:Bool->Hp->Prop),i < n->au H1 H->(∀H',au H H' ->R (p i) H')->tt (some (.int (i:Int))::cap) H R)
  (he:∀i H (R:VK),R (.int (i:Int)) H->te (some (.int (i:Int))::cap) H R)
  (hd:∀H,au H1 H->H D=some (.lst (((abl n).filter p).map fun i:Nat=>V.int (i:Int)))->Q (.ref D) H):
  km D (c9 0) tt te (Om 0 n) (none::cap) H1 Q:=by
 refine ⟨fun i m σ ys H=>m=n - i/\i<=n/\(∃o,σ=o::cap)/\au H1 H/\H D=some (.lst ys)/\ys=((abl i).filter p).map fun i:Nat=>V.int (i:Int),⟨n,by simp,aa6 _,⟨none,rfl⟩,fun b o e=>by rw [ao (aq e nD)];exact e,ak,rfl⟩,?_⟩
 rintro i m σ ys H ⟨rfl,hi,⟨o,rfl⟩,s,hD,ey⟩
 by_cases jm:i < n
 ·refine .inr ⟨jm,fun v H' y=>?_⟩
  obtain ⟨rfl,rfl⟩:=y
  rw [aa']
  unfold c9
  refine ht i _ _ jm s fun H2 s2=>?_
  have K7:au H1 H2:=fun b o e=>s2 _ _ (s _ _ e)
  have ly:ys.length<=i:=by
   rw [ey,aab]
   have:=abU p (abl i)
   rw [ahE] at this
   exact this
  by_cases c:p i=true
  ·rw [if_pos c]
   refine he i _ _ ⟨s2 _ _ hD,by omega,n - (i+1),by omega,rfl,by omega,⟨_,rfl⟩,?_,ak,?_⟩
   ·exact fun b o e=>by
     rw [ao (aq e nD)]
     exact K7 _ _ e
   ·rw [ahg,ab8,ab2 c,ey,aaH]
    rfl
  ·rw [if_neg c]
   refine ⟨n - (i+1),by omega,rfl,by omega,⟨_,rfl⟩,K7,s2 _ _ hD,?_⟩
   rw [ahg,ab8,ab3 c,ey,List.filter_nil,ahS]
 ·have e:i=n:=by omega
  subst e
  rw [ey] at hD
  exact .inl ⟨aaf _,hd H s hD⟩
section
variable {X:Cx}
inductive vh (Q:VK)(x:V)(H1:Hp):Prop where
 | mk (d kvs:_) (_:x=.ref d) (_:H1 d=some (.dK kvs)) (_:∀l,H1 l=none->Q (.ref l) (upd H1 l (.lst (kvs.map fun kv=>kv.2)))):vh Q x H1
def K8 (te:TE):TE:=fun σ H Q=>te σ H fun x H1=>vh Q x H1
theorem AN {e:Expr}{te:TE}{apos cw p pos:Pos}(hc:X.calm=true)(hg:Gl X "list")(hm:X.mg "list"=none)(ho:PE X e te)(h_:attributeBase e "values" X.env (eval e X.env)=eval e X.env:=by rfl)(ia:(apos.endLine==cw.line)=true:=by rfl)
  (hs:starEach [(.Call (.Attribute e "values" apos) [] [] cw:Expr)] X.env=[(false,eval (.Call (.Attribute e "values" apos) [] [] cw) X.env)]:=by rfl):
  PE X (.Call (.Name "list" p) [.Call (.Attribute e "values" apos) [] [] cw] [] pos) (K8 te):=by
 intro pins s σ H Q I h
 refine Call_ (fQ I hg hm boot_list (PyProof.Rows.callWith_type1 ?_ hs rfl))
 rw [hs]
 show wpAny _ _ (spliced ((false,eval (.Call (.Attribute e "values" apos) [] [] cw) X.env)::[])) _ _ s
 refine Calls.spliced_cons ?_
 refine wpAny_Call_method0_late h_ ia (bZ (ho pins s σ H _ I h) fun v s1 ⟨x,H1,I1,r1,q1⟩=>?_)
 obtain ⟨d,kvs,rfl,e,q⟩:=q1
 cases r1
 obtain ⟨h1,h2,hd⟩:=oh I1 (.inl ⟨kvs,.inl e⟩)
 obtain ⟨z,JC,vs,rel,o,KR,ep,v8,hx,fV,hk,hp,hn⟩:=iU I1.bK e
 have da:s1.heap.DictAt (bo X.prog X.w) d vs ep:=⟨o,KR,v8,hx,fV,hk,hp,hn⟩
 have lv:=rel.length
 refine ⟨"dict","dict.values",F.plainAttrs_dict,F.slot_dict_values,F.type_dict_values,h1,h2,Calls.callWith_builtin rfl (PySem.evalArgs_none ?_)⟩
 refine call_meetsIn F.slot_dict_values h1 F.entry_dict_values (F.args_dict_values_1 _) (vf d hd) ⟨h1,Calls.spliced_nil ?_⟩
 have O9:(s1.heap.push {cls:=.type "dict_values",data:=.fields #[.ref d]}).DictAt (bo X.prog X.w) d vs ep:=da.at' fun o e=>Heap.get?_push_of_some _ e
 have I2:Inv X pins σ H1 {s1 with heap:=s1.heap.push {cls:=.type "dict_values",data:=.fields #[.ref d]},toks:=s1.toks}:=I1.kept (t' :=s1.toks) fun b o e=>Heap.get?_push_of_some _ e
 refine PySem.W.kdl_call (s:={s1 with heap:=s1.heap.push {cls:=.type "dict_values",data:=.fields #[.ref d]}}) (PySem.W.kdl_values (knd:=bo X.prog X.w) (r:=s1.heap.objs.size) (kvs:=vs) (ep:=ep)) (I1.ok.hd hc) ⟨⟨_,Heap.get?_push_size _ rfl,rfl,rfl⟩,O9⟩ (by omega) fun h' tk gs c' kk hS ky=>?_
 have Of :=I2.bK.fresh (aaf (s1.heap.push {cls:=.type "dict_values",data:=.fields #[.ref d]}).objs.size)
 have rv:Vals (kvs.map fun kv=>kv.2) gs.toList:=b9 (by have:=ky.1;simp;omega) fun i a b e1 e2=>by
  rw [Wp] at e1
  obtain ⟨kv,ek,rfl⟩:=aar.mp e1
  obtain ⟨q',eq,e3,ru⟩:=av rel ek
  obtain ⟨k,e4⟩:=ky.2 i b (by simpa using e2)
  rw [eq] at e4
  cases e4
  exact ru
 have I3:=I2.laid (t' :=tk) (o:=.lst (kvs.map fun kv=>kv.2)) kk (aaf _) ⟨by rw [aab];exact z,gs.toList,c',rv,by simpa using hS⟩
 exact ⟨.ref _,_,I3,rfl,q _ Of⟩
end
end Ty
set_option maxHeartbeats 4000000
namespace T_k41
open PySem PySem.Spec PyProof.Rows L2 Ty
open Builtin.Int (intBits)
seal L2.PE L2.PS L2.PSs L2.PA
abbrev zaa:List Str:=["_law_pins_here","_law_bars_here","_law_pulls","_law_pushes"]
abbrev zab:List Str:=["_law_cell","_law_prime","_law_many"]
abbrev zac:List Str:=["_law_frame_here","_law_pins_here","_law_name_here","_law_spot_here","_law_ways_here"]
abbrev zad:List Str:=["_law_one_here","_law_other"]
abbrev zae:List Str:=["_law_pins_here","_law_bars_here","_law_names","_law_name_here","_law_pair"]
abbrev zaf:List Str:=["_law_pins_here","_law_bars_here","_law_pulls","_law_pushes","_law_load"]
abbrev zag:List Str:=["one","other"]
abbrev zah:List Str:=["self","name","one","other"]
abbrev zai:List Str:=["_law_frame_here","_law_pins_here","_law_bars_here","_law_cell"]
abbrev zaj:List Str:=["self"]
abbrev zak:List Str:=["_law_frame_here","_law_pins_here","_law_gone","_law_cell"]
abbrev zal:List Str:=["_law_found","_law_k","_law_axis","_law_draw"]
abbrev zam:List Str:=["self","pin"]
abbrev zan:List Str:=["_law_pins_here","_law_bar","_law_axis"]
abbrev zao:List Str:=["_law_script","_law_pins_here","_law_bars_here"]
abbrev zap:List Str:=["F","one","other"]
abbrev zaq:List Str:=["_law_pins_here","_law_bars_here","_law_told"]
abbrev zar:List Str:=["self","name","x","y","hold"]
abbrev zas:List Str:=["_law_script","_law_k"]
abbrev zat:List Str:=["_law_top","_law_bottom"]
abbrev zau:List Str:=["_law_pins_here","_law_bars_here"]
abbrev zav:List Str:=["_law_one_here"]
abbrev zaw:List Str:=["_law_script","_law_pins_here"]
abbrev zax:List Str:=["line","lead","column"]
abbrev zay:List Str:=["rows","many"]
abbrev zaz:List Str:=["self","x","y"]
abbrev zaA:List Str:=["_law_cell","_law_k"]
abbrev zaB:List Str:=["self","name"]
abbrev zaC:List Str:=["needed","column","many"]
abbrev zaD:List Str:=["_law_cell","_law_kind"]
abbrev zaE:List Str:=["_law_cell","_law_k","_law_style","_law_at"]
abbrev zaF:List Str:=["_law_script"]
abbrev zaG:List Str:=["_law_pin"]
abbrev zaH:List Str:=["top","bottom"]
abbrev zaI:List Str:=["lines","column"]
abbrev zaJ:List Str:=["_law_bar"]
abbrev zaK:List Str:=["_law_pin","_law_some"]
abbrev zaL:List Str:=["F","draws"]
abbrev zaM:List Str:=["_law_cell"]
abbrev zaN:List Str:=["_law_told"]
abbrev zaO:List Str:=["whole","other","times","less"]
abbrev zaP:List Str:=["lines","many"]
abbrev zaQ:List Str:=["F","numbers"]
abbrev zaR:List Str:=["self","bar"]
theorem sq {N P:ρ}{sc:Scope}(a:sc.kind=.function:=by exact rfl)(b:sc.isCoroutine=false:=by exact rfl)(c:sc.isGenerator=false:=by exact rfl)(d:N.Nodup:=by decide+kernel)(e:N.take P.length=P:=by exact rfl)(f:∀x∈P,sc.names.lookup x=some .local\/sc.names.lookup x=some .cell:=by decide+kernel)(g:∀y∈sc.names,y.2≠.free:=by decide+kernel):aF N P sc:=⟨a,b,c,d,e,f,g⟩
theorem pY (P:Program)(w:World){X:Cx}:Passes (bg P w) X.yf E0:=uJ bg.rZ
theorem pX {P:Program}{w:World}{X:Cx}:Passes (bg P w) X.yf E0:=uJ bg.rZ
theorem _root_.L2.cD.mo {j k:Nat}{A:Around}(r:L2.cD k A)(h:j<=k:=by decide):L2.cD j A:=r.mono h
theorem aJ {X:Cx}{a:Expr}{ta:TE}{i j p1 p2}(h:PE X a ta):PE X (.Subscript a (.Constant (.int i) j p1) p2) (Oq (EU X.K) ta (tC (.int i))):=bw kb h ah (fun _ _=>rfl)
theorem yK {X:Cx}{a:Expr}{ta:TE}{i j p1 p2}(h:PE X a ta):PE X (.Subscript a (.Constant (.int i) j p1) p2) (Oq (Kt X.K) ta (tC (.int i))):=bw ba h ah (fun _ _=>rfl)
theorem bl1{P:List Value->Prop}(h:∀a:Value,P [a]):∀us:List Value,us.length=1->P us|[_],_=>h _
theorem bl2{P:List Value->Prop}(h:∀a b:Value,P [a,b]):∀us:List Value,us.length=2->P us|[_,_],_=>h _ _
theorem bl3{P:List Value->Prop}(h:∀a b c:Value,P [a,b,c]):∀us:List Value,us.length=3->P us|[_,_,_],_=>h _ _ _
theorem bl4{P:List Value->Prop}(h:∀a b c d:Value,P [a,b,c,d]):∀us:List Value,us.length=4->P us|[_,_,_,_],_=>h _ _ _ _
theorem bl5{P:List Value->Prop}(h:∀a b c d e:Value,P [a,b,c,d,e]):∀us:List Value,us.length=5->P us|[_,_,_,_,_],_=>h _ _ _ _ _
theorem bl6{P:List Value->Prop}(h:∀a b c d e f:Value,P [a,b,c,d,e,f]):∀us:List Value,us.length=6->P us|[_,_,_,_,_,_],_=>h _ _ _ _ _ _
theorem bl7{P:List Value->Prop}(h:∀a b c d e f g:Value,P [a,b,c,d,e,f,g]):∀us:List Value,us.length=7->P us|[_,_,_,_,_,_,_],_=>h _ _ _ _ _ _ _
theorem _root_.L2.mO.xi {K:Frag}{x qual:Str}{st:Stmt}{f:Addr}{fd:FuncData}{ps:ρ}(F:L2.mO K x qual st f fd)
 (h:∀(kV doc pm:Value) (an:Θ) (bM ct:Value) (us:ο),us.length=ps.length->bindArgs (fnOf x qual (ay st) (aw st) (ag st) .none kV doc pm an bM ct) ⟨us,[]⟩=pure (ps.zip us):=by first | exact fun _ _ _ _ _ _=>bl1 fun _=>rfl | exact fun _ _ _ _ _ _=>bl2 fun _ _=>rfl | exact fun _ _ _ _ _ _=>bl3 fun _ _ _=>rfl | exact fun _ _ _ _ _ _=>bl4 fun _ _ _ _=>rfl | exact fun _ _ _ _ _ _=>bl5 fun _ _ _ _ _=>rfl):Binds K fd ps []:=F.binds h
inductive HXx (K:Frag)(x:Str)(st:Stmt):Prop|mk{f:Addr}{oc:Value}{od an:Θ}{pJ:Κ}{kV doc pm bM ct:Value}(a:nsIn K mainGlobals x=some (some (.ref f)))(l:K.lookup f=some ⟨oc,od,.func (fnOf x x (ay st) (aw st) (ag st) .none kV doc pm an bM ct),pJ⟩)(c:codeIn K bM x=true)(k:keepIn K (.ref f)=true):HXx K x st
inductive HXy (K:Frag)(C:Addr)(x q:Str)(st:Stmt):Prop|mk{f:Addr}{oc:Value}{od an:Θ}{pJ:Κ}{kV doc pm bM ct:Value}(a:PySem.W.findIn K (.ref C) x=some (some (.ref f)))(i:PySem.W.isFn K (.ref f)=true)(l:K.lookup f=some ⟨oc,od,.func (fnOf x q (ay st) (aw st) (ag st) .none kV doc pm an bM ct),pJ⟩)(c:codeIn K bM q=true)(k:keepIn K (.ref f)=true):HXy K C x q st
theorem fX {K:Frag}{mg:ι}{h:Heap}{x:Str}{st:Stmt}{ps:ρ}(X:K.In h)(G:h.Ns mainGlobals mg)(H:HXx K x st)
 (b:∀(kV doc pm:Value) (an:Θ) (bM ct:Value) (us:ο),us.length=ps.length->bindArgs (fnOf x x (ay st) (aw st) (ag st) .none kV doc pm an bM ct) ⟨us,[]⟩=pure (ps.zip us):=by first | exact fun _ _ _ _ _ _=>bl1 fun _=>rfl | exact fun _ _ _ _ _ _=>bl2 fun _ _=>rfl | exact fun _ _ _ _ _ _=>bl3 fun _ _ _=>rfl | exact fun _ _ _ _ _ _=>bl4 fun _ _ _ _=>rfl | exact fun _ _ _ _ _ _=>bl5 fun _ _ _ _ _=>rfl | exact fun _ _ _ _ _ _=>bl6 fun _ _ _ _ _ _=>rfl | exact fun _ _ _ _ _ _=>bl7 fun _ _ _ _ _ _ _=>rfl):Def K mg x st ps:=have ⟨a,l,c,k⟩:=H;Def.of (cV l c k) ((cV l c k).binds b) (mg_of X G a)
def top (i:Nat):Stmt:=PySem.Challenge.pw_trussyard_k41_spare_bars.main.body.getD i (.Pass ⟨0,0,0,0⟩)
abbrev xj:Stmt:=top 14
abbrev vi:Stmt:=top 15
abbrev AO:Stmt:=top 16
abbrev AQ:Stmt:=top 19
abbrev xk:Stmt:=top 20
abbrev AR:Stmt:=top 22
abbrev AS:Stmt:=top 23
abbrev AU:Stmt:=top 24
abbrev AV:Stmt:=top 25
abbrev cq:Stmt:=top 27
abbrev di:Stmt:=top 28
abbrev AW:Stmt:=top 29
abbrev AX:Stmt:=top 30
abbrev AY:Stmt:=top 31
abbrev AZ:Stmt:=top 32
abbrev A_:Stmt:=top 33
abbrev BA:Stmt:=top 34
abbrev dJ:Stmt:=top 36
abbrev BB:Stmt:=top 46
abbrev BC:Stmt:=top 47
abbrev BD:Stmt:=top 48
abbrev BE:Stmt:=top 49
abbrev BF:Stmt:=top 50
abbrev BG:Stmt:=top 51
abbrev xl:Stmt:=top 52
abbrev BH:Stmt:=top 53
abbrev BI:Stmt:=top 54
abbrev BJ:Stmt:=top 55
abbrev BK:Stmt:=top 56
abbrev dM:Stmt:=top 57
abbrev BL:Stmt:=top 58
abbrev BM:Stmt:=top 59
abbrev BN:Stmt:=top 60
abbrev BO:Stmt:=top 61
abbrev BP:Stmt:=top 62
abbrev BQ:Stmt:=top 63
abbrev BR:Stmt:=top 64
abbrev fk:Stmt:=top 65
abbrev BS:Stmt:=top 66
abbrev eJ:Stmt:=top 67
abbrev cR:Stmt:=top 68
abbrev cS:Stmt:=top 69
abbrev dj:Stmt:=top 70
abbrev jF:Stmt:=top 71
abbrev BU:Stmt:=inClass (top 40) 0
abbrev my:Stmt:=inClass (top 40) 1
abbrev BV:Stmt:=inClass (top 40) 2
abbrev BW:Stmt:=inClass (top 40) 3
abbrev BX:Stmt:=inClass (top 40) 4
abbrev BY:Stmt:=inClass (top 40) 5
abbrev b_:Stmt:=inClass (top 40) 6
abbrev BZ:Stmt:=inClass (top 40) 7
abbrev B_:Stmt:=inClass (top 40) 8
abbrev CA:Stmt:=inClass (top 40) 9
abbrev CB:Stmt:=inClass (top 40) 10
abbrev CC:Stmt:=inClass (top 40) 11
abbrev K9:Stmt:=inClass (top 42) 0
abbrev CD:Stmt:=inClass (top 43) 0
abbrev CG:Stmt:=inClass (top 43) 1
abbrev CH:Stmt:=inClass (top 44) 0
section
variable {P:Program}{w:World}{K:Frag}{mg:ι}{base:Heap}{CX:j6}
structure Td (k:Nat)(q:Int×Int):Prop where
 pos:0 < q.2
 top:intBits q.1<=k
 bot:intBits q.2<=k
theorem aK {H:Hp}{p:Addr}(h:H p=none)(o:HO):au H (upd H p o):=fun b u q=>by rw [ao (aq q h)];exact q
theorem nw {H H' :Hp}{l:Addr}{o:HO}(n:H l=none)(e:upd H l o=H'):au H H' /\H' l=some o:=by subst e;exact ⟨aK n o,ak⟩
def gives (H:Hp)(Q:VK)(q:Int×Int):Prop:=∀(p:Addr) (H' :Hp),au H H' ->H' p=some (.tup [.int q.1,.int q.2])->Q (.ref p) H'
inductive gx (vs:ζ)(H:Hp)(Q:VK)(E_:XK):Prop where
 | mk (a b:Int) (_:vs=[.int a,.int b]) (_:Q (.int (gz a b)) H):gx vs H Q E_
def subQ (x y:Int×Int):Int×Int:=low (x.1*y.2 - y.1*x.2) (x.2*y.2)
theorem K_ {x y:Int×Int}{k l:Nat}(hx:Td k x)(hy:Td l y):x.2*y.2≠0:=abK (ahq hx.pos hy.pos)
theorem g9 {a b:V}:gY [a,b] 0=some a:=rfl
theorem ip {a b:V}:gY [a,b] 1=some b:=rfl
inductive Ln (H:Hp)(v:V)(l:ξ):Prop where
 | mk (p:_) (_:v=.ref p) (_:H p=some (.lst (l.map V.int))):Ln H v l
theorem Ln.same {H H' :Hp}{v:V}{l:ξ}(h:Ln H v l)(s:au H H'):Ln H' v l:=by
 obtain ⟨p,e,k⟩:=h
 exact ⟨p,e,s _ _ k⟩
def rj (H:Hp)(us:ζ)(ls:η):Prop:=us.length=ls.length/\∀(i:Nat) (u:V) (l:ξ),us[i]? =some u->ls[i]? =some l->Ln H u l
theorem rj.same {H H' :Hp}{us:ζ}{ls:η}(h:rj H us ls)(s:au H H'):rj H' us ls:=⟨h.1,fun i u l e1 e2=>(h.2 i u l e1 e2).same s⟩
theorem vj {l:ξ}{j:Nat}(h:j < l.length):gY (l.map V.int) (j:Int)=some (.int (l.getD j 0)):=bV (by rw [Wp,gE h,aaz,gE h];rfl)
theorem getD_mem {l:ξ}{j:Nat}{x:Int}(e:l[j]? =some x):l.getD j 0=x:=by rw [aaz,e];rfl
def Bd (b:Nat)(l:ξ):Prop:=∀j,(l.getD j 0).natAbs<=2^b
theorem Bd.mem {b:Nat}{l:ξ}(h:Bd b l){x:Int}(hx:x∈l):x.natAbs<=2^b:=by
 obtain ⟨i,hi⟩:=aas hx
 rw [<- getD_mem hi]
 exact h i
theorem Bd.up {b c:Nat}{l:ξ}(h:Bd b l)(hc:b<=c):Bd c l:=fun j=>Ng (h j) hc
theorem yL:aF ["one","other","left"] zag (ag AO):=sq
theorem Te (D:Def K mg "greatest_shared" AO zag)(rl:mg "abs"=none):Fn P w K mg base CX 1 "greatest_shared" zag gx:=by
 refine D.ok yL (fun vs H Q E h=>?_) (fun f bM A outer s H vs Q E hr h=>?_)
 ·obtain ⟨a,b,rfl,_⟩:=h
  rfl
 obtain ⟨a,b,rfl,q⟩:=h
 refine ⟨_,(ae (nj PassesOwn.never (aS lK (pv 1) ah (a9 _)) (ae (aH (i:=2) yL.nd rfl (aan rfl) (aL eM (pv 0) (pv 1)))
   (ae (aH (i:=0) yL.nd rfl (aan rfl) (pv 1))
   (aj (aH (i:=1) yL.nd rfl (aan rfl) (pv 2))))))
  (aj (aG (aI uo rfl rl M9 (ar (pv 0) aa))))),?_⟩
 refine um (fun σ H' =>∃(x y:Int) (l:ω),σ=[some (.int x),some (.int y),l]/\H' =H/\abm x y=abm a b) (fun σ _=>match σ with | [_,some (.int y),_]=>y.natAbs | _=>0) ⟨a,b,none,rfl,rfl,rfl⟩ ?_ ?_
 ·rintro σ H' ⟨x,y,l,rfl,rfl,g⟩
  refine ⟨_,rfl,rfl,_,rfl,?_⟩
  refine bx (fun c=>?_) (fun c=>?_)
  ·have hy:y≠0:=by
    intro z
    subst z
    simp at c
   refine ⟨_,rfl,_,rfl,_,_,rfl,rfl,hy,?_⟩
   refine ⟨_,rfl,_,rfl,?_⟩
   exact ⟨⟨_,_,_,rfl,rfl,by rw [uC];exact g⟩,qO hy⟩
  ·have hy:y=0:=by
    have:=ahF.mpr c
    simp at this
    exact this
   subst hy
   refine ⟨_,rfl,x,rfl,?_⟩
   have e:(if x < 0 then -x else x)=gz a b:=by
    rw [aiC] at g
    unfold gz
    rw [<- g]
    split <;> omega
   rw [e]
   exact q
 ·rintro σ H' Q1 Q2 h ⟨v,e1,e2,k,ek,z⟩
  exact ⟨v,e1,e2,k,ek,h _ _ z⟩
inductive iE (vs:ζ)(H:Hp)(Q:VK)(E_:XK):Prop where
 | mk (t b:Int) (_:vs=[.int t,.int b]) (_:b≠0) (_:gives H Q (low t b)):iE vs H Q E_
theorem HD:aF ["top","bottom","shared"] zaH (ag vi):=sq
theorem Tf (ht:P.given.tree=none)(D:Def K mg "lowest_terms" vi zaH)(xm:Fn P w K mg base (bg P w) 1 "greatest_shared" zag gx):Fn P w K mg base (bg P w) 33 "lowest_terms" zaH iE:=by
 refine D.ok HD (fun vs H Q E h=>?_) (fun f bM A outer s H vs Q E hr h=>?_)
 ·obtain ⟨t,b,rfl,_⟩:=h
  rfl
 obtain ⟨t,b,rfl,hb,q⟩:=h
 have Tg:∃tt,PSs (mi (bg P w) P w K mg base ["top","bottom","shared"] "lowest_terms" (ag vi) f bM A outer s H E).yf ((aw vi).drop 2) tt/\∀g:Int,g=sg t b->tt {nx:=fun _ H' =>Q .cB H',rt:=Q} [some (.int t),some (.int b),some (.int g)] H:=by
  refine ⟨_,(aj (aG (aV (ar (aL (fu ht (Ty.cD.py hr (by decide)) rfl rfl rfl rfl rfl) (pv 0) (pv 2)) (ar (aL (fu ht (Ty.cD.py hr (by decide)) rfl rfl rfl rfl rfl) (pv 1) (pv 2)) aa))))),?_⟩
  rintro g rfl
  have c:=nJ (t:=t) hb
  refine ⟨_,rfl,_,rfl,_,_,rfl,rfl,c,_,rfl,_,rfl,_,_,rfl,rfl,c,(by show 2<=sizeLine;decide),fun p hp=>?_⟩
  exact q p _ (aK hp _) ak
 obtain ⟨t2,p2,q2⟩:=Tg
 refine ⟨_,(ae (aH (i:=2) HD.nd rfl (aan rfl) (aD xm hr.mo pX (ar (pv 0) (ar (pv 1) aa)))) (ae (bq (aS nA (pv 1) ah (a9 _)) (aj (aH (i:=2) HD.nd rfl (aan rfl) (MR EG (pv 2)))) aQ) p2)),?_⟩
 refine ⟨_,rfl,_,rfl,t,b,rfl,?_⟩
 refine ⟨_,rfl,_,_,rfl,rfl,_,rfl,?_⟩
 refine bx (fun c=>?_) (fun c=>?_)
 ·refine ⟨_,rfl,_,rfl,q2 _ ?_⟩
  have c' :b < 0:=of_decide_eq_true c
  unfold sg
  rw [if_pos c']
 ·refine q2 _ ?_
  have c' :¬ b < 0:=of_decide_eq_false (ahF.mpr c)
  unfold sg
  rw [if_neg c']
inductive Pl (K:Frag)(vs:ζ)(H:Hp)(Q:VK)(E_:XK):Prop where
 | mk (a:Addr) (qs:ς) (T B:Nat) (_:vs=[.ref a]) (_:aaa K H a qs) (_:(∀q∈qs,Sm T B q)) (_:T<=20000) (_:B*qs.length<=100000) (_:B<=8000) (_:qs.length<=1000) (_:∀(p l:Addr) (ts:ξ) (b:Int) (H' :Hp),au H H' ->H l=none->H' p=some (.tup [.ref l,.int b])->H' l=some (.lst (ts.map V.int))->0 < b->b.natAbs<=2^(B*qs.length)->uP ts qs b->(∀t∈ts,t.natAbs<=2^(T+B*qs.length))->Q (.ref p) H'):Pl K vs H Q E_
theorem yM:aF ["row","bottom","number"] ["row"] (ag AX):=sq
theorem Th (D:Def K mg "whole_row" AX ["row"])(xm:Fn P w K mg base (bg P w) 1 "greatest_shared" zag gx):Fn P w K mg base (bg P w) 2 "whole_row" ["row"] (Pl K):=by
 refine D.ok yM (fun vs H Q E h=>?_) (fun f bM A outer s H vs Q E hr h=>?_)
 ·obtain ⟨a,qs,T,B,rfl,_⟩:=h
  rfl
 obtain ⟨a,qs,T,B,rfl,⟨us,hS,hN⟩,sm,hT,hB,hB1,hl,q⟩:=h
 refine ⟨_,(ae (aH (i:=1) yM.nd rfl (aa_ rfl) ah)
  (ae (bE PassesOwn.never rfl (bD (pv 0)) (aC (i:=2) yM.nd rfl (aan rfl)) (aj (aH (i:=1) yM.nd rfl (aa_ rfl) (aL cF (aL uE (pv 1) (aD xm hr.mo pX (ar (pv 1) (ar (aJ (pv 2)) aa)))) (aJ (pv 2))))))
  (aj (aG (aV (ar (cX (tn:=["number"]) (fr:=["bottom"]) (caps:=[1]) rfl ⟨rfl,by decide+kernel,rfl,by decide+kernel,by decide+kernel,rfl,⟨(by first | exact aan rfl | exact aa_ rfl),trivial⟩,⟨(by first | exact aan rfl | exact aa_ rfl),trivial⟩⟩ (bD (pv 0)) (fun _ _ _ _=>(aC (i:=0) (show (["number","bottom"]:List Str).Nodup from by decide+kernel) rfl (aan rfl))) (fun _ _ _ _=>df) (fun _ _ _ _=>(aL cF (bw (dX (K:=K) rfl) (pv 0) ah (fun _ _=>rfl)) (aL uE (pv 1) (bw (dX (K:=K) rfl) (pv 0) ah (fun _ _=>rfl)))))) (ar (pv 1) aa))))))),?_⟩
 have hlu:=hN.1
 have qat:∀{i:Nat} {u:V},us[i]? =some u->∃q,qs[i]? =some q/\mw K H u q/\Sm T B q:=fun {i u} e=>by
  have hi:i < us.length:=(ir.mp e).1
  have e2:qs[i]? =some (qs[i]'(by omega)):=gE (by omega)
  exact ⟨_,e2,hN.2 i u _ e e2,sm _ (abn _)⟩
 refine ⟨_,rfl,a,rfl,⟨_,hS⟩,cv (K:=K) (a:=a) (xs:=us) (fun i σ H' =>∃(b:Int) (o:ω),σ=[some (.ref a),some (.int b),o]/\H' =H/\0 < b/\b.natAbs<=2^(B*i)/\∀j,j < i->∀q,qs[j]? =some q->q.2 ∣ b) ⟨1,none,rfl,rfl,by decide,by simp,fun j h=>absurd h (abP _)⟩ (fun i σ H' _ ⟨b,o,_,e,_⟩=>by rw [e];exact hS) ?_ ?_⟩
 ·rintro i u σ H' hu ⟨b,o,rfl,rfl,hb,hs,hd⟩
  obtain ⟨n,en,⟨p,rfl,hp⟩,sn⟩:=qat hu
  have hi:i < qs.length:=(ir.mp en).1
  have nb:n.2.natAbs<=2^B:=sn.bot
  obtain ⟨l1,l2,l3,l4⟩:=FU hb sn.pos
  have gp:=rW (t:=b) (b:=n.2) (by have:=sn.pos;omega)
  have gl:=Si (t:=b) (b:=n.2) (by have:=sn.pos;omega)
  have sz:(b.fdiv (gz b n.2)*n.2).natAbs<=2^(B*(i+1)):=by
   refine aai l4 ?_
   rw [Nat.mul_succ,ahR]
   exact abJ hs nb
  have bi:B*i<=100000:=aai (Nat.mul_le_mul_left B (by omega)) hB
  have g1:gz b n.2 ∣ b:=ae_ ..
  refine ⟨_,rfl,_,rfl,_,rfl,p,_,_,_,rfl,rfl,hp,ip,b,n.2,rfl,?_⟩
  refine ⟨_,_,rfl,rfl,⟨by omega,aai (iz (aai gl nb) (aba B)) (by omega)⟩,?_⟩
  refine ⟨_,rfl,p,_,_,_,rfl,rfl,hp,ip,_,_,rfl,rfl,mU (aai (gj (by omega) g1) hs) nb (by omega) (by omega),?_⟩
  refine ⟨_,_,rfl,rfl,l1,sz,fun j hj q' e' =>?_⟩
  rcases abz.mp hj with z | z
  ·exact Int.dvd_trans (hd j z q' e') l2
  ·subst z
   rw [en] at e'
   cases e'
   exact l3
 ·rintro σ H' ⟨b,o,rfl,rfl,hb,hs,hd⟩
  rw [hlu] at hs hd
  refine ⟨_,rfl,a,rfl,⟨_,hS⟩,fun D nD=>?_⟩
  refine cH (cap:=[some (.int b)]) (K:=K) (a:=a) (xs:=us) (fun i v _=>∃q,qs[i]? =some q/\v=.int (q.1*b.fdiv q.2)) nD (by rw [hlu];exact aaq hl (by decide)) (fun H2 s2=>s2.seq hS) (fun _ _ _ _ _ _ _ h=>h) ?_ ?_
  ·intro i u H2 R hu s2 k
   obtain ⟨n,en,⟨p,rfl,hp⟩,sn⟩:=qat hu
   have SG:=Ty.au.bN s2 hp
   have dv:=hd i (ir.mp en).1 n en
   have n0:n.2≠0:=by have:=sn.pos;omega
   refine ⟨_,rfl,p,_,_,_,rfl,rfl,SG,g9,?_⟩
   refine ⟨_,rfl,_,rfl,p,_,_,_,rfl,rfl,SG,ip,_,_,rfl,rfl,⟨n0,aai (iz sn.bot (aba B)) (by omega)⟩,?_⟩
   exact ⟨_,_,rfl,rfl,mU sn.top (aai (gj n0 dv) hs) (by omega) (by omega),k _ _ (au.refl _) ⟨n,en,rfl⟩⟩
  ·intro ys H2 hy fY s2 hD
   have ey:ys=(qs.map fun n=>n.1*b.fdiv n.2).map V.int:=by
    refine abo fun i=>?_
    by_cases hi:i < ys.length
    ·have e1:ys[i]? =some ys[i]:=gE hi
     obtain ⟨n,en,ev⟩:=fY i _ e1
     rw [e1,ev,Wp,Wp,en]
     rfl
    ·rw [aaj (by omega),aaj (by simp;omega)]
   refine ⟨_,rfl,(by show 2<=sizeLine;decide),fun p np=>?_⟩
   have s3:=aK np (.tup [.ref D,.int b])
   refine q p D (qs.map fun n=>n.1*b.fdiv n.2) b _ (s2.trans s3) nD ak (s3 _ _ (by rw [hD,ey])) hb hs ⟨by simp,fun i t n e1 e2=>?_⟩ (fun t ht=>?_)
   ·rw [Wp,e2] at e1
    have zQ :n.1*b.fdiv n.2=t:=aay e1
    rw [<- zQ]
    exact zX (sm n (be e2)).pos (hd i (ir.mp e2).1 n e2)
   ·obtain ⟨n,hn,rfl⟩:=aad.mp ht
    obtain ⟨i,hi⟩:=aas hn
    have n0:n.2≠0:=by have:=(sm n hn).pos;omega
    exact wV (sm n hn).top (aai (gj n0 (hd i (ir.mp hi).1 n hi)) hs)
structure Dv (l l' :ξ):Prop where
 len:l'.length=l.length
 YA:∃g:Int,g≠0/\∀j,g*l'.getD j 0=l.getD j 0
def Pm (l:ξ):Prop:=Ta l\/∀j,l.getD j 0=0
theorem vk {l:ξ}{d:Int}(h:∀j,d ∣ l.getD j 0){i:Nat}{x:Int}(e:l[i]? =some x):d ∣ x:=by
 rw [<- getD_mem e]
 exact h i
inductive kD (vs:ζ)(H:Hp)(Q:VK)(E_:XK):Prop where
 | mk (v:V) (l:ξ) (_:vs=[v]) (_:Ln H v l) (_:l.length<=1000) (_:∀v' l' H',au H H' ->Ln H' v' l' ->Dv l l' ->Pm l' ->(v' =v\/∃p,v' =.ref p/\H p=none)->Q v' H'):kD vs H Q E_
theorem K' (l:ξ):Dv l l:=⟨rfl,1,by decide,fun j=>Int.one_mul _⟩
theorem yN:aF ["line","shared","whole"] ["line"] (ag BA):=sq
theorem Ti (ht:P.given.tree=none)(D:Def K mg "divided" BA ["line"])(xm:Fn P w K mg base (bg P w) 1 "greatest_shared" zag gx):Fn P w K mg base (bg P w) 33 "divided" ["line"] kD:=by
 refine D.ok yN (fun vs H Q E h=>?_) (fun f bM A outer s H vs Q E hr h=>?_)
 ·obtain ⟨v,l,rfl,_⟩:=h
  rfl
 obtain ⟨v,l,rfl,⟨a,rfl,ha⟩,hn,q⟩:=h
 have same:Pm l->Q (.ref a) H:=fun pz=>q _ l H (au.refl H) ⟨a,rfl,ha⟩ (K' l) pz (.inl rfl)
 refine ⟨_,(ae (aH (i:=1) yN.nd rfl (aa_ rfl) ah)
  (ae (bE PassesOwn.never rfl (bD (pv 0)) (aC (i:=2) yN.nd rfl (aan rfl)) (ae (aH (i:=1) yN.nd rfl (aa_ rfl) (aD xm hr.mo pX (ar (pv 2) (ar (pv 1) aa))))
   (aj (bq (aS eh (pv 1) ah (a9 _)) (aj (aG (pv 0))) aQ))))
  (aj (aG (ug (aS qG (pv 1) ah (a9 _)) (cX (tn:=["whole"]) (fr:=["shared"]) (caps:=[1]) rfl ⟨rfl,by decide+kernel,rfl,by decide+kernel,by decide+kernel,rfl,⟨(by first | exact aan rfl | exact aa_ rfl),trivial⟩,⟨(by first | exact aan rfl | exact aa_ rfl),trivial⟩⟩ (bD (pv 0)) (fun _ _ _ _=>(aC (i:=0) (show (["whole","shared"]:List Str).Nodup from by decide+kernel) rfl (aan rfl))) (fun _ _ _ _=>df) (fun _ _ _ _=>(aL (fu ht (Ty.cD.py hr (by decide)) rfl rfl rfl rfl rfl) (pv 0) (pv 1)))) (pv 0)))))),?_⟩
 refine ⟨_,rfl,a,rfl,⟨_,a8.of ha⟩,cv (K:=K) (a:=a) (xs:=l.map V.int) (fun i σ H' =>∃(g:Int) (o:ω),σ=[some (.ref a),some (.int g),o]/\H' =H/\0<=g/\(∀j,j < i->∀x,l[j]? =some x->g ∣ x)/\(∀d:Int,(∀j,j < i->∀x,l[j]? =some x->d ∣ x)->d ∣ g)/\(0 < i->g≠1)) ⟨0,none,rfl,rfl,by decide,(fun j h=>absurd h (abP _)),(fun d _=>Int.dvd_zero d),fun h=>absurd h (abp _)⟩ (fun i σ H' _ ⟨g,o,_,e,_⟩=>by rw [e];exact a8.of ha) ?_ ?_⟩
 ·rintro i u σ H' hu ⟨g,o,rfl,rfl,g0,hg,hd,_⟩
  rw [Wp] at hu
  obtain ⟨x,ex,rfl⟩:=aar.mp hu
  have d1:gz x g ∣ x:=ae_ ..
  have d2:gz x g ∣ g:=ab' ..
  have p0:0<=gz x g:=Int.natCast_nonneg _
  refine ⟨_,rfl,_,rfl,x,g,rfl,?_⟩
  refine ⟨_,rfl,rfl,_,rfl,?_⟩
  refine bx (fun z=>⟨_,rfl,same (.inl fun d JC =>?_)⟩) (fun z=>?_)
  ·have z' :gz x g=1:=by simpa using of_decide_eq_true z
   have h1:d ∣ gz x g:=aj_ (vk JC ex) (hd d fun j _ y ey=>vk JC ey)
   rw [z'] at h1
   have:=ahi.mpr h1
   simpa using this
  refine ⟨_,_,rfl,rfl,p0,fun j hj y ey=>?_,fun d h=>?_,fun _ e=>z (by rw [e];rfl)⟩
  ·rcases abz.mp hj with z | z
   ·exact Int.dvd_trans d2 (hg j z y ey)
   ·subst z
    rw [ex] at ey
    cases ey
    exact d1
  ·exact aj_ (h i (aba _) x ex) (hd d fun j hj y ey=>h j (ab1 hj) y ey)
 ·rintro σ H' ⟨g,o,rfl,rfl,g0,hg,hd,hg1⟩
  rw [aab] at hg hd hg1
  refine ⟨_,rfl,_,_,rfl,rfl,_,rfl,?_⟩
  refine bx (fun c=>?_) (fun c=>⟨_,rfl,same (.inr fun j=>?_)⟩)
  rotate_left
  ·have c' :¬ (1:Int) < g:=fun z=>c (decide_eq_true z)
   by_cases hj:j < l.length
   ·have gz:g=0:=by
     have:=hg1 (by omega)
     omega
    have ej:l[j]? =some l[j]:=gE hj
    have:=hg j hj _ ej
    rw [gz] at this
    rw [getD_mem ej]
    exact Int.zero_dvd.mp this
   ·rw [aaz,aaj (by omega)]
    rfl
  have g1:(1:Int) < g:=of_decide_eq_true c
  have gn:g≠0:=by omega
  refine ⟨_,rfl,a,rfl,⟨_,a8.of ha⟩,fun D nD=>?_⟩
  refine cH (cap:=[some (.int g)]) (K:=K) (a:=a) (xs:=l.map V.int) (fun i v _=>∃x,l[i]? =some x/\v=.int (x.fdiv g)) nD (by rw [aab];exact aaq hn (by decide)) (fun H2 s2=>a8.of (s2 _ _ ha)) (fun _ _ _ _ _ _ _ h=>h) ?_ ?_
  ·intro i u H2 R hu s2 k
   rw [Wp] at hu
   obtain ⟨x,ex,rfl⟩:=aar.mp hu
   exact ⟨_,rfl,_,rfl,_,_,rfl,rfl,gn,k _ _ (au.refl _) ⟨x,ex,rfl⟩⟩
  ·intro ys H2 hy fY s2 hD
   rw [aab] at hy
   have ey:ys=(l.map fun x=>x.fdiv g).map V.int:=by
    refine abo fun i=>?_
    by_cases hi:i < ys.length
    ·have e1:ys[i]? =some ys[i]:=gE hi
     obtain ⟨x,ex,ev⟩:=fY i _ e1
     rw [e1,ev,Wp,Wp,ex]
     rfl
    ·rw [aaj (by omega),aaj (by simp;omega)]
   have YA:∀j,g*(l.map fun x=>x.fdiv g).getD j 0=l.getD j 0:=fun j=>by
    by_cases hj:j < l.length
    ·have ej:l[j]? =some l[j]:=gE hj
     rw [getD_mem (l:=l.map fun x=>x.fdiv g) (x:=l[j].fdiv g) (by rw [Wp,ej];rfl),getD_mem ej]
     exact (cy gn (hg j hj _ ej)).symm
    ·rw [aaz,aaz,aaj (by simp;omega),aaj (by omega)]
     simp
   refine q _ (l.map fun x=>x.fdiv g) H2 s2 ⟨D,rfl,by rw [hD,ey]⟩ ⟨by simp,g,gn,YA⟩ (.inl fun d JC =>?_) (.inr ⟨D,rfl,nD⟩)
   have h1:d*g ∣ g:=hd (d*g) fun j hj x ex=>by
    rw [<- getD_mem ex, <- YA j,acd]
    exact Int.mul_dvd_mul_left g (JC j)
   obtain ⟨k,hk⟩:=h1
   have h2:g*(d*k)=g*1:=by
    rw [Int.mul_one]
    rw [<- ahP,acd g d]
    exact hk.symm
   have h3:=Int.eq_of_mul_eq_mul_left gn h2
   have h4:d ∣ 1:=⟨k,h3.symm⟩
   simpa using ahi.mpr h4
inductive kE (vs:ζ)(H:Hp)(Q:VK)(E_:XK):Prop where
 | mk (u v:V) (l m:ξ) (c b1 b2:Nat) (_:vs=[u,v,.int (c:Int)]) (_:Ln H u l) (_:Ln H v m) (_:m.length=l.length) (_:c < l.length) (_:l.length<=1000) (_:m.getD c 0≠0) (_:Bd b1 l) (_:Bd b2 m) (_:b1<=29000000) (_:b2<=29000000) (_:∀v' l' H',au H H' ->Ln H' v' l' ->pK l m l' c->Bd (b1+b2+1) l' ->(l' =l\/Pm l')->(v' =u\/∃p,v' =.ref p/\H p=none)->Q v' H'):kE vs H Q E_
theorem La {a b:Int}(ha:a≠0):a=gz a b*a.fdiv (gz a b)/\b=gz a b*b.fdiv (gz a b)/\gz a b≠0/\a.fdiv (gz a b)≠0/\(a.fdiv (gz a b)).natAbs<=a.natAbs/\(b.fdiv (gz a b)).natAbs<=b.natAbs:=by
 have gn:gz a b≠0:=by
  intro z
  have z' :((abm a b:Nat):Int)=0:=z
  have:abm a b=0:=by omega
  exact ha (Int.gcd_eq_zero_iff.mp this).1
 have d1:gz a b ∣ a:=ae_ ..
 have d2:gz a b ∣ b:=ab' ..
 have e1:=cy gn d1
 refine ⟨e1,cy gn d2,gn,fun z=>?_,gj gn d1,gj gn d2⟩
 rw [z,ahC] at e1
 exact ha e1
theorem Lb {l m:ξ}{t u:Int}{ys:ζ}(hl:m.length=l.length)(hy:ys.length=l.length)(h:∀(i:Nat) (v:V),ys[i]? =some v->∃x y,l[i]? =some x/\m[i]? =some y/\v=.int (t*x - u*y)):ys=(ace (fun x y=>t*x - u*y) l m).map V.int:=by
 refine abo fun i=>?_
 by_cases hi:i < ys.length
 ·have e1:ys[i]? =some ys[i]:=gE hi
  obtain ⟨x,y,ex,ey,ev⟩:=h i _ e1
  rw [e1,ev,Wp,ahj,ex,ey]
  rfl
 ·rw [aaj (by omega),aaj (by simp;omega)]
theorem HE {l m:ξ}{t u:Int}(hl:m.length=l.length)(j:Nat):(ace (fun x y=>t*x - u*y) l m).getD j 0=t*l.getD j 0 - u*m.getD j 0:=by
 by_cases hj:j < l.length
 ·have e1:l[j]? =some l[j]:=gE hj
  have e2:m[j]? =some (m[j]'(by omega)):=gE (by omega)
  rw [getD_mem e1,getD_mem e2]
  exact getD_mem (by rw [ahj,e1,e2])
 ·rw [aaz,aaz,aaz,aaj (by simp;omega),aaj (by omega),aaj (by omega)]
  simp
theorem yO:aF ["line","lead","column","shared","times","less"] zax (ag A_):=sq
theorem Tj (ht:P.given.tree=none)(D:Def K mg "cleared" A_ zax)(rm:mg "zip"=none)(xm:Fn P w K mg base (bg P w) 1 "greatest_shared" zag gx)(aah:Fn P w K mg base (bg P w) 33 "divided" ["line"] kD):Fn P w K mg base (bg P w) 34 "cleared" zax kE:=by
 refine D.ok yO (fun vs H Q E h=>?_) (fun f bM A outer s H vs Q E hr h=>?_)
 ·obtain ⟨u,v,l,m,c,b1,b2,rfl,_⟩:=h
  rfl
 obtain ⟨u,v,l,m,c,b1,b2,rfl,⟨a,rfl,ha⟩,⟨a',rfl,YB⟩,hl,hc,hn,hm,B1,B2,Tn,hb2,q⟩:=h
 refine ⟨_,(ae (bq (aS eh (bw ba (pv 0) (pv 2) (fun _ _=>rfl)) ah (a9 _)) (aj (aG (pv 0))) aQ)
  (ae (aH (i:=3) yO.nd rfl (aan rfl) (aD xm hr.mo pX (ar (bw ba (pv 1) (pv 2) (fun _ _=>rfl)) (ar (bw ba (pv 0) (pv 2) (fun _ _=>rfl)) aa))))
  (ae (aH (i:=4) yO.nd rfl (aa_ rfl) (aL (fu ht (Ty.cD.py hr (by decide)) rfl rfl rfl rfl rfl) (bw ba (pv 1) (pv 2) (fun _ _=>rfl)) (pv 3)))
  (ae (aH (i:=5) yO.nd rfl (aa_ rfl) (aL (fu ht (Ty.cD.py hr (by decide)) rfl rfl rfl rfl rfl) (bw ba (pv 0) (pv 2) (fun _ _=>rfl)) (pv 3)))
  (aj (aG (aD aah hr.mo pX (ar (cX (tn:=["whole","other"]) (fr:=["times","less"]) (caps:=[4,5]) rfl ⟨rfl,by decide+kernel,rfl,by decide+kernel,by decide+kernel,rfl,⟨(by first | exact aan rfl | exact aa_ rfl),⟨(by first | exact aan rfl | exact aa_ rfl),trivial⟩⟩,⟨(by first | exact aan rfl | exact aa_ rfl),⟨(by first | exact aan rfl | exact aa_ rfl),trivial⟩⟩⟩ (OT rfl rm (ar (pv 0) (ar (pv 1) aa))) (fun _ _ _ _=>(yy (K:=K) (n:=2) rfl rfl (bu (aC (i:=0) (show (zaO:List Str).Nodup from by decide+kernel) rfl (aan rfl)) (bu (aC (i:=1) (show (zaO:List Str).Nodup from by decide+kernel) rfl (aan rfl)) dF)))) (fun _ _ _ _=>df) (fun _ _ _ _=>(aL dr (aL cF (pv 2) (pv 0)) (aL cF (pv 3) (pv 1))))) aa)))))))),?_⟩
 have ea:=vj (l:=l) hc
 have em:=vj (l:=m) (j:=c) (by omega)
 refine ⟨_,rfl,_,rfl,a,_,_,_,rfl,rfl,a8.of ha,ea,rfl,_,rfl,?_⟩
 refine bx (fun z=>?_) (fun z=>?_)
 ·have z' :l.getD c 0=0:=by simpa using of_decide_eq_true z
  exact ⟨_,rfl,q _ l H (au.refl H) ⟨a,rfl,ha⟩ ⟨rfl,z',1,1,0,by decide,by decide,fun j=>by omega⟩ (B1.up (by omega)) (.inl rfl) (.inl rfl)⟩
 ·obtain ⟨f1,f2,f3,f4,f5,f6⟩:=La (a:=m.getD c 0) (b:=l.getD c 0) hm
  refine ⟨_,rfl,_,rfl,a',_,_,_,rfl,rfl,a8.of YB,em,_,rfl,_,rfl,a,_,_,_,rfl,rfl,a8.of ha,ea,_,_,rfl,?_⟩
  refine ⟨_,rfl,_,rfl,a',_,_,_,rfl,rfl,a8.of YB,em,_,rfl,_,_,rfl,rfl,f3,?_⟩
  refine ⟨_,rfl,_,rfl,a,_,_,_,rfl,rfl,a8.of ha,ea,_,rfl,_,_,rfl,rfl,f3,?_⟩
  refine ⟨_,rfl,_,rfl,a,a',rfl,⟨_,a8.of ha⟩,⟨_,a8.of YB⟩,fun D1 n1=>?_⟩
  have st:((m.getD c 0).fdiv (gz (m.getD c 0) (l.getD c 0))).natAbs<=2^b2:=aai f5 (B2 c)
  have su:((l.getD c 0).fdiv (gz (m.getD c 0) (l.getD c 0))).natAbs<=2^b1:=aai f6 (B1 c)
  refine FT (cap:=[some (.int ((m.getD c 0).fdiv (gz (m.getD c 0) (l.getD c 0)))),some (.int ((l.getD c 0).fdiv (gz (m.getD c 0) (l.getD c 0))))]) (K:=K) (xs:=l.map V.int) (ys:=m.map V.int) (fun i v _=>∃x y,l[i]? =some x/\m[i]? =some y/\v=.int ((m.getD c 0).fdiv (gz (m.getD c 0) (l.getD c 0))*x - (l.getD c 0).fdiv (gz (m.getD c 0) (l.getD c 0))*y)) n1 (by rw [aab];exact aaq hn (by decide)) (by simpa using hl) (fun H2 s2=>a8.of (s2 _ _ ha)) (fun H2 s2=>a8.of (s2 _ _ YB)) (fun _ _ _ _ _ _ _ h=>h) ?_ ?_
  ·intro i x y H2 R ex ey s2 k
   rw [Wp] at ex ey
   obtain ⟨x',Ob,rfl⟩:=aar.mp ex
   obtain ⟨y',DV,rfl⟩:=aar.mp ey
   refine ⟨_,rfl,_,rfl,_,_,rfl,rfl,mU st (B1.mem (be Ob)) (by omega) (by omega),?_⟩
   exact ⟨_,rfl,_,rfl,_,_,rfl,rfl,mU su (B2.mem (be DV)) (by omega) (by omega),_,_,rfl,rfl,k _ _ (au.refl _) ⟨x',y',Ob,DV,rfl⟩⟩
  ·intro ys H2 hy fY s2 hD
   rw [aab] at hy
   have ey:=Lb hl hy fY
   refine ⟨_,_,rfl,⟨D1,rfl,by rw [hD,ey]⟩,by simp;omega,fun v' l' H3 s3 L3 dv pz fr=>?_⟩
   obtain ⟨g,gn,hg⟩:=dv.YA
   have qc:∀j,g*l'.getD j 0=(m.getD c 0).fdiv (gz (m.getD c 0) (l.getD c 0))*l.getD j 0 - (l.getD c 0).fdiv (gz (m.getD c 0) (l.getD c 0))*m.getD j 0:=fun j=>by rw [hg j,HE hl]
   refine q v' l' H3 (s2.trans s3) L3 ⟨by rw [dv.len];simp [hl],?_,g,_,_,gn,f4,qc⟩ (fun j=>?_) (.inr pz) ?_
   ·have e:=qc c
    have z2:(m.getD c 0).fdiv (gz (m.getD c 0) (l.getD c 0))*l.getD c 0 - (l.getD c 0).fdiv (gz (m.getD c 0) (l.getD c 0))*m.getD c 0=0:=by
     generalize gz (m.getD c 0) (l.getD c 0)=G at*
     generalize (m.getD c 0).fdiv G=t at*
     generalize (l.getD c 0).fdiv G=u at*
     rw [f1,f2]
     grind
    rw [z2] at e
    rcases aio.mp e with y | y
    ·exact absurd y gn
    ·exact y
   ·have b:(g*l'.getD j 0).natAbs<=2^(b1+b2+1):=by
     rw [qc j,Int.sub_eq_add_neg]
     refine OW (Ng (wV st (B1 j)) (by omega)) ?_
     rw [ais]
     exact wV su (B2 j)
    exact aai (dC gn) b
   ·rcases fr with z | ⟨p,e,n⟩
    ·exact .inr ⟨D1,z,n1⟩
    ·exact .inr ⟨p,e,s2.free n⟩
inductive sy (K:Frag)(vs:ζ)(H:Hp)(Q:VK)(E_:XK):Prop where
 | mk (a:Addr) (us:ζ) (ls:List (List Int:_)) (c:Nat) (_:vs=[.ref a,.int (c:Int)]) (_:a8 K H a us) (_:rj H us ls) (_:(∀l∈ls,c < l.length)) (_:(∀(i:Nat) (l:ξ) (H' :Hp),au H H' ->ls[i]? =some l->l.getD c 0≠0->Q (.int (i:Int)) H')) (_:((∀l∈ls,l.getD c 0=0)->∀H',au H H' ->Q .cB H')):sy K vs H Q E_
theorem rj.at {H:Hp}{us:ζ}{ls:η}(h:rj H us ls){i:Nat}{u:V}(e:us[i]? =some u):∃l,ls[i]? =some l/\Ln H u l:=by
 have hi:i < us.length:=(ir.mp e).1
 have hl:=h.1
 have e2:ls[i]? =some (ls[i]'(by omega)):=gE (by omega)
 exact ⟨_,e2,h.2 i u _ e e2⟩
theorem rj.at' {H:Hp}{us:ζ}{ls:η}(h:rj H us ls){i:Nat}{l:ξ}(e:ls[i]? =some l):∃u,us[i]? =some u/\Ln H u l:=by
 have hi:i < ls.length:=(ir.mp e).1
 have hl:=h.1
 have e2:us[i]? =some (us[i]'(by omega)):=gE (by omega)
 exact ⟨_,e2,h.2 i _ l e2 e⟩
theorem HF:aF ["lines","column","at","line"] zaI (ag AZ):=sq
theorem To (D:Def K mg "first_not_nought" AZ zaI)(iq:mg "enumerate"=none):Fn P w K mg base (bg P w) 1 "first_not_nought" zaI (sy K):=by
 refine D.ok HF (fun vs H Q E h=>?_) (fun f bM A outer s H vs Q E hr h=>?_)
 ·obtain ⟨a,us,ls,c,rfl,_⟩:=h
  rfl
 obtain ⟨a,us,ls,c,rfl,hS,L,hc,q1,q2⟩:=h
 have lu:=L.1
 refine ⟨_,(ae (bE PassesOwn.never rfl (KS rfl iq (ar (pv 0) aa)) (fm rfl (bu (aC (i:=2) HF.nd rfl (aan rfl)) (bu (aC (i:=3) HF.nd rfl (aan rfl)) dF))) (aj (bq (aS lK (bw ba (pv 3) (pv 1) (fun _ _=>rfl)) ah (a9 _)) (aj (aG (pv 2))) aQ)))
  (aj (aG ng))),?_⟩
 refine ⟨_,rfl,a,rfl,⟨_,hS⟩,GK (K:=K) (a:=a) (xs:=us) (fun i σ H' =>∃o1 o2:Option V,σ=[some (.ref a),some (.int (c:Int)),o1,o2]/\au H H' /\∀j,j < i->∀l,ls[j]? =some l->l.getD c 0=0) ⟨none,none,rfl,au.refl H,fun j h=>absurd h (abP _)⟩ (fun i σ H' _ ⟨o1,o2,_,s1,_⟩=>s1.seq hS) ?_ ?_⟩
 ·rintro i u σ H' p hu ⟨o1,o2,rfl,s1,z⟩ np
  obtain ⟨l,el,b,rfl,hb⟩:=L.at hu
  have s2:=s1.trans (aK np (.tup [.int (i:Int),.ref b]))
  have hcl:=hc l (be el)
  refine ⟨p,_,rfl,bU.of ak,rfl,_,_,rfl,_,_,rfl,rfl,?_⟩
  refine ⟨_,rfl,_,rfl,b,_,_,_,rfl,rfl,a8.of (s2 _ _ hb),vj hcl,rfl,_,rfl,?_⟩
  refine bx (fun y=>?_) (fun y=>?_)
  ·have y' :l.getD c 0≠0:=by simpa using y
   exact ⟨_,rfl,q1 i l _ s2 el y'⟩
  ·have y' :l.getD c 0=0:=by simpa using y
   refine ⟨_,_,rfl,s2,fun j hj l' e' =>?_⟩
   rcases abz.mp hj with w | w
   ·exact z j w l' e'
   ·subst w
    rw [el] at e'
    cases e'
    exact y'
 ·rintro σ H' ⟨o1,o2,rfl,s1,z⟩
  refine q2 (fun l hl=>?_) H' s1
  obtain ⟨j,hj⟩:=aas hl
  exact z j (by have:=(ir.mp hj).1;omega) l hj
structure Red (os:η)(L c b:Nat)(nd:θ)(lv:η):Prop where
 sD:∀x∈nd,x.2.length=L
 mz:∀l∈lv,l.length=L
 cols:∀x∈nd,x.1 < c
 asc:(nd.map (·.1)).Pairwise (· < ·)
 here:∀x∈nd,x.2.getD x.1 0≠0
 off:∀x∈nd,∀y∈nd,x.1≠y.1->x.2.getD y.1 0=0
 low:∀x∈nd,∀j,j < x.1->x.2.getD j 0=0
 zero:∀l∈lv,∀j,j < c->l.getD j 0=0
 vm:∀x∈nd,si os x.2
 lY:∀l∈lv,si os l
 sol:∀z,((∀x∈nd,ev x.2 z=0)/\(∀l∈lv,ev l z=0)) ↔ ∀o∈os,ev o z=0
 JK:∀x∈nd,Bd b x.2
 HG:∀l∈lv,Bd b l
 cnt:nd.length+lv.length=os.length
theorem Red.start {os:η}{L b:Nat}(hL:∀o∈os,o.length=L)(hb:∀o∈os,Bd b o):Red os L 0 b [] os where
 sD:=by simp
 mz:=hL
 cols:=by simp
 asc:=by simp
 here:=by simp
 off:=by simp
 low:=by simp
 zero:=fun _ _ j h=>absurd h (abP _)
 vm:=by simp
 lY:=fun l h=>uY h
 sol:=fun z=>by simp
 JK:=by simp
 HG:=hb
 cnt:=by simp
theorem Red.skip {os:η}{L c b:Nat}{nd:θ}{lv:η}(h:Red os L c b nd lv)(hz:∀l∈lv,l.getD c 0=0):Red os L (c+1) b nd lv where
 sD:=h.sD
 mz:=h.mz
 cols:=fun x hx=>ab1 (h.cols x hx)
 asc:=h.asc
 here:=h.here
 off:=h.off
 low:=h.low
 zero:=fun l hl j hj=>by
  rcases abz.mp hj with z | z
  ·exact h.zero l hl j z
  ·subst z
   exact hz l hl
 vm:=h.vm
 lY:=h.lY
 sol:=h.sol
 JK:=h.JK
 HG:=h.HG
 cnt:=h.cnt
structure Made (os:η)(lead:ξ)(c b:Nat)(xs ys:η):Prop where
 len:ys.length=xs.length
 to:∀(i:Nat) (x:ξ),xs[i]? =some x->∃y,ys[i]? =some y/\pK x lead y c/\Bd b y
theorem Made.ex {os:η}{lead:ξ}{c b:Nat}{xs ys:η}(h:Made os lead c b xs ys){y:ξ}(hy:y∈ys):∃x∈xs,pK x lead y c/\Bd b y:=by
 obtain ⟨i,hi⟩:=aas hy
 have hl:=h.len
 have jm:i < ys.length:=(ir.mp hi).1
 have e:xs[i]? =some (xs[i]'(by omega)):=gE (by omega)
 obtain ⟨y',e',r⟩:=h.to i _ e
 rw [hi] at e'
 cases e'
 exact ⟨_,be e,r⟩
theorem Made.all {os:η}{lead:ξ}{c b:Nat}{xs ys:η}(h:Made os lead c b xs ys){x:ξ}(hx:x∈xs):∃y∈ys,pK x lead y c/\Bd b y:=by
 obtain ⟨i,hi⟩:=aas hx
 obtain ⟨y,e,r⟩:=h.to i x hi
 exact ⟨y,be e,r⟩
theorem Red.step {os:η}{L c b:Nat}{nd iN :θ}{lv xh rest:η}{lead:ξ}(h:Red os L c b nd lv)(fC:lead∈lv)(vn:∀l∈rest,l∈lv)(FA:∀l∈lv,l=lead\/l∈rest)(hlen:rest.length+1=lv.length)
  (hc:lead.getD c 0≠0) (ML:Made os lead c (2*b+1) rest xh) (hk:iN.map (·.1)=nd.map (·.1)) (MN:Made os lead c (2*b+1) (nd.map (·.2)) (iN.map (·.2))):Red os L (c+1) (2*b+1) (iN ++[(c,lead)]) xh :=by
 have ll:=h.mz lead fC
 have lz:=h.zero lead fC
 have hl' :iN.length=nd.length:=by simpa using congrArg abO hk
 have pairs:∀x' ∈iN,∃x∈nd,x.1=x'.1/\pK x.2 lead x'.2 c/\Bd (2*b+1) x'.2:=by
  intro x' v7
  obtain ⟨i,hi⟩:=aas v7
  have jm:i < iN.length:=(ir.mp hi).1
  have e:nd[i]? =some (nd[i]'(by omega)):=gE (by omega)
  have e1:(iN.map (·.1))[i]? =(nd.map (·.1))[i]? :=by rw [hk]
  rw [Wp,Wp,hi,e] at e1
  obtain ⟨y,e2,r⟩:=MN.to i (nd[i]'(by omega)).2 (by rw [Wp,e];rfl)
  rw [Wp,hi] at e2
  simp at e1 e2
  subst e2
  exact ⟨_,be e,e1.symm,r⟩
 have back:∀x∈nd,∃x' ∈iN,x'.1=x.1/\pK x.2 lead x'.2 c:=by
  intro x hx
  obtain ⟨i,hi⟩:=aas hx
  have jm:i < nd.length:=(ir.mp hi).1
  have e:iN[i]? =some (iN[i]'(by omega)):=gE (by omega)
  have e1:(iN.map (·.1))[i]? =(nd.map (·.1))[i]? :=by rw [hk]
  rw [Wp,Wp,hi,e] at e1
  obtain ⟨y,e2,r⟩:=MN.to i x.2 (by rw [Wp,hi];rfl)
  rw [Wp,e] at e2
  simp at e1 e2
  exact ⟨_,be e,e1,by rw [e2];exact r.1⟩
 have Lc:∀x∈iN ++[(c,lead)],x∈iN \/x=(c,lead):=fun x hx=>by simpa using hx
 exact {
  sD:=fun x hx=>by
   rcases Lc x hx with z | z
   ·obtain ⟨y,hy,_,k,_⟩:=pairs x z
    rw [k.len]
    exact h.sD y hy
   ·subst z
    exact ll
  mz:=fun l hl=>by
   obtain ⟨x,hx,k,_⟩:=ML.ex hl
   rw [k.len]
   exact h.mz x (vn x hx)
  cols:=fun x hx=>by
   rcases Lc x hx with z | z
   ·obtain ⟨y,hy,e,_⟩:=pairs x z
    rw [<- e]
    exact ab1 (h.cols y hy)
   ·subst z
    exact aba _
  asc:=by
   rw [aaH,hk,List.pairwise_append]
   refine ⟨h.asc,by simp,fun a ha b' gi =>?_⟩
   obtain ⟨x,hx,rfl⟩:=aad.mp ha
   have:b' =c:=by simpa using gi
   subst this
   exact h.cols x hx
  here:=fun x hx=>by
   rcases Lc x hx with z | z
   ·obtain ⟨y,hy,e,k,_⟩:=pairs x z
    rw [<- e]
    exact k.at (lz _ (h.cols y hy)) (h.here y hy)
   ·subst z
    exact hc
  off:=fun x hx y hy ne=>by
   rcases Lc x hx with z | z <;> rcases Lc y hy with u | u
   ·obtain ⟨x0,Yz,e0,k0,_⟩:=pairs x z
    obtain ⟨y0,Ld,e1,_⟩:=pairs y u
    rw [<- e1]
    exact k0.zero (h.off x0 Yz y0 Ld (by rw [e0,e1];exact ne)) (lz _ (h.cols y0 Ld))
   ·subst u
    obtain ⟨x0,Yz,e0,k0,_⟩:=pairs x z
    exact k0.GH
   ·subst z
    obtain ⟨y0,Ld,e1,_⟩:=pairs y u
    rw [<- e1]
    exact lz _ (h.cols y0 Ld)
   ·subst z
    subst u
    exact absurd rfl ne
  low:=fun x hx j hj=>by
   rcases Lc x hx with z | z
   ·obtain ⟨y,hy,e,k,_⟩:=pairs x z
    rw [<- e] at hj
    exact k.zero (h.low y hy j hj) (lz j (aii hj (h.cols y hy)))
   ·subst z
    exact lz j hj
  zero:=fun l hl j hj=>by
   obtain ⟨x,hx,k,_⟩:=ML.ex hl
   rcases abz.mp hj with z | z
   ·exact k.zero (h.zero x (vn x hx) j z) (lz j z)
   ·subst z
    exact k.GH
  vm:=fun x hx=>by
   rcases Lc x hx with z | z
   ·obtain ⟨y,hy,_,k,_⟩:=pairs x z
    exact k.comb (h.vm y hy) (h.lY lead fC)
   ·subst z
    exact h.lY lead fC
  lY:=fun l hl=>by
   obtain ⟨x,hx,k,_⟩:=ML.ex hl
   exact k.comb (h.lY x (vn x hx)) (h.lY lead fC)
  sol:=fun z=>by
   rw [<- h.sol z]
   constructor
   ·rintro ⟨a1,a2⟩
    have az:ev lead z=0:=a1 (c,lead) (by simp)
    refine ⟨fun x hx=>?_,fun l hl=>?_⟩
    ·obtain ⟨x',v7,_,k⟩:=back x hx
     exact (k.ev (by rw [ll,h.sD x hx]) az).mp (a1 x' (by simp [v7]))
    ·rcases FA l hl with u | u
     ·rw [u]
      exact az
     ·obtain ⟨y,hy,k,_⟩:=ML.all u
      exact (k.ev (by rw [ll,h.mz l hl]) az).mp (a2 y hy)
   ·rintro ⟨a1,a2⟩
    have az:=a2 lead fC
    refine ⟨fun x hx=>?_,fun l hl=>?_⟩
    ·rcases Lc x hx with u | u
     ·obtain ⟨y,hy,_,k,_⟩:=pairs x u
      exact (k.ev (by rw [ll,h.sD y hy]) az).mpr (a1 y hy)
     ·subst u
      exact az
    ·obtain ⟨x,hx,k,_⟩:=ML.ex hl
     exact (k.ev (by rw [ll,h.mz x (vn x hx)]) az).mpr (a2 x (vn x hx))
  JK:=fun x hx=>by
   rcases Lc x hx with z | z
   ·obtain ⟨y,hy,_,_,k⟩:=pairs x z
    exact k
   ·subst z
    exact (h.HG lead fC).up (by omega)
  HG:=fun l hl=>by
   obtain ⟨x,hx,_,k⟩:=ML.ex hl
   exact k
  cnt:=by
   have a:=ML.len
   have b:=h.cnt
   rw [aat,hl']
   simp
   omega}
def mB (H:Hp)(kvs:γ)(nd:θ):Prop:=kvs.length=nd.length/\∀(i:Nat) (kv:Key×V) (x:Nat×List Int),kvs[i]? =some kv->nd[i]? =some x->kv.1=.inl (x.1:Int)/\Ln H kv.2 x.2
theorem mB.same {H H' :Hp}{kvs:γ}{nd:θ}(h:mB H kvs nd)(s:au H H'):mB H' kvs nd:=⟨h.1,fun i kv x e1 e2=>⟨(h.2 i kv x e1 e2).1,(h.2 i kv x e1 e2).2.same s⟩⟩
theorem Ln.put {H:Hp}{v:V}{l:ξ}{d:Addr}{kvs:γ}{o:HO}(h:Ln H v l)(e:H d=some (.dK kvs)):Ln (upd H d o) v l:=by
 obtain ⟨p,e1,k⟩:=h
 exact ⟨p,e1,by rw [ao (fun z=>by rw [z,e] at k;cases k)];exact k⟩
theorem rj.put {H:Hp}{us:ζ}{ls:η}{d:Addr}{kvs:γ}{o:HO}(h:rj H us ls)(e:H d=some (.dK kvs)):rj (upd H d o) us ls:=⟨h.1,fun i u l e1 e2=>(h.2 i u l e1 e2).put e⟩
theorem mB.put {H:Hp}{kvs Tp:γ}{nd:θ}{d:Addr}{o:HO}(h:mB H kvs nd)(e:H d=some (.dK Tp)):mB (upd H d o) kvs nd:=⟨h.1,fun i kv x e1 e2=>⟨(h.2 i kv x e1 e2).1,(h.2 i kv x e1 e2).2.put e⟩⟩
theorem jG {H H' :Hp}{d:Addr}{o:HO}(s:au H H')(n:H d=none):au H (upd H' d o):=fun b o' e=>by
 rw [ao (fun z=>by rw [z,n] at e;cases e)]
 exact s _ _ e
theorem mB.at {H:Hp}{kvs:γ}{nd:θ}(h:mB H kvs nd){i:Nat}{x:Nat×List Int}(e:nd[i]? =some x):∃v,kvs[i]? =some (.inl (x.1:Int),v)/\Ln H v x.2:=by
 have hi:i < nd.length:=(ir.mp e).1
 have hl:=h.1
 have e2:kvs[i]? =some (kvs[i]'(by omega)):=gE (by omega)
 obtain ⟨a,b⟩:=h.2 i _ x e2 e
 exact ⟨(kvs[i]'(by omega)).2,by rw [e2, <- a],b⟩
theorem mB.keys {H:Hp}{kvs:γ}{nd:θ}(h:mB H kvs nd):kvs.map (·.1)=nd.map (fun x=>(ahX (x.1:Int):Key)):=by
 refine abo fun i=>?_
 have hl:=h.1
 rw [Wp,Wp]
 by_cases hi:i < nd.length
 ·have e:nd[i]? =some nd[i]:=gE hi
  obtain ⟨v,e2,_⟩:=h.at e
  rw [e,e2]
  rfl
 ·rw [aaj (by omega),aaj (by omega)]
  rfl
theorem gK {k:Key}{v:V}:∀{kvs:γ} {i:Nat},(kvs.map (·.1)).Nodup->kvs[i]? =some (k,v)->bR kvs k=some v
 | [],_,_,e=>by simp at e
 | p::r,0,_,e=>by
  cases e
  exact bQ (p:=(k,v)) rfl
 | p::r,i+1,n,e=>by
  rw [aal,aaX] at n
  have e' :r[i]? =some (k,v):=by simpa using e
  have ne:¬ p.1=k:=fun z=>n.1 (by rw [z];exact aad.mpr ⟨(k,v),be e',rfl⟩)
  rw [bF ne]
  exact gK n.2 e'
theorem jH {k:Key}:∀{kvs:γ},k∉kvs.map (·.1)->bR kvs k=none
 | [],_=>rfl
 | p::r,h=>by
  have h' :k≠p.1/\k∉r.map (·.1):=by simpa using h
  rw [bF (fun z=>h'.1 z.symm)]
  exact jH h'.2
theorem map_put {k:Key}{v v' :V}:∀{kvs:γ} {i:Nat},(kvs.map (·.1)).Nodup->kvs[i]? =some (k,v)->kvs.map (fun kv=>if kv.1=k then (kv.1,v') else kv)=kvs.set i (k,v')
 | [],_,_,e=>by simp at e
 | p::r,0,n,e=>by
  rw [aal,aaX] at n
  cases e
  have hr:r.map (fun kv=>if kv.1=k then (kv.1,v') else kv)=r:=by
   refine (abt (fun q hq=>?_)).trans (List.map_id r)
   have ne:¬ q.1=k:=fun z=>n.1 (by show k∈_;rw [<- z];exact aad.mpr ⟨q,hq,rfl⟩)
   rw [if_neg ne]
   rfl
  rw [aal,hr,if_pos rfl,List.set_cons_zero]
 | p::r,i+1,n,e=>by
  rw [aal,aaX] at n
  have e' :r[i]? =some (k,v):=by simpa using e
  have ne:¬ p.1=k:=fun z=>n.1 (by rw [z];exact aad.mpr ⟨(k,v),be e',rfl⟩)
  rw [aal,if_neg ne,map_put n.2 e',List.set_cons_succ]
theorem Le {k:Key}{v v' :V}{kvs:γ}{i:Nat}(n:(kvs.map (·.1)).Nodup)(e:kvs[i]? =some (k,v)):putK kvs k v' =kvs.set i (k,v'):=by
 unfold putK
 rw [gk,gK n e]
 exact map_put n e
theorem mB.set {H:Hp}{kvs:γ}{nd:θ}(h:mB H kvs nd){i c:Nat}{v:V}{l:ξ}(hv:Ln H v l):mB H (kvs.set i (.inl (c:Int),v)) (nd.set i (c,l)):=by
 have hl:=h.1
 refine ⟨by simp [hl],fun j kv x e1 e2=>?_⟩
 rw [abj] at e1 e2
 by_cases z:i=j
 ·subst z
  rw [if_pos rfl] at e1 e2
  by_cases hi:i < kvs.length
  ·rw [if_pos hi] at e1
   rw [if_pos (by omega)] at e2
   cases e1
   cases e2
   exact ⟨rfl,hv⟩
  ·rw [if_neg hi] at e1
   cases e1
 ·rw [if_neg z] at e1 e2
  exact h.2 j kv x e1 e2
theorem mB.snoc {H:Hp}{kvs:γ}{nd:θ}(h:mB H kvs nd){c:Nat}{v:V}{l:ξ}(hv:Ln H v l):mB H (kvs++[(.inl (c:Int),v)]) (nd++[(c,l)]):=by
 have hl:=h.1
 refine ⟨by simp [hl],fun j kv x e1 e2=>?_⟩
 by_cases z:j < kvs.length
 ·rw [aaD z] at e1
  rw [aaD (by omega)] at e2
  exact h.2 j kv x e1 e2
 ·rw [aaY (by omega)] at e1 e2
  rw [<- hl] at e2
  by_cases y:j - kvs.length=0
  ·rw [y] at e1 e2
   cases e1
   cases e2
   exact ⟨rfl,hv⟩
  ·rw [aaj (by simp;omega)] at e1
   cases e1
theorem keys_nodup:∀{nd:θ},(nd.map (·.1)).Pairwise (· < ·)->(nd.map (fun x=>(ahX (x.1:Int):Key))).Nodup
 | [],_=>by simp
 | x::r,h=>by
  rw [aal,ahy] at h
  rw [aal,aaX]
  refine ⟨fun z=>?_,keys_nodup h.2⟩
  obtain ⟨y,hy,e⟩:=aad.mp z
  have e' :(y.1:Int)=x.1:=ah7 e
  have:=h.1 y.1 (aad.mpr ⟨y,hy,rfl⟩)
  omega
def bb (b k:Nat):Nat:=(k+1)*(b+11)
theorem sE (b k:Nat):b<=bb b k:=by
 unfold bb
 rw [acf,aiu]
 omega
theorem Red.piv {os:η}{L c b:Nat}{nd:θ}{lv:η}(R:Red os L c b nd lv):DS nd:=⟨R.asc.imp fun h e=>by omega,R.here,R.off⟩
def Pr (os:η)(l:ξ):Prop:=l∈os\/Pm l
theorem Red.small {os:η}{L c b b0 k:Nat}{nd:θ}{lv ps qs:η}(R:Red os L c b nd lv)(O:DT os nd lv ps qs)(hb:∀o∈os,Bd b0 o)(hk:nd.length<=k)(Nm:k<=1000)(pN:∀x∈nd,Pr os x.2)(pL:∀l∈lv,Pr os l):Red os L c (bb b0 k) nd lv:=by
 have le:∀{n:Nat},n<=(nd.length+1)*((2*(nd.length+1)*2^b0)^nd.length*2^b0)->n<=2^bb b0 k:=fun {n} h=>aai h (aai (Pk (by omega)) (aa0 (by decide) (aa4 _ (by omega))))
 have z:∀{n:Nat},n=0->n<=2^bb b0 k:=fun {n} h=>by rw [h];exact aa6 _
 refine {R with JK:=fun x hx j=>?_,HG:=fun l hl j=>?_}
 ·rcases pN x hx with h | h | h
  ·exact aai (hb _ h j) (aa0 (by decide) (sE _ _))
  ·exact le (O.need R.piv hx hb h j)
  ·exact z (by rw [h j];rfl)
 ·rcases pL l hl with h | h | h
  ·exact aai (hb _ h j) (aa0 (by decide) (sE _ _))
  ·obtain ⟨i,ei⟩:=aas hl
   exact le (O.left R.piv ei (fun x hx=>R.zero l hl x.1 (R.cols x hx)) hb h j)
  ·exact z (by rw [h j];rfl)
theorem Lf {xs:ζ}{i:Nat}(h:i<=xs.length):fH xs none (some (i:Int))=xs.take i:=by
 unfold fH
 rw [HT.mM,HT.uv,ahU h]
 rfl
theorem rq {xs:ζ}{i:Nat}(h:i<=xs.length):fH xs (some (i:Int)) none=xs.drop i:=by
 unfold fH
 rw [HT.mM,HT.uv,ahU h]
 exact ahc (by simp)
theorem Red.up {os:η}{L c b b' :Nat}{nd:θ}{lv:η}(h:Red os L c b nd lv)(hb:b<=b'):Red os L c b' nd lv:={h with JK:=fun x hx=>(h.JK x hx).up hb,HG:=fun x hx=>(h.HG x hx).up hb}
theorem rj.erase {H:Hp}{us:ζ}{ls:η}(h:rj H us ls)(j:Nat):rj H (us.eraseIdx j) (ls.eraseIdx j):=by
 have hl:=h.1
 refine ⟨by rw [ab0,ab0,hl],fun i u l e1 e2=>?_⟩
 rw [abL] at e1 e2
 by_cases z:i < j
 ·rw [if_pos z] at e1 e2
  exact h.2 _ _ _ e1 e2
 ·rw [if_neg z] at e1 e2
  exact h.2 _ _ _ e1 e2
theorem kF {α β:Type}{P:Nat->α->β->Prop}:∀(xs:List α),(∀i x,xs[i]? =some x->∃y,P i x y)->∃ys:List β,ys.length=xs.length/\∀i x y,xs[i]? =some x->ys[i]? =some y->P i x y
 | [],_=>⟨[],rfl,fun i x y e=>by simp at e⟩
 | x::xs,h=>by
  obtain ⟨y,hy⟩:=h 0 x rfl
  obtain ⟨ys,hl,hp⟩:=kF (P:=fun i=>P (i+1)) xs (fun i x e=>h (i+1) x (by simpa using e))
  refine ⟨y::ys,by simp [hl],fun i x' y' e1 e2=>?_⟩
  cases i with
  | zero=>
   cases e1
   cases e2
   exact hy
  | succ i=>exact hp i x' y' (by simpa using e1) (by simpa using e2)
inductive kG (K:Frag)(vs:ζ)(H:Hp)(Q:VK)(E_:XK):Prop where
 | mk (a:Addr) (us:ζ) (os:List (List Int:_)) (L m b:Nat) (_:vs=[.ref a,.int (m:Int)]) (_:a8 K H a us) (_:rj H us os) (_:(∀o∈os,o.length=L)) (_:m<=L) (_:L<=1000) (_:os.length<=1000) (_:(∀o∈os,Bd b o)) (_:bb b (min m os.length)<=29000000) (_:∀(p d a' :Addr) (kvs:γ) (jI :ζ) (nd:θ) (lv:η) (H' :Hp),au H H' ->H d=none->H p=none->H' p=some (.tup [.ref d,.ref a'])->H' d=some (.dK kvs)->a8 K H' a' jI ->mB H' kvs nd->rj H' jI lv->Red os L m (bb b (min m os.length)) nd lv->Q (.ref p) H'):kG K vs H Q E_
theorem lZ:aF ["lines","many","needed","left","column","at","lead","place"] zaP (ag AY):=sq
theorem Tq (D:Def K mg "reduced" AY zaP)(bB:mg "range"=none)(bO:mg "list"=none)(aak:Fn P w K mg base (bg P w) 1 "first_not_nought" zaI (sy K))(Tr:Fn P w K mg base (bg P w) 34 "cleared" zax kE):Fn P w K mg base (bg P w) 35 "reduced" zaP (kG K):=by
 refine D.ok lZ (fun vs H Q E h=>?_) (fun f bM A outer s H vs Q E hr h=>?_)
 ·obtain ⟨a,us,os,L,m,b,rfl,_⟩:=h
  rfl
 obtain ⟨a,us,os,L,m,b,rfl,hS,hL,hlen,hm,Ts,ho,hB,hb,q⟩:=h
 refine ⟨_,(ae (aH (i:=2) lZ.nd rfl (aan rfl) eR)
  (ae (aH (i:=3) lZ.nd rfl (aan rfl) (pv 0))
  (ae (bE PassesOwn.never rfl (bS rfl bB (ar (pv 1) aa)) (aC (i:=4) lZ.nd rfl (aa_ rfl)) (ae (aH (i:=5) lZ.nd rfl (aan rfl) (aD aak hr.mo pX (ar (pv 3) (ar (pv 4) aa))))
   (ae (bq (aS wz (pv 5) ng (a9 _)) (aj uh) aQ)
   (ae (aH (i:=6) lZ.nd rfl (aa_ rfl) (bw ba (pv 3) (pv 5) (fun _ _=>rfl)))
   (ae (mS (i:=3) lZ.nd rfl (aan rfl) (tn:=["line"]) (fr:=["lead","column"]) (caps:=[6,4]) rfl ⟨rfl,by decide+kernel,rfl,by decide+kernel,by decide+kernel,rfl,⟨(by first | exact aan rfl | exact aa_ rfl),⟨(by first | exact aan rfl | exact aa_ rfl),trivial⟩⟩,⟨(by first | exact aan rfl | exact aa_ rfl),⟨(by first | exact aan rfl | exact aa_ rfl),trivial⟩⟩⟩ (bD (aL EY (eQ mN (pv 3) ju (dS (pv 5))) (eQ mN (pv 3) (dS (aL b6 (pv 5) ah)) ju))) (fun _ _ _ _=>(aC (i:=0) (show (zax:List Str).Nodup from by decide+kernel) rfl (aan rfl))) (fun _ _ _ _=>df) (fun _ _ _ _=>(aD Tr hr.mo (uN (by first | assumption | exact bg.rZ) rfl) (ar (pv 0) (ar (pv 1) (ar (pv 2) aa))))))
   (ae (bE PassesOwn.never rfl (bD (b8 (eG rfl) rfl bO fS (ar (pv 2) aa))) (aC (i:=7) lZ.nd rfl (aan rfl)) (aj (fL (bX hr) (pv 2) (pv 7) (aD Tr hr.mo pX (ar (cA (bX hr) (pv 2) (pv 7) (fun _ _=>rfl)) (ar (pv 6) (ar (pv 4) aa)))) rfl)))
   (aj (fL (bX hr) (pv 2) (pv 4) (pv 6) rfl))))))))
  (aj (aG (aV (ar (pv 2) (ar (pv 3) aa)))))))),?_⟩
 refine fun d Lg=>?_
 have s0:au H (upd H d (.dK [])):=aK Lg _
 refine ⟨_,rfl,_,rfl,_,rfl,by omega,by omega,?_⟩
 refine bW (lo:=0) (n:=m) (fun i σ H' =>∃(al:Addr) (oF:ζ) (kvs:γ) (nd:θ) (lv:η) (o4 o5 o6 o7:ω),σ=[some (.ref a),some (.int (m:Int)),some (.ref d),some (.ref al),o4,o5,o6,o7]/\au H H' /\H' d=some (.dK kvs)/\a8 K H' al oF/\rj H' oF lv/\mB H' kvs nd/\nd.length<=i/\Red os L i (bb b (min m os.length)) nd lv/\(∃ps qs,DT os nd lv ps qs)/\(∀x∈nd,Pr os x.2)/\∀l∈lv,Pr os l)
  ⟨a,us,[],[],os,none,none,none,none,rfl,s0,ak,s0.seq hS,hL.same s0,⟨rfl,by simp⟩,aaf _,(Red.start hlen hB).up (sE _ _),⟨[],os,DT.start os⟩,(by simp),fun l hl=>.inl hl⟩ ?_ ?_
 ·rintro i σ H1 hi ⟨al,oF,kvs,nd,lv,o4,o5,o6,o7,rfl,s1,hd,Q8,CI,hN,hni,R,⟨ps,qs,O⟩,pN,pL⟩
  refine ⟨_,rfl,_,rfl,al,oF,lv,i,by rw [aa'];rfl,Q8,CI,fun l hl=>by rw [R.mz l hl];omega,fun j lead H2 s2 ej hj=>?_,fun hz H2 s2=>?_⟩
  ·have hjl:j < lv.length:=(ir.mp ej).1
   have hul:=CI.1
   have cnt:=R.cnt
   have YC:=hb
   have hd2:=s2 _ _ hd
   have S_:=s2.seq Q8
   have Nn:=CI.same s2
   have hN2:=hN.same s2
   obtain ⟨u,eu,hu⟩:=Nn.at' ej
   have fC:lead∈lv:=be ej
   refine ⟨_,rfl,rfl,_,rfl,?_⟩
   refine bx (fun z=>by simp at z) (fun _=>?_)
   refine ⟨_,rfl,_,rfl,al,_,_,_,rfl,rfl,S_,bV eu,?_⟩
   refine ⟨_,rfl,_,rfl,_,rfl,al,oF,rfl,S_,fun p1 n1=>?_⟩
   have t1:=aK n1 (.lst (fH oF none (some (j:Int))))
   refine ⟨_,rfl,_,rfl,_,_,rfl,rfl,_,rfl,al,oF,rfl,t1.seq S_,fun p2 n2=>?_⟩
   have t2:=aK n2 (.lst (fH oF (some ((j:Int)+1)) none))
   have Tt:fH oF none (some (j:Int))++fH oF (some ((j:Int)+1)) none=oF.eraseIdx j:=by
    rw [Lf (by omega),show ((j:Int)+1)=((j+1:Nat):Int) from by omega,rq (by omega),List.eraseIdx_eq_take_drop_succ]
   have aam:(fH oF none (some (j:Int))).length+(fH oF (some ((j:Int)+1)) none).length<=sizeLine:=by
    rw [<- aat,Tt]
    exact aai (aai (af_ ..) (show oF.length<=1000 by omega)) (by decide)
   refine ⟨p1,p2,_,_,rfl,rfl,t2 _ _ ak,ak,aam,fun p3 n3=>?_⟩
   have t3:=aK n3 (.lst (fH oF none (some (j:Int))++fH oF (some ((j:Int)+1)) none))
   refine ⟨p3,rfl,⟨_,a8.of ak⟩,fun D nD=>?_⟩
   have tt:=(t1.trans t2).trans t3
   have hE:=(Nn.same tt).erase j
   have YD:=hu.same tt
   have er:(oF.eraseIdx j).length<=1000:=aai (af_ ..) (show oF.length<=1000 by omega)
   refine nX (cap:=[some u,some (.int ((0:Int)+i))]) (K:=K) (a:=p3) (xs:=oF.eraseIdx j) (fun k v H=>∃x y p,(lv.eraseIdx j)[k]? =some x/\v=.ref p/\p≠D/\H p=some (.lst (y.map V.int))/\pK x lead y i/\Bd (2*bb b (min m os.length)+1) y/\(y=x\/Pm y)) nD (aaq er (by decide)) (fun H3 s3=>a8.of (s3 _ _ (by rw [ak,Tt]))) ?_ ?_ ?_
   ·rintro k v H3 H4 ys hD3 ks ⟨x,y,p,e1,e2,e3,e4,e5⟩
    exact ⟨x,y,p,e1,e2,e3,ks _ _ e3 e4,e5⟩
   ·rintro k x H3 RR ex s3 ⟨ys0,aao⟩ kk
    obtain ⟨l,el,hl⟩:=hE.at ex
    have z8:l∈lv:=ac_ (be el)
    have hll:=R.mz l z8
    have hld:=R.mz lead fC
    refine ⟨_,rfl,_,rfl,_,rfl,x,u,l,lead,i,bb b (min m os.length),bb b (min m os.length),by rw [aa'];rfl,hl.same s3,YD.same s3,by rw [hll,hld],by omega,by omega,hj,R.HG l z8,R.HG lead fC,YC,YC,fun v' l' H4 s4 L4 cl bd pz fr=>?_⟩
    obtain ⟨p,e1,e2⟩:=L4
    refine kk v' H4 s4 ⟨l,l',p,el,e1,?_,e2,cl,by rw [Nat.two_mul];exact bd,pz⟩
    rcases fr with z | ⟨p',z,n⟩
    ·obtain ⟨px',z1,z2⟩:=hl
     rw [z1,e1] at z
     cases z
     exact aq z2 nD
    ·rw [e1] at z
     cases z
     exact fun y=>by rw [y,aao] at n;cases n
   ·intro ys H3 hy fY s3 hD
    obtain ⟨xh,hl',hp⟩:=kF (P:=fun k v y=>∃x p,(lv.eraseIdx j)[k]? =some x/\v=.ref p/\p≠D/\H3 p=some (.lst (y.map V.int))/\pK x lead y i/\Bd (2*bb b (min m os.length)+1) y/\(y=x\/Pm y)) ys (fun k v e=>by
     obtain ⟨x,y,p,r⟩:=fY k v e
     exact ⟨y,x,p,r⟩)
    have hLn:rj H3 ys xh :=⟨hl'.symm,fun k v y e1 e2=>by
     obtain ⟨x,p,_,e,_,r,_⟩:=hp k v y e1 e2
     exact ⟨p,e,r⟩⟩
    have les:(oF.eraseIdx j).length=(lv.eraseIdx j).length:=hE.1
    have ML:Made os lead i (2*bb b (min m os.length)+1) (lv.eraseIdx j) xh :=⟨by omega,fun k x e=>by
     have hk:k < (lv.eraseIdx j).length:=(ir.mp e).1
     have e1:ys[k]? =some (ys[k]'(by omega)):=gE (by omega)
     have e2:xh[k]? =some (xh[k]'(by omega)):=gE (by omega)
     obtain ⟨x',p,r1,_,_,_,r2,r3,_⟩:=hp k _ _ e1 e2
     rw [e] at r1
     cases r1
     exact ⟨_,e2,r2,r3⟩⟩
    have PL:∀l∈xh,Pr os l:=fun l hl=>by
     obtain ⟨k,ek⟩:=aas hl
     have hk:k < xh.length:=(ir.mp ek).1
     have e1:ys[k]? =some (ys[k]'(by omega)):=gE (by omega)
     obtain ⟨x',p,r1,_,_,_,_,_,r4⟩:=hp k _ _ e1 ek
     rcases r4 with z | z
     ·rw [z]
      exact pL x' (ac_ (be r1))
     ·exact .inr z
    have ub:=tt.trans s3
    have hd3:=ub _ _ hd2
    have hN3:=hN2.same ub
    have hu4:=YD.same s3
    refine ⟨_,rfl,d,kvs,rfl,Rd.of hd3,fun l3 n3=>?_⟩
    have t4:=aK n3 (.lst (kvs.map fun kv=>kV kv.1))
    refine ⟨l3,rfl,⟨_,a8.of ak⟩,?_⟩
    have dl:d≠l3:=aq hd3 n3
    refine cv (K:=K) (a:=l3) (xs:=kvs.map fun kv=>kV kv.1) (fun t σ H' =>∃(o7:ω) (sG :γ) (iN :θ),σ=[some (.ref a),some (.int (m:Int)),some (.ref d),some (.ref D),some (.int ((0:Int)+i)),some (.int (j:Int)),some u,o7]/\au H H' /\H' d=some (.dK sG)/\H' l3=some (.lst (kvs.map fun kv=>kV kv.1))/\H' D=some (.lst ys)/\rj H' ys xh /\Ln H' u lead/\mB H' sG iN /\iN.map (·.1)=nd.map (·.1)/\
      ∀(k:Nat) (x:Nat×List Int),nd[k]? =some x->∃y,iN[k]? =some (x.1,y)/\(t<=k->y=x.2)/\(k < t->(pK x.2 lead y i/\Bd (2*bb b (min m os.length)+1) y)/\(y=x.2\/Pm y)))
     ⟨_,kvs,nd,rfl,((s1.trans s2).trans ub).trans t4,t4 _ _ hd3,ak,t4 _ _ hD,hLn.same t4,hu4.same t4,hN3.same t4,rfl,fun k x e=>⟨x.2,e,fun _=>rfl,fun z=>absurd z (abP _)⟩⟩ (fun t σ H' _ h=>by
      obtain ⟨_,_,_,_,_,_,h,_⟩:=h
      exact a8.of h) ?_ ?_
    ·rintro t u7 σ H4 hu7 ⟨o7,sG,iN,rfl,s4,JL,hl4,Np,hL4,YE,Nq,Pn,Q9⟩
     rw [Wp] at hu7
     obtain ⟨kv,rA,rfl⟩:=aar.mp hu7
     have htl:t < kvs.length:=(ir.mp rA).1
     have hnl:=hN.1
     have ex:nd[t]? =some (nd[t]'(by omega)):=gE (by omega)
     obtain ⟨x,hx⟩:∃x,nd[t]? =some x:=⟨_,ex⟩
     obtain ⟨kx,hxm⟩:kv.1=.inl (x.1:Int)/\x∈nd:=⟨(hN3.2 t kv x rA hx).1,be hx⟩
     obtain ⟨y,ey,y1,_⟩:=Q9 t x hx
     have y2:=y1 (aaf _)
     subst y2
     obtain ⟨v,ev,hv⟩:=Nq.at ey
     have nk:(sG.map (·.1)).Nodup:=by
      rw [Nq.keys]
      exact keys_nodup (by rw [Pn];exact R.asc)
     have vat:=gK nk ev
     have hxl:=R.sD x hxm
     have hld:=R.mz lead fC
     have dg:cL H4 d (kV kv.1) (some v):=by
      rw [kx, <- vat]
      exact cL.k JL
     refine ⟨_,rfl,_,rfl,d,v,rfl,dg,_,rfl,_,rfl,v,u,x.2,lead,i,bb b (min m os.length),bb b (min m os.length),by rw [aa'];rfl,hv,YE,by rw [hxl,hld],by omega,by omega,hj,R.JK x hxm,R.HG lead fC,YC,YC,fun v' l' H5 s5 L5 cl bd pz fr=>?_⟩
     have YF:=s5 _ _ JL
     have l4' :=Nq.1
     have l5' :iN.length=nd.length:=by simpa using congrArg abO Pn
     refine ⟨_,rfl,_,rfl,d,_,rfl,ku.k YF (aaq (show sG.length<=1000 by omega) (by decide)),?_⟩
     rw [kx,Le nk ev]
     have dn:d≠D:=fun z=>by rw [z,Np] at JL;cases JL
     refine ⟨_,sG.set t (.inl (x.1:Int),v'),iN.set t (x.1,l'),rfl,jG (s4.trans s5) Lg,ak,by rw [ao (aaW dl)];exact s5 _ _ hl4,by rw [ao (aaW dn)];exact s5 _ _ Np,(hL4.same s5).put YF,(YE.same s5).put YF,((Nq.same s5).set L5).put YF,?_,fun k x' ek=>?_⟩
     ·rw [List.map_set,Pn]
      refine abo fun k=>?_
      rw [abj]
      by_cases z:t=k
      ·subst z
       rw [if_pos rfl,if_pos (by simp;omega),Wp,hx]
       rfl
      ·rw [if_neg z]
     ·obtain ⟨y',DV,a1,a2⟩:=Q9 k x' ek
      by_cases z:t=k
      ·subst z
       rw [hx] at ek
       cases ek
       refine ⟨l',by rw [abj,if_pos rfl,if_pos (by omega)],fun w=>by omega,fun _=>⟨⟨cl,by rw [Nat.two_mul];exact bd⟩,pz⟩⟩
      ·exact ⟨y',by rw [abj,if_neg z];exact DV,fun w=>a1 (by omega),fun w=>a2 (by omega)⟩
    ·rintro σ H4 ⟨o7,sG,iN,rfl,s4,JL,hl4,Np,hL4,YE,Nq,Pn,Q9⟩
     have l4' :=Nq.1
     have l5' :iN.length=nd.length:=by simpa using congrArg abO Pn
     have hnl:=hN.1
     rw [aab] at Q9
     have MN:Made os lead i (2*bb b (min m os.length)+1) (nd.map (·.2)) (iN.map (·.2)):=⟨by simp [l5'],fun k x e=>by
      rw [Wp] at e
      obtain ⟨x0,e0,rfl⟩:=aar.mp e
      have hk:k < nd.length:=(ir.mp e0).1
      obtain ⟨y,ey,_,a2⟩:=Q9 k x0 e0
      exact ⟨y,by rw [Wp,ey];rfl,(a2 (by omega)).1⟩⟩
     have OA:bR sG (.inl ((0:Int)+i))=none:=jH (fun z=>by
      rw [Nq.keys] at z
      obtain ⟨x',v7,e⟩:=aad.mp z
      have e1:(x'.1:Int)=0+i:=ah7 e
      have:x'.1∈nd.map (·.1):=by rw [<- Pn];exact aad.mpr ⟨x',v7,rfl⟩
      obtain ⟨x,hx,e2⟩:=aad.mp this
      have:=R.cols x hx
      omega)
     refine ⟨_,rfl,_,rfl,_,rfl,d,_,rfl,ku.k (k:=.inl ((0:Int)+i)) JL (aaq (show sG.length<=1000 by omega) (by decide)),?_⟩
     rw [dD u OA]
     have dn:d≠D:=fun z=>by rw [z,Np] at JL;cases JL
     have aau:∀l∈lv.eraseIdx j,l∈lv:=fun l h=>ac_ h
     have aav:∀l∈lv,l=lead\/l∈lv.eraseIdx j:=fun l h=>by
      obtain ⟨k,ek⟩:=aas h
      rcases Nat.lt_trichotomy k j with z | z | z
      ·exact .inr (be (i:=k) (by rw [abL,if_pos z];exact ek))
      ·subst z
       rw [ej] at ek
       cases ek
       exact .inl rfl
      ·exact .inr (be (i:=k - 1) (by rw [abL,if_neg (by omega),show k - 1+1=k by omega];exact ek))
     have aaw:(lv.eraseIdx j).length+1=lv.length:=by rw [ab0,if_pos hjl];omega
     have R2:=R.step fC aau aav aaw hj ML Pn MN
     obtain ⟨ps',Tc,O2⟩:=O.step R.piv ej (fun x hx=>R.zero lead fC x.1 (R.cols x hx)) hj ML.len (fun k x e=>by
      obtain ⟨y,ey,k1,_⟩:=ML.to k x e
      exact ⟨y,ey,k1⟩) l5' fun k x e=>by
      obtain ⟨y,ey,k1,_⟩:=MN.to k x e
      exact ⟨y,ey,k1⟩
     have PN:∀x∈iN ++[(i,lead)],Pr os x.2:=fun x hx=>by
      rcases aaA.mp hx with z | z
      ·obtain ⟨k,ek⟩:=aas z
       have hk:k < iN.length:=(ir.mp ek).1
       obtain ⟨x0,e0⟩:∃x0,nd[k]? =some x0:=⟨_,gE (by omega)⟩
       obtain ⟨y,ey,_,a2⟩:=Q9 k x0 e0
       rw [ek] at ey
       cases ey
       rcases (a2 (by omega)).2 with u | u
       ·show Pr os y
        rw [u]
        exact pN x0 (be e0)
       ·exact .inr u
      ·rw [aax.mp z]
       exact pL lead fC
     have Tu:=R2.cnt
     have R3:=R2.small O2 hB (k:=min m os.length) (by rw [aat] at Tu ⊢;simp at Tu ⊢;omega) (by omega) PN PL
     refine ⟨D,ys,_,iN ++[(i,lead)],xh,_,_,_,_,rfl,jG s4 Lg,ak,a8.of (by rw [ao (aaW dn)];exact Np),hL4.put JL,(by rw [aa'];exact (Nq.snoc YE).put JL),by simp;omega,R3,⟨ps',Tc,O2⟩,PN,PL⟩
  ·refine ⟨_,rfl,rfl,_,rfl,?_⟩
   refine bx (fun _=>?_) (fun z=>by simp at z)
   exact ⟨al,oF,kvs,nd,lv,_,_,_,_,rfl,s1.trans s2,s2 _ _ hd,s2.seq Q8,CI.same s2,hN.same s2,by omega,R.skip hz,⟨ps,qs,O⟩,pN,pL⟩
 ·rintro σ H1 ⟨al,oF,kvs,nd,lv,o4,o5,o6,o7,rfl,s1,hd,Q8,CI,hN,hni,R,⟨ps,qs,O⟩,pN,pL⟩
  refine ⟨_,rfl,_,rfl,(by show 2<=sizeLine;decide),fun p np=>?_⟩
  have sp:=aK np (.tup [.ref d,.ref al])
  have cnt:=R.cnt
  exact q p d al kvs oF nd lv _ (s1.trans sp) Lg (s1.free np) ak (sp _ _ hd) (sp.seq Q8) (hN.same sp) (CI.same sp) R
theorem Lh {t b:Int}{T B:Nat}(hb:b≠0)(h1:t.natAbs<=2^T)(h2:b.natAbs<=2^B):Sm T B (low t b):=⟨jx hb,mQ hb,aai (nK hb) h1,aai (nM hb) h2⟩
theorem HH {l:ξ}{j:Nat}(h:l.length<=j):l.getD j 0=0:=by
 rw [aaz,aaj h]
 rfl
theorem xn {n j:Nat}(h:j < n):ET n (j:Int)=some j:=by
 unfold ET
 simp
 omega
theorem bU.putL {K:Frag}{H:Hp}{a d:Addr}{xs ys:ζ}{o:HO}(h:bU K H a xs)(e:H d=some (.lst ys)):bU K (upd H d o) a xs:=by
 rcases h with (h | ⟨o',h⟩) | h
 ·exact .inl (.inl (by rw [ao (fun z=>by rw [z,e] at h;cases h)];exact h))
 ·exact .inl (.inr ⟨o',by rw [ao (fun z=>by rw [z,e] at h;cases h)];exact h⟩)
 ·exact .inr h
def oG (H:Hp)(r:Addr)(ls:τ)(cp:Δ):Prop:=H r=some (.lst (ls.map V.ref))/\ls.length=cp.length/\∀(i:Nat) (l:Addr) (vs:ζ),ls[i]? =some l->cp[i]? =some vs->H l=some (.lst vs)
theorem oG.same {H H' :Hp}{r:Addr}{ls:τ}{cp:Δ}(h:oG H r ls cp)(s:au H H'):oG H' r ls cp:=⟨s _ _ h.1,h.2.1,fun i l vs e1 e2=>s _ _ (h.2.2 i l vs e1 e2)⟩
def Shape (T B m:Nat)(eU:Α):Prop:=∀qs∈eU,qs.length=m/\∀q∈qs,Sm T B q
def fD (K:Frag)(H:Hp)(cp:Δ)(eU:Α):Prop:=cp.length=eU.length/\∀(i:Nat) (vs:ζ) (qs:ς),cp[i]? =some vs->eU[i]? =some qs->du K H vs qs
theorem fD.same {H H' :Hp}{cp:Δ}{eU:Α}(h:fD K H cp eU)(s:au H H'):fD K H' cp eU:=⟨h.1,fun i vs qs e1 e2=>(h.2 i vs qs e1 e2).same s⟩
theorem HI {α:Type}{xs:List α}{x y:α}{j:Nat}(e:(xs++[x])[j]? =some y):(j < xs.length/\xs[j]? =some y)\/(j=xs.length/\x=y):=by
 by_cases c:j < xs.length
 ·rw [aaD c] at e
  exact .inl ⟨c,e⟩
 ·rw [aaY (by omega)] at e
  by_cases z:j - xs.length=0
  ·rw [z] at e
   exact .inr ⟨by omega,aay e⟩
  ·rw [aaj (by simp;omega)] at e
   cases e
theorem oG.snoc {H:Hp}{r D:Addr}{ls:τ}{cp:Δ}{us:ζ}(h:oG H r ls cp)(nr:r∉ls)(hD:H D=some (.lst us))(nD:D≠r):oG (upd H r (.lst (ls.map V.ref++[.ref D]))) r (ls++[D]) (cp++[us]):=by
 obtain ⟨m1,m2,m3⟩:=h
 refine ⟨by rw [ak,aaH];rfl,by simp [m2],fun j l vs e1 e2=>?_⟩
 rcases HI e1 with ⟨c1,d1⟩ | ⟨c1,d1⟩ <;> rcases HI e2 with ⟨c2,d2⟩ | ⟨c2,d2⟩
 ·have ne:l≠r:=fun z=>nr (by rw [<- z];exact be d1)
  rw [ao ne]
  exact m3 j l vs d1 d2
 ·omega
 ·omega
 ·subst d1 d2
  rw [ao nD]
  exact hD
def xo (cp:Δ)(j:Nat):List V:=cp.map fun vs=>vs.getD j .cB
def jJ (cp:Δ)(m:Nat):List (List V):=(abl m).map fun j=>xo cp j
inductive oH (vs:ζ)(H:Hp)(Q:VK)(E_:XK):Prop where
 | mk (r:Addr) (ls:τ) (cp:List (List V:_)) (m:Int) (_:vs=[.ref r,.int m]) (_:oG H r ls cp) (_:0<=m) (_:m<=1000) (_:ls.length<=1000) (_:(∀vs∈cp,m<=(vs.length:Int))) (_:∀c cs H',au H H' ->oG H' c cs (jJ cp m.toNat)->Q (.ref c) H'):oH vs H Q E_
theorem HJ:aF ["rows","many","columns","column"] zay (ag AW):=sq
theorem Tv (D:Def K mg "turned" AW zay)(bB:mg "range"=none):Fn P w K mg base (bg P w) 1 "turned" zay oH:=by
 refine D.ok HJ (fun vs H Q E h=>?_) (fun f bM A outer s H vs Q E hr h=>?_)
 ·obtain ⟨r,ls,cp,m,rfl,_⟩:=h
  rfl
 obtain ⟨r,ls,cp,m,rfl,M,m0,m1,hn,hv,q⟩:=h
 refine ⟨_,(ae (aH (i:=2) HJ.nd rfl (aan rfl) (c_ aa))
  (ae (bE PassesOwn.never rfl (bS rfl bB (ar (pv 1) aa)) (aC (i:=3) HJ.nd rfl (aa_ rfl)) (aj (bf (gd PySem.F.plainAttrs_list PySem.F.slot_list_append PySem.F.type_list_append cG (pv 2) (ar (cX (tn:=["row"]) (fr:=["column"]) (caps:=[3]) rfl ⟨rfl,by decide+kernel,rfl,by decide+kernel,by decide+kernel,rfl,⟨(by first | exact aan rfl | exact aa_ rfl),trivial⟩,⟨(by first | exact aan rfl | exact aa_ rfl),trivial⟩⟩ (bD (pv 0)) (fun _ _ _ _=>(aC (i:=0) (show (["row","column"]:List Str).Nodup from by decide+kernel) rfl (aan rfl))) (fun _ _ _ _=>df) (fun _ _ _ _=>(bw (FR (K:=K) rfl) (pv 0) (pv 1) (fun _ _=>rfl)))) aa)))))
  (aj (aG (pv 2))))),?_⟩
 have l1:=M.2.1
 refine ⟨(by show 0<=sizeLine;decide),fun c nc=>?_⟩
 refine ⟨_,rfl,_,rfl,by omega,by omega,?_⟩
 refine bW (lo:=0) (n:=m.toNat) (fun i σ H' =>∃(o:ω) (cs:τ),σ=[some (.ref r),some (.int m),some (.ref c),o]/\au H H' /\oG H' c cs (jJ cp i)/\c∉cs) ⟨none,[],rfl,aK nc _,⟨ak,rfl,fun i l vs e=>by simp at e⟩,by simp⟩ ?_ ?_
 ·rintro i σ H' hi ⟨o,cs,rfl,s1,C,ncs⟩
  have M' :=M.same s1
  refine ⟨_,rfl,.inl ⟨rfl,_,a8.of C.1⟩,?_⟩
  refine ⟨_,rfl,r,rfl,⟨_,a8.of M'.1⟩,fun D nD=>?_⟩
  refine cH (cap:=[some (.int ((0:Int)+i))]) (K:=K) (a:=r) (xs:=ls.map V.ref) (fun k v _=>∃vs,cp[k]? =some vs/\v=vs.getD i .cB) nD (by rw [aab];exact aaq hn (by decide)) (fun H2 s2=>a8.of (s2 _ _ M'.1)) (fun _ _ _ _ _ _ _ h=>h) ?_ ?_
  ·intro k u H2 R hu s2 kk
   rw [Wp] at hu
   obtain ⟨l,el,rfl⟩:=aar.mp hu
   have hk:k < ls.length:=(ir.mp el).1
   have ev:cp[k]? =some (cp[k]'(by omega)):=gE (by omega)
   have hl:=M'.2.2 k l _ el ev
   have SV :i < (cp[k]'(by omega)).length:=by
    have:=hv _ (be ev)
    omega
   have ea:gY (cp[k]'(by omega)) ((0:Int)+(i:Int))=some ((cp[k]'(by omega)).getD i .cB):=by
    rw [aa']
    exact bV (by rw [gE SV,aaz,gE SV];rfl)
   exact ⟨_,rfl,_,rfl,l,_,_,_,rfl,rfl,a8.of (s2 _ _ hl),ea,kk _ _ (au.refl _) ⟨_,ev,rfl⟩⟩
  ·intro ys H2 hy fY s2 hD
   rw [aab] at hy
   have ey:ys=xo cp i:=by
    refine abo fun k=>?_
    unfold xo
    by_cases hk:k < ys.length
    ·have e1:ys[k]? =some ys[k]:=gE hk
     obtain ⟨vs,ev,e2⟩:=fY k _ e1
     rw [e1,e2,Wp,ev]
     rfl
    ·rw [aaj (by omega),aaj (by simp;omega)]
   subst ey
   have lc:cs.length=i:=by have:=C.2.1;simpa [jJ] using this
   have nDc:D≠c:=fun z=>by rw [z,C.1] at nD;cases nD
   have fc:∀b o,H b=some o->b≠c:=fun b o e=>aq e nc
   refine ⟨c,_,_,rfl,rfl,s2 _ _ C.1,by rw [aab,lc];exact aaq (show i<=1000 by omega) (by decide),?_⟩
   refine ⟨_,cs++[D],rfl,fun b o e=>?_,?_,fun z=>?_⟩
   ·rw [ao (fc b o e)]
    exact s2 _ _ (s1 _ _ e)
   ·have e:jJ cp (i+1)=jJ cp i++[xo cp i]:=by simp [jJ,ahg]
    rw [e]
    exact (C.same s2).snoc ncs hD nDc
   ·rcases aaA.mp z with y | y
    ·exact ncs y
    ·exact nDc (aax.mp y).symm
 ·rintro σ H' ⟨o,cs,rfl,s1,C,ncs⟩
  exact ⟨_,rfl,q c cs H' s1 C⟩
def iO (eU:Α)(j:Nat):List (Int×Int):=eU.map fun qs=>qs.getD j (0,1)
theorem Po {eU:Α}{T B m j:Nat}(sh:Shape T B m eU)(hj:j < m):∀q∈iO eU j,Sm T B q:=fun q hq=>by
 unfold iO at hq
 obtain ⟨qs,hqs,rfl⟩:=aad.mp hq
 obtain ⟨hl,hs⟩:=sh qs hqs
 rw [aaz,gE (by omega)]
 exact hs _ (abn _)
theorem Bd.of {b:Nat}{l:ξ}(h:∀t∈l,t.natAbs<=2^b):Bd b l:=fun j=>by
 by_cases hj:j < l.length
 ·have e:l[j]? =some l[j]:=gE hj
  rw [getD_mem e]
  exact h _ (abn hj)
 ·rw [HH (by omega)]
  exact aa6 _
abbrev Wl:=List Int×Int×Addr×Addr
inductive xp (K:Frag)(f:Int×Int->Int×Int->Int×Int)(vs:ζ)(H:Hp)(Q:VK)(E_:XK):Prop where
 | mk (u v:V) (x y:Int×Int) (_:vs=[u,v]) (_:mw K H u x) (_:mw K H v y) (_:Td 100000 x) (_:Td 100000 y) (_:gives H Q (f x y)):xp K f vs H Q E_
theorem Tw:aF zag zag (ag xj):=sq
theorem Tx (hM:uI CX)(D:Def K mg "difference_of" xj zag)(Pp:Fn P w K mg base CX 33 "lowest_terms" zaH iE):Fn P w K mg base CX 34 "difference_of" zag (xp K subQ):=by
 refine D.ok Tw (fun vs H Q E h=>?_) (fun f bM A outer s H vs Q E hr h=>?_)
 ·obtain ⟨u,v,x,y,rfl,_⟩:=h
  rfl
 obtain ⟨u,v,x,y,rfl,⟨p1,rfl,h1⟩,⟨p2,rfl,h2⟩,k1,k2,q⟩:=h
 have px:=uJ (X:=mi CX P w K mg base zag "difference_of" (ag xj) f bM A outer s H E) hM
 refine ⟨_,(aj (aG (aD Pp hr.mo px (ar (aL dr (aL cF (aJ (pv 0)) (aJ (pv 1))) (aL cF (aJ (pv 1)) (aJ (pv 0)))) (ar (aL cF (aJ (pv 0)) (aJ (pv 1))) aa))))),?_⟩
 have b1:=k1.top
 have b2:=k1.bot
 have b3:=k2.top
 have b4:=k2.bot
 have c:∀{i j:Int},intBits i<=100000->intBits j<=100000->nO i j:=fun a b=>⟨aai a (by decide),aai b (by decide)⟩
 refine ⟨_,rfl,p1,_,_,_,rfl,rfl,h1,g9,_,rfl,p2,_,_,_,rfl,rfl,h2,ip,_,_,rfl,rfl,c b1 b4,?_⟩
 refine ⟨_,rfl,p2,_,_,_,rfl,rfl,h2,g9,_,rfl,p1,_,_,_,rfl,rfl,h1,ip,_,_,rfl,rfl,c b3 b2,?_⟩
 refine ⟨_,_,rfl,rfl,?_⟩
 refine ⟨_,rfl,p1,_,_,_,rfl,rfl,h1,ip,_,rfl,p2,_,_,_,rfl,rfl,h2,ip,_,_,rfl,rfl,c b2 b4,?_⟩
 exact ⟨_,_,rfl,K_ k1 k2,q⟩
inductive xq (K:Frag)(f:Rat->Rat->Rat)(vs:ζ)(H:Hp)(Q:VK)(E_:XK):Prop where
 | mk (u v:V) (x y:Rat) (_:vs=[u,v]) (_:fW K H u x) (_:fW K H v y) (_:Sz 100000 x) (_:Sz 100000 y) (_:gives H Q (qr (f x y))):xq K f vs H Q E_
theorem HK {k:Nat}{r:Rat}(h:Sz k r):Td k (qr r):=⟨dw r,h.top,h.bot⟩
theorem Pq {k:Nat}{x:Str}{ps:ρ}(F:Fn P w K mg base CX k x ps (xp K subQ)):Fn P w K mg base CX k x ps (xq K fun a b=>a - b):=by
 obtain ⟨f,fd,G,r⟩:=F.ex
 refine ⟨f,fd,G.imp fun vs H Q E h=>?_,r⟩
 obtain ⟨u,v,a,b,e,h1,h2,k1,k2,q⟩:=h
 refine ⟨u,v,qr a,qr b,e,h1,h2,HK k1,HK k2,?_⟩
 unfold subQ
 rw [GU]
 exact q
def HL (K:Frag)(H:Hp)(Q:VK)(p:Rat×Rat):Prop:=∀(v:V) (H' :Hp),au H H' ->fe K H' v p->Q v H'
inductive xr (K:Frag)(f:Rat->Rat->Rat)(vs:ζ)(H:Hp)(Q:VK)(E_:XK):Prop where
 | mk (u v:V) (x y:Rat×Rat) (_:vs=[u,v]) (_:fe K H u x) (_:fe K H v y) (_:Sz 100000 x.1) (_:Sz 100000 x.2) (_:Sz 100000 y.1) (_:Sz 100000 y.2) (_:HL K H Q (f x.1 y.1,f x.2 y.2)):xr K f vs H Q E_
theorem Tz:aF zag zag (ag xk):=sq
theorem TB (hM:uI CX)(D:Def K mg "pair_difference" xk zag)(TC:Fn P w K mg base CX 34 "difference_of" zag (xq K fun a b=>a - b)):Fn P w K mg base CX 35 "pair_difference" zag (xr K fun a b=>a - b):=by
 refine D.ok Tz (fun vs H Q E h=>?_) (fun f bM A outer s H vs Q E hr h=>?_)
 ·obtain ⟨u,v,x,y,rfl,_⟩:=h
  rfl
 obtain ⟨u,v,x,y,rfl,⟨p1,a1,a2,rfl,h1,n1,n2⟩,⟨p2,b1,b2,rfl,h2,m1,m2⟩,k1,k2,l1,l2,q⟩:=h
 have px:=uJ (X:=(mi (bg P w) P w K mg base zag "pair_difference" (ag xk) f bM A outer s H E)) hM
 refine ⟨_,(aj (aG (aV (ar (aD TC hr.mo px (ar (aJ (pv 0)) (ar (aJ (pv 1)) aa))) (ar (aD TC hr.mo px (ar (aJ (pv 0)) (ar (aJ (pv 1)) aa))) aa))))),?_⟩
 refine ⟨_,rfl,p1,_,_,_,rfl,rfl,h1,g9,_,rfl,p2,_,_,_,rfl,rfl,h2,g9,a1,b1,_,_,rfl,n1,m1,k1,l1,fun c1 H1 s1 e1=>?_⟩
 refine ⟨_,rfl,p1,_,_,_,rfl,rfl,Ty.au.bN s1 h1,ip,_,rfl,p2,_,_,_,rfl,rfl,Ty.au.bN s1 h2,ip,a2,b2,_,_,rfl,n2.same s1,m2.same s1,k2,l2,fun c2 H2 s2 e2=>?_⟩
 refine ⟨(by show 2<=sizeLine;decide),fun c3 n3=>?_⟩
 have s3:=aK n3 (.tup [.ref c1,.ref c2])
 exact q (.ref c3) _ (fun b o z=>s3 _ _ (s2 _ _ (s1 _ _ z))) ⟨c3,_,_,rfl,bU.of ak,⟨c1,rfl,bU.of (s3 _ _ (s2 _ _ e1))⟩,⟨c2,rfl,bU.of (s3 _ _ e2)⟩⟩
inductive sH (K:Frag)(C:Addr)(vs:ζ)(H:Hp)(Q:VK)(E_:XK):Prop where
 | mk (a dx:Addr) (_:vs=[.ref a]) (_:H a=some (.ins C dx [])) (_:∀(pP pW pB:Addr) (H' :Hp),aX a H H' ->H pP=none->H pW=none->H pB=none->dZ K H' C a dx pP pW pB [] [] [] [] []->Q .cB H'):sH K C vs H Q E_
theorem Li {x:V}:dP "pin_places" x []=([("pin_places",x)]:List (Str×V)):=rfl
theorem Lj {x y:V}:dP "pin_ways" y [("pin_places",x)]=([("pin_places",x),("pin_ways",y)]:List (Str×V)):=by
 simp only [dP]
 rw [if_neg (by decide)]
theorem Lk {x y z:V}:dP "bar_ends" z [("pin_places",x),("pin_ways",y)]=([("pin_places",x),("pin_ways",y),("bar_ends",z)]:List (Str×V)):=by
 simp only [dP]
 rw [if_neg (by decide),if_neg (by decide)]
theorem TF:aF zaj zaj (ag BU):=sq
theorem TH {f:Addr}{fd:FuncData}{C:Addr}(F:mO K "__init__" "Frame.__init__" BU f fd)(fc:AD K C):cI P w K mg base (bg P w) 1 f fd zaj (sH K C):=by
 refine cZ F TF (fun vs H Q E h=>?_) (fun bM A outer s H vs Q E hr h=>?_)
 ·obtain ⟨a,dx,rfl,_⟩:=h
  rfl
 obtain ⟨a,dx,rfl,ha,q⟩:=h
 refine ⟨_,(ae (rO (pv 0) eR rfl)
  (ae (rO (pv 0) eR rfl)
  (aj (rO (pv 0) eR rfl)))),?_⟩
 intro pP nP
 have aP:a≠pP:=aq ha nP
 refine ⟨_,rfl,a,C,dx,_,rfl,(by rw [ao aP];exact ha),fc.cls,fc.pl,(by show 0 < 1000;decide),?_⟩
 rw [Li]
 generalize e1:upd (upd H pP (.dK [])) a (.ins C dx [("pin_places",.ref pP)])=H1
 have o1:H1 a=some (.ins C dx [("pin_places",.ref pP)]):=by rw [<- e1,ak]
 have p1:H1 pP=some (.dK []):=by rw [<- e1,ao (aaW aP),ak]
 have k1:∀b o,b≠a->H b=some o->H1 b=some o:=fun b o n e=>by rw [<- e1,ao n,ao (aq e nP)];exact e
 intro pW nW
 have aW:a≠pW:=aq o1 nW
 refine ⟨_,rfl,a,C,dx,_,rfl,(by rw [ao aW];exact o1),fc.cls,fc.wy,(by show 1 < 1000;decide),?_⟩
 rw [Lj]
 generalize e2:upd (upd H1 pW (.dK [])) a (.ins C dx [("pin_places",.ref pP),("pin_ways",.ref pW)])=H2
 have PW:pP≠pW:=aq p1 nW
 have o2:H2 a=some (.ins C dx [("pin_places",.ref pP),("pin_ways",.ref pW)]):=by rw [<- e2,ak]
 have w2:H2 pW=some (.dK []):=by rw [<- e2,ao (aaW aW),ak]
 have k2:∀b o,b≠a->H1 b=some o->H2 b=some o:=fun b o n e=>by rw [<- e2,ao n,ao (aq e nW)];exact e
 intro pB nB
 have aB:a≠pB:=aq o2 nB
 have p2:=k2 _ _ (aaW aP) p1
 refine ⟨_,rfl,a,C,dx,_,rfl,(by rw [ao aB];exact o2),fc.cls,fc.br,(by show 2 < 1000;decide),?_⟩
 rw [Lk]
 have PB:pP≠pB:=aq p2 nB
 have WB:pW≠pB:=aq w2 nB
 have k3:∀b o,b≠a->H2 b=some o->(upd (upd H2 pB (.dK [])) a (.ins C dx [("pin_places",.ref pP),("pin_ways",.ref pW),("bar_ends",.ref pB)])) b=some o:=fun b o n e=>by rw [ao n,ao (aq e nB)];exact e
 have f1:∀b,b≠a->H1 b=none->H b=none:=fun b n e=>by
  cases z:H b with
  | none=>rfl
  | some o=>rw [k1 b o n z] at e;cases e
 have f2:∀b,b≠a->H2 b=none->H b=none:=fun b n e=>by
  cases z:H b with
  | none=>rfl
  | some o=>rw [k2 b o n (k1 b o n z)] at e;cases e
 refine q pP pW pB _ (fun b o n e=>k3 b o n (k2 b o n (k1 b o n e))) nP (f1 _ (aaW aW) nW) (f2 _ (aaW aB) nB) ⟨ak,k3 _ _ (aaW aP) p2,k3 _ _ (aaW aW) w2,?_,PW,PB,WB,.nil,.nil⟩
 rw [ao (aaW aB),ak]
inductive kH (K:Frag)(C:Addr)(vs:ζ)(H:Hp)(Q:VK)(E_:XK):Prop where
 | mk (a dx pP pW pB:Addr) (ps:Ε) (bs:υ) (kP kW kB:γ) (_:vs=[.ref a]) (_:dZ K H C a dx pP pW pB ps bs kP kW kB) (_:∀(l:Addr) (H' :Hp),au H H' ->H l=none->H' l=some (.lst ((bs.map (·.1)).map V.str))->Q (.ref l) H'):kH K C vs H Q E_
theorem TJ:aF zaj zaj (ag B_):=sq
theorem TK {f:Addr}{fd:FuncData}{C:Addr}(F:mO K "bars" "Frame.bars" B_ f fd)(fc:AD K C)(bO:mg "list"=none):cI P w K mg base (bg P w) 1 f fd zaj (kH K C):=by
 refine cZ F TJ (fun vs H Q E h=>?_) (fun bM A outer s H vs Q E hr h=>?_)
 ·obtain ⟨a,dx,pP,pW,pB,ps,bs,kP,kW,kB,rfl,_⟩:=h
  rfl
 obtain ⟨a,dx,pP,pW,pB,ps,bs,kP,kW,kB,rfl,R,q⟩:=h
 refine ⟨_,(aj (aG (b8 (eG rfl) rfl bO fS (ar (cC (pv 0) rfl) aa)))),?_⟩
 refine ⟨_,rfl,a,C,dx,_,_,rfl,R.obj,fc.cls,fc.br,rfl,pB,kB,rfl,.inl R.br,fun l nl=>?_⟩
 refine q l _ (aK nl _) nl ?_
 rw [ak]
 have e:kB.map (fun kv=>kV kv.1)=(bs.map (·.1)).map V.str:=by
  have z:kB.map (fun kv=>kV kv.1)=(kB.map (·.1)).map kV:=by rw [aaE];rfl
  rw [z,R.lW,aaE]
  rfl
 rw [e]
inductive i_ (K:Frag)(C:Addr)(vs:ζ)(H:Hp)(Q:VK)(E_:XK):Prop where
 | mk (a dx pP pW pB:Addr) (ps:Ε) (bs:υ) (kP kW kB:γ) (_:vs=[.ref a]) (_:dZ K H C a dx pP pW pB ps bs kP kW kB) (_:∀(l:Addr) (H' :Hp),au H H' ->H l=none->H' l=some (.lst ((ps.map (·.1)).map V.str))->Q (.ref l) H'):i_ K C vs H Q E_
theorem TL:aF zaj zaj (ag BZ):=sq
theorem TM {f:Addr}{fd:FuncData}{C:Addr}(F:mO K "pins" "Frame.pins" BZ f fd)(fc:AD K C)(bO:mg "list"=none):cI P w K mg base (bg P w) 1 f fd zaj (i_ K C):=by
 refine cZ F TL (fun vs H Q E h=>?_) (fun bM A outer s H vs Q E hr h=>?_)
 ·obtain ⟨a,dx,pP,pW,pB,ps,bs,kP,kW,kB,rfl,_⟩:=h
  rfl
 obtain ⟨a,dx,pP,pW,pB,ps,bs,kP,kW,kB,rfl,R,q⟩:=h
 refine ⟨_,(aj (aG (b8 (eG rfl) rfl bO fS (ar (cC (pv 0) rfl) aa)))),?_⟩
 refine ⟨_,rfl,a,C,dx,_,_,rfl,R.obj,fc.cls,fc.pl,rfl,pP,kP,rfl,.inl R.pl,fun l nl=>?_⟩
 refine q l _ (aK nl _) nl ?_
 rw [ak]
 have e:kP.map (fun kv=>kV kv.1)=(ps.map (·.1)).map V.str:=by
  have z:kP.map (fun kv=>kV kv.1)=(kP.map (·.1)).map kV:=by rw [aaE];rfl
  rw [z,R.u4,aaE]
  rfl
 rw [e]
inductive dI (K:Frag)(C:Addr)(vs:ζ)(H:Hp)(Q:VK)(E_:XK):Prop where
 | mk (a dx pP pW pB:Addr) (ps:Ε) (bs:υ) (kP kW kB:γ) (x:Str) (_:vs=[.ref a,.str x]) (_:dZ K H C a dx pP pW pB ps bs kP kW kB) (_:x∈ps.map (·.1)) (_:Q .cB H):dI K C vs H Q E_
theorem TN:aF zam zam (ag BX):=sq
theorem TQ {f:Addr}{fd:FuncData}{C:Addr}(F:mO K "check_pin" "Frame.check_pin" BX f fd)(fc:AD K C):cI P w K mg base (bg P w) 1 f fd zam (dI K C):=by
 refine cZ F TN (fun vs H Q E h=>?_) (fun bM A outer s H vs Q E hr h=>?_)
 ·obtain ⟨a,dx,pP,pW,pB,ps,bs,kP,kW,kB,x,rfl,_⟩:=h
  rfl
 obtain ⟨a,dx,pP,pW,pB,ps,bs,kP,kW,kB,x,rfl,R,hx,q⟩:=h
 refine ⟨_,(aj (bq (i5 (iB (bX hr) (pv 1) (cC (pv 0) rfl))) (aj (c8)) aQ)),?_⟩
 refine ⟨_,rfl,_,rfl,a,C,dx,_,_,rfl,R.obj,fc.cls,fc.pl,rfl,pP,_,rfl,cL.k (k:=.inr x) R.pl,_,rfl,?_⟩
 rw [R.pin x,decide_eq_true hx]
 exact q
inductive mY (K:Frag)(C:Addr)(vs:ζ)(H:Hp)(Q:VK)(E_:XK):Prop where
 | mk (a dx pP pW pB:Addr) (ps:Ε) (bs:υ) (kP kW kB:γ) (x:Str) (p:Pt) (_:vs=[.ref a,.str x]) (_:dZ K H C a dx pP pW pB ps bs kP kW kB) (_:(ps.map (·.1)).Nodup) (_:(x,p)∈ps) (_:∀v,Spot K H v p->Q v H):mY K C vs H Q E_
theorem TR:aF zam zam (ag CA):=sq
theorem TU {f:Addr}{fd:FuncData}{C:Addr}(F:mO K "place" "Frame.place" CA f fd)(fc:AD K C)(MC:bI P w K mg base (bg P w) 1 C "check_pin" zam (dI K C)):cI P w K mg base (bg P w) 2 f fd zam (mY K C):=by
 refine cZ F TR (fun vs H Q E h=>?_) (fun bM A outer s H vs Q E hr h=>?_)
 ·obtain ⟨a,dx,pP,pW,pB,ps,bs,kP,kW,kB,x,p,rfl,_⟩:=h
  rfl
 obtain ⟨a,dx,pP,pW,pB,ps,bs,kP,kW,kB,x,p,rfl,R,nd,hx,q⟩:=h
 refine ⟨_,(ae (bf (cK (k:=1) (pv 0) hr.mo (pY P w) (ar (pv 1) aa)))
  (aj (aG (cA (bX hr) (cC (pv 0) rfl) (pv 1) (fun _ _=>rfl))))),?_⟩
 refine ⟨_,rfl,a,C,dx,_,_,_,rfl,R.obj,rfl,MC,_,rfl,a,dx,pP,pW,pB,ps,bs,kP,kW,kB,x,rfl,R,aad.mpr ⟨_,hx,rfl⟩,?_⟩
 obtain ⟨v,ev,hv⟩:=R.place nd hx
 exact ⟨_,rfl,a,C,dx,_,_,rfl,R.obj,fc.cls,fc.pl,rfl,_,rfl,pP,v,rfl,(by rw [<- ev];exact cL.k (k:=.inr x) R.pl),q v hv⟩
inductive sI (K:Frag)(C:Addr)(vs:ζ)(H:Hp)(Q:VK)(E_:XK):Prop where
 | mk (a dx pP pW pB:Addr) (ps:Ε) (bs:υ) (kP kW kB:γ) (x one other:Str) (_:vs=[.ref a,.str x]) (_:dZ K H C a dx pP pW pB ps bs kP kW kB) (_:(bs.map (·.1)).Nodup) (_:(x,one,other)∈bs) (_:∀p,Rd H p (.tup [.str one,.str other])->Q (.ref p) H):sI K C vs H Q E_
theorem TV:aF zaR zaR (ag CC):=sq
theorem TX {f:Addr}{fd:FuncData}{C:Addr}(F:mO K "ends" "Frame.ends" CC f fd)(fc:AD K C):cI P w K mg base (bg P w) 1 f fd zaR (sI K C):=by
 refine cZ F TV (fun vs H Q E h=>?_) (fun bM A outer s H vs Q E hr h=>?_)
 ·obtain ⟨a,dx,pP,pW,pB,ps,bs,kP,kW,kB,x,one,other,rfl,_⟩:=h
  rfl
 obtain ⟨a,dx,pP,pW,pB,ps,bs,kP,kW,kB,x,one,other,rfl,R,nd,hx,q⟩:=h
 refine ⟨_,(ae (bq (i5 (iB (bX hr) (pv 1) (cC (pv 0) rfl))) (aj (c8)) aQ)
  (aj (aG (cA (bX hr) (cC (pv 0) rfl) (pv 1) (fun _ _=>rfl))))),?_⟩
 have hm:x∈bs.map (·.1):=aad.mpr ⟨_,hx,rfl⟩
 refine ⟨_,rfl,_,rfl,a,C,dx,_,_,rfl,R.obj,fc.cls,fc.br,rfl,pB,_,rfl,cL.k (k:=.inr x) R.br,_,rfl,?_⟩
 rw [R.bar x,decide_eq_true hm]
 obtain ⟨p,ev,hv⟩:=R.ends nd hx
 exact ⟨_,rfl,a,C,dx,_,_,rfl,R.obj,fc.cls,fc.br,rfl,_,rfl,pB,.ref p,rfl,(by rw [<- ev];exact cL.k (k:=.inr x) R.br),q p hv⟩
inductive oI (K:Frag)(C:Addr)(vs:ζ)(H:Hp)(Q:VK)(E_:XK):Prop where
 | mk (a dx pP pW pB:Addr) (ps:Ε) (bs:υ) (kP kW kB:γ) (pw:Ζ) (x:Str) (ws:Ι) (_:vs=[.ref a,.str x]) (_:dZ K H C a dx pP pW pB ps bs kP kW kB) (_:pM K H pw kW) (_:(pw.map (·.1)).Nodup) (_:(x,ws)∈pw) (_:x∈ps.map (·.1)) (_:∀(l:Addr) (us:ζ) (H' :Hp),au H H' ->H l=none->H' l=some (.lst us)->g8 K H' us ws->Q (.ref l) H'):oI K C vs H Q E_
theorem TY:aF zam zam (ag CB):=sq
theorem TZ {f:Addr}{fd:FuncData}{C:Addr}(F:mO K "ways" "Frame.ways" CB f fd)(fc:AD K C)(bO:mg "list"=none)(MC:bI P w K mg base (bg P w) 1 C "check_pin" zam (dI K C)):cI P w K mg base (bg P w) 2 f fd zam (oI K C):=by
 refine cZ F TY (fun vs H Q E h=>?_) (fun bM A outer s H vs Q E hr h=>?_)
 ·obtain ⟨a,dx,pP,pW,pB,ps,bs,kP,kW,kB,pw,x,ws,rfl,_⟩:=h
  rfl
 obtain ⟨a,dx,pP,pW,pB,ps,bs,kP,kW,kB,pw,x,ws,rfl,R,W,nd,hx,hp,q⟩:=h
 refine ⟨_,(ae (bf (cK (k:=1) (pv 0) hr.mo (pY P w) (ar (pv 1) aa)))
  (aj (aG (b8 i8 rfl bO fS (ar (cA (bX hr) (cC (pv 0) rfl) (pv 1) (fun _ _=>rfl)) aa))))),?_⟩
 refine ⟨_,rfl,a,C,dx,_,_,_,rfl,R.obj,rfl,MC,_,rfl,a,dx,pP,pW,pB,ps,bs,kP,kW,kB,x,rfl,R,hp,?_⟩
 obtain ⟨v,ev,l,us,el,hl,pt⟩:=gJ W nd hx
 have el' :v=.ref l:=el
 subst el'
 refine ⟨_,rfl,a,C,dx,_,_,rfl,R.obj,fc.cls,fc.wy,rfl,_,rfl,pW,.ref l,rfl,(by rw [<- ev];exact cL.k (k:=.inr x) R.wy),?_⟩
 exact ⟨l,us,rfl,a8.of hl,fun l2 n2=>q l2 us _ (aK n2 _) n2 ak (pt.same (aK n2 _))⟩
def Pu (K:Frag)(H:Hp)(Q:VK)(ws:Ι):Prop:=∀(l:Addr) (us:ζ) (H' :Hp),au H H' ->H l=none->H' l=some (.lst us)->g8 K H' us ws->Q (.ref l) H'
theorem sJ {x:Rat}(h:(qr x).1=0):x=0:=by
 have:=gu x
 unfold vl at this
 rw [h] at this
 have z:=w4 (r:=x)
 have e:((0:Int):Rat)=0:=by rfl
 rw [e] at this
 grind
inductive mZ (K:Frag)(C:Addr)(vs:ζ)(H:Hp)(Q:VK)(E_:XK):Prop where
 | mk (a dx:Addr) (ux uy:V) (x y:Rat) (_:vs=[.ref a,ux,uy]) (_:H a=some (.ins C dx [])) (_:fW K H ux x) (_:fW K H uy y) (_:¬ (x=0/\y=0)) (_:∀p,H p=none->Q .cB (upd (upd H p (.tup [ux,uy])) a (.ins C dx [("way",.ref p)]))):mZ K C vs H Q E_
theorem T1:aF zaz zaz (ag CD):=sq
theorem T2 {f:Addr}{fd:FuncData}{C:Addr}(F:mO K "__init__" "Roller.__init__" CD f fd)(cl:uq K C)(nw:fq K C "way"):cI P w K mg base (bg P w) 1 f fd zaz (mZ K C):=by
 refine cZ F T1 (fun vs H Q E h=>?_) (fun bM A outer s H vs Q E hr h=>?_)
 ·obtain ⟨a,dx,ux,uy,x,y,rfl,_⟩:=h
  rfl
 obtain ⟨a,dx,ux,uy,x,y,rfl,ha,⟨p1,rfl,h1⟩,⟨p2,rfl,h2⟩,nz,q⟩:=h
 have sz:(2:Nat)<=sizeLine:=by decide
 refine ⟨_,(ae (bq (PW.pt (wm (aS eh (aJ (pv 1)) ah (a9 _)) (rL (aS eh (aJ (pv 2)) ah (a9 _))))) (aj (c8)) aQ)
  (aj (rO (pv 0) (aV (ar (pv 1) (ar (pv 2) aa))) rfl))),?_⟩
 refine ⟨_,rfl,p1,_,_,_,rfl,rfl,h1,g9,rfl,_,rfl,?_⟩
 refine bx (fun c1=>?_) (fun c1=>?_)
 ·have e1:(qr x).1=0:=by simpa using of_decide_eq_true c1
  refine ⟨_,rfl,p2,_,_,_,rfl,rfl,h2,g9,rfl,_,rfl,?_⟩
  refine bx (fun c2=>?_) (fun c2=>?_)
  ·have e2:(qr y).1=0:=by simpa using of_decide_eq_true c2
   exact absurd ⟨sJ e1,sJ e2⟩ nz
  ·exact ⟨_,rfl,_,rfl,sz,fun p hp=>⟨_,rfl,a,C,dx,[],rfl,(by rw [ao (aq ha hp)];exact ha),cl,nw,(by show 0 < 1000;decide),q p hp⟩⟩
 ·refine OJ ?_
  exact ⟨_,rfl,_,rfl,sz,fun p hp=>⟨_,rfl,a,C,dx,[],rfl,(by rw [ao (aq ha hp)];exact ha),cl,nw,(by show 0 < 1000;decide),q p hp⟩⟩
inductive gL (K:Frag)(C:Addr)(vs:ζ)(H:Hp)(Q:VK)(E_:XK):Prop where
 | mk (a dx p:Addr) (w:Rat×Rat) (_:vs=[.ref a]) (_:H a=some (.ins C dx [("way",.ref p)])) (_:fe K H (.ref p) w) (_:Pu K H Q [w]):gL K C vs H Q E_
theorem T3:aF zaj zaj (ag CG):=sq
theorem T4 {f:Addr}{fd:FuncData}{C:Addr}(F:mO K "ways" "Roller.ways" CG f fd)(cl:uq K C)(nw:fq K C "way"):cI P w K mg base (bg P w) 1 f fd zaj (gL K C):=by
 refine cZ F T3 (fun vs H Q E h=>?_) (fun bM A outer s H vs Q E hr h=>?_)
 ·obtain ⟨a,dx,p,w,rfl,_⟩:=h
  rfl
 obtain ⟨a,dx,p,w,rfl,ha,hw,q⟩:=h
 refine ⟨_,(aj (aG (c_ (ar (cC (pv 0) rfl) aa)))),?_⟩
 refine ⟨_,rfl,a,C,dx,_,.ref p,rfl,ha,cl,nw,(by simp),(by show 1<=sizeLine;decide),fun l hl=>?_⟩
 exact q l [.ref p] _ (aK hl _) hl ak (.cons (hw.same (aK hl _)) .nil)
inductive gM (K:Frag)(vs:ζ)(H:Hp)(Q:VK)(E_:XK):Prop where
 | mk (a:Addr) (_:vs=[.ref a]) (_:Pu K H Q [(1,0),(0,1)]):gM K vs H Q E_
theorem oJ:qr 1=(1,1):=by
 have:=oA 1
 simpa using this
theorem cu:qr 0=(0,1):=by
 have:=oA 0
 simpa using this
theorem vo {H:Hp}{p p1 p2:Addr}{a b:Rat}{x y:Int×Int}(ea:qr a=x)(eb:qr b=y)(h:H p=some (.tup [.ref p1,.ref p2]))(h1:H p1=some (.tup [.int x.1,.int x.2]))(h2:H p2=some (.tup [.int y.1,.int y.2])):fe K H (.ref p) (a,b):=
 ⟨p,.ref p1,.ref p2,rfl,bU.of h,⟨p1,rfl,by rw [ea];exact bU.of h1⟩,⟨p2,rfl,by rw [eb];exact bU.of h2⟩⟩
theorem T5:aF zaj zaj (ag CH):=sq
theorem T6 {f:Addr}{fd:FuncData}(F:mO K "ways" "Fixed.ways" CH f fd):cI P w K mg base (bg P w) 1 f fd zaj (gM K):=by
 refine cZ F T5 (fun vs H Q E h=>?_) (fun bM A outer s H vs Q E hr h=>?_)
 ·obtain ⟨a,rfl,_⟩:=h
  rfl
 obtain ⟨a,rfl,q⟩:=h
 have sz:(2:Nat)<=sizeLine:=by decide
 refine ⟨_,(aj (aG (c_ (ar (aV (ar (aV (ar ah (ar ah aa))) (ar (aV (ar ah (ar ah aa))) aa))) (ar (aV (ar (aV (ar ah (ar ah aa))) (ar (aV (ar ah (ar ah aa))) aa))) aa))))),?_⟩
 refine ⟨sz,fun p1 n1=>?_⟩
 have s1:=aK n1 (.tup [.int 1,.int 1])
 have e1:upd H p1 (.tup [.int 1,.int 1]) p1=some (.tup [.int 1,.int 1]):=ak
 generalize upd H p1 (.tup [.int 1,.int 1])=H1 at s1 e1 ⊢
 refine ⟨sz,fun p2 n2=>?_⟩
 have s2:=aK n2 (.tup [.int 0,.int 1])
 have e2:upd H1 p2 (.tup [.int 0,.int 1]) p2=some (.tup [.int 0,.int 1]):=ak
 generalize upd H1 p2 (.tup [.int 0,.int 1])=H2 at s2 e2 ⊢
 refine ⟨sz,fun p3 n3=>?_⟩
 have s3:=aK n3 (.tup [.ref p1,.ref p2])
 have e3:upd H2 p3 (.tup [.ref p1,.ref p2]) p3=some (.tup [.ref p1,.ref p2]):=ak
 generalize upd H2 p3 (.tup [.ref p1,.ref p2])=H3 at s3 e3 ⊢
 refine ⟨sz,fun p4 n4=>?_⟩
 have s4:=aK n4 (.tup [.int 0,.int 1])
 have e4:upd H3 p4 (.tup [.int 0,.int 1]) p4=some (.tup [.int 0,.int 1]):=ak
 generalize upd H3 p4 (.tup [.int 0,.int 1])=H4 at s4 e4 ⊢
 refine ⟨sz,fun p5 n5=>?_⟩
 have s5:=aK n5 (.tup [.int 1,.int 1])
 have e5:upd H4 p5 (.tup [.int 1,.int 1]) p5=some (.tup [.int 1,.int 1]):=ak
 generalize upd H4 p5 (.tup [.int 1,.int 1])=H5 at s5 e5 ⊢
 refine ⟨sz,fun p6 n6=>?_⟩
 have s6:=aK n6 (.tup [.ref p4,.ref p5])
 have e6:upd H5 p6 (.tup [.ref p4,.ref p5]) p6=some (.tup [.ref p4,.ref p5]):=ak
 generalize upd H5 p6 (.tup [.ref p4,.ref p5])=H6 at s6 e6 ⊢
 refine ⟨sz,fun l nl=>?_⟩
 have s7:=aK nl (.lst [.ref p3,.ref p6])
 have e7:upd H6 l (.lst [.ref p3,.ref p6]) l=some (.lst [.ref p3,.ref p6]):=ak
 generalize upd H6 l (.lst [.ref p3,.ref p6])=H7 at s7 e7 ⊢
 have T7:=s1.trans (s2.trans (s3.trans (s4.trans (s5.trans s6))))
 have w1:fe K H7 (.ref p3) (1,0):=vo oJ cu (s7 _ _ (s6 _ _ (s5 _ _ (s4 _ _ e3)))) (s7 _ _ (s6 _ _ (s5 _ _ (s4 _ _ (s3 _ _ (s2 _ _ e1)))))) (s7 _ _ (s6 _ _ (s5 _ _ (s4 _ _ (s3 _ _ e2)))))
 have w2:fe K H7 (.ref p6) (0,1):=vo cu oJ (s7 _ _ e6) (s7 _ _ (s6 _ _ (s5 _ _ e4))) (s7 _ _ (s6 _ _ e5))
 exact q l [.ref p3,.ref p6] H7 (T7.trans s7) (T7.free nl) e7 (.cons w1 (.cons w2 .nil))
def HM (P:Program)(w:World)(K:Frag)(mg:ι)(base:Heap)(H:Hp)(hv:V)(ws:Ι):Prop:=(hv=.cB/\ws=[])\/∃(h Ch T8:Addr) (Q_:List (Str×V)) (psh:ρ) (YG:Sp),hv=.ref h/\H h=some (.ins Ch T8 Q_)/\Q_.lookup ("ways":Str)=none/\bI P w K mg base (bg P w) 2 Ch "ways" psh YG/\(∀H1,H1 h=some (.ins Ch T8 Q_)->aY H H1->∀Q',Pu K H1 Q' ws->YG [.ref h] H1 Q' E0)
inductive cT (P:Program)(w:World)(K:Frag)(mg:ι)(base:Heap)(C:Addr)(vs:ζ)(H:Hp)(Q:VK)(E_:XK):Prop where
 | mk (a dx pP pW pB:Addr) (ps:Ε) (bs:υ) (kP kW kB:γ) (pw:Ζ) (x:Str) (u v hv:V) (p:Pt) (ws:Ι) (_:vs=[.ref a,.str x,u,v,hv]) (_:dZ K H C a dx pP pW pB ps bs kP kW kB) (_:pM K H pw kW) (_:pw.map (·.1)=ps.map (·.1)) (_:mw K H u p.1) (_:mw K H v p.2) (_:x∉ps.map (·.1)) (_:(∀z∈ps,z.2≠p)) (_:ps.length < 24) (_:HM P w K mg base H hv ws) (_:∀(H' :Hp) (pO iM :γ),(∀b o,b≠pP->b≠pW->H b=some o->H' b=some o)->dZ K H' C a dx pP pW pB (ps++[(x,p)]) bs pO iM kB->pM K H' (pw++[(x,ws)]) iM ->(∃l,iM =kW++[(.inr x,.ref l)]/\H l=none)->Q .cB H'):cT P w K mg base C vs H Q E_
theorem HN:aF ["self","name","x","y","hold","pin","spot"] zar (ag my):=sq
theorem T9 {f:Addr}{fd:FuncData}{C:Addr}(F:Pb K "put_pin" "Frame.put_pin" my f fd)(fc:AD K C){tkP:Tok}(Pw:mg "MOST_PINS"=some (.int 24 tkP))(a_:mg "len"=none)(bO:mg "list"=none):cI P w K mg base (bg P w) 3 f fd zar (cT P w K mg base C):=by
 refine GP F HN (fun vs H Q E h=>?_) (fun bM A outer s H vs Q E hr h=>?_)
 ·obtain ⟨a,dx,pP,pW,pB,ps,bs,kP,kW,kB,pw,x,u,v,hv,p,ws,rfl,_⟩:=h
  rfl
 obtain ⟨a,dx,pP,pW,pB,ps,bs,kP,kW,kB,pw,x,u,v,hvv,p,ws,rfl,R,W,ew,hu,hv,hx,hs,hl,hH,q⟩:=h
 refine ⟨_,(ae (bq (i5 (wW (bX hr) (pv 1) (cC (pv 0) rfl))) (aj (c8)) aQ)
  (ae (jC (bE PassesOwn.never rfl (jA (cC (pv 0) rfl)) (fm rfl (bu (aC (i:=5) HN.nd rfl (aan rfl)) (bu (aC (i:=6) HN.nd rfl (aan rfl)) dF))) (aj (bq (aS (mR hr.units) (pv 6) (aV (ar (pv 2) (ar (pv 3) aa))) (a9 _)) (aj (c8)) aQ))))
  (ae (bq (aS MS (aI qX rfl a_ bT (ar (cC (pv 0) rfl) aa)) (jq (v:=.int 24) rfl Pw ⟨_,rfl⟩) (a9 _)) (aj (c8)) aQ)
  (ae (fL (bX hr) (cC (pv 0) rfl) (pv 1) (aV (ar (pv 2) (ar (pv 3) aa))) rfl)
  (aj (fL (bX hr) (cC (pv 0) rfl) (pv 1) (ug (aS wz (pv 4) ng (a9 _)) (c_ aa) (b8 i8 rfl bO fS (ar (fK (k:=2) (pv 4) hr.mo (pY P w)) aa))) rfl)))))),?_⟩
 refine ⟨_,rfl,_,rfl,a,C,dx,_,_,rfl,R.obj,fc.cls,fc.pl,rfl,pP,_,rfl,cL.k (k:=.inr x) R.pl,_,rfl,?_⟩
 rw [R.pin x,decide_eq_false hx]
 have lk:kP.length=ps.length:=(Paired.length R.rp).symm
 refine ⟨_,rfl,a,C,dx,_,_,rfl,R.obj,fc.cls,fc.pl,rfl,pP,kP,rfl,R.pl,fun o=>?_⟩
 have k0:aX pP H (upd H pP (.dA o (.dK kP))):=fun b o' n e=>by rw [ao n];exact e
 refine iC (d:=pP) (o:=o) (kvs:=kP) (fun t σ H' =>∃(o2 o3:ω),σ=[some (.ref a),some (.str x),some u,some v,some hvv,o2,o3]/\aX pP H H' /\H' pP=some (.dA o (.dK kP))) ⟨none,none,rfl,k0,ak⟩ (fun t σ H' _ h=>by
   obtain ⟨_,_,_,_,h⟩:=h
   exact h) ?_ ?_
 ·rintro t k y σ H6 p7 rA ⟨o2,o3,rfl,k6,Ll⟩ n7
  obtain ⟨z,ez,hz1,Pg⟩:=av (bG R.rp) rA
  have Px :k=.inr z.1:=hz1
  subst Px
  have s6:aY H H6:=fun b xs r=>by
   rcases r with r | ⟨o',r⟩
   ·exact .inl (k6 _ _ (fun e=>by rw [e,R.pl] at r;cases r) r)
   ·exact .inr ⟨o',k6 _ _ (fun e=>by rw [e,R.pl] at r;cases r) r⟩
  have s7:=aK n7 (.tup [kV (.inr z.1),y])
  have YH:aY H (upd H6 p7 (.tup [kV (.inr z.1),y])):=s6.trans (.of s7)
  refine ⟨p7,_,rfl,bU.of ak,rfl,_,_,rfl,_,_,rfl,rfl,?_⟩
  refine ⟨_,rfl,_,rfl,_,rfl,(by show 2<=sizeLine;decide),fun t8 n8=>?_⟩
  have s8:=aK n8 (.tup [u,v])
  have Lm:aY H (upd (upd H6 p7 (.tup [kV (.inr z.1),y])) t8 (.tup [u,v])):=YH.trans (.of s8)
  refine ⟨eD z.2,eD p,.inl ⟨(Spot.aU Pg Lm).is,(Spot.is (p:=p) ⟨t8,u,v,rfl,bU.of ak,hu.aU Lm,hv.aU Lm⟩)⟩,lS _ _,qY _,?_⟩
  rw [u3]
  refine ⟨_,rfl,?_⟩
  refine bx (fun c=>absurd (of_decide_eq_true c) (hs z (be ez))) (fun _=>?_)
  exact ⟨_,_,rfl,fun b o' n e=>s8 _ _ (s7 _ _ (k6 b o' n e)),s8 _ _ (s7 _ _ Ll)⟩
 ·rintro σ H1 ⟨o2,o3,rfl,k1,T_⟩
  refine ⟨pP,o,kP,T_,fun o' u' z=>(by have z' :H pP=some (.dA o' u'):=z;rw [R.pl] at z';cases z'),?_⟩
  have s2:au H (upd H1 pP (.dK kP)):=fun b o' e=>by
   by_cases n:b=pP
   ·subst n
    rw [R.pl] at e
    rw [ak]
    exact e
   ·rw [ao n]
    exact k1 b o' n e
  generalize upd H1 pP (.dK kP)=H2 at s2 ⊢
  have R2:=R.same s2
  refine ⟨_,rfl,a,C,dx,_,_,rfl,R2.obj,fc.cls,fc.pl,rfl,pP,kP,rfl,.inl R2.pl,_,_,rfl,rfl,_,rfl,?_⟩
  refine bx (fun c=>?_) (fun _=>?_)
  ·have c' :(24:Int)<=(kP.length:Int):=of_decide_eq_true c
   omega
  refine ⟨_,rfl,_,rfl,(by show 2<=sizeLine;decide),fun t nt=>?_⟩
  have s3:=aK nt (.tup [u,v])
  have R3:=R2.same s3
  have YD:=(hu.same s2).same s3
  have hv3:=(hv.same s2).same s3
  refine ⟨_,rfl,a,C,dx,_,_,rfl,R3.obj,fc.cls,fc.pl,rfl,_,rfl,pP,_,rfl,ku.k (k:=.inr x) R3.pl (aaq (show kP.length<=1000 by omega) (by decide)),?_⟩
  have e:putK kP (.inr x) (.ref t)=kP++[(.inr x,.ref t)]:=dD _ (dh (by rw [R.u4];exact fun z=>hx (d0.mp z)))
  rw [e]
  have R4:=R3.Pd (x:=x) (p:=p) (t:=t) ⟨t,u,v,rfl,bU.of ak,YD,hv3⟩
  have k4:∀b o,b≠pP->H b=some o->(upd (upd H2 t (.tup [u,v])) pP (.dK (kP++[(.inr x,.ref t)]))) b=some o:=fun b o n e=>by rw [ao n];exact s3 _ _ (s2 _ _ e)
  generalize upd (upd H2 t (.tup [u,v])) pP (.dK (kP++[(.inr x,.ref t)]))=H4 at R4 k4 ⊢
  have lw:kW.length=ps.length:=by
   have e1:kW.length=pw.length:=(Paired.length W).symm
   have e2:=congrArg abO ew
   rw [aab,aab] at e2
   omega
  have t4:aY H H4:=fun b xs r=>by
   rcases r with r | ⟨o',r⟩
   ·exact .inl (k4 _ _ (fun e=>by rw [e,R.pl] at r;cases r) r)
   ·exact .inr ⟨o',k4 _ _ (fun e=>by rw [e,R.pl] at r;cases r) r⟩
  have W4:pM K H4 pw kW:=Paired.bJ W fun _ _ z=>⟨z.1,by
   obtain ⟨l,us,e1,e2,e3⟩:=z.2
   exact ⟨l,us,e1,k4 _ _ (fun e=>by rw [e,R.pl] at e2;cases e2) e2,e3.aU t4⟩⟩
  have nb:∀l2,H4 l2=none->H l2=none:=fun l2 n=>by
   cases hq:H l2 with
   | none=>rfl
   | some o=>
    have:=k4 l2 o (fun z=>by have h:=R4.pl;rw [<- z,n] at h;cases h) hq
    rw [n] at this
    cases this
  refine ⟨_,rfl,rfl,_,rfl,?_⟩
  rcases hH with ⟨rfl,rfl⟩ | ⟨h,Ch,T8,Q_,psh,YG,rfl,hh,hlk,MH,pZ⟩
  ·refine bx (fun _=>?_) (fun c=>absurd (by decide) c)
   refine ⟨by show 0<=sizeLine;decide,fun l2 n6=>?_⟩
   have s6:=aK n6 (.lst [])
   have R6:=R4.same s6
   have W6:=W4.same s6
   refine ⟨_,rfl,a,C,dx,_,_,rfl,R6.obj,fc.cls,fc.wy,rfl,_,rfl,pW,_,rfl,ku.k (k:=.inr x) R6.wy (aaq (show kW.length<=1000 by omega) (by decide)),?_⟩
   have ek:putK kW (.inr x) (.ref l2)=kW++[(.inr x,.ref l2)]:=dD _ (dh (by rw [W.keys,ew];exact fun z=>hx (d0.mp z)))
   rw [ek]
   have ne6:l2≠pW:=fun z=>by have h:=R6.wy;rw [<- z,ak] at h;cases h
   exact q _ _ _ (fun b o n1 n2 e=>by rw [ao n2];exact s6 _ _ (k4 b o n1 e)) (R6.sk _) (Paired.snoc (W6.dict R6.wy) ⟨rfl,l2,[],rfl,by rw [ao ne6,ak],.nil⟩) ⟨l2,rfl,nb l2 n6⟩
  have h4:H4 h=some (.ins Ch T8 Q_):=k4 _ _ (fun e=>by rw [e,R.pl] at hh;cases hh) hh
  refine bx (fun c=>absurd (of_decide_eq_true c) (fun z=>nomatch z)) (fun _=>?_)
  refine ⟨_,rfl,h,Ch,T8,Q_,psh,YG,rfl,h4,hlk,MH,pZ H4 h4 t4 _ fun l1 us H5 s5 n5 e5 p5=>?_⟩
  refine ⟨l1,us,rfl,a8.of e5,fun l2 n6=>?_⟩
  have s6:=aK n6 (.lst us)
  have R6:=(R4.same s5).same s6
  have W6:=(W4.same s5).same s6
  refine ⟨_,rfl,a,C,dx,_,_,rfl,R6.obj,fc.cls,fc.wy,rfl,_,rfl,pW,_,rfl,ku.k (k:=.inr x) R6.wy (aaq (show kW.length<=1000 by omega) (by decide)),?_⟩
  have ek:putK kW (.inr x) (.ref l2)=kW++[(.inr x,.ref l2)]:=dD _ (dh (by rw [W.keys,ew];exact fun z=>hx (d0.mp z)))
  rw [ek]
  have v9:au H4 (upd H5 l2 (.lst us)):=fun b o z=>s6 _ _ (s5 _ _ z)
  refine q _ _ _ (fun b o n1 n2 e=>by rw [ao n2];exact v9 _ _ (k4 b o n1 e)) (R6.sk _) ?_ ⟨l2,rfl,nb l2 (s5.free n6)⟩
  have ne6:l2≠pW:=fun z=>by have h:=R6.wy;rw [<- z,ak] at h;cases h
  exact Paired.snoc (W6.dict R6.wy) ⟨rfl,l2,us,rfl,by rw [ao ne6,ak],(p5.same s6).aU (.dict R6.wy)⟩
inductive gN (K:Frag)(C:Addr)(vs:ζ)(H:Hp)(Q:VK)(E_:XK):Prop where
 | mk (a dx pP pW pB:Addr) (ps:Ε) (bs:υ) (kP kW kB:γ) (x one other:Str) (_:vs=[.ref a,.str x,.str one,.str other]) (_:dZ K H C a dx pP pW pB ps bs kP kW kB) (_:x∉bs.map (·.1)) (_:one∈ps.map (·.1)) (_:other∈ps.map (·.1)) (_:one≠other) (_:bs.length < 60) (_:Q .cB H):gN K C vs H Q E_
theorem Ua:aF zah zah (ag BW):=sq
theorem Ub {f:Addr}{fd:FuncData}{C:Addr}(F:mO K "check_bar" "Frame.check_bar" BW f fd)(fc:AD K C){tkB:Tok}(Py:mg "MOST_BARS"=some (.int 60 tkB))(a_:mg "len"=none)
  (MC:bI P w K mg base (bg P w) 1 C "check_pin" zam (dI K C)):cI P w K mg base (bg P w) 2 f fd zah (gN K C):=by
 refine cZ F Ua (fun vs H Q E h=>?_) (fun bM A outer s H vs Q E hr h=>?_)
 ·obtain ⟨a,dx,pP,pW,pB,ps,bs,kP,kW,kB,x,one,other,rfl,_⟩:=h
  rfl
 obtain ⟨a,dx,pP,pW,pB,ps,bs,kP,kW,kB,x,one,other,rfl,R,hx,h1,h2,ne,hl,q⟩:=h
 refine ⟨_,(ae (bq (i5 (wW (bX hr) (pv 1) (cC (pv 0) rfl))) (aj (c8)) aQ)
  (ae (bf (cK (k:=1) (pv 0) hr.mo (pY P w) (ar (pv 2) aa)))
  (ae (bf (cK (k:=1) (pv 0) hr.mo (pY P w) (ar (pv 3) aa)))
  (ae (bq (aS eh (pv 2) (pv 3) (a9 _)) (aj (c8)) aQ)
  (aj (bq (aS MS (aI qX rfl a_ bT (ar (cC (pv 0) rfl) aa)) (jq (v:=.int 60) rfl Py ⟨_,rfl⟩) (a9 _)) (aj (c8)) aQ)))))),?_⟩
 refine ⟨_,rfl,_,rfl,a,C,dx,_,_,rfl,R.obj,fc.cls,fc.br,rfl,pB,_,rfl,cL.k (k:=.inr x) R.br,_,rfl,?_⟩
 rw [R.bar x,decide_eq_false hx]
 refine ⟨_,rfl,a,C,dx,_,_,_,rfl,R.obj,rfl,MC,_,rfl,a,dx,pP,pW,pB,ps,bs,kP,kW,kB,one,rfl,R,h1,?_⟩
 refine ⟨_,rfl,a,C,dx,_,_,_,rfl,R.obj,rfl,MC,_,rfl,a,dx,pP,pW,pB,ps,bs,kP,kW,kB,other,rfl,R,h2,?_⟩
 refine ⟨_,rfl,_,rfl,rfl,_,rfl,?_⟩
 refine bx (fun c=>absurd (by simpa [mj] using c) ne) (fun _=>?_)
 have lk:kB.length=bs.length:=(Paired.length R.rb).symm
 refine ⟨_,rfl,a,C,dx,_,_,rfl,R.obj,fc.cls,fc.br,rfl,pB,kB,rfl,.inl R.br,_,_,rfl,rfl,_,rfl,?_⟩
 refine bx (fun c=>?_) (fun _=>q)
 have c' :(60:Int)<=(kB.length:Int):=of_decide_eq_true c
 omega
inductive iu (K:Frag)(C:Addr)(vs:ζ)(H:Hp)(Q:VK)(E_:XK):Prop where
 | mk (a dx pP pW pB:Addr) (ps:Ε) (bs:υ) (kP kW kB:γ) (x one other:Str) (_:vs=[.ref a,.str x,.str one,.str other]) (_:dZ K H C a dx pP pW pB ps bs kP kW kB) (_:x∉bs.map (·.1)) (_:one∈ps.map (·.1)) (_:other∈ps.map (·.1)) (_:one≠other) (_:bs.length < 60) (_:∀(H' :Hp) (Nr :γ),aX pB H H' ->dZ K H' C a dx pP pW pB ps (bs++[(x,one,other)]) kP kW Nr ->Q .cB H'):iu K C vs H Q E_
theorem Uc:aF zah zah (ag BV):=sq
theorem Ud {f:Addr}{fd:FuncData}{C:Addr}(F:mO K "put_bar" "Frame.put_bar" BV f fd)(fc:AD K C)
  (MC:bI P w K mg base (bg P w) 2 C "check_bar" zah (gN K C)):cI P w K mg base (bg P w) 3 f fd zah (iu K C):=by
 refine cZ F Uc (fun vs H Q E h=>?_) (fun bM A outer s H vs Q E hr h=>?_)
 ·obtain ⟨a,dx,pP,pW,pB,ps,bs,kP,kW,kB,x,one,other,rfl,_⟩:=h
  rfl
 obtain ⟨a,dx,pP,pW,pB,ps,bs,kP,kW,kB,x,one,other,rfl,R,hx,h1,h2,ne,hl,q⟩:=h
 refine ⟨_,(ae (bf (cK (k:=2) (pv 0) hr.mo (pY P w) (ar (pv 1) (ar (pv 2) (ar (pv 3) aa)))))
  (aj (fL (bX hr) (cC (pv 0) rfl) (pv 1) (aV (ar (pv 2) (ar (pv 3) aa))) rfl))),?_⟩
 refine ⟨_,rfl,a,C,dx,_,_,_,rfl,R.obj,rfl,MC,_,rfl,_,rfl,_,rfl,a,dx,pP,pW,pB,ps,bs,kP,kW,kB,x,one,other,rfl,R,hx,h1,h2,ne,hl,?_⟩
 refine ⟨_,rfl,_,rfl,(by show 2<=sizeLine;decide),fun t nt=>?_⟩
 have s:=aK nt (.tup [.str one,.str other])
 have R' :=R.same s
 have lk:kB.length=bs.length:=(Paired.length R.rb).symm
 refine ⟨_,rfl,a,C,dx,_,_,rfl,R'.obj,fc.cls,fc.br,rfl,_,rfl,pB,_,rfl,ku.k (k:=.inr x) R'.br (aaq (show kB.length<=1000 by omega) (by decide)),?_⟩
 have e:putK kB (.inr x) (.ref t)=kB++[(.inr x,.ref t)]:=dD _ (dh (by rw [R.lW];exact fun z=>hx (d0.mp z)))
 rw [e]
 refine q _ _ (fun b o n z=>?_) (R'.Pc (.inl ak))
 rw [ao n]
 exact s _ _ z
inductive iF (K:Frag)(C:Addr)(vs:ζ)(H:Hp)(Q:VK)(E_:XK):Prop where
 | mk (a dx pP pW pB:Addr) (ps:Ε) (bs:υ) (kP kW kB:γ) (x:Str) (_:vs=[.ref a,.str x]) (_:dZ K H C a dx pP pW pB ps bs kP kW kB) (_:x∈bs.map (·.1)) (_:∀(H' :Hp) (Nr :γ),aX pB H H' ->dZ K H' C a dx pP pW pB ps (bs.filter fun b=>decide (b.1≠x)) kP kW Nr ->Q .cB H'):iF K C vs H Q E_
theorem Ue:aF zaB zaB (ag BY):=sq
theorem Ug {f:Addr}{fd:FuncData}{C:Addr}(F:mO K "take_bar" "Frame.take_bar" BY f fd)(fc:AD K C):cI P w K mg base (bg P w) 1 f fd zaB (iF K C):=by
 refine cZ F Ue (fun vs H Q E h=>?_) (fun bM A outer s H vs Q E hr h=>?_)
 ·obtain ⟨a,dx,pP,pW,pB,ps,bs,kP,kW,kB,x,rfl,_⟩:=h
  rfl
 obtain ⟨a,dx,pP,pW,pB,ps,bs,kP,kW,kB,x,rfl,R,hx,q⟩:=h
 refine ⟨_,(ae (bq (i5 (iB (bX hr) (pv 1) (cC (pv 0) rfl))) (aj (c8)) aQ)
  (aj (bf (oi (cC (pv 0) rfl) (pv 1) ⟨rfl,rfl,rfl,rfl⟩)))),?_⟩
 refine ⟨_,rfl,_,rfl,a,C,dx,_,_,rfl,R.obj,fc.cls,fc.br,rfl,pB,_,rfl,cL.k (k:=.inr x) R.br,_,rfl,?_⟩
 rw [R.bar x,decide_eq_true hx]
 obtain ⟨v,ev⟩:=eI (kvs:=kB) (k:=.inr x) (by rw [R.lW];exact d0.mpr hx)
 refine ⟨_,rfl,a,C,dx,_,_,rfl,R.obj,fc.cls,fc.br,rfl,pB,rfl,.inl ⟨_,.inl R.br⟩,_,rfl,kB,.inr x,v,R.br,rfl,ev,?_⟩
 exact q _ _ (fun b o n z=>by rw [ao n];exact z) (R.KZ x)
theorem CJ {K:Frag}{H:Hp}{C a dx pP pW pB:Addr}{ps:Ε}{bs:υ}{kP kW kB:γ}(R:dZ K H C a dx pP pW pB ps bs kP kW kB)(x:Str):
  dZ K (upd H pP (.dK (dY kP (.inr x)))) C a dx pP pW pB (ps.filter fun b=>decide (b.1≠x)) bs (dY kP (.inr x)) kW kB:=by
 have s:aY H (upd H pP (.dK (dY kP (.inr x)))):=.dict R.pl
 exact ⟨by rw [ao R.ab.1];exact R.obj,ak,by rw [ao (aaW R.ne1)];exact R.wy,by rw [ao (aaW R.ne2)];exact R.br,R.ne1,R.ne2,R.ne3,fM x (Paired.bJ R.rp fun _ _ h=>⟨h.1,h.2.aU s⟩),
  Paired.bJ R.rb fun _ _ h=>⟨h.1,by obtain ⟨p,e,k⟩:=h.2;exact ⟨p,e,s _ _ k⟩⟩⟩
inductive gO (K:Frag)(C:Addr)(vs:ζ)(H:Hp)(Q:VK)(E:XK):Prop where
 | mk (a dx pP pW pB:Addr) (ps:Ε) (bs:υ) (kP kW kB:γ) (pw:Ζ) (x:Str) (_:vs=[.ref a,.str x]) (_:dZ K H C a dx pP pW pB ps bs kP kW kB) (_:pM K H pw kW) (_:pw.map (·.1)=ps.map (·.1)) (_:x∈ps.map (·.1)) (_:(∀b∈bs,x≠b.2.1/\x≠b.2.2)) (_:∀(H' :Hp) (pO iM :γ),(∀b o,b≠pP->b≠pW->H b=some o->H' b=some o)->dZ K H' C a dx pP pW pB (ps.filter fun b=>decide (b.1≠x)) bs pO iM kB->pM K H' (pw.filter fun b=>decide (b.1≠x)) iM ->(∀kv∈iM,kv∈kW)->Q .cB H'):gO K C vs H Q E
theorem d_:aF ["self","name","bar","two"] zaB (ag b_):=sq
theorem jK {f:Addr}{fd:FuncData}{C:Addr}(F:mO K "take_pin" "Frame.take_pin" b_ f fd)(fc:AD K C)(MC:bI P w K mg base (bg P w) 1 C "check_pin" zam (dI K C)):cI P w K mg base (bg P w) 2 f fd zaB (gO K C):=by
 refine cZ F d_ (fun vs H Q E h=>?_) (fun bM A outer s H vs Q E hr h=>?_)
 ·obtain ⟨a,dx,pP,pW,pB,ps,bs,kP,kW,kB,pw,x,rfl,_⟩:=h
  rfl
 obtain ⟨a,dx,pP,pW,pB,ps,bs,kP,kW,kB,pw,x,rfl,R,W,ew,hx,hb,q⟩:=h
 refine ⟨_,(ae (bf (cK (k:=1) (pv 0) hr.mo (pY P w) (ar (pv 1) aa)))
  (ae (jC (bE PassesOwn.never rfl (jA (cC (pv 0) rfl)) (fm rfl (bu (aC (i:=2) d_.nd rfl (aan rfl)) (bu (aC (i:=3) d_.nd rfl (aan rfl)) dF))) (aj (bq (aS ke (pv 1) (pv 3) rfl) (aj (c8)) aQ))))
  (ae (bf (oi (cC (pv 0) rfl) (pv 1) ⟨rfl,rfl,rfl,rfl⟩))
  (aj (bf (oi (cC (pv 0) rfl) (pv 1) ⟨rfl,rfl,rfl,rfl⟩)))))),?_⟩
 refine ⟨_,rfl,a,C,dx,_,_,_,rfl,R.obj,rfl,MC,_,rfl,a,dx,pP,pW,pB,ps,bs,kP,kW,kB,x,rfl,R,hx,?_⟩
 have lk:kB.length=bs.length:=(Paired.length R.rb).symm
 refine ⟨_,rfl,a,C,dx,_,_,rfl,R.obj,fc.cls,fc.br,rfl,pB,kB,rfl,R.br,fun o=>?_⟩
 have k0:aX pB H (upd H pB (.dA o (.dK kB))):=fun b o' n e=>by rw [ao n];exact e
 refine iC (d:=pB) (o:=o) (kvs:=kB) (fun t σ H' =>∃(o2 o3:ω),σ=[some (.ref a),some (.str x),o2,o3]/\aX pB H H' /\H' pB=some (.dA o (.dK kB))) ⟨none,none,rfl,k0,ak⟩ (fun t σ H' _ h=>by
   obtain ⟨_,_,_,_,h⟩:=h
   exact h) ?_ ?_
 ·rintro t k y σ H6 p7 rA ⟨o2,o3,rfl,k6,Ll⟩ n7
  obtain ⟨z,ez,hz1,p,ep,Pg⟩:=av (bG R.rb) rA
  have Px :k=.inr z.1:=hz1
  subst Px
  have v3 :y=.ref p:=ep
  subst v3
  have s6:aY H H6:=fun b xs r=>by
   rcases r with r | ⟨o',r⟩
   ·exact .inl (k6 _ _ (fun e=>by rw [e,R.br] at r;cases r) r)
   ·exact .inr ⟨o',k6 _ _ (fun e=>by rw [e,R.br] at r;cases r) r⟩
  have s7:=aK n7 (.tup [kV (.inr z.1),.ref p])
  have YH:aY H (upd H6 p7 (.tup [kV (.inr z.1),.ref p])):=s6.trans (.of s7)
  obtain ⟨n1,n2⟩:=hb z (be ez)
  refine ⟨p7,_,rfl,bU.of ak,rfl,_,_,rfl,_,_,rfl,rfl,?_⟩
  refine ⟨_,rfl,_,rfl,p,[.str z.2.1,.str z.2.2],rfl,.inr (YH.bN (.inl Pg)),rfl,rfl,_,rfl,?_⟩
  refine bx (fun c=>?_) (fun _=>⟨_,_,rfl,fun b o' n e=>s7 _ _ (k6 b o' n e),s7 _ _ Ll⟩)
  exfalso
  have c' :Kv (.str x) [.str z.2.1,.str z.2.2]=true:=c
  simp [Kv,mj] at c'
  rcases c' with c' | c'
  ·exact n1 c'.symm
  ·exact n2 c'.symm
 ·rintro σ H1 ⟨o2,o3,rfl,k1,T_⟩
  refine ⟨pB,o,kB,T_,fun o' u' z=>(by have z' :H pB=some (.dA o' u'):=z;rw [R.br] at z';cases z'),?_⟩
  have s2:au H (upd H1 pB (.dK kB)):=fun b o' e=>by
   by_cases n:b=pB
   ·subst n
    rw [R.br] at e
    rw [ak]
    exact e
   ·rw [ao n]
    exact k1 b o' n e
  generalize upd H1 pB (.dK kB)=H2 at s2 ⊢
  have R2:=R.same s2
  obtain ⟨v,ev⟩:=eI (kvs:=kP) (k:=.inr x) (by rw [R.u4];exact d0.mpr hx)
  have kk:kW.map (·.1)=(ps.map (·.1)).map (fun b=>(abc b:Key)):=by rw [eT W, <- ew,aaE];rfl
  obtain ⟨v2,ev2⟩:=eI (kvs:=kW) (k:=.inr x) (by rw [kk];exact d0.mpr hx)
  refine ⟨_,rfl,a,C,dx,_,_,rfl,R2.obj,fc.cls,fc.pl,rfl,pP,rfl,.inl ⟨_,.inl R2.pl⟩,_,rfl,kP,.inr x,v,R2.pl,rfl,ev,?_⟩
  have R3:=CJ R2 x
  have k3:∀b o,b≠pP->H b=some o->(upd H2 pP (.dK (dY kP (.inr x)))) b=some o:=fun b o n e=>by rw [ao n];exact s2 _ _ e
  have k2:aX pP H2 (upd H2 pP (.dK (dY kP (.inr x)))):=fun b o n e=>by rw [ao n];exact e
  generalize upd H2 pP (.dK (dY kP (.inr x)))=H3 at R3 k3 k2 ⊢
  refine ⟨_,rfl,a,C,dx,_,_,rfl,R3.obj,fc.cls,fc.wy,rfl,pW,rfl,.inl ⟨_,.inl R3.wy⟩,_,rfl,kW,.inr x,v2,R3.wy,rfl,ev2,?_⟩
  have t3:aY H2 H3:=fun b xs r=>by
   rcases r with r | ⟨o',r⟩
   ·exact .inl (k2 _ _ (fun e=>by rw [e,R2.pl] at r;cases r) r)
   ·exact .inr ⟨o',k2 _ _ (fun e=>by rw [e,R2.pl] at r;cases r) r⟩
  have t4:aY H3 (upd H3 pW (.dK (dY kW (.inr x)))):=.dict R3.wy
  refine q _ _ _ (fun b o n1 n2 e=>by rw [ao n2];exact k3 b o n1 e) (R3.sk _) (fM x (Paired.bJ (W.same s2) fun _ _ z=>⟨z.1,?_⟩)) (fun kv h=>by unfold dY at h;exact (abM.mp h).1)
  obtain ⟨l,us,z1,z2,z3⟩:=z.2
  exact ⟨l,us,z1,by rw [ao (fun e=>by rw [e,R2.wy] at z2;cases z2)];exact k2 _ _ (fun e=>by rw [e,R2.pl] at z2;cases z2) z2,(z3.aU t3).aU t4⟩
def sM (p q:aA):Rat×Rat:=(q.sp.1 - p.sp.1,q.sp.2 - p.sp.2)
inductive HP (K:Frag)(C:Addr)(vs:ζ)(H:Hp)(Q:VK)(E_:XK):Prop where
 | mk (a:Addr) (pins:ν) (bars:π) (p q:aA) (_:vs=[.ref a,.str p.nm,.str q.nm]) (_:JI K H C a pins bars) (_:fh pins bars) (_:p∈pins) (_:q∈pins) (_:HL K H Q (sM p q)):HP K C vs H Q E_
theorem Nt {pins:ν}(h:(pins.map (·.nm)).Nodup):((pins.map fun p=>(p.nm,oC p.sp)).map (·.1)).Nodup:=by
 rw [aaE]
 exact h
theorem Nu {pins:ν}(h:(pins.map (·.nm)).Nodup):((pins.map fun p=>(p.nm,p.ws)).map (·.1)).Nodup:=by
 rw [aaE]
 exact h
theorem Uh {bars:π}(h:(bars.map (·.nm)).Nodup):((bars.map fun b=>(b.nm,b.one.nm,b.other.nm)).map (·.1)).Nodup:=by
 rw [aaE]
 exact h
theorem Ui:aF zap zap (ag AQ):=sq
theorem Uj {C:Addr}(D:Def K mg "arm_between" AQ zap)(MP:bI P w K mg base (bg P w) 2 C "place" zam (mY K C))(aaB:Fn P w K mg base (bg P w) 35 "pair_difference" zag (xr K fun a b=>a - b)):Fn P w K mg base (bg P w) 36 "arm_between" zap (HP K C):=by
 refine D.ok Ui (fun vs H Q E h=>?_) (fun f bM A outer s H vs Q E hr h=>?_)
 ·obtain ⟨a,pins,bars,p,q,rfl,_⟩:=h
  rfl
 obtain ⟨a,pins,bars,p,q,rfl,R,g,hp,hq,k⟩:=h
 obtain ⟨dx,pP,pW,pB,kP,kW,kB,R,W⟩:=R.ex
 refine ⟨_,(aj (aG (aD aaB hr.mo (pY P w) (ar (cK (k:=2) (pv 0) hr.mo (pY P w) (ar (pv 2) aa)) (ar (cK (k:=2) (pv 0) hr.mo (pY P w) (ar (pv 1) aa)) aa))))),?_⟩
 refine ⟨_,rfl,a,C,dx,_,_,_,rfl,R.obj,rfl,MP,_,rfl,a,dx,pP,pW,pB,_,_,kP,kW,kB,q.nm,oC q.sp,rfl,R,Nt g.np,aad.mpr ⟨q,hq,rfl⟩,fun v1 h1=>?_⟩
 refine ⟨_,rfl,a,C,dx,_,_,_,rfl,R.obj,rfl,MP,_,rfl,a,dx,pP,pW,pB,_,_,kP,kW,kB,p.nm,oC p.sp,rfl,R,Nt g.np,aad.mpr ⟨p,hp,rfl⟩,fun v2 h2=>?_⟩
 have z1:=g.sz q hq
 have z2:=g.sz p hp
 exact ⟨v1,v2,q.sp,p.sp,rfl,h1,h2,z1.1.up (by decide),z1.2.1.up (by decide),z2.1.up (by decide),z2.2.1.up (by decide),k⟩
def mv (M:Β)(x:Str):Rat×Rat:=(M x).getD (0,0)
def fJ (F:Β)(pins:ν):List (Int×Int):=pins.flatMap fun p=>[qr (mv F p.nm).1,qr (mv F p.nm).2]
theorem jL (F:Β):∀pins:List aA,(fJ F pins).length=2*pins.length
 | []=>rfl
 | p::ps=>by
  have:=jL F ps
  unfold fJ at this ⊢
  rw [aaS,aat,this]
  simp
  omega
theorem CK (F:Β)(ps:ν)(p:aA):fJ F (ps++[p])=fJ F ps++[qr (mv F p.nm).1,qr (mv F p.nm).2]:=by
 unfold fJ
 rw [ab7]
 simp
def gP (x:Str)(w:Rat×Rat):Str->Option (Rat×Rat):=fun y=>if y=x then some w else none
def fZ (b:aT):Str->Option (Rat×Rat):=fun y=>if y=b.one.nm then some (sM b.one b.other) else if y=b.other.nm then some (sM b.other b.one) else none
def qe (pins:ν)(p:aA):List (List (Int×Int)):=p.ws.map fun w=>fJ (gP p.nm w) pins
def eE (pins:ν)(bars:π):List (List (Int×Int)):=(pins.flatMap fun p=>qe pins p)++bars.map fun b=>fJ (fZ b) pins
structure iw (K:Frag)(H:Hp)(r:Addr)(ls:τ)(cp:Δ)(eU:Α):Prop where
 rB:oG H r ls cp
 num:fD K H cp eU
 nr:r∉ls
theorem iw.same {H H' :Hp}{r:Addr}{ls:τ}{cp:Δ}{eU:Α}(h:iw K H r ls cp eU)(s:au H H'):iw K H' r ls cp eU:=⟨h.rB.same s,h.num.same s,h.nr⟩
theorem xt {H:Hp}{cp:Δ}{eU:Α}{us:ζ}{qs:ς}(h:fD K H cp eU)(n:du K H us qs):fD K H (cp++[us]) (eU++[qs]):=by
 refine ⟨by simp [h.1],fun i u q' e1 e2=>?_⟩
 have l:=h.1
 by_cases c:i < cp.length
 ·rw [aaD c] at e1
  rw [aaD (by omega)] at e2
  exact h.2 i u q' e1 e2
 ·rw [aaY (by omega)] at e1 e2
  by_cases z:i - cp.length=0
  ·rw [z] at e1
   rw [show i - eU.length=0 by omega] at e2
   cases e1
   cases e2
   exact n
  ·rw [aaj (by simp;omega)] at e1
   cases e1
theorem Lo {H:Hp}{ls:τ}{cp:Δ}{l:Addr}{us:ζ}(hl:ls.length=cp.length)(h:∀(i:Nat) (l:Addr) (vs:ζ),ls[i]? =some l->cp[i]? =some vs->H l=some (.lst vs))(e:H l=some (.lst us)):
  ∀(i:Nat) (l' :Addr) (vs:ζ),(ls++[l])[i]? =some l' ->(cp++[us])[i]? =some vs->H l' =some (.lst vs):=fun i l' vs e1 e2=>by
 by_cases c:i < ls.length
 ·rw [aaD c] at e1
  rw [aaD (by omega)] at e2
  exact h i l' vs e1 e2
 ·rw [aaY (by omega)] at e1 e2
  by_cases z:i - ls.length=0
  ·rw [z] at e1
   rw [show i - cp.length=0 by omega] at e2
   cases e1
   cases e2
   exact e
  ·rw [aaj (by simp;omega)] at e1
   cases e1
theorem iw.push {H:Hp}{r l:Addr}{ls:τ}{cp:Δ}{eU:Α}{us:ζ}{qs:ς}(h:iw K H r ls cp eU)(e:H l=some (.lst us))(ne:l≠r)(n:du K H us qs):
  iw K (upd H r (.lst (ls.map V.ref++[.ref l]))) r (ls++[l]) (cp++[us]) (eU++[qs]):=by
 have st:aY H (upd H r (.lst (ls.map V.ref++[.ref l]))):=.list h.rB.1
 have hm:∀(i:Nat) (l' :Addr) (vs:ζ),ls[i]? =some l' ->cp[i]? =some vs->(upd H r (.lst (ls.map V.ref++[.ref l]))) l' =some (.lst vs):=fun i l' vs e1 e2=>by
  rw [ao (fun z:l' =r=>h.nr (by rw [<- z];exact be e1))]
  exact h.rB.2.2 i l' vs e1 e2
 refine ⟨⟨by rw [ak,aaH];rfl,by simp [h.rB.2.1],Lo h.rB.2.1 hm (by rw [ao ne];exact e)⟩,?_,?_⟩
 ·exact xt ⟨h.num.1,fun i vs qs e1 e2=>(h.num.2 i vs qs e1 e2).aU st⟩ (n.aU st)
 ·intro z
  rcases aaA.mp z with z | z
  ·exact h.nr z
  ·exact ne (aax.mp z).symm
inductive iG (K:Frag)(C:Addr)(vs:ζ)(H:Hp)(Q:VK)(E_:XK):Prop where
 | mk (a d:Addr) (pins:ν) (bars:π) (kvs:γ) (F:Β) (_:vs=[.ref a,.ref d]) (_:JI K H C a pins bars) (_:pins.length<=100) (_:H d=some (.dK kvs)) (_:Q4 K H kvs F) (_:∀(l:Addr) (us:ζ) (H' :Hp),au H H' ->H l=none->H' l=some (.lst us)->du K H' us (fJ F pins)->Q (.ref l) H'):iG K C vs H Q E_
theorem jM (pins:ν):((pins.map fun p=>(p.nm,oC p.sp)).map (·.1))=pins.map (·.nm):=by rw [aaE];rfl
theorem HQ:aF ["F","draws","row","pin"] zaL (ag AR):=sq
theorem Uk {C aM:Addr}(hM:∀H:Hp,fe K H (.ref aM) (0,0))(Pz:mg "NO_MOVE"=some (.ref aM))(D:Def K mg "pair_row" AR zaL)(MP:bI P w K mg base (bg P w) 1 C "pins" zaj (i_ K C)):Fn P w K mg base (bg P w) 2 "pair_row" zaL (iG K C):=by
 refine D.ok HQ (fun vs H Q E h=>?_) (fun f bM A outer s H vs Q E hr h=>?_)
 ·obtain ⟨a,d,pins,bars,kvs,F,rfl,_⟩:=h
  rfl
 obtain ⟨a,d,pins,bars,kvs,F,rfl,R,lp,hd,hP,q⟩:=h
 refine ⟨_,(ae (aH (i:=2) HQ.nd rfl (aan rfl) (c_ aa))
  (ae (bE PassesOwn.never rfl (bD (fK (k:=1) (pv 0) hr.mo (pY P w))) (aC (i:=3) HQ.nd rfl (aan rfl)) (aj (bf (gd PySem.F.plainAttrs_list PySem.F.slot_list_extend PySem.F.type_list_extend K2 (pv 2) (ar (uV (bX hr) (pv 1) (pv 3) (jq (v:=.ref aM) rfl Pz rfl) ⟨rfl,rfl,rfl,rfl⟩) aa)))))
  (aj (aG (pv 2))))),?_⟩
 refine ⟨(by show 0<=sizeLine;decide),?_⟩
 intro l nl;generalize eX:upd _ l _=H1;have ⟨s1,el⟩:=nw nl eX;clear eX
 have R1:=R.same s1
 obtain ⟨dx,pP,pW,pB,kP,kW,kB,F1,W1⟩:=R1.ex
 refine ⟨_,rfl,a,C,dx,_,_,_,rfl,F1.obj,rfl,MP,a,dx,pP,pW,pB,_,_,kP,kW,kB,rfl,F1,fun lp H2 s2 DW yP=>?_⟩
 rw [jM] at yP
 have v_:=s1.trans s2
 have Ul:lp≠l:=fun z=>by rw [z,el] at DW;cases DW
 refine ⟨lp,rfl,⟨_,a8.of yP⟩,cv (K:=K) (a:=lp) (xs:=(pins.map (·.nm)).map V.str) (fun i σ H' =>∃(o3:ω) (us:ζ),σ=[some (.ref a),some (.ref d),some (.ref l),o3]/\au H H' /\H' lp=some (.lst ((pins.map (·.nm)).map V.str))/\H' l=some (.lst us)/\du K H' us (fJ F (pins.take i))) ⟨none,[],rfl,v_,yP,s2 _ _ el,⟨rfl,fun i u q e=>by simp at e⟩⟩ (fun i σ H' _ h=>by
   obtain ⟨_,_,_,_,h,_⟩:=h
   exact a8.of h) ?_ ?_⟩
 ·rintro i z σ H4 hi ⟨o3,us,rfl,s4,l4,e4,n4⟩
  rw [Wp,Wp] at hi
  obtain ⟨x,hx,rfl⟩:=aar.mp hi
  obtain ⟨p,hp,rfl⟩:=aar.mp hx
  have il:i < pins.length:=(ir.mp hp).1
  have d4:=s4 _ _ hd
  have g1:fe K H4 ((bR kvs (.inr p.nm)).getD (.ref aM)) (mv F p.nm):=(hP.same s4).aac (hM H4)
  obtain ⟨b,u1,u2,eb,hb,h1,h2⟩:=g1
  have lu:us.length<=200:=by
   have:=n4.1
   rw [jL,aa2] at this
   omega
  refine ⟨_,rfl,.inl ⟨rfl,_,a8.of e4⟩,_,rfl,d,rfl,.inl ⟨_,.inl d4⟩,_,rfl,_,cL.k (k:=.inr p.nm) d4,l,b,us,[u1,u2],rfl,by rw [eb],e4,hb,by simp;omega,?_⟩
  have st:aY H4 (upd H4 l (.lst (us++[u1,u2]))):=.list e4
  refine ⟨_,us++[u1,u2],rfl,fun c o z=>?_,?_,ak,?_⟩
  ·rw [ao (aq z nl)]
   exact s4 _ _ z
  ·rw [ao Ul]
   exact l4
  ·rw [take_snoc hp,CK]
   have a1:=du.snoc (K:=K) (n4.aU st) (fW.aU h1 st)
   have a2:=du.snoc (K:=K) a1 (fW.aU h2 st)
   simpa using a2
 ·rintro σ H4 ⟨o3,us,rfl,s4,l4,e4,n4⟩
  rw [aab,aab,abf] at n4
  exact ⟨_,rfl,q l us H4 s4 nl e4 n4⟩
inductive oK (K:Frag)(C:Addr)(vs:ζ)(H:Hp)(Q:VK)(E_:XK):Prop where
 | mk (a:Addr) (pins:ν) (bars:π) (b:aT) (_:vs=[.ref a,.str b.one.nm,.str b.other.nm]) (_:JI K H C a pins bars) (_:fh pins bars) (_:b.one∈pins) (_:b.other∈pins) (_:b.one.nm≠b.other.nm) (_:∀(l:Addr) (us:ζ) (H' :Hp),au H H' ->H l=none->H' l=some (.lst us)->du K H' us (fJ (fZ b) pins)->Q (.ref l) H'):oK K C vs H Q E_
theorem PD (k:Key)(v:V):cf [] [(k,v)]=[(k,v)]:=rfl
theorem PH {k j:Key}(v u:V)(h:k≠j):cf [] [(k,v),(j,u)]=[(k,v),(j,u)]:=by
 show putK [(k,v)] j u=_
 rw [dD]
 ·rfl
 ·rw [bF h]
  rfl
theorem Um:aF zap zap (ag AS):=sq
theorem Uo {C:Addr}(D:Def K mg "bar_row" AS zap)(Up:Fn P w K mg base (bg P w) 36 "arm_between" zap (HP K C))(PJ:Fn P w K mg base (bg P w) 2 "pair_row" zaL (iG K C)):Fn P w K mg base (bg P w) 37 "bar_row" zap (oK K C):=by
 refine D.ok Um (fun vs H Q E h=>?_) (fun f bM A outer s H vs Q E hr h=>?_)
 ·obtain ⟨a,pins,bars,b,rfl,_⟩:=h
  rfl
 obtain ⟨a,pins,bars,b,rfl,R,g,m1,m2,ne,q⟩:=h
 refine ⟨_,(aj (aG (aD PJ hr.mo pX (ar (pv 0) (ar (yA (n_ (pv 1) (aD Up hr.mo pX (ar (pv 0) (ar (pv 1) (ar (pv 2) aa)))) (n_ (pv 2) (aD Up hr.mo pX (ar (pv 0) (ar (pv 2) (ar (pv 1) aa)))) yz)) rfl rfl (aiX _ _) (by decide)) aa))))),?_⟩
 refine ⟨_,rfl,fun d nd=>?_⟩
 have s1:=aK nd (.dK [])
 have e1:(upd H d (.dK [])) d=some (.dK []):=ak
 generalize upd H d (.dK [])=H1 at s1 e1 ⊢
 refine ⟨_,rfl,_,rfl,_,rfl,_,rfl,a,pins,bars,b.one,b.other,rfl,R.same s1,g,m1,m2,fun v1 H2 s2 h2=>?_⟩
 refine ⟨_,rfl,_,rfl,_,rfl,_,rfl,a,pins,bars,b.other,b.one,rfl,(R.same s1).same s2,g,m2,m1,fun v2 H3 s3 h3=>?_⟩
 have e3:=s3 _ _ (s2 _ _ e1)
 refine ⟨e3,[(.inr b.one.nm,v1),(.inr b.other.nm,v2)],rfl,(by show 2<=15;decide),?_⟩
 rw [PH _ _ (fun z=>ne (abx z))]
 have st:aY H3 (upd H3 d (.dK [(.inr b.one.nm,v1),(.inr b.other.nm,v2)])):=.dict e3
 have e4:(upd H3 d (.dK [(.inr b.one.nm,v1),(.inr b.other.nm,v2)])) d=some (.dK [(.inr b.one.nm,v1),(.inr b.other.nm,v2)]):=ak
 have s4:au H (upd H3 d (.dK [(.inr b.one.nm,v1),(.inr b.other.nm,v2)])):=fun c o z=>by
  rw [ao (aq z nd)]
  exact s3 _ _ (s2 _ _ (s1 _ _ z))
 generalize upd H3 d (.dK [(.inr b.one.nm,v1),(.inr b.other.nm,v2)])=H4 at st e4 s4 ⊢
 refine ⟨a,d,pins,bars,_,fZ b,rfl,R.same s4,aai g.lp (by decide),e4,fun x=>?_,fun l us H5 s5 n5 e5 nm=>q l us H5 (s4.trans s5) (s4.free n5) e5 nm⟩
 by_cases c1:x=b.one.nm
 ·subst c1
  exact .inr ⟨v1,sM b.one b.other,bQ rfl,by unfold fZ;rw [if_pos rfl],(h2.same s3).aU st⟩
 ·by_cases c2:x=b.other.nm
  ·subst c2
   exact .inr ⟨v2,sM b.other b.one,by rw [bF (fun z=>c1 (abx z).symm),bQ rfl],by unfold fZ;rw [if_neg c1,if_pos rfl],h3.aU st⟩
  ·exact .inl ⟨by rw [bF (fun z=>c1 (abx z).symm),bF (fun z=>c2 (abx z).symm)];rfl,by unfold fZ;rw [if_neg c1,if_neg c2]⟩
inductive ja (K:Frag)(C:Addr)(vs:ζ)(H:Hp)(Q:VK)(E_:XK):Prop where
 | mk (a:Addr) (pins:ν) (bars:π) (_:vs=[.ref a]) (_:JI K H C a pins bars) (_:fh pins bars) (_:∀(r:Addr) (ls:τ) (cp:Δ) (H' :Hp),au H H' ->H r=none->iw K H' r ls cp (eE pins bars)->Q (.ref r) H'):ja K C vs H Q E_
theorem sN (bars:π):((bars.map fun b=>(b.nm,b.one.nm,b.other.nm)).map (·.1))=bars.map (·.nm):=by rw [aaE];rfl
theorem jN (pins:ν)(h:∀p∈pins,p.ws.length<=2):(pins.flatMap fun p=>p.ws).length<=2*pins.length:=by
 induction pins with
 | nil=>simp
 | cons p ps ih=>
  have h1:=h p aap
  have h2:=ih fun q hq=>h q (aae _ hq)
  rw [aaS,aat,aa5]
  omega
theorem oM (all pins:ν):(pins.flatMap fun p=>qe all p).length=(pins.flatMap fun p=>p.ws).length:=by
 induction pins with
 | nil=>rfl
 | cons p ps ih=>
  rw [aaS,aaS,aat,aat,ih]
  unfold qe
  rw [aab]
theorem kI (pins:ν)(bars:π):(eE pins bars).length=(pins.flatMap fun p=>p.ws).length+bars.length:=by
 unfold eE
 rw [aat,oM,aab]
theorem rC:aF ["F","rows","pin","way","bar","two"] ["F"] (ag AU):=sq
theorem Uq {C:Addr}(D:Def K mg "draw_rows" AU ["F"])(MP:bI P w K mg base (bg P w) 1 C "pins" zaj (i_ K C))(MW:bI P w K mg base (bg P w) 2 C "ways" zam (oI K C))(MB:bI P w K mg base (bg P w) 1 C "bars" zaj (kH K C))(ME:bI P w K mg base (bg P w) 1 C "ends" zaR (sI K C))
  (PJ:Fn P w K mg base (bg P w) 2 "pair_row" zaL (iG K C)) (aaC:Fn P w K mg base (bg P w) 37 "bar_row" zap (oK K C)):Fn P w K mg base (bg P w) 38 "draw_rows" ["F"] (ja K C):=by
 refine D.ok rC (fun vs H Q E h=>?_) (fun f bM A outer s H vs Q E hr h=>?_)
 ·obtain ⟨a,pins,bars,rfl,_⟩:=h
  rfl
 obtain ⟨a,pins,bars,rfl,R,g,q⟩:=h
 refine ⟨_,(ae (aH (i:=1) rC.nd rfl (aan rfl) (c_ aa))
  (ae (bE PassesOwn.never rfl (bD (fK (k:=1) (pv 0) hr.mo (pY P w))) (aC (i:=2) rC.nd rfl (aan rfl)) (aj (bE PassesOwn.never rfl (bD (cK (k:=2) (pv 0) hr.mo (pY P w) (ar (pv 2) aa))) (aC (i:=3) rC.nd rfl (aan rfl)) (aj (bf (gd PySem.F.plainAttrs_list PySem.F.slot_list_append PySem.F.type_list_append cG (pv 1) (ar (aD PJ hr.mo (pY P w) (ar (pv 0) (ar (yA (n_ (pv 2) (pv 3) yz) rfl rfl (aiX _ _) (by decide)) aa))) aa)))))))
  (ae (bE PassesOwn.never rfl (bD (fK (k:=1) (pv 0) hr.mo (pY P w))) (aC (i:=4) rC.nd rfl (aan rfl)) (ae (aH (i:=5) rC.nd rfl (aan rfl) (cK (k:=1) (pv 0) hr.mo (pY P w) (ar (pv 4) aa)))
   (aj (bf (gd PySem.F.plainAttrs_list PySem.F.slot_list_append PySem.F.type_list_append cG (pv 1) (ar (aD aaC hr.mo (pY P w) (ar (pv 0) (ar (aJ (pv 5)) (ar (aJ (pv 5)) aa)))) aa))))))
  (aj (aG (pv 1)))))),?_⟩
 refine ⟨(by show 0<=sizeLine;decide),?_⟩
 intro r nr;generalize eX:upd _ r _=H1;have ⟨s1,er⟩:=nw nr eX;clear eX
 have big:(40:Nat)<=sizeLine:=by decide
 have wl:=jN pins g.lw
 have gl:=g.lp
 have R0:iw K H1 r [] [] []:=⟨⟨er,rfl,fun i l vs e=>by simp at e⟩,⟨rfl,fun i vs qs e=>by simp at e⟩,by simp⟩
 have R1:=R.same s1
 obtain ⟨dx,pP,pW,pB,kP,kW,kB,F1,W1⟩:=R1.ex
 refine ⟨_,rfl,a,C,dx,_,_,_,rfl,F1.obj,rfl,MP,a,dx,pP,pW,pB,_,_,kP,kW,kB,rfl,F1,fun lp H2 s2 DW yP=>?_⟩
 rw [jM] at yP
 have v_:=s1.trans s2
 have Ul:lp≠r:=fun z=>by rw [z,er] at DW;cases DW
 refine ⟨lp,rfl,⟨_,a8.of yP⟩,cv (K:=K) (a:=lp) (xs:=(pins.map (·.nm)).map V.str) (fun i σ H' =>∃(o2 o3:ω) (ls:τ) (cp:Δ),σ=[some (.ref a),some (.ref r),o2,o3,none,none]/\au H H' /\H' lp=some (.lst ((pins.map (·.nm)).map V.str))/\iw K H' r ls cp ((pins.take i).flatMap fun p=>qe pins p)) ⟨none,none,[],[],rfl,v_,yP,R0.same s2⟩ (fun i σ H' _ h=>by
   obtain ⟨_,_,_,_,_,_,h,_⟩:=h
   exact a8.of h) ?_ ?_⟩
 ·rintro i z σ H4 hi ⟨o2,o3,ls,cp,rfl,s4,l4,RR⟩
  rw [Wp,Wp] at hi
  obtain ⟨x,hx,rfl⟩:=aar.mp hi
  obtain ⟨p,hp,rfl⟩:=aar.mp hx
  have mp:p∈pins:=be hp
  have R4:=R.same s4
  obtain ⟨dx,pP,pW,pB,kP,kW,kB,F4,W4⟩:=R4.ex
  have mpn:p.nm∈(pins.map fun p=>(p.nm,oC p.sp)).map (·.1):=by rw [jM];exact aad.mpr ⟨p,mp,rfl⟩
  refine ⟨_,rfl,a,C,dx,_,_,_,rfl,F4.obj,rfl,MW,_,rfl,a,dx,pP,pW,pB,_,_,kP,kW,kB,_,p.nm,p.ws,rfl,F4,W4,Nu g.np,aad.mpr ⟨p,mp,rfl⟩,mpn,fun m us H5 s5 n5 e5 p5=>?_⟩
  have lu:us.length=p.ws.length:=Paired.length p5
  have sO:=s4.trans s5
  have mr:m≠r:=fun z=>by rw [z,RR.rB.1] at n5;cases n5
  refine ⟨m,rfl,⟨_,a8.of e5⟩,cv (K:=K) (a:=m) (xs:=us) (fun j σ H' =>∃(o3:ω) (ls:τ) (cp:Δ),σ=[some (.ref a),some (.ref r),some (.str p.nm),o3,none,none]/\au H H' /\H' lp=some (.lst ((pins.map (·.nm)).map V.str))/\H' m=some (.lst us)/\g8 K H' us p.ws/\iw K H' r ls cp (((pins.take i).flatMap fun p=>qe pins p)++(p.ws.take j).map fun w=>fJ (gP p.nm w) pins)) ⟨o3,ls,cp,rfl,sO,s5 _ _ l4,e5,p5,by simpa using RR.same s5⟩ (fun j σ H' _ h=>by
    obtain ⟨_,_,_,_,_,_,h,_⟩:=h
    exact a8.of h) ?_ ?_⟩
  ·rintro j u σ H6 hu ⟨o3,ls,cp,rfl,s6,l6,e6,p6,vp⟩
   obtain ⟨w,ew,hw⟩:=av p6 hu
   have jl:=(ir.mp hu).1
   refine ⟨_,rfl,.inl ⟨rfl,_,a8.of vp.rB.1⟩,_,rfl,fun d nd=>?_⟩
   have t1:=aK nd (.dK [])
   have d1:(upd H6 d (.dK [])) d=some (.dK []):=ak
   generalize upd H6 d (.dK [])=H7 at t1 d1 ⊢
   refine ⟨_,rfl,_,rfl,d1,[(.inr p.nm,u)],rfl,(by show 1<=15;decide),?_⟩
   rw [PD]
   have st:aY H7 (upd H7 d (.dK [(.inr p.nm,u)])):=.dict d1
   have d8:(upd H7 d (.dK [(.inr p.nm,u)])) d=some (.dK [(.inr p.nm,u)]):=ak
   have t8:au H6 (upd H7 d (.dK [(.inr p.nm,u)])):=fun c o z=>by
    rw [ao (aq z nd)]
    exact t1 _ _ z
   have hw8:=(hw.same t1).aU st
   generalize upd H7 d (.dK [(.inr p.nm,u)])=H8 at d8 t8 hw8 ⊢
   have s8:=s6.trans t8
   refine ⟨a,d,pins,bars,_,gP p.nm w,rfl,R.same s8,aai g.lp (by decide),d8,fun x=>?_,fun l jI H9 t9 n9 e9 nm=>?_⟩
   ·by_cases c1:x=p.nm
    ·subst c1
     exact .inr ⟨u,w,bQ rfl,by unfold gP;rw [if_pos rfl],hw8⟩
    ·exact .inl ⟨by rw [bF (fun z=>c1 (abx z).symm)];rfl,by unfold gP;rw [if_neg c1]⟩
   have t69:=t8.trans t9
   have Ra:=vp.same t69
   have lr:l≠r:=fun z=>by rw [z,t8 _ _ vp.rB.1] at n9;cases n9
   have lss:ls.length<=18:=by
    have h1:=vp.rB.2.1
    have h2:=vp.num.1
    rw [aat,aab,aa2,oM] at h2
    have h3:((pins.take i).flatMap fun p=>p.ws).length+p.ws.length<=(pins.flatMap fun p=>p.ws).length:=by
     have e:pins=pins.take i++p::pins.drop (i+1):=by
      have lt:=(ir.mp hp).1
      have e2:=(ir.mp hp).2
      rw [<- e2,aik,ahJ]
     have e3:=congrArg (fun l:List aA=>(l.flatMap fun p=>p.ws).length) e
     simp only [ab7,aaS,aat] at e3
     omega
    omega
   refine ⟨r,_,_,rfl,rfl,Ra.rB.1,(by rw [aab];omega),?_⟩
   have RN:=Ra.push e9 lr nm
   have tr:aY H9 (upd H9 r (.lst (ls.map V.ref++[.ref l]))):=.list Ra.rB.1
   have kk:∀b o,b≠r->H6 b=some o->(upd H9 r (.lst (ls.map V.ref++[.ref l]))) b=some o:=fun b o n e=>by rw [ao n];exact t69 _ _ e
   refine ⟨_,ls++[l],cp++[jI],rfl,fun b o e=>?_,kk _ _ Ul l6,kk _ _ mr e6,(p6.same t69).aU tr,?_⟩
   ·exact kk _ _ (aq e nr) (s6 _ _ e)
   ·rw [take_snoc ew,aaH, <- ahk]
    exact RN
  ·rintro σ H6 ⟨o3,ls,cp,rfl,s6,l6,e6,p6,vp⟩
   refine ⟨_,_,ls,cp,rfl,s6,l6,?_⟩
   rw [lu,abf] at vp
   rw [take_snoc hp,ab7]
   simpa [qe] using vp
 ·rintro σ H4 ⟨o2,o3,ls,cp,rfl,s4,l4,RR⟩
  rw [aab,aab,abf] at RR
  have R4:=R.same s4
  obtain ⟨dx,pP,pW,pB,kP,kW,kB,F4,W4⟩:=R4.ex
  refine ⟨_,rfl,a,C,dx,_,_,_,rfl,F4.obj,rfl,MB,a,dx,pP,pW,pB,_,_,kP,kW,kB,rfl,F4,fun lb H5 s5 YI HR=>?_⟩
  rw [sN] at HR
  have bne:lb≠r:=fun z=>by rw [z,RR.rB.1] at YI;cases YI
  refine ⟨lb,rfl,⟨_,a8.of HR⟩,cv (K:=K) (a:=lb) (xs:=(bars.map (·.nm)).map V.str) (fun i σ H' =>∃(o4 o5:ω) (ls:τ) (cp:Δ),σ=[some (.ref a),some (.ref r),o2,o3,o4,o5]/\au H H' /\H' lb=some (.lst ((bars.map (·.nm)).map V.str))/\iw K H' r ls cp ((pins.flatMap fun p=>qe pins p)++(bars.take i).map fun b=>fJ (fZ b) pins)) ⟨none,none,ls,cp,rfl,s4.trans s5,HR,by simpa using RR.same s5⟩ (fun i σ H' _ h=>by
    obtain ⟨_,_,_,_,_,_,h,_⟩:=h
    exact a8.of h) ?_ ?_⟩
  ·rintro i z σ H6 hi ⟨o4,o5,ls,cp,rfl,s6,l6,vp⟩
   rw [Wp,Wp] at hi
   obtain ⟨x,hx,rfl⟩:=aar.mp hi
   obtain ⟨b,hb,rfl⟩:=aar.mp hx
   have mb:b∈bars:=be hb
   have il:=(ir.mp hb).1
   have R6:=R.same s6
   obtain ⟨dx,pP,pW,pB,kP,kW,kB,F6,W6⟩:=R6.ex
   refine ⟨_,rfl,a,C,dx,_,_,_,rfl,F6.obj,rfl,ME,_,rfl,a,dx,pP,pW,pB,_,_,kP,kW,kB,b.nm,b.one.nm,b.other.nm,rfl,F6,Uh g.nb,aad.mpr ⟨b,mb,rfl⟩,fun p rd=>?_⟩
   have tp:bU K H6 p [.str b.one.nm,.str b.other.nm]:=.inl rd
   obtain ⟨m1,m2,m3⟩:=g.ends b mb
   refine ⟨_,rfl,.inl ⟨rfl,_,a8.of vp.rB.1⟩,_,rfl,_,rfl,p,_,_,_,rfl,rfl,tp,g9,_,rfl,p,_,_,_,rfl,rfl,tp,ip,?_⟩
   refine ⟨a,pins,bars,b,rfl,R6,g,m1,m2,m3,fun l jI H9 t9 n9 e9 nm=>?_⟩
   have Ra:=vp.same t9
   have lr:l≠r:=fun z=>by rw [z,vp.rB.1] at n9;cases n9
   have lss:ls.length<=58:=by
    have h1:=vp.rB.2.1
    have h2:=vp.num.1
    rw [aat,aab,aa2,oM] at h2
    have:=g.lb
    omega
   refine ⟨r,_,_,rfl,rfl,Ra.rB.1,(by rw [aab];exact aaq (show ls.length<=1000 by omega) (by decide)),?_⟩
   have RN:=Ra.push e9 lr nm
   have kk:∀c o,c≠r->H6 c=some o->(upd H9 r (.lst (ls.map V.ref++[.ref l]))) c=some o:=fun c o n e=>by rw [ao n];exact t9 _ _ e
   refine ⟨_,_,ls++[l],cp++[jI],rfl,fun c o e=>kk _ _ (aq e nr) (s6 _ _ e),kk _ _ bne l6,?_⟩
   rw [take_snoc hb,aaH, <- ahk]
   exact RN
  ·rintro σ H6 ⟨o4,o5,ls,cp,rfl,s6,l6,vp⟩
   rw [aab,aab,abf] at vp
   exact ⟨_,rfl,q r ls cp H6 s6 nr vp⟩
theorem HS {xs:ζ}{i j:Nat}(h:i<=j)(hj:j<=xs.length):fH xs (some (i:Int)) (some (j:Int))=(xs.drop i).take (j - i):=by
 unfold fH
 rw [HT.mM,HT.mM,ahU hj,ahU (show i<=xs.length by omega)]
theorem gQ {α β:Type}{R:α->β->Prop}:∀{l:List α} {m:List β} (n:Nat),Paired R l m->Paired R (l.drop n) (m.drop n)
 | _,_,0,h=>h
 | _,_,_+1,.nil=>.nil
 | _,_,n+1,.cons _ t=>gQ n t
theorem jO {α β:Type}{R:α->β->Prop}:∀{l:List α} {m:List β} (n:Nat),Paired R l m->Paired R (l.take n) (m.take n)
 | _,_,0,_=>.nil
 | _,_,_+1,.nil=>.nil
 | _,_,n+1,.cons h t=>.cons h (jO n t)
theorem jP:∀(more kvs:γ),((kvs++more).map (·.1)).Nodup->cf kvs more=kvs++more
 | [],kvs,_=>by simp [cf]
 | p::r,kvs,h=>by
  have e:cf kvs (p::r)=cf (putK kvs p.1 p.2) r:=rfl
  have hn:p.1∉kvs.map (·.1):=fun z=>by
   rw [aaH,aal,aby] at h
   exact h.2.2 p.1 z p.1 aap rfl
  rw [e,dD _ (dh hn),jP r (kvs++[(p.1,p.2)]) (by rw [ahk];exact h),ahk]
  rfl
theorem yQ {R:V->Rat->Prop}:∀{bars:π} {ys:ζ} {rs:List Rat},(bars.map (·.nm)).Nodup->bars.length=rs.length->Paired R ys rs->
  ∃T:Str->Rat,bars.map (fun b=>T b.nm)=rs/\(((bars.map fun b=>(abc b.nm:Key)).zip ys).map (·.1))=bars.map (fun b=>(abc b.nm:Key))/\∀b∈bars,∃v,bR ((bars.map fun b=>(abc b.nm:Key)).zip ys) (.inr b.nm)=some v/\R v (T b.nm)
 | [],_,[],_,_,.nil=>⟨fun _=>0,rfl,rfl,by simp⟩
 | _::_,[],_,_,hl,.nil=>by simp at hl
 | b::bs,y::ys,r::rs,nd,hl,.cons h t=>by
  rw [aal,aaX] at nd
  obtain ⟨T,h1,h2,h3⟩:=yQ nd.2 (by simpa using hl) t
  have ne:∀c∈bs,c.nm≠b.nm:=fun c hc z=>nd.1 (z▸aad.mpr ⟨c,hc,rfl⟩)
  obtain ⟨T',t1,t2⟩:∃T' :Str->Rat,T' b.nm=r/\∀x,x≠b.nm->T' x=T x:=⟨fun x=>if x=b.nm then r else T x,if_pos rfl,fun x h=>if_neg h⟩
  refine ⟨T',?_,?_,fun c hc=>?_⟩
  ·have em:bs.map (fun c=>T' c.nm)=rs:=by
    rw [<- h1]
    exact abt fun c hc=>t2 _ (ne c hc)
   rw [aal,t1,em]
  ·rw [aal,aiD,aal,h2]
  ·rw [aal,aiD]
   rcases aaN.mp hc with e | hc
   ·subst e
    exact ⟨y,bQ rfl,by rw [t1];exact h⟩
   ·obtain ⟨v,e1,e2⟩:=h3 c hc
    refine ⟨v,?_,by rw [t2 _ (ne c hc)];exact e2⟩
    rw [bF (fun z=>ne c hc (abx z).symm)]
    exact e1
def aR (pins:ν):Nat:=(pins.flatMap fun p=>p.ws).length
theorem oN (ps:ν)(p:aA):aR (ps++[p])=aR ps+p.ws.length:=by
 unfold aR
 rw [ab7,aat]
 simp
theorem xu {pins:ν}{i:Nat}{p:aA}(h:pins[i]? =some p):aR (pins.take i)+p.ws.length<=aR pins:=by
 have e:pins=pins.take i++p::pins.drop (i+1):=by
  have lt:=(ir.mp h).1
  have e2:=(ir.mp h).2
  rw [<- e2,aik,ahJ]
 have e3:=congrArg (fun l:List aA=>(l.flatMap fun p=>p.ws).length) e
 simp only [ab7,aaS,aat] at e3
 unfold aR
 omega
structure PPR (K:Frag)(H H' :Hp)(pins:ν)(bars:π)(dT dU:Addr)(kT kU:γ)(T:Μ)(U:χ)(L:Str->Addr):Prop where
 nT:H dT=none
 nU:H dU=none
 ne:dT≠dU
 hT:H' dT=some (.dK kT)
 hU:H' dU=some (.dK kU)
 xw:kT.map (·.1)=bars.map (fun b=>(abc b.nm:Key))
 xx:kU.map (·.1)=pins.map (fun p=>(abc p.nm:Key))
 tT:∀b∈bars,∃v,bR kT (.inr b.nm)=some v/\fW K H' v (T b.nm)
 tU:∀p∈pins,∃vs,bR kU (.inr p.nm)=some (.ref (L p.nm))/\H (L p.nm)=none/\H' (L p.nm)=some (.lst vs)/\Paired (fW K H') vs (U p.nm)
 lU:∀p∈pins,(U p.nm).length=p.ws.length
 inj:∀p∈pins,∀q∈pins,L p.nm=L q.nm->p.nm=q.nm
inductive PK (K:Frag)(C:Addr)(vs:ζ)(H:Hp)(Q:VK)(E_:XK):Prop where
 | mk (a nl:Addr) (pins:ν) (bars:π) (us:ζ) (rs:List Rat) (_:vs=[.ref a,.ref nl]) (_:JI K H C a pins bars) (_:fh pins bars) (_:H nl=some (.lst us)) (_:Paired (fW K H) us rs) (_:rs.length=aR pins+bars.length) (_:∀(T:Μ) (U:χ) (L:Str->Addr) (p dT dU:Addr) (kT kU:γ) (H' :Hp),au H H' ->rs=(pins.flatMap fun p=>U p.nm)++bars.map (fun b=>T b.nm)->H' p=some (.tup [.ref dT,.ref dU])->PPR K H H' pins bars dT dU kT kU T U L->Q (.ref p) H'):PK K C vs H Q E_
theorem xy {ps:ν}{U W:χ}(h:∀p∈ps,U p.nm=W p.nm):(ps.flatMap fun p=>U p.nm)=ps.flatMap fun p=>W p.nm:=by
 induction ps with
 | nil=>rfl
 | cons p ps ih=>
  rw [aaS,aaS,h p aap,ih fun q hq=>h q (aae _ hq)]
theorem oO:aF ["F","numbers","pushes","at","pin","behind","pulls"] zaQ (ag AV):=sq
theorem Ur {C:Addr}(D:Def K mg "pulls_and_pushes" AV zaQ)(a_:mg "len"=none)(f7:mg "dict"=none)(rm:mg "zip"=none)(MP:bI P w K mg base (bg P w) 1 C "pins" zaj (i_ K C))(MW:bI P w K mg base (bg P w) 2 C "ways" zam (oI K C))(MB:bI P w K mg base (bg P w) 1 C "bars" zaj (kH K C)):
  Fn P w K mg base (bg P w) 3 "pulls_and_pushes" zaQ (PK K C):=by
 refine D.ok oO (fun vs H Q E h=>?_) (fun f bM A outer s H vs Q E hr h=>?_)
 ·obtain ⟨a,nl,pins,bars,us,rs,rfl,_⟩:=h
  rfl
 obtain ⟨a,nl,pins,bars,us,rs,rfl,R,g,hn,hu,hl,q⟩:=h
 have lu:us.length=rs.length:=Paired.length hu
 have wl:aR pins<=2*pins.length:=jN pins g.lw
 have gl:=g.lp
 have gb:=g.lb
 refine ⟨_,(ae (aH (i:=2) oO.nd rfl (aan rfl) eR)
  (ae (aH (i:=3) oO.nd rfl (aan rfl) ah)
  (ae (bE PassesOwn.never rfl (bD (fK (k:=1) (pv 0) hr.mo (pY P w))) (aC (i:=4) oO.nd rfl (aan rfl)) (ae (aH (i:=5) oO.nd rfl (aan rfl) (aL b6 (pv 3) (aI aE rfl a_ bT (ar (cK (k:=2) (pv 0) hr.mo (pY P w) (ar (pv 4) aa)) aa))))
   (ae (fL (bX hr) (pv 2) (pv 4) (eQ mN (pv 1) (dS (pv 3)) (dS (pv 5))) rfl)
   (aj (aH (i:=3) oO.nd rfl (aan rfl) (pv 5))))))
  (ae (aH (i:=6) oO.nd rfl (aan rfl) (G_ rfl rfl f7 rfl rm (ar (fK (k:=1) (pv 0) hr.mo (pY P w)) (ar (eQ mN (pv 1) (dS (pv 3)) ju) aa))))
  (aj (aG (aV (ar (pv 6) (ar (pv 2) aa))))))))),?_⟩
 intro dU nU
 have s1:=aK nU (.dK [])
 have e1:(upd H dU (.dK [])) dU=some (.dK []):=ak
 generalize upd H dU (.dK [])=H1 at s1 e1 ⊢
 have R1:=R.same s1
 obtain ⟨dx,pP,pW,pB,kP,kW,kB,F1,W1⟩:=R1.ex
 refine ⟨_,rfl,a,C,dx,_,_,_,rfl,F1.obj,rfl,MP,a,dx,pP,pW,pB,_,_,kP,kW,kB,rfl,F1,fun lp H2 s2 DW yP=>?_⟩
 rw [jM] at yP
 have v_:=s1.trans s2
 have Ul:lp≠dU:=fun z=>by rw [z,e1] at DW;cases DW
 refine ⟨lp,rfl,⟨_,a8.of yP⟩,cv (K:=K) (a:=lp) (xs:=(pins.map (·.nm)).map V.str) (fun i σ H' =>∃(o4 o5:ω) (kU:γ) (U:χ) (L:Str->Addr),σ=[some (.ref a),some (.ref nl),some (.ref dU),some (.int (aR (pins.take i):Int)),o4,o5,none]/\au H H' /\H' lp=some (.lst ((pins.map (·.nm)).map V.str))/\H' dU=some (.dK kU)/\kU.map (·.1)=(pins.take i).map (fun p=>(abc p.nm:Key))/\((pins.take i).flatMap fun p=>U p.nm)=rs.take (aR (pins.take i))/\
   (∀p∈pins.take i,∃vs,bR kU (.inr p.nm)=some (.ref (L p.nm))/\H (L p.nm)=none/\H' (L p.nm)=some (.lst vs)/\Paired (fW K H') vs (U p.nm))/\(∀p∈pins.take i,(U p.nm).length=p.ws.length)/\(∀p∈pins.take i,∀q∈pins.take i,L p.nm=L q.nm->p.nm=q.nm))
   ⟨none,none,[],fun _=>[],fun _=>0,rfl,v_,yP,s2 _ _ e1,rfl,rfl,by simp,by simp,by simp⟩ (fun i σ H' _ h=>by
   obtain ⟨_,_,_,_,_,_,_,h,_⟩:=h
   exact a8.of h) ?_ ?_⟩
 ·rintro i z σ H4 hi ⟨o4,o5,kU,U,L,rfl,s4,l4,e4,ks,fl,tU,lU,inj⟩
  rw [Wp,Wp] at hi
  obtain ⟨x,hx,rfl⟩:=aar.mp hi
  obtain ⟨p,hp,rfl⟩:=aar.mp hx
  have mp:p∈pins:=be hp
  have il:i < pins.length:=(ir.mp hp).1
  have R4:=R.same s4
  obtain ⟨dx,pP,pW,pB,kP,kW,kB,F4,W4⟩:=R4.ex
  have mpn:p.nm∈(pins.map fun p=>(p.nm,oC p.sp)).map (·.1):=by rw [jM];exact aad.mpr ⟨p,mp,rfl⟩
  refine ⟨_,rfl,_,rfl,a,C,dx,_,_,_,rfl,F4.obj,rfl,MW,_,rfl,a,dx,pP,pW,pB,_,_,kP,kW,kB,_,p.nm,p.ws,rfl,F4,W4,Nu g.np,aad.mpr ⟨p,mp,rfl⟩,mpn,fun m vs H5 s5 n5 e5 p5=>?_⟩
  have lv:vs.length=p.ws.length:=Paired.length p5
  refine ⟨m,_,rfl,.inl (a8.of e5),_,_,rfl,rfl,?_⟩
  have tk:=take_snoc hp
  have wn:aR (pins.take (i+1))=aR (pins.take i)+p.ws.length:=by rw [tk,oN]
  have wt:=xu hp
  have eb:(aR (pins.take i):Int)+((vs.length:Nat):Int)=((aR (pins.take (i+1)):Nat):Int):=by rw [wn,lv];omega
  have Us:=s4.trans s5
  have hn5:=Us _ _ hn
  dsimp only
  rw [eb]
  refine ⟨_,rfl,_,rfl,_,rfl,_,rfl,_,rfl,nl,_,rfl,a8.of hn5,?_⟩
  rw [HS (by omega) (by omega)]
  intro m2 n6;generalize eX:upd _ m2 _=H6;have ⟨s6,e6⟩:=nw n6 eX;clear eX
  have e46:=s6 _ _ (s5 _ _ e4)
  have lk:kU.length<=9:=by
   have z:=congrArg abO ks
   rw [aab,aab,aa2] at z
   omega
  refine ⟨_,rfl,_,rfl,dU,_,rfl,ku.k (k:=.inr p.nm) e46 (aaq (show kU.length<=1000 by omega) (by decide)),?_⟩
  have fresh:(abc p.nm:Key)∉kU.map (·.1):=by
   rw [ks]
   intro z
   obtain ⟨b',gi,JM⟩:=aad.mp z
   exact jD (nm:=aA.nm) g.np hp gi (abx JM)
  have pk:putK kU (.inr p.nm) (.ref m2)=kU++[(.inr p.nm,.ref m2)]:=dD _ (dh fresh)
  have t6:aY H6 (upd H6 dU (.dK (putK kU (.inr p.nm) (.ref m2)))):=.dict e46
  have v9:=s5.trans s6
  have md:m2≠dU:=fun z=>by rw [z,s5 _ _ e4] at n6;cases n6
  have kk:∀b o,b≠dU->H4 b=some o->(upd H6 dU (.dK (putK kU (.inr p.nm) (.ref m2)))) b=some o:=fun b o n e=>by rw [ao n];exact v9 _ _ e
  have ne:∀p' ∈pins.take i,p'.nm≠p.nm:=fun p' kJ =>jD (nm:=aA.nm) g.np hp kJ
  have sQ :∀p' ∈pins.take (i+1),p' ∈pins.take i\/p' =p:=fun p' kJ =>by
   rw [tk] at kJ
   rcases aaA.mp kJ with h | h
   ·exact .inl h
   ·exact .inr (aax.mp h)
  have hold:∀p' ∈pins.take i,∃o,H4 (L p'.nm)=some o:=fun p' kJ =>by
   obtain ⟨vs,_,_,h,_⟩:=tU p' kJ
   exact ⟨_,h⟩
  obtain ⟨U',hU1,hU2⟩:∃U' :Str->List Rat,U' p.nm=(rs.drop (aR (pins.take i))).take p.ws.length/\∀x,x≠p.nm->U' x=U x:=⟨fun x=>if x=p.nm then (rs.drop (aR (pins.take i))).take p.ws.length else U x,if_pos rfl,fun x h=>if_neg h⟩
  obtain ⟨L',Ts,Nn⟩:∃L' :Str->Addr,L' p.nm=m2/\∀x,x≠p.nm->L' x=L x:=⟨fun x=>if x=p.nm then m2 else L x,if_pos rfl,fun x h=>if_neg h⟩
  refine ⟨_,rfl,_,_,putK kU (.inr p.nm) (.ref m2),U',L',rfl,fun b o e=>?_,kk _ _ Ul l4,ak,?_,?_,fun p' kJ =>?_,fun p' kJ =>?_,fun p' kJ q' g7 =>?_⟩
  ·rw [ao (aq e nU)]
   exact v9 _ _ (s4 _ _ e)
  ·rw [pk,aaH,ks,tk,aaH]
   rfl
  ·rw [tk,ab7,oN]
   rw [xy (U:=U') (W:=U) fun p' kJ =>hU2 _ (ne p' kJ),fl]
   simp only [aaS,List.flatMap_nil,ahS,hU1]
   rw [List.take_add]
  ·rw [FW]
   rcases sQ p' kJ with h | h
   ·rw [if_neg (fun z=>ne p' h (abx z)),Nn _ (ne p' h),hU2 _ (ne p' h)]
    obtain ⟨ck,h1,h2,h3,h4⟩:=tU p' h
    exact ⟨ck,h1,h2,kk _ _ (fun z=>by rw [z,e4] at h3;cases h3) h3,Paired.bJ h4 fun _ _ z=>(z.same v9).aU t6⟩
   ·subst h
    rw [if_pos rfl,Ts,hU1]
    refine ⟨_,rfl,(s4.trans s5).free n6,by rw [ao md];exact e6,?_⟩
    have a1:=jO (aR (pins.take (i+1)) - aR (pins.take i)) (gQ (aR (pins.take i)) hu)
    have a2:aR (pins.take (i+1)) - aR (pins.take i)=p'.ws.length:=by omega
    rw [a2] at a1 ⊢
    exact Paired.bJ a1 fun _ _ z=>((z.same s4).same v9).aU t6
  ·rcases sQ p' kJ with h | h
   ·rw [hU2 _ (ne p' h)]
    exact lU p' h
   ·subst h
    rw [hU1,aa2,ahL]
    omega
  ·rcases sQ p' kJ with h | h <;> rcases sQ q' g7 with h' | h'
   ·rw [Nn _ (ne p' h),Nn _ (ne q' h')]
    exact inj p' h q' h'
   ·subst h'
    rw [Nn _ (ne p' h),Ts]
    intro z
    obtain ⟨o,ho⟩:=hold p' h
    rw [z,s5.free n6] at ho
    cases ho
   ·subst h
    rw [Nn _ (ne q' h'),Ts]
    intro z
    obtain ⟨o,ho⟩:=hold q' h'
    rw [<- z,s5.free n6] at ho
    cases ho
   ·intro _
    rw [h,h']
 ·rintro σ H4 ⟨o4,o5,kU,U,L,rfl,s4,l4,e4,ks,fl,tU,lU,inj⟩
  rw [aab,aab,abf] at ks fl tU lU inj
  have R4:=R.same s4
  obtain ⟨dx,pP,pW,pB,kP,kW,kB,F4,W4⟩:=R4.ex
  refine ⟨_,rfl,a,C,dx,_,_,_,rfl,F4.obj,rfl,MB,a,dx,pP,pW,pB,_,_,kP,kW,kB,rfl,F4,fun lb H5 s5 YI HR=>?_⟩
  rw [sN] at HR
  have Us:=s4.trans s5
  refine ⟨_,rfl,_,rfl,_,rfl,nl,_,rfl,a8.of (Us _ _ hn),?_⟩
  have hw:aR pins<=us.length:=by omega
  rw [aab,aab,abf,rq hw]
  intro m2 n6;generalize eX:upd _ m2 _=H6;have ⟨s6,e6⟩:=nw n6 eX;clear eX
  have hp6:Paired (fW K H6) (us.drop (aR pins)) (rs.drop (aR pins)):=Paired.bJ (gQ (aR pins) hu) fun _ _ z=>(z.same Us).same s6
  obtain ⟨T,h1,h2,h3⟩:=yQ (R:=fW K H6) g.nb (by rw [ahL];omega) hp6
  have eks:(bars.map (·.nm)).map V.str=(bars.map fun b=>(abc b.nm:Key)).map kV:=by
   rw [aaE,aaE]
   rfl
  rw [eks] at HR
  refine ⟨lb,m2,bars.map fun b=>(abc b.nm:Key),us.drop (aR pins),rfl,s6 _ _ HR,e6,by rw [aab];omega,fun dT H7 s7 n7 e7=>?_⟩
  have ndk:(bars.map fun b=>(abc b.nm:Key)).Nodup:=by
   have:=AG g.nb
   rw [aaE] at this
   exact this
  rw [jP _ [] (by rw [ahw,h2];exact ndk),ahw] at e7
  refine ⟨_,rfl,_,rfl,(by show 2<=sizeLine;decide),?_⟩
  intro pt n8;generalize eX:upd _ pt _=H8;have ⟨s8,e8⟩:=nw n8 eX;clear eX
  have Rb:=(s5.trans s6).trans (s7.trans s8)
  have s08:=s4.trans Rb
  have er:rs=(pins.flatMap fun p=>U p.nm)++bars.map (fun b=>T b.nm):=by rw [fl,h1,ahJ]
  refine q T U L pt dT dU _ kU H8 s08 er e8 ⟨(Us.trans s6).free n7,nU,(fun z=>by rw [z,s6 _ _ (s5 _ _ e4)] at n7;cases n7),s8 _ _ e7,Rb _ _ e4,h2,ks,fun b hb=>?_,fun p hp=>?_,lU,inj⟩
  ·obtain ⟨v,e1,e2⟩:=h3 b hb
   exact ⟨v,e1,(e2.same s7).same s8⟩
  ·obtain ⟨ck,a1,a2,a3,a4⟩:=tU p hp
   exact ⟨ck,a1,a2,Rb _ _ a3,Paired.bJ a4 fun _ _ z=>z.same Rb⟩
def dt (a b:Rat×Rat):Rat:=a.1*b.1+a.2*b.2
def sP (as bs:List Rat):Rat:=(ace (·*·) as bs).sum
theorem gR (bs:List Rat):sP [] bs=0:=by simp [sP]
theorem dG (a b:Rat)(as bs:List Rat):sP (a::as) (b::bs)=a*b+sP as bs:=by simp [sP]
theorem kK:∀{a c:List Rat} (b d:List Rat),a.length=c.length->sP (a++b) (c++d)=sP a c+sP b d
 | [],[],b,d,_=>by
  rw [ahw,ahw,gR]
  grind
 | x::a,y::c,b,d,h=>by
  rw [ahM,ahM,dG,dG,kK b d (by simpa using h)]
  grind
 | [],_::_,_,_,h=>by simp at h
 | _::_,[],_,_,h=>by simp at h
theorem xA (x:Str)(w:Rat×Rat)(y:Str):mv (gP x w) y=if y=x then w else (0,0):=by
 unfold mv gP
 by_cases e:y=x
 ·rw [if_pos e,if_pos e]
  rfl
 ·rw [if_neg e,if_neg e]
  rfl
def fE (bars:π)(T:Μ)(U:χ)(p:aA)(c:Rat×Rat->Rat):Rat:=sP (U p.nm) (p.ws.map c)+(bars.map fun b=>T b.nm*c (mv (fZ b) p.nm)).sum
theorem yR:∀(as:List Rat) {α:Type} (l:List α),sP as (l.map fun _=>(0:Rat))=0
 | [],_,_=>gR _
 | _::_,_,[]=>by simp [sP]
 | a::as,_,x::l=>by
  rw [aal,dG,yR as l]
  grind
theorem yS {U:χ}{c:Rat×Rat->Rat}(c0:c (0,0)=0)(p:aA):∀(ps:ν),(ps.map (·.nm)).Nodup->(∀q∈ps,(U q.nm).length=q.ws.length)->(∀q∈ps,q.nm=p.nm->q=p)->
  sP (ps.flatMap fun q=>U q.nm) (ps.flatMap fun q=>q.ws.map fun w=>c (mv (gP q.nm w) p.nm))=if p.nm∈ps.map (·.nm) then sP (U p.nm) (p.ws.map c) else 0
 | [],_,_,_=>by simp [sP]
 | q::ps,nd,hl,inj=>by
  rw [aal,aaX] at nd
  have ih:=yS c0 p ps nd.2 (fun r hr=>hl r (aae _ hr)) fun r hr=>inj r (aae _ hr)
  rw [aaS,aaS,kK _ _ (by rw [hl q aap,aab]),ih,aal]
  by_cases e:q.nm=p.nm
  ·have eq:q=p:=inj q aap e
   subst eq
   have ec:(q.ws.map fun w=>c (mv (gP q.nm w) q.nm))=q.ws.map c:=abt fun w _=>by rw [xA,if_pos rfl]
   rw [if_neg nd.1,if_pos aap,ec]
   grind
  ·have ec:(q.ws.map fun w=>c (mv (gP q.nm w) p.nm))=q.ws.map fun _=>(0:Rat):=abt fun w _=>by rw [xA,if_neg (fun z=>e z.symm)];exact c0
   rw [ec,yR]
   by_cases hm:p.nm∈ps.map (·.nm)
   ·rw [if_pos hm,if_pos (aae _ hm)]
    grind
   ·rw [if_neg hm,if_neg (fun z=>by
     rcases aaN.mp z with z | z
     ·exact e z.symm
     ·exact hm z)]
    grind
theorem HU {α:Type}(f g:α->Rat):∀l:List α,sP (l.map f) (l.map g)=(l.map fun x=>f x*g x).sum
 | []=>by simp [sP]
 | x::l=>by rw [aal,aal,dG,HU f g l,aal,aib]
theorem Lp {pins:ν}{bars:π}{T:Μ}{U:χ}{L:Β}{c:Rat×Rat->Rat}(c0:c (0,0)=0)(nd:(pins.map (·.nm)).Nodup)(hl:∀q∈pins,(U q.nm).length=q.ws.length){p:aA}(hp:p∈pins)(y:Rat):
  sP ((pins.flatMap fun q=>U q.nm)++bars.map (fun b=>T b.nm)++[y]) (((pins.flatMap fun q=>q.ws.map fun w=>c (mv (gP q.nm w) p.nm))++bars.map fun b=>c (mv (fZ b) p.nm))++[c (mv L p.nm)])=fE bars T U p c+y*c (mv L p.nm):=by
 have l1:(pins.flatMap fun q=>U q.nm).length=(pins.flatMap fun q=>q.ws.map fun w=>c (mv (gP q.nm w) p.nm)).length:=by
  clear hp nd
  induction pins with
  | nil=>rfl
  | cons q ps ih=>rw [aaS,aaS,aat,aat,ih fun r hr=>hl r (aae _ hr),hl q aap,aab]
 rw [kK _ _ (by rw [aat,aat,l1,aab,aab]),kK _ _ l1,yS c0 p pins nd hl fun q hq e=>Pf (nm:=aA.nm) nd hq hp e,if_pos (aad.mpr ⟨p,hp,rfl⟩),HU,dG,gR]
 unfold fE
 grind
theorem sR (F:Β):∀{pins:ν} {k:Nat} {p:aA},pins[k]? =some p->vl ((fJ F pins).getD (2*k) (0,1))=(mv F p.nm).1/\vl ((fJ F pins).getD (2*k+1) (0,1))=(mv F p.nm).2
 | q::ps,0,p,h=>by
  cases h
  unfold fJ
  rw [aaS]
  exact ⟨gu _,gu _⟩
 | q::ps,k+1,p,h=>by
  have ih:=sR F (pins:=ps) (k:=k) (p:=p) (by simpa using h)
  unfold fJ at ih ⊢
  rw [aaS]
  exact ih
theorem CL (pins:ν)(bars:π)(L:Β){k:Nat}{p:aA}(h:pins[k]? =some p)(j:Nat)(c:Rat×Rat->Rat)(hj:∀F,vl ((fJ F pins).getD j (0,1))=c (mv F p.nm)):
  (iO (eE pins bars++[fJ L pins]) j).map vl=((pins.flatMap fun q=>q.ws.map fun w=>c (mv (gP q.nm w) p.nm))++bars.map fun b=>c (mv (fZ b) p.nm))++[c (mv L p.nm)]:=by
 have flat:∀ps:List aA,((ps.flatMap fun q=>qe pins q).map fun qs=>vl (qs.getD j (0,1)))=ps.flatMap fun q=>q.ws.map fun w=>c (mv (gP q.nm w) p.nm):=fun ps=>by
  induction ps with
  | nil=>rfl
  | cons q ps ih=>
   rw [aaS,aaS,aaH,ih]
   congr 1
   unfold qe
   rw [aaE]
   exact abt fun w _=>hj _
 unfold iO eE
 rw [aaE,aaH,aaH,aal,ab_]
 congr 1
 ·congr 1
  ·exact flat pins
  ·rw [aaE]
   exact abt fun b _=>hj _
 ·rw [<- hj]
  rfl
theorem iH {k:Nat}(h:1<=k):Sz k 0:=by
 have:=kA (i:=0) (k:=k) (by simpa using ai5 k) h
 simpa using this
structure Zb (n:Nat)(r:Rat):Prop where
 top:(qr r).1.natAbs<=2^n
 bot:(qr r).2.natAbs<=2^n
theorem Nv {T B:Nat}{q:Int×Int}(h:Sm T B q):q=qr (vl q):=qZ h.pos h.low
theorem Nw {k:Nat}{r:Rat}(h:Sz k r)(h2:k<=90):Sm 90 90 (qr r):=
 ⟨dw r,oz r,abA (aaI (intBits_le_iff.mp h.top) (aa0 (by decide) h2)),abA (aaI (intBits_le_iff.mp h.bot) (aa0 (by decide) h2))⟩
theorem yT {F:Β}(h:∀x,Sz 90 (mv F x).1/\Sz 90 (mv F x).2)(pins:ν):∀q∈fJ F pins,Sm 90 90 q:=fun q hq=>by
 unfold fJ at hq
 obtain ⟨p,_,hq⟩:=abb.mp hq
 have z:=h p.nm
 rcases aaN.mp hq with e | hq
 ·rw [e]
  exact Nw z.1 (aaf _)
 ·rw [aax.mp hq]
  exact Nw z.2 (aaf _)
theorem PM {x:Str}{w:Rat×Rat}(h:Sz 90 w.1/\Sz 90 w.2)(y:Str):Sz 90 (mv (gP x w) y).1/\Sz 90 (mv (gP x w) y).2:=by
 rw [xA]
 by_cases c:y=x
 ·rw [if_pos c]
  exact h
 ·rw [if_neg c]
  exact ⟨iH (by decide),iH (by decide)⟩
theorem PQ {pins:ν}{bars:π}(g:fh pins bars){b:aT}(hb:b∈bars)(y:Str):Sz 90 (mv (fZ b) y).1/\Sz 90 (mv (fZ b) y).2:=by
 obtain ⟨m1,m2,_⟩:=g.ends b hb
 have z1:=g.sz _ m1
 have z2:=g.sz _ m2
 unfold mv fZ
 by_cases c1:y=b.one.nm
 ·rw [if_pos c1]
  exact ⟨(z2.1.sub z1.1).up (by decide),(z2.2.1.sub z1.2.1).up (by decide)⟩
 ·rw [if_neg c1]
  by_cases c2:y=b.other.nm
  ·rw [if_pos c2]
   exact ⟨(z1.1.sub z2.1).up (by decide),(z1.2.1.sub z2.2.1).up (by decide)⟩
  ·rw [if_neg c2]
   exact ⟨iH (by decide),iH (by decide)⟩
theorem jb {pins:ν}{bars:π}(g:fh pins bars):∀qs∈eE pins bars,qs.length=2*pins.length/\∀q∈qs,Sm 90 90 q:=fun qs hq=>by
 unfold eE at hq
 rcases aaA.mp hq with h | h
 ·obtain ⟨p,hp,h⟩:=abb.mp h
  unfold qe at h
  obtain ⟨w,hw,rfl⟩:=aad.mp h
  have z:=(g.sz p hp).2.2 w hw
  exact ⟨jL _ _,yT (PM ⟨z.1.up (by decide),z.2.up (by decide)⟩) pins⟩
 ·obtain ⟨b,hb,rfl⟩:=aad.mp h
  exact ⟨jL _ _,yT (PQ g hb) pins⟩
theorem vq {H:Hp}{T B:Nat}:∀{us:ζ} {qs:ς},du K H us qs->(∀q∈qs,Sm T B q)->Paired (fW K H) us (qs.map vl)
 | [],[],_,_=>.nil
 | u::us,q::qs,h,hs=>by
  refine .cons ?_ (vq ⟨by simpa using h.1,fun i u q e1 e2=>h.2 (i+1) u q (by simpa using e1) (by simpa using e2)⟩ fun r hr=>hs r (aae _ hr))
  have n:=h.2 0 u q rfl rfl
  show mw K H u (qr (vl q))
  rw [<- Nv (hs q aap)]
  exact n
 | [],_::_,h,_=>(nomatch h.1)
 | _::_,[],h,_=>(nomatch h.1)
theorem Ut {m n:Nat}{q:Int×Int}{T B:Nat}(h:Sm T B q)(h1:T<=n)(h2:B<=n):Zb n (vl q):=by
 have e:=Nv h
 refine ⟨?_,?_⟩
 ·rw [<- e]
  exact aai h.top (aa0 (by decide) h1)
 ·rw [<- e]
  exact aai h.bot (aa0 (by decide) h2)
theorem cO {α:Type}{l:List α}(h:l.Nodup){i j:Nat}{x:α}(hi:l[i]? =some x)(hj:l[j]? =some x):i=j:=by
 obtain ⟨i1,i2⟩:=ir.mp hi
 obtain ⟨j1,j2⟩:=ir.mp hj
 exact (aiT h).mp (i2.trans j2.symm)
def eY (c m t:Nat)(nd:θ)(qs:ς):Prop:=qs.length=m/\qs[c]? =some (1,1)/\(∀i,i < t->∀x,nd[i]? =some x->qs[x.1]? =some (low (-(x.2.getD c 0)) (x.2.getD x.1 0)))/\∀j,j < m->j≠c->(∀i,i < t->∀x,nd[i]? =some x->x.1≠j)->qs[j]? =some (0,1)
theorem eY.put {L c m t b:Nat}{os:η}{nd:θ}{lv:η}{qs:ς}{x:Nat×List Int}(R:Red os L m b nd lv)(F:eY c m t nd qs)(hc:∀y∈nd,y.1≠c)(e:nd[t]? =some x):eY c m (t+1) nd (qs.set x.1 (low (-(x.2.getD c 0)) (x.2.getD x.1 0))):=by
 have ql:=F.1
 have hx:=R.cols x (be e)
 have xc:=hc x (be e)
 have dis:∀i y,i < t->nd[i]? =some y->y.1≠x.1:=fun i y hi ey=>by
  have a:=List.pairwise_iff_getElem.mp R.asc i t (by rw [aab];exact (ir.mp ey).1) (by rw [aab];exact (ir.mp e).1) hi
  simp only [List.getElem_map] at a
  have e1:=(ir.mp ey).2
  have e2:=(ir.mp e).2
  rw [e1,e2] at a
  omega
 refine ⟨by simp [ql],by rw [abj,if_neg xc];exact F.2.1,fun i hi y ey=>?_,fun j hj jc h=>?_⟩
 ·rcases abz.mp hi with z | z
  ·rw [abj,if_neg (aaW (dis i y z ey))]
   exact F.2.2.1 i z y ey
  ·subst z
   rw [e] at ey
   cases ey
   rw [abj,if_pos rfl,if_pos (by omega)]
 ·rw [abj,if_neg (h t (aba _) x e)]
  exact F.2.2.2 j hj jc (fun i hi y ey=>h i (ab1 hi) y ey)
theorem Ln.ks {H H' :Hp}{v:V}{l:ξ}{d:Addr}{kvs:γ}(h:Ln H v l)(r:Rd H d (.dK kvs))(k:aX d H H'):Ln H' v l:=by
 obtain ⟨p,e,z⟩:=h
 refine ⟨p,e,k p _ (fun y=>?_) z⟩
 rw [y] at z
 rcases r with r | ⟨o,r⟩ <;> (rw [r] at z;cases z)
theorem mB.ks {H H' :Hp}{kvs Tp:γ}{nd:θ}{d:Addr}(h:mB H kvs nd)(r:Rd H d (.dK Tp))(k:aX d H H'):mB H' kvs nd:=⟨h.1,fun i kv x e1 e2=>⟨(h.2 i kv x e1 e2).1,(h.2 i kv x e1 e2).2.ks r k⟩⟩
theorem aX.step {d:Addr}{H H' H2:Hp}(k:aX d H H')(s:au H' H2):aX d H H2:=fun b o n e=>s _ _ (k b o n e)
theorem aX.put {d x:Addr}{H H' :Hp}{o:HO}(k:aX d H H')(n:H x=none):aX d H (upd H' x o):=fun b o' nb e=>by
 rw [ao (fun z=>by rw [z,n] at e;cases e)]
 exact k b o' nb e
inductive sS (K:Frag)(vs:ζ)(H:Hp)(Q:VK)(E_:XK):Prop where
 | mk (d:Addr) (c m L b:Nat) (kvs:γ) (nd:θ) (os lv:List (List Int:_)) (_:vs=[.ref d,.int (c:Int),.int (m:Int)]) (_:Rd H d (.dK kvs)) (_:mB H kvs nd) (_:Red os L m b nd lv) (_:m<=L) (_:m<=900) (_:c < m) (_:(∀y∈nd,y.1≠c)) (_:∀(x:Addr) (us:ζ) (qs:ς) (o:Obj) (H' :Hp),aX d H H' ->H' d=some (.dA o (.dK kvs))->H x=none->H' x=some (.lst us)->du K H' us qs->eY c m nd.length nd qs->Q (.ref x) H'):sS K vs H Q E_
theorem eO:aF ["needed","column","many","numbers","place","line"] zaC (ag di):=sq
theorem qf {aN aO:Addr}(hN:∀H:Hp,bU K H aN [.int 0,.int 1])(PR:mg "NOUGHT"=some (.ref aN))(hO:∀H:Hp,bU K H aO [.int 1,.int 1])(PU:mg "ONE"=some (.ref aO))(D:Def K mg "spare_list" di zaC)(Pp:Fn P w K mg base (bg P w) 33 "lowest_terms" zaH iE):Fn P w K mg base (bg P w) 34 "spare_list" zaC (sS K):=by
 refine D.ok eO (fun vs H Q E h=>?_) (fun f bM A outer s H vs Q E hr h=>?_)
 ·obtain ⟨d,c,m,L,b,kvs,nd,os,lv,rfl,_⟩:=h
  rfl
 obtain ⟨d,c,m,L,b,kvs,nd,os,lv,rfl,rd,YJ,R,hmL,hm,hc,hnc,q⟩:=h
 refine ⟨_,(ae (aH (i:=3) eO.nd rfl (aan rfl) (aL OI (c_ (ar (jq (v:=.ref aN) rfl PR rfl) aa)) (pv 2)))
  (ae (nh (jq (v:=.ref aO) rfl PU rfl) (rM (pv 3) (pv 1) set_list))
  (ae (bE PassesOwn.never rfl (AA (pv 0)) (fm rfl (bu (aC (i:=4) eO.nd rfl (aan rfl)) (bu (aC (i:=5) eO.nd rfl (aan rfl)) dF))) (aj (nh (aD Pp hr.mo pX (ar (MR EG (bw ba (pv 5) (pv 1) (fun _ _=>rfl))) (ar (bw ba (pv 5) (pv 4) (fun _ _=>rfl)) aa))) (rM (pv 3) (pv 4) set_list))))
  (aj (aG (pv 3)))))),?_⟩
 refine ⟨(by show 1<=sizeLine;decide),fun p3 n3=>?_⟩
 have s3:=aK n3 (.lst [V.ref aN])
 refine ⟨_,rfl,p3,_,_,rfl,rfl,ak,by omega,by omega,aai (show 1*(m:Int).toNat<=1000 by omega) (by decide),fun x n4=>?_⟩
 have er:(aaJ (m:Int).toNat [V.ref aN]).flatten=aaJ m (V.ref aN):=by simp
 rw [er]
 have s4:=aK n4 (.lst (aaJ m (V.ref aN)))
 have nx:H x=none:=s3.free n4
 have xd:d≠x:=by
  rcases rd with r | ⟨o,r⟩
  ·exact aq r nx
  ·exact aq r nx
 refine ⟨_,rfl,_,rfl,x,_,_,c,rfl,rfl,ak,by rw [ahI];exact xn hc,?_⟩
 have s5:au H (upd (upd (upd H p3 (.lst [V.ref aN])) x (.lst (aaJ m (V.ref aN)))) x (.lst ((aaJ m (V.ref aN)).set c (V.ref aO)))):=jG (s3.trans s4) nx
 have JN:Rd (upd (upd (upd H p3 (.lst [V.ref aN])) x (.lst (aaJ m (V.ref aN)))) x (.lst ((aaJ m (V.ref aN)).set c (V.ref aO)))) d (.dK kvs):=by
  rcases rd with r | ⟨o,r⟩
  ·exact .inl (s5 _ _ r)
  ·exact .inr ⟨o,s5 _ _ r⟩
 have x5:upd (upd (upd H p3 (.lst [V.ref aN])) x (.lst (aaJ m (V.ref aN)))) x (.lst ((aaJ m (V.ref aN)).set c (V.ref aO))) x=some (.lst ((aaJ m (V.ref aN)).set c (V.ref aO))):=ak
 generalize upd (upd (upd H p3 (.lst [V.ref aN])) x (.lst (aaJ m (V.ref aN)))) x (.lst ((aaJ m (V.ref aN)).set c (V.ref aO)))=H5 at*
 have Lq:=YJ.same s5
 refine ⟨_,rfl,d,kvs,rfl,JN,fun o=>?_⟩
 have k5:aX d H (upd H5 d (.dA o (.dK kvs))):=fun b o' n e=>by rw [ao n];exact s5 _ _ e
 have k55:aX d H5 (upd H5 d (.dA o (.dK kvs))):=fun b o' n e=>by rw [ao n];exact e
 refine iC (d:=d) (o:=o) (kvs:=kvs) (fun t σ H' =>∃(o4 o5:ω) (Ny:ζ) (qs:ς),σ=[some (.ref d),some (.int (c:Int)),some (.int (m:Int)),some (.ref x),o4,o5]/\aX d H H' /\H' d=some (.dA o (.dK kvs))/\H' x=some (.lst Ny)/\du K H' Ny qs/\mB H' kvs nd/\eY c m t nd qs)
  ⟨none,none,(aaJ m (V.ref aN)).set c (V.ref aO),(aaJ m (0,1)).set c (1,1),rfl,k5,ak,by rw [ao (aaW xd)];exact x5,du.set ⟨by simp,fun i u q' e1 e2=>?_⟩ ⟨aO,rfl,hO _⟩,Lq.ks JN k55,⟨by simp,by rw [abj,if_pos rfl,if_pos (by simpa using hc)],fun i hi=>absurd hi (abP _),fun j hj jc _=>by rw [abj,if_neg (aaW jc),ad_,if_pos hj]⟩⟩ (fun t σ H' _ h=>by
   obtain ⟨_,_,_,_,_,_,h,_⟩:=h
   exact h) ?_ ?_
 ·rw [ad_] at e1 e2
  by_cases z:i < m
  ·rw [if_pos z] at e1 e2
   cases e1
   cases e2
   exact ⟨aN,rfl,hN _⟩
  ·rw [if_neg z] at e1
   cases e1
 ·rintro t k v σ H6 p7 rA ⟨o4,o5,Ny,qs,rfl,k6,Ll,Uu,Rc,Uv,F⟩ n7
  have ht:t < kvs.length:=(ir.mp rA).1
  have hl6:=Uv.1
  obtain ⟨y,ey⟩:∃y,nd[t]? =some y:=⟨_,gE (by omega)⟩
  obtain ⟨k1,k2⟩:=Uv.2 t _ y rA ey
  have k1' :k=.inl (y.1:Int):=k1
  subst k1'
  obtain ⟨b',eb,gi⟩:=k2
  have JM :v=.ref b' :=eb
  subst JM
  have hym:=be ey
  have hyl:=R.sD y hym
  have hyc:=R.cols y hym
  have s7:=aK n7 (.tup [kV (.inl (y.1:Int)),.ref b'])
  have Uw:=s7 _ _ gi
  refine ⟨p7,_,rfl,bU.of ak,rfl,_,_,rfl,_,_,rfl,rfl,?_⟩
  refine ⟨_,rfl,_,rfl,b',_,_,_,rfl,rfl,a8.of Uw,vj (by omega),_,rfl,_,rfl,_,rfl,b',_,_,_,rfl,rfl,a8.of Uw,vj (by omega),?_⟩
  refine ⟨_,_,rfl,R.here y hym,fun p8 H8 s8 e8=>?_⟩
  have Lm:=s7.trans s8
  have hx8:=Lm _ _ Uu
  have l2:=Rc.1
  have dx8:=Lm _ _ Ll
  refine ⟨_,rfl,_,rfl,x,Ny,_,y.1,rfl,rfl,hx8,xn (by rw [l2,F.1];exact hyc),?_⟩
  refine ⟨_,_,Ny.set y.1 (.ref p8),qs.set y.1 (low (-(y.2.getD c 0)) (y.2.getD y.1 0)),rfl,aX.put (aX.step k6 Lm) nx,by rw [ao xd];exact dx8,ak,?_,?_,F.put R hnc ey⟩
  ·have base:du K H8 (Ny.set y.1 (.ref p8)) (qs.set y.1 (low (-(y.2.getD c 0)) (y.2.getD y.1 0))):=(Rc.same Lm).set ⟨p8,rfl,bU.of e8⟩
   refine ⟨base.1,fun i u q' e1 e2=>?_⟩
   obtain ⟨p9,e9,h9⟩:=base.2 i u q' e1 e2
   exact ⟨p9,e9,bU.putL h9 hx8⟩
  ·have base:=Uv.same Lm
   refine ⟨base.1,fun i kv y' e1 e2=>⟨(base.2 i kv y' e1 e2).1,?_⟩⟩
   obtain ⟨p9,e9,h9⟩:=(YJ.2 i kv y' e1 e2).2
   refine ⟨p9,e9,?_⟩
   rw [ao (fun z=>by rw [z,nx] at h9;cases h9)]
   obtain ⟨p10,e10,h10⟩:=(base.2 i kv y' e1 e2).2
   rw [e9] at e10
   cases e10
   exact h10
 ·rintro σ H6 ⟨o4,o5,Ny,qs,rfl,k6,Ll,Uu,Rc,Uv,F⟩
  have hl6:=Uv.1
  rw [hl6] at F
  exact ⟨_,rfl,q x Ny qs o H6 k6 Ll nx Uu Rc F⟩
theorem bU.ks {K:Frag}{H H' :Hp}{a d:Addr}{xs:ζ}{kvs:γ}(h:bU K H a xs)(r:Rd H d (.dK kvs))(k:aX d H H'):bU K H' a xs:=by
 have ne:∀{u:HO},H a=some u->(∀o,u≠.dA o (.dK kvs))->u≠.dK kvs->a≠d:=fun {u} e n1 n2 z=>by
  rw [z] at e
  rcases r with r | ⟨o,r⟩
  ·rw [r] at e
   cases e
   exact n2 rfl
  ·rw [r] at e
   cases e
   exact n1 o rfl
 rcases h with (h | ⟨o,h⟩) | h
 ·exact .inl (.inl (k _ _ (ne h (fun o z=>nomatch z) (fun z=>nomatch z)) h))
 ·exact .inl (.inr ⟨o,k _ _ (ne h (fun o z=>by cases z) (fun z=>nomatch z)) h⟩)
 ·exact .inr h
theorem du.ks {K:Frag}{H H' :Hp}{us:ζ}{qs:ς}{d:Addr}{kvs:γ}(h:du K H us qs)(r:Rd H d (.dK kvs))(k:aX d H H'):du K H' us qs:=⟨h.1,fun i u q e1 e2=>by
 obtain ⟨p,e,z⟩:=h.2 i u q e1 e2
 exact ⟨p,e,bU.ks z r k⟩⟩
def yU (K:Frag)(H:Hp)(kvs:γ)(ss:Η):Prop:=kvs.length=ss.length/\∀(i:Nat) (kv:Key×V) (x:Nat×List (Int×Int)),kvs[i]? =some kv->ss[i]? =some x->kv.1=.inl (x.1:Int)/\∃p us,kv.2=.ref p/\H p=some (.lst us)/\du K H us x.2
theorem yU.same {H H' :Hp}{kvs:γ}{ss:Η}(h:yU K H kvs ss)(s:au H H'):yU K H' kvs ss:=⟨h.1,fun i kv x e1 e2=>by
 obtain ⟨a,p,us,b,c,d⟩:=h.2 i kv x e1 e2
 exact ⟨a,p,us,b,s _ _ c,d.same s⟩⟩
theorem yU.ks {H H' :Hp}{kvs Tp:γ}{ss:Η}{d:Addr}(h:yU K H kvs ss)(r:Rd H d (.dK Tp))(k:aX d H H'):yU K H' kvs ss:=⟨h.1,fun i kv x e1 e2=>by
 obtain ⟨a,p,us,b,c,d'⟩:=h.2 i kv x e1 e2
 refine ⟨a,p,us,b,k _ _ (fun z=>?_) c,du.ks d' r k⟩
 rw [z] at c
 rcases r with r | ⟨o,r⟩ <;> (rw [r] at c;cases c)⟩
theorem yU.snoc {H:Hp}{kvs:γ}{ss:Η}(h:yU K H kvs ss){c:Nat}{p:Addr}{us:ζ}{qs:ς}(hp:H p=some (.lst us))(hn:du K H us qs):yU K H (kvs++[(.inl (c:Int),.ref p)]) (ss++[(c,qs)]):=by
 have hl:=h.1
 refine ⟨by simp [hl],fun j kv x e1 e2=>?_⟩
 by_cases z:j < kvs.length
 ·rw [aaD z] at e1
  rw [aaD (by omega)] at e2
  exact h.2 j kv x e1 e2
 ·rw [aaY (by omega)] at e1 e2
  rw [<- hl] at e2
  by_cases y:j - kvs.length=0
  ·rw [y] at e1 e2
   cases e1
   cases e2
   exact ⟨rfl,p,us,rfl,hp,hn⟩
  ·rw [aaj (by simp;omega)] at e1
   cases e1
theorem yU.keys {H:Hp}{kvs:γ}{ss:Η}(h:yU K H kvs ss):kvs.map (·.1)=ss.map (fun x=>(ahX (x.1:Int):Key)):=by
 refine abo fun i=>?_
 have hl:=h.1
 rw [Wp,Wp]
 by_cases hi:i < ss.length
 ·have e:ss[i]? =some ss[i]:=gE hi
  have e2:kvs[i]? =some (kvs[i]'(by omega)):=gE (by omega)
  rw [e,e2]
  simp only [ab9]
  rw [(h.2 i _ _ e2 e).1]
 ·rw [aaj (by omega),aaj (by omega)]
  rfl
def WlQ (T B m:Nat)(qs:ς)(w:Wl):Prop:=uP w.1 qs w.2.1/\0 < w.2.1/\w.2.1.natAbs<=2^(B*m)/\∀t∈w.1,t.natAbs<=2^(T+B*m)
def vt (T B m:Nat)(eU:Α)(os:η):Prop:=os.length=eU.length/\∀(i:Nat) (o:ξ) (qs:ς),os[i]? =some o->eU[i]? =some qs->∃b:Int,0 < b/\uP o qs b
def free (nd:θ)(j:Nat):Bool:=nd.all fun y=>decide (y.1≠j)
theorem jQ {nd:θ}{j:Nat}:free nd j=true ↔ ∀y∈nd,y.1≠j:=by
 unfold free
 rw [aid]
 exact ⟨fun h y hy=>of_decide_eq_true (h y hy),fun h y hy=>decide_eq_true (h y hy)⟩
inductive oP (K:Frag)(vs:ζ)(H:Hp)(Q:VK)(E_:XK):Prop where
 | mk (r:Addr) (m:Nat) (ls:τ) (cp:List (List V:_)) (eU:Α) (T B Z:Nat) (_:vs=[.ref r,.int (m:Int)]) (_:oG H r ls cp) (_:fD K H cp eU) (_:Shape T B m eU) (_:m<=100) (_:eU.length<=100) (_:T<=20000) (_:B*m<=8000) (_:B<=8000) (_:bb (T+B*m) (min m eU.length)<=Z) (_:Z<=29000000) (_:∀(sd:Addr) (kvs:γ) (ss:Η) (os lv:η) (nd:θ) (H' :Hp),au H H' ->H sd=none->H' sd=some (.dK kvs)->yU K H' kvs ss->vt T B m eU os->Red os m m Z nd lv->ss.map (·.1)=(abl m).filter (free nd)->(∀x∈ss,eY x.1 m nd.length nd x.2)->Q (.ref sd) H'):oP K vs H Q E_
theorem dk:aF ["rows","many","needed","spare","column"] zay (ag cq):=sq
theorem kL (D:Def K mg "spare_columns" cq zay)(bB:mg "range"=none)(aaK:Fn P w K mg base (bg P w) 2 "whole_row" ["row"] (Pl K))(aaL:Fn P w K mg base (bg P w) 35 "reduced" zaP (kG K))(sT:Fn P w K mg base (bg P w) 34 "spare_list" zaC (sS K)):Fn P w K mg base (bg P w) 36 "spare_columns" zay (oP K):=by
 refine D.ok dk (fun vs H Q E h=>?_) (fun f bM A outer s H vs Q E hr h=>?_)
 ·obtain ⟨r,m,ls,cp,eU,T,B,Z,rfl,_⟩:=h
  rfl
 obtain ⟨r,m,ls,cp,eU,T,B,Z,rfl,M,NN,sh,hm,hn,hT,hB,hB1,hZ,hZ1,q⟩:=h
 refine ⟨_,(ae (aH (i:=2) dk.nd rfl (aan rfl) (aJ (aD aaL hr.mo pX (ar (cX (tn:=["row"]) (fr:=[]) (caps:=[]) rfl ⟨rfl,by decide+kernel,rfl,by decide+kernel,by decide+kernel,rfl,trivial,trivial⟩ (bD (pv 0)) (fun _ _ _ _=>(aC (i:=0) (show (["row"]:List Str).Nodup from by decide+kernel) rfl (aan rfl))) (fun _ _ _ _=>df) (fun _ _ _ _=>(bw (dX (K:=K) rfl) (aD aaK hr.mo (uN (by first | assumption | exact bg.rZ) rfl) (ar (pv 0) aa)) ah (fun _ _=>rfl)))) (ar (pv 1) aa)))))
  (ae (aH (i:=3) dk.nd rfl (aan rfl) eR)
  (ae (bE PassesOwn.never rfl (bS rfl bB (ar (pv 1) aa)) (aC (i:=4) dk.nd rfl (aan rfl)) (aj (bq (i5 (iB (bX hr) (pv 4) (pv 2))) (aj (fL (bX hr) (pv 3) (pv 4) (aD sT hr.mo pX (ar (pv 2) (ar (pv 4) (ar (pv 1) aa)))) rfl)) aQ)))
  (aj (aG (pv 3)))))),?_⟩
 have l1:=M.2.1
 have l2:=NN.1
 refine ⟨_,rfl,r,rfl,⟨_,a8.of M.1⟩,fun D1 n1=>?_⟩
 refine nX (cap:=[]) (K:=K) (a:=r) (xs:=ls.map V.ref) (fun i v H=>∃w:Wl,v=.ref w.2.2.1/\w.2.2.1≠D1/\H w.2.2.1=some (.lst (w.1.map V.int))/\∀qs,eU[i]? =some qs->WlQ T B m qs w) n1 (by rw [aab];exact aaq (show ls.length<=1000 by omega) (by decide)) (fun H2 s2=>a8.of (s2 _ _ M.1)) ?_ ?_ ?_
 ·rintro i v H2 H3 ys hD ks ⟨w,e1,e2,e3,e4⟩
  exact ⟨w,e1,e2,ks _ _ e2 e3,e4⟩
 ·rintro i x H2 RR ex s2 ⟨ys0,hD0⟩ kk
  rw [Wp] at ex
  obtain ⟨l,el,rfl⟩:=aar.mp ex
  have hi:i < ls.length:=(ir.mp el).1
  obtain ⟨qs,eq⟩:∃qs,eU[i]? =some qs:=⟨_,gE (by omega)⟩
  obtain ⟨vs,ev⟩:∃vs,cp[i]? =some vs:=⟨_,gE (by omega)⟩
  have hl:=M.2.2 i l vs el ev
  have hq:=NN.2 i vs qs ev eq
  obtain ⟨lq,sq⟩:=sh qs (be eq)
  refine ⟨_,rfl,l,qs,T,B,rfl,⟨_,a8.of (s2 _ _ hl),hq.same s2⟩,sq,hT,by rw [lq];omega,hB1,by omega,fun p3 l3' ts b H3 s3 nl hp3 hl3 hb hbs wh hts=>?_⟩
  rw [lq] at hbs hts
  refine ⟨p3,_,_,_,rfl,rfl,bU.of hp3,g9,kk _ _ s3 ⟨(ts,b,l3',p3),rfl,fun z=>?_,hl3,fun Tc e1=>?_⟩⟩
  ·rw [show l3' =D1 from z,hD0] at nl
   cases nl
  ·rw [eq] at e1
   cases e1
   exact ⟨wh,hb,hbs,hts⟩
 intro zs H2 hz fY s2 YK
 rw [aab] at hz
 obtain ⟨ws,lw,hw⟩:=kF (P:=fun i v (w:Wl)=>v=.ref w.2.2.1/\w.2.2.1≠D1/\H2 w.2.2.1=some (.lst (w.1.map V.int))/\∀qs,eU[i]? =some qs->WlQ T B m qs w) zs fY
 have wp:∀(i:Nat) (w:Wl),ws[i]? =some w->∃v qs,zs[i]? =some v/\eU[i]? =some qs/\v=.ref w.2.2.1/\H2 w.2.2.1=some (.lst (w.1.map V.int))/\WlQ T B m qs w:=fun i w e=>by
  have hi:i < ws.length:=(ir.mp e).1
  obtain ⟨v,ev⟩:∃v,zs[i]? =some v:=⟨_,gE (by omega)⟩
  obtain ⟨qs,eq⟩:∃qs,eU[i]? =some qs:=⟨_,gE (by omega)⟩
  obtain ⟨h1,_,h3,h4⟩:=hw i v w ev e
  exact ⟨v,qs,ev,eq,h1,h3,h4 qs eq⟩
 have hLl:rj H2 zs (ws.map (·.1)):=⟨by simp [lw],fun i u l e1 e2=>by
  rw [Wp] at e2
  obtain ⟨w,ew,rfl⟩:=aar.mp e2
  obtain ⟨v,qs,ev,_,e,h,_⟩:=wp i w ew
  rw [e1] at ev
  cases ev
  exact ⟨_,e,h⟩⟩
 have aaM:∀l∈ws.map (·.1),l.length=m:=fun l hl=>by
  obtain ⟨w,YL,rfl⟩:=aad.mp hl
  obtain ⟨i,e⟩:=aas YL
  obtain ⟨v,qs,_,eq,_,_,wh,_⟩:=wp i w e
  rw [wh.1,(sh qs (be eq)).1]
 have wbd:∀l∈ws.map (·.1),Bd (T+B*m) l:=fun l hl=>by
  obtain ⟨w,YL,rfl⟩:=aad.mp hl
  obtain ⟨i,e⟩:=aas YL
  obtain ⟨v,qs,_,eq,_,_,_,_,_,h⟩:=wp i w e
  exact Bd.of h
 have hlm:(ws.map (·.1)).length=eU.length:=by rw [aab];omega
 have aaO:vt T B m eU (ws.map (·.1)):=⟨hlm,fun i o qs e1 e2=>by
  rw [Wp] at e1
  obtain ⟨w,ew,rfl⟩:=aar.mp e1
  obtain ⟨v,Tc,_,eq,_,_,wh,wb,_⟩:=wp i w ew
  rw [e2] at eq
  cases eq
  exact ⟨_,wb,wh⟩⟩
 refine ⟨_,rfl,D1,zs,ws.map (·.1),m,m,T+B*m,rfl,a8.of YK,hLl,aaM,aaf _,by omega,by omega,wbd,by rw [hlm];omega,fun p d a' kvs jI nd lv H3 s3 Lg np hp hd Q8 YJ Ts R=>?_⟩
 rw [hlm] at R
 have RZ:=R.up hZ
 refine ⟨p,_,_,_,rfl,rfl,bU.of hp,g9,?_⟩
 refine fun sd Rf=>?_
 have t4:=aK Rf (.dK [])
 have CM:=(s2.trans s3).trans t4
 have Hd:H d=none:=s2.free Lg
 have Rh:H sd=none:=(s2.trans s3).free Rf
 have ds:d≠sd:=aq hd Rf
 refine ⟨_,rfl,_,rfl,by omega,by omega,?_⟩
 refine bW (lo:=0) (n:=m) (fun i σ H' =>∃(o4:ω) (rD:γ) (ss:Η),σ=[some (.ref r),some (.int (m:Int)),some (.ref d),some (.ref sd),o4]/\au H H' /\Rd H' d (.dK kvs)/\H' sd=some (.dK rD)/\mB H' kvs nd/\yU K H' rD ss/\ss.map (·.1)=(abl i).filter (free nd)/\∀x∈ss,eY x.1 m nd.length nd x.2)
  ⟨none,[],[],rfl,CM,.inl (t4 _ _ hd),ak,YJ.same t4,⟨rfl,fun i kv x e=>by simp at e⟩,by simp,fun x h=>nomatch h⟩ ?_ ?_
 ·rintro i σ H5 hi ⟨o4,rD,ss,rfl,s5,JN,Nz,Lq,Ri,Rj,YM⟩
  have nk:(kvs.map (·.1)).Nodup:=by
   rw [Lq.keys]
   exact keys_nodup R.asc
  by_cases fr:free nd i=true
  ·have fr' :=jQ.mp fr
   have OA:bR kvs (.inl ((0:Int)+i))=none:=jH (fun z=>by
    rw [Lq.keys] at z
    obtain ⟨x',v7,e⟩:=aad.mp z
    have e1:(x'.1:Int)=0+i:=ah7 e
    exact fr' x' v7 (by omega))
   refine ⟨_,rfl,_,rfl,d,none,rfl,.inl ⟨kvs,.inl ((0:Int)+i),JN,rfl,OA.symm⟩,_,rfl,?_⟩
   refine bx (fun _=>?_) (fun c=>absurd rfl c)
   refine ⟨_,rfl,_,rfl,_,rfl,d,i,m,m,Z,kvs,nd,ws.map (·.1),lv,by rw [aa'];rfl,JN,Lq,RZ,aaf _,by omega,hi,fr',fun x us qs o H6 k6 Ll nx Uu Rc F=>?_⟩
   have PV:H6 sd=some (.dK rD):=k6 _ _ (aaW ds) Nz
   have lsk:=Ri.1
   have lss:ss.length<=m:=by
    have:=congrArg abO Rj
    rw [aab] at this
    have h2:=abU (free nd) (abl i)
    rw [ahE] at h2
    omega
   refine ⟨_,rfl,_,rfl,sd,_,rfl,ku.k (k:=.inl ((0:Int)+i)) PV (aaq (show rD.length<=1000 by omega) (by decide)),?_⟩
   have aaP:bR rD (.inl ((0:Int)+i))=none:=jH (fun z=>by
    rw [Ri.keys] at z
    obtain ⟨x',v7,e⟩:=aad.mp z
    have e1:(x'.1:Int)=0+i:=ah7 e
    have:x'.1∈(abl i).filter (free nd):=by rw [<- Rj];exact aad.mpr ⟨x',v7,rfl⟩
    have:=abe.mp (abM.mp this).1
    omega)
   rw [dD _ aaP,aa']
   have s6:au H H6:=fun b o' e=>k6 _ _ (aq e Hd) (s5 _ _ e)
   have ksd:aX sd H6 (upd H6 sd (.dK (rD++[(.inl (i:Int),.ref x)]))):=fun b o' n e=>by rw [ao n];exact e
   refine ⟨_,_,ss++[(i,qs)],rfl,jG s6 Rh,.inr ⟨o,by rw [ao ds];exact Ll⟩,ak,(Lq.ks JN k6).ks (.inl PV) ksd,((Ri.ks JN k6).snoc Uu Rc).ks (.inl PV) ksd,?_,fun x' v7 =>?_⟩
   ·rw [aaH,Rj,ahg,ab8]
    simp [fr]
   ·rcases aaA.mp v7 with z | z
    ·exact YM x' z
    ·rw [aax.mp z]
     exact F
  ·have nf:∃y∈nd,y.1=i:=by
    apply abr
    intro z
    exact fr (jQ.mpr fun y hy e=>z ⟨y,hy,e⟩)
   obtain ⟨y,hy,ey⟩:=nf
   obtain ⟨t,et⟩:=aas hy
   obtain ⟨v,ev,_⟩:=Lq.at et
   have vat:=gK nk ev
   refine ⟨_,rfl,_,rfl,d,some v,rfl,.inl ⟨kvs,.inl ((0:Int)+i),JN,rfl,by rw [aa', <- ey];exact vat.symm⟩,_,rfl,?_⟩
   refine bx (fun c=>nomatch c) (fun _=>?_)
   refine ⟨_,_,ss,rfl,s5,JN,Nz,Lq,Ri,?_,YM⟩
   rw [Rj,ahg,ab8]
   simp [fr]
 ·rintro σ H5 ⟨o4,rD,ss,rfl,s5,JN,Nz,Lq,Ri,Rj,YM⟩
  exact ⟨_,rfl,q sd rD ss _ lv nd H5 s5 Rh Nz Ri aaO RZ Rj YM⟩
theorem sU :vl (0,1)=0:=by
 unfold vl
 simp
 grind
theorem xB :vl (1,1)=1:=by
 unfold vl
 simp
 grind
structure NA (nd:θ)(c:Nat)(z:Nat->Rat):Prop where
 one:z c=1
 at' :∀y∈nd,z y.1=(-(y.2.getD c 0):Int) / ((y.2.getD y.1 0:Int):Rat)
 no:∀j,j≠c->(∀y∈nd,y.1≠j)->z j=0
theorem NA.sol {os lv:η}{L m b c:Nat}{nd:θ}{z:Nat->Rat}(R:Red os L m b nd lv)(hc:c < m)(h:NA nd c z)(fr:∀y∈nd,y.1≠c):∀o∈os,ev o z=0:=by
 refine (R.sol z).mp ⟨fun x hx=>?_,fun l hl=>?_⟩
 ·have e:z=fun j=>(if j=c then 1 else 0)+(if j=c then 0 else z j):=by
   funext j
   by_cases q:j=c
   ·rw [if_pos q,if_pos q,q,h.one]
    grind
   ·rw [if_neg q,if_neg q]
    grind
  rw [e,F',wZ x.2 (fun j=>if j=c then 1 else 0) c (fun j hj=>by rw [if_neg hj];grind),wZ x.2 (fun j=>if j=c then 0 else z j) x.1 (fun j hj=>?_)]
  ·have hh:=cY (R.here x hx)
   rw [if_pos rfl,if_neg (fr x hx),h.at' x hx]
   push_cast
   grind
  ·by_cases q:j=c
   ·rw [if_pos q]
    grind
   ·rw [if_neg q]
    by_cases y:∃u∈nd,u.1=j
    ·obtain ⟨u,hu,rfl⟩:=y
     rw [R.off x hx u hu (aaW hj)]
     simp
    ·rw [h.no j q (fun u hu e=>y ⟨u,hu,e⟩)]
     grind
 ·refine sf l z fun j=>?_
  by_cases hj:j < m
  ·rw [R.zero l hl j hj]
   simp
  ·rw [h.no j (by omega) (fun y hy e=>by have:=R.cols y hy;omega)]
   grind
theorem NA.behind {os lv:η}{L m b c:Nat}{nd:θ}{z:Nat->Rat}(R:Red os L m b nd lv)(h:NA nd c z){j:Nat}(hj:c < j):z j=0:=by
 by_cases q:∃y∈nd,y.1=j
 ·obtain ⟨y,hy,rfl⟩:=q
  rw [h.at' y hy,R.low y hy c hj]
  simp [Rat.div_def]
 ·exact h.no j (by omega) (fun y hy e=>q ⟨y,hy,e⟩)
theorem vv:∀(m:Nat) (f g:Nat->Rat),(∀j,j < m->f j=g j)->Ty.sumTo m f=Ty.sumTo m g
 | 0,_,_,_=>rfl
 | m+1,f,g,h=>by
  simp only [Ty.sumTo]
  rw [h 0 (by omega),vv m (fun i=>f (i+1)) (fun i=>g (i+1)) (fun j hj=>h (j+1) (by omega))]
theorem PX {ts:ξ}{qs:ς}{b:Int}{m:Nat}(h:uP ts qs b)(hm:qs.length=m)(z:Nat->Rat):ev ts z=(b:Rat)*sumTo m (fun j=>vl (qs.getD j (0,1))*z j):=by
 have hl:=h.1
 rw [uZ m ts z (by omega), <- qW]
 refine vv m _ _ fun j hj=>?_
 have e1:ts[j]? =some (ts[j]'(by omega)):=gE (by omega)
 have e2:qs[j]? =some (qs[j]'(by omega)):=gE (by omega)
 have w:=h.2 j _ _ e1 e2
 rw [getD_mem e1,w,aaz,e2]
 show _=(b:Rat)*(vl (qs[j]'(by omega))*z j)
 grind
theorem yV {ts:ξ}{qs:ς}{b:Int}{m:Nat}(h:uP ts qs b)(hb:0 < b)(hm:qs.length=m)(z:Nat->Rat):ev ts z=0 ↔ sumTo m (fun j=>vl (qs.getD j (0,1))*z j)=0:=by
 rw [PX h hm z]
 have gi :=cY (show b≠0 by omega)
 constructor <;> intro q <;> grind
theorem CN {T B m:Nat}{eU:Α}{os:η}(qc:vt T B m eU os)(len:∀qs∈eU,qs.length=m)(z:Nat->Rat):(∀o∈os,ev o z=0) ↔ ∀qs∈eU,sumTo m (fun j=>vl (qs.getD j (0,1))*z j)=0:=by
 have hl:=qc.1
 constructor
 ·intro h qs hq
  obtain ⟨i,e⟩:=aas hq
  have hi:i < eU.length:=(ir.mp e).1
  have e1:os[i]? =some (os[i]'(by omega)):=gE (by omega)
  obtain ⟨b,hb,wh⟩:=qc.2 i _ qs e1 e
  exact (yV wh hb (len qs hq) z).mp (h _ (be e1))
 ·intro h o ho
  obtain ⟨i,e⟩:=aas ho
  have hi:i < os.length:=(ir.mp e).1
  have e1:eU[i]? =some (eU[i]'(by omega)):=gE (by omega)
  obtain ⟨b,hb,wh⟩:=qc.2 i o _ e e1
  exact (yV wh hb (len _ (be e1)) z).mpr (h _ (be e1))
theorem getD_some {qs:ς}{j:Nat}{q:Int×Int}(e:qs[j]? =some q):qs.getD j (0,1)=q:=by
 rw [aaz,e]
 rfl
theorem eY.z {os lv:η}{L m b c:Nat}{nd:θ}{qs:ς}(R:Red os L m b nd lv)(F:eY c m nd.length nd qs):NA nd c (fun j=>vl (qs.getD j (0,1))) where
 one:=by
  show vl (qs.getD c (0,1))=1
  rw [getD_some F.2.1,xB]
 at' :=fun y hy=>by
  obtain ⟨i,e⟩:=aas hy
  have hi:i < nd.length:=(ir.mp e).1
  show vl (qs.getD y.1 (0,1))=_
  rw [getD_some (F.2.2.1 i hi y e),wU (R.here y hy)]
 no:=fun j hj h=>by
  show vl (qs.getD j (0,1))=0
  by_cases z:j < m
  ·rw [getD_some (F.2.2.2 j z hj (fun i _ x e=>h x (be e))),sU]
  ·rw [aaz,aaj (by rw [F.1];omega)]
   exact sU
theorem xC (pins:ν)(bars:π){k:Nat}{p:aA}(h:pins[k]? =some p)(j:Nat)(c:Rat×Rat->Rat)(hj:∀F,vl ((fJ F pins).getD j (0,1))=c (mv F p.nm)):
  (iO (eE pins bars) j).map vl=(pins.flatMap fun q=>q.ws.map fun w=>c (mv (gP q.nm w) p.nm))++bars.map fun b=>c (mv (fZ b) p.nm):=by
 have:=CL pins bars (fun _=>none) h j c hj
 unfold iO at this ⊢
 rw [aaH,aaH] at this
 exact (List.append_inj' this rfl).1
theorem HV {pins:ν}{bars:π}{T:Μ}{U:χ}{c:Rat×Rat->Rat}(c0:c (0,0)=0)(nd:(pins.map (·.nm)).Nodup)(hl:∀q∈pins,(U q.nm).length=q.ws.length){p:aA}(hp:p∈pins):
  sP ((pins.flatMap fun q=>U q.nm)++bars.map (fun b=>T b.nm)) ((pins.flatMap fun q=>q.ws.map fun w=>c (mv (gP q.nm w) p.nm))++bars.map fun b=>c (mv (fZ b) p.nm))=fE bars T U p c:=by
 have l1:(pins.flatMap fun q=>U q.nm).length=(pins.flatMap fun q=>q.ws.map fun w=>c (mv (gP q.nm w) p.nm)).length:=by
  clear hp nd
  induction pins with
  | nil=>rfl
  | cons q ps ih=>rw [aaS,aaS,aat,aat,ih fun r hr=>hl r (aae _ hr),hl q aap,aab]
 have:=Lp (L:=fun _=>none) (bars:=bars) (T:=T) c0 nd hl hp 0
 rw [kK _ _ (by rw [aat,aat,l1,aab,aab]),dG,gR] at this
 grind
theorem jR {pins:ν}{U:χ}(hl:∀q∈pins,(U q.nm).length=q.ws.length):(pins.flatMap fun q=>U q.nm).length=aR pins:=by
 unfold aR
 induction pins with
 | nil=>rfl
 | cons q ps ih=>rw [aaS,aaS,aat,aat,ih fun r hr=>hl r (aae _ hr),hl q aap]
def kN (pins:ν)(bars:π)(T:Μ)(U:χ):Prop:=∀p∈pins,fE bars T U p (·.1)=0/\fE bars T U p (·.2)=0
theorem CO {pins:ν}{bars:π}(g:fh pins bars){T:Μ}{U:χ}(hl:∀q∈pins,(U q.nm).length=q.ws.length)(h:∀j,j < 2*pins.length->sP ((pins.flatMap fun q=>U q.nm)++bars.map (fun b=>T b.nm)) ((iO (eE pins bars) j).map vl)=0):kN pins bars T U:=fun p hp=>by
 obtain ⟨k,ek⟩:=aas hp
 have hk:=(ir.mp ek).1
 have one:∀(j:Nat) (c:Rat×Rat->Rat),j < 2*pins.length->c (0,0)=0->(∀F,vl ((fJ F pins).getD j (0,1))=c (mv F p.nm))->fE bars T U p c=0:=fun j c hj c0 hc=>by
  have:=h j hj
  rw [xC pins bars ek j c hc,HV c0 g.np hl hp] at this
  exact this
 exact ⟨one (2*k) (·.1) (by omega) rfl fun F=>(sR F ek).1,one (2*k+1) (·.2) (by omega) rfl fun F=>(sR F ek).2⟩
theorem HW:∀(rs:List Rat) (qs:ς),rs.length=qs.length->Ty.sumTo qs.length (fun j=>vl (qs.getD j (0,1))*rs.getD j 0)=sP rs (qs.map vl)
 | [],[],_=>by simp [Ty.sumTo,sP]
 | r::rs,q::qs,h=>by
  rw [aal,dG, <- HW rs qs (by simpa using h),aa5]
  show vl q*r+Ty.sumTo qs.length (fun j=>vl (qs.getD j (0,1))*rs.getD j 0)=_
  grind
def mC (pins:ν)(bars:π)(T:Μ)(U:χ):List Rat:=(pins.flatMap fun q=>U q.nm)++bars.map (fun b=>T b.nm)
theorem HX {pins:ν}{bars:π}{T:Μ}{U:χ}(hl:∀q∈pins,(U q.nm).length=q.ws.length):(mC pins bars T U).length=aR pins+bars.length:=by
 unfold mC
 rw [aat,jR hl,aab]
theorem vw {pins:ν}{bars:π}{T:Μ}{U:χ}(hl:∀q∈pins,(U q.nm).length=q.ws.length){k:Nat}{b:aT}(e:bars[k]? =some b):(mC pins bars T U)[aR pins+k]? =some (T b.nm):=by
 unfold mC
 rw [aaY (by rw [jR hl];omega),jR hl,Nat.add_sub_cancel_left,Wp,e]
 rfl
def HY (ws:Ι):Prop:=∀us:List Rat,us.length=ws.length->sP us (ws.map (·.1))=0->sP us (ws.map (·.2))=0->∀u∈us,u=0
theorem Lr {pins:ν}{bars:π}{T:Μ}{U:χ}(wi:∀p∈pins,HY p.ws)(hl:∀q∈pins,(U q.nm).length=q.ws.length)(no:kN pins bars T U){c:Nat}(h1:(mC pins bars T U)[c]? =some 1)(h0:∀j r,c < j->(mC pins bars T U)[j]? =some r->r=0):aR pins<=c:=by
 rcases Nat.lt_or_ge c (aR pins) with z | z
 ·exfalso
  have tz:∀b∈bars,T b.nm=0:=fun b hb=>by
   obtain ⟨k,ek⟩:=aas hb
   exact h0 _ _ (by omega) (vw (T:=T) hl ek)
  have f0:∀(p:aA) (cc:Rat×Rat->Rat),fE bars T U p cc=sP (U p.nm) (p.ws.map cc):=fun p cc=>by
   unfold fE
   have:(bars.map fun b=>T b.nm*cc (mv (fZ b) p.nm))=bars.map fun _=>(0:Rat):=abt fun b hb=>by rw [tz b hb];grind
   rw [this]
   have s0:∀l:List aT,(l.map fun _=>(0:Rat)).sum=0:=fun l=>by
    induction l with
    | nil=>rfl
    | cons a l ih=>rw [aal,aib,ih];grind
   rw [s0]
   grind
  have uz:∀p∈pins,∀u∈U p.nm,u=0:=fun p hp=>wi p hp (U p.nm) (hl p hp) (by rw [<- f0];exact (no p hp).1) (by rw [<- f0];exact (no p hp).2)
  have m1:(1:Rat)∈pins.flatMap fun q=>U q.nm:=by
   have e:=h1
   unfold mC at e
   rw [aaD (by rw [jR hl];exact z)] at e
   exact be e
  obtain ⟨p,hp,hu⟩:=abb.mp m1
  have:=uz p hp 1 hu
  grind
 ·exact z
structure JO (K:Frag)(H:Hp)(pins:ν)(bars:π)(dT dU:Addr)(kT kU:γ)(T:Μ)(U:χ)(N:Nat):Prop where
 hT:H dT=some (.dK kT)
 hU:H dU=some (.dK kU)
 xw:kT.map (·.1)=bars.map (fun b=>(abc b.nm:Key))
 xx:kU.map (·.1)=pins.map (fun p=>(abc p.nm:Key))
 tT:∀b∈bars,∃v,bR kT (.inr b.nm)=some v/\fW K H v (T b.nm)
 tU:∀p∈pins,∃la vs,bR kU (.inr p.nm)=some (.ref la)/\H la=some (.lst vs)/\Paired (fW K H) vs (U p.nm)
 lU:∀p∈pins,(U p.nm).length=p.ws.length
 zT:∀b∈bars,Zb N (T b.nm)
 zU:∀p∈pins,∀u∈U p.nm,Zb N u
 hN:N<=2000000
theorem JO.same {H H' :Hp}{pins:ν}{bars:π}{dT dU:Addr}{kT kU:γ}{T:Μ}{U:χ}{N:Nat}(h:JO K H pins bars dT dU kT kU T U N)(s:au H H'):JO K H' pins bars dT dU kT kU T U N:=⟨s _ _ h.hT,s _ _ h.hU,h.xw,h.xx,fun b hb=>by
 obtain ⟨v,a,b⟩:=h.tT b hb
 exact ⟨v,a,b.same s⟩,fun p hp=>by
 obtain ⟨la,vs,a,b,c⟩:=h.tU p hp
 exact ⟨la,vs,a,s _ _ b,Paired.bJ c fun _ _ z=>z.same s⟩,h.lU,h.zT,h.zU,h.hN⟩
theorem JO.aaQ {H:Hp}{pins:ν}{bars:π}{dT dU:Addr}{kT kU:γ}{T:Μ}{U:χ}{N:Nat}(h:JO K H pins bars dT dU kT kU T U N){b:aT}(hb:b∈bars):∃v,cL H dT (.str b.nm) (some v)/\fW K H v (T b.nm):=by
 obtain ⟨v,a,c⟩:=h.tT b hb
 refine ⟨v,?_,c⟩
 have:=cL.k (k:=.inr b.nm) h.hT
 rw [a] at this
 exact this
theorem JO.PY {H:Hp}{pins:ν}{bars:π}{dT dU:Addr}{kT kU:γ}{T:Μ}{U:χ}{N:Nat}(h:JO K H pins bars dT dU kT kU T U N){p:aA}(hp:p∈pins):∃la vs,cL H dU (.str p.nm) (some (.ref la))/\H la=some (.lst vs)/\Paired (fW K H) vs (U p.nm):=by
 obtain ⟨la,vs,a,b,c⟩:=h.tU p hp
 refine ⟨la,vs,?_,b,c⟩
 have:=cL.k (k:=.inr p.nm) h.hU
 rw [a] at this
 exact this
theorem eY.aaR {os lv:η}{L m b c:Nat}{nd:θ}{qs:ς}(R:Red os L m b nd lv)(F:eY c m nd.length nd qs):∀q∈qs,Sm b b q:=by
 intro q hq
 obtain ⟨j,hj⟩:=aas hq
 have hjm:j < m:=by have:=(ir.mp hj).1;rw [<- F.1];exact this
 by_cases jc:j=c
 ·subst jc
  rw [F.2.1] at hj
  cases hj
  exact ⟨by decide,by decide,ahd,ahd⟩
 by_cases cc:∃(i:Nat) (x:Nat×List Int),nd[i]? =some x/\x.1=j
 ·obtain ⟨i,x,e,rfl⟩:=cc
  have hi:i < nd.length:=(ir.mp e).1
  have h1:=F.2.2.1 i hi x e
  rw [hj] at h1
  cases h1
  have hm:=be e
  exact Lh (R.here x hm) (by rw [ais];exact R.JK x hm c) (R.JK x hm x.1)
 ·have h1:=F.2.2.2 j hjm jc (fun i _ x e z=>cc ⟨i,x,e,z⟩)
  rw [hj] at h1
  cases h1
  exact ⟨by decide,by decide,aa6 _,ahd⟩
theorem CP {H:Hp}{cp:Δ}{eU:Α}{T B m j:Nat}(h:fD K H cp eU)(sh:Shape T B m eU)(hj:j < m):du K H (xo cp j) (iO eU j):=by
 refine ⟨by simp [xo,iO,h.1],fun i u q e1 e2=>?_⟩
 unfold xo at e1
 unfold iO at e2
 rw [Wp] at e1 e2
 obtain ⟨vs,ev,rfl⟩:=aar.mp e1
 obtain ⟨qs,eq,rfl⟩:=aar.mp e2
 have N:=h.2 i vs qs ev eq
 have hl:=(sh qs (be eq)).1
 have lN:=N.1
 refine N.2 j _ _ ?_ ?_
 ·rw [aaz,gE (by omega)];rfl
 ·rw [aaz,gE (by omega)];rfl
def gZ (pins:ν)(bars:π):List (List (Int×Int)):=(abl (2*pins.length)).map fun j=>iO (eE pins bars) j
theorem fO {α β:Type}{F:α->β->Prop}:∀{l₁:List α} {l₂:List β} {a:α} {b:β},Paired F l₁ l₂->F a b->Paired F (l₁++[a]) (l₂++[b])
 | _,_,_,_,.nil,h=>.cons h .nil
 | _,_,_,_,.cons h t,h' =>.cons h (fO t h')
theorem vx {pins:ν}{bars:π}(g:fh pins bars){os lv:η}{nd:θ}{Z:Nat}(qc:vt 90 90 (aR pins+bars.length) (gZ pins bars) os)(R:Red os (aR pins+bars.length) (aR pins+bars.length) Z nd lv){x:Nat×List (Int×Int)}(F:eY x.1 (aR pins+bars.length) nd.length nd x.2)(fr:∀y∈nd,y.1≠x.1)(hc:x.1 < aR pins+bars.length){T:Μ}{U:χ}(hl:∀q∈pins,(U q.nm).length=q.ws.length)(e:mC pins bars T U=x.2.map vl):kN pins bars T U:=by
 have dl:(eE pins bars).length=aR pins+bars.length:=kI pins bars
 have len:∀qs∈gZ pins bars,qs.length=aR pins+bars.length:=fun qs hq=>by
  obtain ⟨i,_,rfl⟩:=aad.mp hq
  unfold iO
  rw [aab,dl]
 have hz:=eY.z R F
 have ez:∀i,(x.2.map vl).getD i 0=vl (x.2.getD i (0,1)):=fun i=>by
  rw [aaz,aaz,Wp]
  cases x.2[i]? with
  | none=>exact sU.symm
  | some q=>rfl
 have sol:=(CN qc len _).mp (NA.sol R hc hz fr)
 exact CO g hl fun j hj=>by
  have lq:(iO (eE pins bars) j).length=aR pins+bars.length:=by
   unfold iO
   rw [aab,dl]
  have:=sol (iO (eE pins bars) j) (aad.mpr ⟨j,abe.mpr hj,rfl⟩)
  show sP (mC pins bars T U) _=0
  rw [<- HW _ _ (by rw [lq];exact HX hl),lq,e]
  refine Eq.trans ?_ this
  congr 1
  funext i
  rw [ez]
theorem HZ {pins:ν}{bars:π}(g:fh pins bars)(wi:∀p∈pins,HY p.ws){os lv:η}{nd:θ}{Z:Nat}(qc:vt 90 90 (aR pins+bars.length) (gZ pins bars) os)(R:Red os (aR pins+bars.length) (aR pins+bars.length) Z nd lv){x:Nat×List (Int×Int)}(F:eY x.1 (aR pins+bars.length) nd.length nd x.2)(fr:∀y∈nd,y.1≠x.1)(hc:x.1 < aR pins+bars.length){T:Μ}{U:χ}(hl:∀q∈pins,(U q.nm).length=q.ws.length)(e:mC pins bars T U=x.2.map vl):aR pins<=x.1:=by
 have hz:=eY.z R F
 have no:kN pins bars T U:=vx g qc R F fr hc hl e
 refine Lr (T:=T) wi hl no ?_ fun j r hj er=>?_
 ·rw [e,Wp,F.2.1]
  show some (vl (1,1))=some 1
  rw [xB]
 ·rw [e,Wp] at er
  obtain ⟨q,eq,rfl⟩:=aar.mp er
  have:=NA.behind R hz hj
  rw [show x.2.getD j (0,1)=q by rw [aaz,eq];rfl] at this
  exact this
theorem H_ {pins:ν}{bars:π}:∀qs∈gZ pins bars,qs.length=aR pins+bars.length:=fun qs hq=>by
 have dl:(eE pins bars).length=aR pins+bars.length:=kI pins bars
 obtain ⟨i,_,rfl⟩:=aad.mp hq
 unfold iO
 rw [aab,dl]
theorem rE (pins:ν)(bars:π):(gZ pins bars).length=2*pins.length:=by unfold gZ;simp
theorem IA {H:Hp}{pins:ν}{bars:π}{cp:Δ}(g:fh pins bars)(h:fD K H cp (eE pins bars)):fD K H (jJ cp (2*pins.length)) (gZ pins bars):=⟨by unfold jJ gZ;simp,fun i vs qs e1 e2=>by
 unfold jJ at e1
 unfold gZ at e2
 rw [Wp] at e1 e2
 obtain ⟨j,ej,rfl⟩:=aar.mp e1
 rw [ej] at e2
 cases e2
 exact CP h (jb g) (abe.mp (be ej))⟩
theorem xD {pins:ν}{bars:π}(g:fh pins bars):Shape 90 90 (aR pins+bars.length) (gZ pins bars):=fun qs hq=>by
 refine ⟨H_ qs hq,?_⟩
 obtain ⟨j,hj,rfl⟩:=aad.mp hq
 exact Po (jb g) (abe.mp hj)
theorem Ls {pins:ν}{bars:π}(g:fh pins bars):bb (90+90*(aR pins+bars.length)) (min (aR pins+bars.length) (gZ pins bars).length)<=110000:=by
 have gl:=g.lp
 have gb:=g.lb
 have wl:aR pins<=2*pins.length:=jN pins g.lw
 unfold bb
 rw [rE]
 have h1:min (aR pins+bars.length) (2*pins.length)+1<=19:=by omega
 have h2:90+90*(aR pins+bars.length)+11<=5321:=by omega
 exact aai (abJ h1 h2) (by decide)
theorem Lu {pins:ν}{bars:π}{H:Hp}{cp:Δ}(g:fh pins bars)(h:fD K H cp (eE pins bars)):∀vs∈cp,((2*pins.length:Nat):Int)<=(vs.length:Int):=fun vs hv=>by
 obtain ⟨i,ei⟩:=aas hv
 have hi:=(ir.mp ei).1
 have l1:=h.1
 obtain ⟨qs,eq⟩:∃qs,(eE pins bars)[i]? =some qs:=⟨_,gE (by omega)⟩
 have l2:=(h.2 i vs qs ei eq).1
 have l3:=(jb g qs (be eq)).1
 omega
def yW (u:HO):Prop:=(∀xs,u≠.tup xs)/\∀o xs,u≠.dA o (.tup xs)
theorem yX {kvs:γ}:yW (.dK kvs):=⟨fun _ z=>(nomatch z),fun _ _ z=>(nomatch z)⟩
theorem xE {o:Obj}{kvs:γ}:yW (.dA o (.dK kvs)):=⟨fun _ z=>(nomatch z),fun _ _ z=>(nomatch z)⟩
theorem bY {H H' :Hp}{d:Addr}{u:HO}(e:H d=some u)(n:yW u)(k:aX d H H'):aY H H' :=fun b xs z=>by
 rcases z with z | ⟨o',z⟩
 ·exact .inl (k _ _ (fun c=>by rw [c,e] at z;cases z;exact n.1 _ rfl) z)
 ·exact .inr ⟨o',k _ _ (fun c=>by rw [c,e] at z;cases z;exact n.2 _ _ rfl) z⟩
theorem sV {α:Type}:∀(l:List α) (o:Nat) (ys:List (Nat×α)),(ys.map (·.1)).Pairwise (· < ·)->(∀y∈ys,o<=y.1/\l[y.1 - o]? =some y.2)->aht (ys.map (·.2)) l
 | l,o,[],_,_=>List.nil_sublist _
 | [],o,y::ys,_,h=>by
  have:=(h y aap).2
  simp at this
 | a::l,o,y::ys,p,h=>by
  rw [aal,ahy] at p
  have up:∀z∈ys,y.1 < z.1:=fun z hz=>p.1 _ (aad.mpr ⟨z,hz,rfl⟩)
  obtain ⟨h1,h2⟩:=h y aap
  have st:∀z:Nat×α,o < z.1->(o<=z.1/\(a::l)[z.1 - o]? =some z.2)->o+1<=z.1/\l[z.1 - (o+1)]? =some z.2:=fun z hz hh=>by
   refine ⟨hz,?_⟩
   have e:=hh.2
   rw [show z.1 - o=(z.1 - (o+1))+1 by omega,List.getElem?_cons_succ] at e
   exact e
  by_cases c:y.1=o
  ·rw [c,Nat.sub_self] at h2
   cases h2
   rw [aal]
   exact (sV l (o+1) ys p.2 fun z hz=>st z (by have:=up z hz;omega) (h z (aae _ hz))).cons_cons _
  ·refine (sV l (o+1) (y::ys) (by rw [aal,ahy];exact p) fun z hz=>?_).cons _
   refine st z ?_ (h z hz)
   rcases aaN.mp hz with e | e
   ·rw [e]
    omega
   ·have:=up z e
    omega
abbrev Reg:=Addr×Addr×(Str->Addr)
abbrev dy:=(Str×(Str->Rat)×(Str->List Rat))×Reg
def jd (pins:ν)(r:Reg):List Addr:=r.1::r.2.1::pins.map fun p=>r.2.2 p.nm
abbrev f9 (pins:ν)(os:List dy):List Addr:=os.flatMap fun o=>jd pins o.2
structure vy (K:Frag)(H:Hp)(pins:ν)(bars:π)(N:Nat)(o:dy)(p:Addr)(kT kU:γ):Prop where
 hp:bU K H p [.ref o.2.1,.ref o.2.2.1]
 pl:JO K H pins bars o.2.1 o.2.2.1 kT kU o.1.2.1 o.1.2.2 N
 la:∀q∈pins,bR kU (.inr q.nm)=some (.ref (o.2.2.2 q.nm))
def sW (K:Frag)(H:Hp)(pins:ν)(bars:π)(N:Nat)(kv:Key×V)(o:dy):Prop:=∃(p:Addr) (kT kU:γ),kv=(.inr o.1.1,.ref p)/\vy K H pins bars N o p kT kU
section
variable {H H' :Hp}{pins:ν}{bars:π}{N:Nat}{kv:Key×V}{o:dy}{p:Addr}{kT kU:γ}
theorem vy.keep (h:vy K H pins bars N o p kT kU)(t:aY H H')(k:∀a∈jd pins o.2,∀u,H a=some u->H' a=some u):vy K H' pins bars N o p kT kU:=by
 refine ⟨t.bN h.hp,⟨k _ aap _ h.pl.hT,k _ (aae _ aap) _ h.pl.hU,h.pl.xw,h.pl.xx,fun b hb=>?_,fun q hq=>?_,h.pl.lU,h.pl.zT,h.pl.zU,h.pl.hN⟩,h.la⟩
 ·obtain ⟨v,a,c⟩:=h.pl.tT b hb
  exact ⟨v,a,c.aU t⟩
 ·obtain ⟨la,vs,a,b,c⟩:=h.pl.tU q hq
  have e:=h.la q hq
  rw [a] at e
  have e' :la=o.2.2.2 q.nm:=by injection (aay e)
  refine ⟨la,vs,a,k _ ?_ _ b,Paired.bJ c fun _ _ z=>z.aU t⟩
  rw [e']
  exact aae _ (aae _ (aad.mpr ⟨q,hq,rfl⟩))
theorem sW.keep (h:sW K H pins bars N kv o)(t:aY H H')(k:∀a∈jd pins o.2,∀u,H a=some u->H' a=some u):sW K H' pins bars N kv o:=by
 obtain ⟨p,kT,kU,e,a⟩:=h
 exact ⟨p,kT,kU,e,a.keep t k⟩
theorem sW.same (h:sW K H pins bars N kv o)(s:au H H'):sW K H' pins bars N kv o:=h.keep (fun _ _ r=>r.imp (s _ _) fun ⟨o,z⟩=>⟨o,s _ _ z⟩) fun _ _ _ e=>s _ _ e
end
structure gy (K:Frag)(H:Hp)(pins:ν)(bars:π)(kvs:γ)(os:List dy)(N:Nat):Prop where
 pr:Paired (sW K H pins bars N) kvs os
 lm:kvs.length<=60
 sub:aht (os.map (·.1.1)) (bars.map (·.nm))
 no:∀o∈os,kN pins bars o.1.2.1 o.1.2.2
 one:∀o∈os,o.1.2.1 o.1.1=1
 JH:∀o∈os,∀o' ∈os,o'.1.1≠o.1.1->o.1.2.1 o'.1.1=0
 beh:∀o∈os,∀(k j:Nat) (b b' :aT),bars[k]? =some b->b.nm=o.1.1->bars[j]? =some b' ->k < j->o.1.2.1 b'.nm=0
theorem gy.keep {H H' :Hp}{pins:ν}{bars:π}{kvs:γ}{os:List dy}{N:Nat}(h:gy K H pins bars kvs os N)(t:aY H H')(k:∀a∈f9 pins os,∀u,H a=some u->H' a=some u):gy K H' pins bars kvs os N:=by
 refine ⟨b9 (Paired.length h.pr) fun i kv o e1 e2=>?_,h.lm,h.sub,h.no,h.one,h.JH,h.beh⟩
 obtain ⟨o',e,z⟩:=av h.pr e1
 rw [e2] at e
 cases e
 exact z.keep t fun a ha=>k a (abb.mpr ⟨o,be e2,ha⟩)
theorem gy.same {H H' :Hp}{pins:ν}{bars:π}{kvs:γ}{os:List dy}{N:Nat}(h:gy K H pins bars kvs os N)(s:au H H'):gy K H' pins bars kvs os N:=⟨Paired.bJ h.pr fun _ _ z=>z.same s,h.lm,h.sub,h.no,h.one,h.JH,h.beh⟩
def yY (pins:ν)(bars:π)(o:dy)(x:Nat×List (Int×Int)):Prop:=aR pins<=x.1/\(bars.map (·.nm))[x.1 - aR pins]? =some o.1.1/\mC pins bars o.1.2.1 o.1.2.2=x.2.map vl/\∀q∈pins,(o.1.2.2 q.nm).length=q.ws.length
theorem IC {pins:ν}{bars:π}:∀{os:List dy} {l:Η},Paired (yY pins bars) os l->∃ys:List (Nat×Str),ys.map (·.1)=l.map (·.1)/\(∀y∈ys,aR pins<=y.1/\(bars.map (·.nm))[y.1 - aR pins]? =some y.2)/\ys.map (·.2)=os.map (·.1.1)
 | _,_,.nil=>⟨[],rfl,(fun y h=>nomatch h),rfl⟩
 | o::_,x::_,.cons h t=>by
  obtain ⟨ys,h1,h2,h3⟩:=IC t
  refine ⟨(x.1,o.1.1)::ys,by rw [aal,aal,h1],fun y hy=>?_,by rw [aal,aal,h3]⟩
  rcases aaN.mp hy with z | z
  ·rw [z]
   exact ⟨h.1,h.2.1⟩
  ·exact h2 y z
theorem xF {pins:ν}{bars:π}{o:dy}{x:Nat×List (Int×Int)}(h:yY pins bars o x){k:Nat}{n:Str}(e:(bars.map (·.nm))[k]? =some n){q:Int×Int}(eq:x.2[aR pins+k]? =some q):o.1.2.1 n=vl q:=by
 rw [Wp] at e
 obtain ⟨b,eb,rfl⟩:=aar.mp e
 have:=vw (T:=o.1.2.1) h.2.2.2 eb
 rw [h.2.2.1,Wp,eq] at this
 exact (aay this).symm
inductive ID (K:Frag)(C:Addr)(vs:ζ)(H:Hp)(Q:VK)(E_:XK):Prop where
 | mk (a:Addr) (pins:ν) (bars:π) (_:vs=[.ref a]) (_:JI K H C a pins bars) (_:fh pins bars) (_:(∀p∈pins,HY p.ws)) (_:∀(d:Addr) (kvs:γ) (os:List dy) (H' :Hp),au H H' ->H' d=some (.dK kvs)->gy K H' pins bars kvs os 110000->(d::f9 pins os).Nodup->(∀b∈d::f9 pins os,H b=none)->Q (.ref d) H'):ID K C vs H Q E_
theorem cM:aF ["F","rows","bars","ways","spares","column","numbers"] ["F"] (ag dJ):=sq
theorem sX {C:Addr}(D:Def K mg "spares_of" dJ ["F"])(a_:mg "len"=none)(MP:bI P w K mg base (bg P w) 1 C "pins" zaj (i_ K C))(MB:bI P w K mg base (bg P w) 1 C "bars" zaj (kH K C))
  (aaT:Fn P w K mg base (bg P w) 38 "draw_rows" ["F"] (ja K C)) (aaU:Fn P w K mg base (bg P w) 1 "turned" zay oH) (mD:Fn P w K mg base (bg P w) 36 "spare_columns" zay (oP K)) (aaV:Fn P w K mg base (bg P w) 3 "pulls_and_pushes" zaQ (PK K C)):
  Fn P w K mg base (bg P w) 39 "spares_of" ["F"] (ID K C):=by
 refine D.ok cM (fun vs H Q E h=>?_) (fun f bM A outer s H vs Q E hr h=>?_)
 ·obtain ⟨a,pins,bars,rfl,_⟩:=h
  rfl
 obtain ⟨a,pins,bars,rfl,R,g,wi,q⟩:=h
 have gl:=g.lp
 have gb:=g.lb
 have wl:aR pins<=2*pins.length:=jN pins g.lw
 have lcq:=rE pins bars
 have dl:(eE pins bars).length=aR pins+bars.length:=kI pins bars
 refine ⟨_,(ae (aH (i:=1) cM.nd rfl (aan rfl) (aD aaT hr.mo (pY P w) (ar (pv 0) aa)))
  (ae (aH (i:=2) cM.nd rfl (aan rfl) (fK (k:=1) (pv 0) hr.mo (pY P w)))
  (ae (aH (i:=3) cM.nd rfl (aan rfl) (aL dr (aI aE rfl a_ bT (ar (pv 1) aa)) (aI aE rfl a_ bT (ar (pv 2) aa))))
  (ae (aH (i:=4) cM.nd rfl (aan rfl) eR)
  (ae (jC (bE PassesOwn.never rfl (jA (aD mD hr.mo (pY P w) (ar (aD aaU hr.mo (pY P w) (ar (pv 1) (ar (aL cF ah (aI aE rfl a_ bT (ar (fK (k:=1) (pv 0) hr.mo (pY P w)) aa))) aa))) (ar (aI aE rfl a_ bT (ar (pv 1) aa)) aa)))) (fm rfl (bu (aC (i:=5) cM.nd rfl (aan rfl)) (bu (aC (i:=6) cM.nd rfl (aan rfl)) dF))) (aj (fL (bX hr) (pv 4) (bw ba (pv 2) (aL dr (pv 5) (pv 3)) (fun _ _=>rfl)) (aD aaV hr.mo (pY P w) (ar (pv 0) (ar (pv 6) aa))) rfl))))
  (aj (aG (pv 4)))))))),?_⟩
 refine ⟨_,rfl,a,pins,bars,rfl,R,g,fun r ls cp H1 s1 nr RR=>?_⟩
 obtain ⟨dx,pP,pW,pB,kP,kW,kB,F0,W0⟩:=R.ex
 have F1:=F0.same s1
 refine ⟨_,rfl,a,C,dx,_,_,_,rfl,F1.obj,rfl,MB,a,dx,pP,pW,pB,_,_,kP,kW,kB,rfl,F1,fun lb H2 s2 YI HR=>?_⟩
 rw [sN] at HR
 have RR2:=RR.same s2
 refine ⟨_,rfl,r,_,rfl,.inl (a8.of RR2.rB.1),_,rfl,lb,_,rfl,.inl (a8.of HR),_,_,rfl,rfl,?_⟩
 intro d Lg;generalize eX:upd _ d _=H3;have ⟨s3,e3⟩:=nw Lg eX;clear eX
 have RR3:=RR2.same s3
 have F3:=F1.same (s2.trans s3)
 have rF:=s1.trans (s2.trans s3)
 have nmp:((pins.map fun p=>(p.nm,oC p.sp)).map (·.1))=pins.map (·.nm):=by rw [aaE];rfl
 have lls:ls.length=aR pins+bars.length:=by rw [RR.rB.2.1,RR.num.1,dl]
 refine ⟨_,rfl,_,rfl,a,C,dx,_,_,_,rfl,F3.obj,rfl,MP,a,dx,pP,pW,pB,_,_,kP,kW,kB,rfl,F3,fun lp H4 s4 DW yP=>?_⟩
 rw [nmp] at yP
 have RR4:=RR3.same s4
 have sz4:((pins.map (·.nm)).map V.str).length=pins.length:=by rw [aab,aab]
 have c2:nO 2 ((pins.length:Nat):Int):=⟨by decide+kernel,aai (intBits_le_64 (by omega) (by omega)) (by decide)⟩
 refine ⟨lp,_,rfl,.inl (a8.of yP),_,_,rfl,rfl,(by rw [aab,aab];exact c2),?_⟩
 have em:(2*((((pins.map (·.nm)).map V.str).length:Nat):Int))=((2*pins.length:Nat):Int):=by rw [sz4];omega
 refine ⟨r,ls,cp,((2*pins.length:Nat):Int),congrArg (fun i:Int=>[V.ref r,V.int i]) em,RR4.rB,by omega,by omega,by omega,Lu g RR4.num,fun c cs H5 s5 M5=>?_⟩
 rw [aiF] at M5
 have RR5:=RR4.same s5
 refine ⟨_,rfl,r,_,rfl,.inl (a8.of RR5.rB.1),?_⟩
 have emm:(((ls.map V.ref).length:Nat):Int)=((aR pins+bars.length:Nat):Int):=by rw [aab,lls]
 refine ⟨c,aR pins+bars.length,cs,_,gZ pins bars,90,90,110000,congrArg (fun i:Int=>[V.ref c,V.int i]) emm,M5,IA g RR5.num,xD g,by omega,by omega,by decide,by omega,by decide,Ls g,by decide,fun sd rD ss os lv nd H6 s6 Rf Nz hSp qc RZ K3 hF=>?_⟩
 have eW:((((ls.map V.ref).length:Nat):Int) - ((((bars.map (·.nm)).map V.str).length:Nat):Int))=(aR pins:Int):=by
  rw [aab,aab,aab,lls]
  omega
 have v9:=s4.trans (s5.trans s6)
 have wd:=rF.trans v9
 have Rh:H sd=none:=(rF.trans (s4.trans s5)).free Rf
 have Hd:H d=none:=(s1.trans s2).free Lg
 have ed6:=v9 _ _ e3
 have PZ:=v9 _ _ (s3 _ _ HR)
 have Ux:d≠sd:=fun z=>by
  have:=(s4.trans s5) _ _ e3
  rw [z,Rf] at this
  cases this
 refine ⟨sd,rD,rfl,Nz,fun o=>?_⟩
 have k0:aX sd H6 (upd H6 sd (.dA o (.dK rD))):=aX.upd
 have lsk:rD.length=ss.length:=hSp.1
 have lss:ss.length<=aR pins+bars.length:=by
  have:=congrArg abO K3
  rw [aab] at this
  have h2:=abU (free nd) (abl (aR pins+bars.length))
  rw [ahE] at h2
  omega
 have nodup:(ss.map (·.1)).Nodup:=by
  rw [K3]
  exact aiW.filter _
 refine iC (d:=sd) (o:=o) (kvs:=rD) (fun t σ H' =>∃(o5 o6:ω) (kvs:γ) (ow:List dy),σ=[some (.ref a),some (.ref r),some (.ref lb),some (.int ((((ls.map V.ref).length:Nat):Int) - ((((bars.map (·.nm)).map V.str).length:Nat):Int))),some (.ref d),o5,o6]/\au H H' /\H' lb=some (.lst ((bars.map (·.nm)).map V.str))/\yU K H' rD ss/\H' sd=some (.dA o (.dK rD))/\H' d=some (.dK kvs)/\Paired (sW K H' pins bars 110000) kvs ow/\Paired (yY pins bars) ow (ss.take t)/\(d::f9 pins ow).Nodup/\(∀b∈d::f9 pins ow,H b=none/\b≠sd)/\∀b∈d::f9 pins ow,∃u,H' b=some u) ⟨none,none,[],[],rfl,fun b o' e=>k0 _ _ (aq e Rh) (wd _ _ e),k0 _ _ (fun z=>by rw [z,Nz] at PZ;cases PZ) PZ,hSp.ks (.inl Nz) k0,ak,k0 _ _ Ux ed6,.nil,by simpa using Paired.nil,by simp [f9],by simpa [f9] using ⟨Hd,Ux⟩,by simpa [f9] using ⟨_,k0 _ _ Ux ed6⟩⟩ (fun t σ H' _ h=>by
   obtain ⟨_,_,_,_,_,_,_,_,h,_⟩:=h
   exact h) ?_ ?_
 ·rintro t k y σ H7 p7 rA ⟨o5,o6,kvs,ow,rfl,s7,IE,sp7,Uy,d7,Rk,NC,YN,YO,rl7⟩ n7
  have ht:t < rD.length:=(ir.mp rA).1
  obtain ⟨x,ex⟩:∃x,ss[t]? =some x:=⟨_,gE (by omega)⟩
  have mx:=be ex
  obtain ⟨ek,lx,us,ey,hlx,hus⟩:=sp7.2 t (k,y) x rA ex
  have ek' :k=.inl (x.1:Int):=ek
  have DV :y=.ref lx:=ey
  subst ek'
  subst DV
  have t7:=aK n7 (.tup [kV (.inl (x.1:Int)),.ref lx])
  have e7:(upd H7 p7 (.tup [kV (.inl (x.1:Int)),.ref lx])) p7=some (.tup [kV (.inl (x.1:Int)),.ref lx]):=ak
  generalize upd H7 p7 (.tup [kV (.inl (x.1:Int)),.ref lx])=H8 at t7 e7 ⊢
  have s8:=s7.trans t7
  refine ⟨p7,_,rfl,bU.of e7,rfl,_,_,rfl,_,_,rfl,rfl,?_⟩
  have cx:x.1 < aR pins+bars.length/\∀y∈nd,y.1≠x.1:=by
   have:x.1∈ss.map (·.1):=aad.mpr ⟨x,mx,rfl⟩
   rw [K3] at this
   obtain ⟨h1,h2⟩:=abM.mp this
   exact ⟨abe.mp h1,jQ.mp h2⟩
  have Fx:=hF x mx
  have smx:=eY.aaR RZ Fx
  have lxx:x.2.length=aR pins+bars.length:=Fx.1
  refine ⟨_,rfl,_,rfl,a,lx,pins,bars,us,x.2.map vl,rfl,R.same s8,g,t7 _ _ hlx,vq (hus.same t7) smx,by rw [aab];exact lxx,fun T U L p dT dU kT kU H9 s9 er hp9 pQ=>?_⟩
  have al:mC pins bars T U=x.2.map vl:=er.symm
  have wc:=HZ g wi qc RZ Fx cx.2 cx.1 pQ.lU al
  have hb:x.1 - aR pins < bars.length:=by omega
  obtain ⟨b,eb⟩:∃b,bars[x.1 - aR pins]? =some b:=⟨_,gE hb⟩
  have Uz:=t7.trans s9
  have d9:=Uz _ _ d7
  have d8:=t7 _ _ d7
  have sd9:=Uz _ _ Uy
  have ai:gY ((bars.map (·.nm)).map V.str) ((x.1:Int) - ((((ls.map V.ref).length:Nat):Int) - ((((bars.map (·.nm)).map V.str).length:Nat):Int)))=some (.str b.nm):=by
   rw [eW,show (x.1:Int) - (aR pins:Int)=((x.1 - aR pins:Nat):Int) by omega]
   exact bV (by rw [Wp,Wp,eb];rfl)
  have lk:kvs.length=ow.length:=Paired.length Rk
  have lo:ow.length=t:=by
   have:=Paired.length NC
   rw [aa2] at this
   omega
  refine ⟨_,rfl,_,rfl,_,rfl,_,rfl,_,_,rfl,rfl,lb,_,_,_,rfl,rfl,a8.of (Uz _ _ IE),ai,d,_,rfl,ku.k (k:=.inr b.nm) d9 (aaq (show kvs.length<=1000 by omega) (by decide)),?_⟩
  have f1:(bars.map (·.nm))[x.1 - aR pins]? =some b.nm:=by rw [Wp,eb];rfl
  have Rm:∀(i:Nat) (o1:dy),ow[i]? =some o1->o1.1.1≠b.nm:=fun i o1 eo en0=>by
   obtain ⟨x',Ob,w1,f2,_⟩:=av NC eo
   have hi:i < t:=by
    have:=(ir.mp Ob).1
    rw [aa2] at this
    omega
   rw [aia hi] at Ob
   rw [en0] at f2
   have e4:=cO g.nb f1 f2
   have f3:(ss.map (·.1))[t]? =some x.1:=by rw [Wp,ex];rfl
   have f4:(ss.map (·.1))[i]? =some x.1:=by
    rw [Wp,Ob]
    show some x'.1=some x.1
    congr 1
    omega
   have:=cO nodup f3 f4
   omega
  have OA:bR kvs (.inr b.nm)=none:=jH fun z=>by
   obtain ⟨kv,ND,UA⟩:=aad.mp z
   obtain ⟨i,ei⟩:=aas ND
   obtain ⟨ox,eo,_,_,_,aaZ,_⟩:=av Rk ei
   rw [aaZ] at UA
   exact Rm i ox eo (abx UA)
  rw [dD _ OA]
  have ks:aX d H9 (upd H9 d (.dK (kvs++[(.inr b.nm,.ref p)]))):=aX.upd
  have tk:aY H9 (upd H9 d (.dK (kvs++[(.inr b.nm,.ref p)]))):=bY d9 yX ks
  have zm:∀r∈x.2.map vl,Zb 110000 r:=fun r hr=>by
   obtain ⟨q',g7,rfl⟩:=aad.mp hr
   exact Ut (m:=0) (smx q' g7) (aaf _) (aaf _)
  have UB:∀b∈jd pins (dT,dU,L),H8 b=none/\∃u,H9 b=some u:=fun b hb=>by
   rcases aaN.mp hb with z | hb
   ·rw [z]
    exact ⟨pQ.nT,_,pQ.hT⟩
   rcases aaN.mp hb with z | hb
   ·rw [z]
    exact ⟨pQ.nU,_,pQ.hU⟩
   obtain ⟨q',g7,rfl⟩:=aad.mp hb
   obtain ⟨vs,_,b1,c1,_⟩:=pQ.tU q' g7
   exact ⟨b1,_,c1⟩
  have nd9:(jd pins (dT,dU,L)).Nodup:=by
   have ll:∀b∈pins.map (fun q=>L q.nm),∃vs,H9 b=some (.lst vs):=fun b hb=>by
    obtain ⟨q',g7,rfl⟩:=aad.mp hb
    obtain ⟨vs,_,_,c1,_⟩:=pQ.tU q' g7
    exact ⟨vs,c1⟩
   show (dT::dU::pins.map fun q=>L q.nm).Nodup
   rw [aaX,aaX]
   refine ⟨fun z=>?_,fun z=>?_,?_⟩
   ·rcases aaN.mp z with z | z
    ·exact pQ.ne z
    ·obtain ⟨vs,e⟩:=ll _ z
     rw [pQ.hT] at e
     cases e
   ·obtain ⟨vs,e⟩:=ll _ z
    rw [pQ.hU] at e
    cases e
   ·have np:=g.np
    have inj:=pQ.inj
    rw [ah4,aho] at np ⊢
    have hp:∀{x y:aA},aht [x,y] pins->x.nm≠y.nm:=fun {x y} h=>ahG.mp np h
    exact ahG.mpr fun {x y} hs e=>hp hs (inj x (hs.subset aap) y (hs.subset (aae _ aap)) e)
  have ndr:∀b∈jd pins (dT,dU,L),b≠d:=fun b hb z=>by
   have:=(UB b hb).1
   rw [z,d8] at this
   cases this
  have nw9:sW K H9 pins bars 110000 (.inr b.nm,.ref p) ((b.nm,T,U),(dT,dU,L)):=⟨p,kT,kU,rfl,bU.of hp9,⟨pQ.hT,pQ.hU,pQ.xw,pQ.xx,pQ.tT,fun q' g7 =>by
    obtain ⟨vs,a1,_,c1,d1⟩:=pQ.tU q' g7
    exact ⟨_,vs,a1,c1,d1⟩,pQ.lU,fun b' gi =>zm _ (by rw [<- al];exact aaA.mpr (.inr (aad.mpr ⟨b',gi,rfl⟩))),fun q' g7 u hu=>zm _ (by rw [<- al];exact aaA.mpr (.inl (abb.mpr ⟨q',g7,hu⟩))),by decide⟩,fun q' g7 =>by
    obtain ⟨vs,a1,_⟩:=pQ.tU q' g7
    exact a1⟩
  have old:∀o1∈ow,∀b∈jd pins o1.2,b≠d:=fun o1 ho b hb z=>(aaX.mp YN).1 (by rw [<- z];exact abb.mpr ⟨o1,ho,hb⟩)
  have e1g:d::f9 pins (ow++[((b.nm,T,U),(dT,dU,L))])=(d::f9 pins ow)++jd pins (dT,dU,L):=by simp [f9]
  refine ⟨_,_,kvs++[(.inr b.nm,.ref p)],ow++[((b.nm,T,U),(dT,dU,L))],rfl,fun b' o' e=>?_,?_,?_,?_,ak,fO (b9 lk fun i kv o1 e1 e2=>?_) (nw9.keep tk fun b hb u e=>ks _ _ (ndr b hb) e),?_,?_,?_,?_⟩
  ·exact ks _ _ (aq e Hd) (s9 _ _ (s8 _ _ e))
  ·exact ks _ _ (fun z=>by rw [z,d7] at IE;cases IE) (Uz _ _ IE)
  ·exact ((sp7.same t7).same s9).ks (.inl d9) ks
  ·exact ks _ _ (aaW Ux) sd9
  ·obtain ⟨o2,UC,z⟩:=av Rk e1
   rw [e2] at UC
   cases UC
   exact ((z.same t7).same s9).keep tk fun b hb u e=>ks _ _ (old o1 (be e2) b hb) e
  ·rw [take_snoc ex]
   exact fO NC ⟨wc,f1,al,pQ.lU⟩
  ·rw [e1g,aby]
   refine ⟨YN,nd9,fun a1 h1 b1 h2 z=>?_⟩
   obtain ⟨u,hu⟩:=rl7 a1 h1
   have:=(UB b1 h2).1
   rw [<- z,t7 _ _ hu] at this
   cases this
  ·intro b' gi
   rw [e1g] at gi
   rcases aaA.mp gi with h | h
   ·exact YO b' h
   ·exact ⟨s8.free (UB b' h).1,fun z=>by
     have:=(UB b' h).1
     rw [z,t7 _ _ Uy] at this
     cases this⟩
  ·intro b' gi
   rw [e1g] at gi
   have:∃u,H9 b' =some u:=by
    rcases aaA.mp gi with h | h
    ·obtain ⟨u,hu⟩:=rl7 b' h
     exact ⟨u,Uz _ _ hu⟩
    ·exact (UB b' h).2
   obtain ⟨u,hu⟩:=this
   by_cases c:b' =d
   ·exact ⟨_,by rw [c];exact ak⟩
   ·exact ⟨u,ks _ _ c hu⟩
 ·rintro σ H7 ⟨o5,o6,kvs,ow,rfl,s7,IE,sp7,Uy,d7,Rk,NC,YN,YO,rl7⟩
  rw [lsk,abf] at NC
  have kS:aX sd H7 (upd H7 sd (.dK rD)):=aX.upd
  have tS:aY H7 (upd H7 sd (.dK rD)):=bY Uy xE kS
  have UD:∀o1∈ow,∃x,x∈ss/\yY pins bars o1 x:=fun o1 ho=>by
   obtain ⟨i,ei⟩:=aas ho
   obtain ⟨x,ex,h⟩:=av NC ei
   exact ⟨x,be ex,h⟩
  have YQ:∀x∈ss,x.1 < aR pins+bars.length/\∀y∈nd,y.1≠x.1:=fun x mx=>by
   have:x.1∈ss.map (·.1):=aad.mpr ⟨x,mx,rfl⟩
   rw [K3] at this
   obtain ⟨h1,h2⟩:=abM.mp this
   exact ⟨abe.mp h1,jQ.mp h2⟩
  refine ⟨sd,o,rD,Uy,fun o' u' z=>(by have z' :H sd=some (.dA o' u'):=z;rw [Rh] at z';cases z'),_,rfl,?_⟩
  refine q d kvs ow _ (fun b' o' e=>kS _ _ (aq e Rh) (s7 _ _ e)) (kS _ _ Ux d7) (gy.keep ⟨Rk,?_,?_,fun o1 ho=>?_,fun o1 ho=>?_,fun o1 ho o2 QU ne=>?_,fun o1 ho k j b b' ek en ej hkj=>?_⟩ tS fun b hb u e=>kS _ _ (YO b (aae _ hb)).2 e) YN (fun b hb=>(YO b hb).1)
  ·have h1:=Paired.length Rk
   have h2:=Paired.length NC
   omega
  ·obtain ⟨ys,h1,h2,h3⟩:=IC NC
   rw [<- h3]
   exact sV (bars.map (·.nm)) (aR pins) ys (by rw [h1,K3];exact ail.filter _) h2
  ·obtain ⟨x,mx,h⟩:=UD o1 ho
   exact vx g qc RZ (hF x mx) (YQ x mx).2 (YQ x mx).1 h.2.2.2 h.2.2.1
  ·obtain ⟨x,mx,h⟩:=UD o1 ho
   have hw:=h.1
   rw [xF h h.2.1 (q:=(1,1)) (by rw [show aR pins+(x.1 - aR pins)=x.1 by omega];exact (hF x mx).2.1),xB]
  ·obtain ⟨x,mx,h⟩:=UD o1 ho
   obtain ⟨x',mx',h'⟩:=UD o2 QU
   have YL :=h'.1
   have nx:x'.1≠x.1:=fun z=>ne (by
    have e1:=h.2.1
    rw [<- z,h'.2.1] at e1
    exact aay e1)
   rw [xF h h'.2.1 (q:=(0,1)) (by rw [show aR pins+(x'.1 - aR pins)=x'.1 by omega];exact (hF x mx).2.2.2 x'.1 (YQ x' mx').1 nx (fun i _ y ey=>(YQ x' mx').2 y (be ey))),sU]
  ·obtain ⟨x,mx,h⟩:=UD o1 ho
   have hw:=h.1
   have e1:(bars.map (·.nm))[k]? =some o1.1.1:=by rw [Wp,ek, <- en];rfl
   have e2:=cO g.nb e1 h.2.1
   have hj:=(ir.mp ej).1
   have lx:x.2.length=aR pins+bars.length:=(hF x mx).1
   obtain ⟨qq,eqq⟩:∃qq,x.2[aR pins+j]? =some qq:=⟨_,gE (by omega)⟩
   rw [xF h (k:=j) (n:=b'.nm) (by rw [Wp,ej];rfl) eqq]
   have:=NA.behind RZ (eY.z RZ (hF x mx)) (j:=aR pins+j) (by omega)
   rw [show x.2.getD (aR pins+j) (0,1)=qq by rw [aaz,eqq];rfl] at this
   exact this
def cell (ns:ξ)(k:Int):Int:=if k < (ns.length:Int) then (ns[k.toNat]?).getD 0 else ((((k+5)*(k+5)*48271).fmod 2147483647)*(((k+5)*(k+5)*48271).fmod 2147483647)).fmod 2147483629
theorem jS {x m:Int}(h:0 < m):0<=x.fmod m/\x.fmod m < m:=⟨ag_ x h,ah1 x h⟩
inductive kO (K:Frag)(vs:ζ)(H:Hp)(Q:VK)(E_:XK):Prop where
 | mk (a:Addr) (ns:ξ) (k:Int) (_:vs=[.ref a,.int k]) (_:a8 K H a (ns.map V.int)) (_:0<=k) (_:k<=1000) (_:Q (.int (cell ns k)) H):kO K vs H Q E_
theorem cell_in {ns:ξ}{k:Int}(h0:0<=k)(h:k < (ns.length:Int)):gY (ns.map V.int) k=some (.int (cell ns k)):=by
 have hk:k.toNat < ns.length:=by omega
 have ek:k=((k.toNat:Nat):Int):=by omega
 have q:gY (ns.map V.int) ((k.toNat:Nat):Int)=some (.int (cell ns k)):=bV (by
  unfold cell
  rw [if_pos h,Wp,gE hk]
  rfl)
 rw [<- ek] at q
 exact q
theorem je {i:Int}{k:Nat}(h:i.natAbs < 2^k):intBits i<=k:=intBits_le_iff.mpr h
theorem NF:aF ["_law_script","_law_k","_law_part"] zas (ag BB):=sq
theorem UE (D:Def K mg "_law_cell_at" BB zas)(a_:mg "len"=none):Fn P w K mg base CX 1 "_law_cell_at" zas (kO K):=by
 refine D.ok NF (fun vs H Q E h=>?_) (fun f bM A outer s H vs Q E hr h=>?_)
 ·obtain ⟨a,ns,k,rfl,_⟩:=h
  rfl
 obtain ⟨a,ns,k,rfl,hS,h0,h1,q⟩:=h
 refine ⟨_,(ae (bq (aS nA (pv 1) (aI aE rfl a_ bT (ar (pv 0) aa)) (a9 _)) (aj (aG (bw ba (pv 0) (pv 1) (fun _ _=>rfl)))) aQ)
  (ae (aH (i:=2) NF.nd rfl (aan rfl) (aL eM (aL cF (aL cF (aL b6 (pv 1) ah) (aL b6 (pv 1) ah)) ah) ah))
  (aj (aG (aL eM (aL cF (pv 2) (pv 2)) ah))))),?_⟩
 have hl:(ns.map V.int).length=ns.length:=aab _
 refine ⟨_,rfl,_,rfl,a,_,rfl,.inl hS,_,_,rfl,rfl,_,rfl,?_⟩
 refine bx (fun c=>?_) (fun c=>?_)
 ·have c' :k < (((ns.map V.int).length:Nat):Int):=of_decide_eq_true c
  rw [hl] at c'
  exact ⟨_,rfl,_,rfl,a,_,k,_,rfl,rfl,hS,cell_in h0 c',q⟩
 ·have c' :¬ k < (((ns.map V.int).length:Nat):Int):=of_decide_eq_false (ahF.mpr c)
  rw [hl] at c'
  have b5:intBits (k+5)<=11:=je (by show _ < 2048;omega)
  have e1:=jS (x:=(k+5)*(k+5)*48271) (m:=2147483647) (by decide)
  have bp:intBits (((k+5)*(k+5)*48271).fmod 2147483647)<=31:=je (by show _ < 2147483648;omega)
  refine ⟨_,rfl,_,_,rfl,rfl,_,rfl,_,_,rfl,rfl,_,_,rfl,rfl,⟨aai b5 (by decide),aai b5 (by decide)⟩,?_⟩
  refine ⟨_,_,rfl,rfl,⟨aai (intBits_mul_le b5 b5) (by decide),by decide+kernel⟩,_,_,rfl,rfl,nz (by decide),?_⟩
  refine ⟨_,rfl,_,rfl,_,_,rfl,rfl,⟨aai bp (by decide),aai bp (by decide)⟩,_,_,rfl,rfl,nz (by decide),?_⟩
  have e:cell ns k=((((k+5)*(k+5)*48271).fmod 2147483647)*(((k+5)*(k+5)*48271).fmod 2147483647)).fmod 2147483629:=by
   unfold cell
   rw [if_neg c']
  rw [e] at q
  exact q
def field (c p m:Int):Int:=(((c.fmod p+11)*48271).fmod p).fmod m
theorem aZ {c p m:Int}(h:0 < m):0<=field c p m/\field c p m < m:=jS h
inductive ed (vs:ζ)(H:Hp)(Q:VK)(E_:XK):Prop where
 | mk (c p m:Int) (_:vs=[.int c,.int p,.int m]) (_:0 < p) (_:p<=2000000) (_:0 < m) (_:Q (.int (field c p m)) H):ed vs H Q E_
theorem UG:aF zab zab (ag BC):=sq
theorem UH (D:Def K mg "_law_field" BC zab):Fn P w K mg base CX 1 "_law_field" zab ed:=by
 refine D.ok UG (fun vs H Q E h=>?_) (fun f bM A outer s H vs Q E hr h=>?_)
 ·obtain ⟨c,p,m,rfl,_⟩:=h
  rfl
 obtain ⟨c,p,m,rfl,hp,SG,hm,q⟩:=h
 refine ⟨_,(aj (aG (aL eM (aL eM (aL cF (aL b6 (aL eM (pv 0) (pv 1)) ah) ah) (pv 1)) (pv 2)))),?_⟩
 have e1:=jS (x:=c) hp
 refine ⟨_,rfl,_,rfl,_,_,rfl,rfl,nz (by omega),_,_,rfl,rfl,_,_,rfl,rfl,⟨aai (je (k:=22) (by show _ < 4194304;omega)) (by decide),by decide+kernel⟩,?_⟩
 exact ⟨_,rfl,_,_,rfl,rfl,nz (by omega),_,rfl,_,_,rfl,rfl,nz (by omega),q⟩
inductive dE (vs:ζ)(H:Hp)(Q:VK)(E_:XK):Prop where
 | mk (t b:Int) (_:vs=[.int t,.int b]) (_:0 < b) (_:gives H Q (low t b)):dE vs H Q E_
theorem yZ:aF ["_law_top","_law_bottom","_law_one_here","_law_other"] zat (ag BD):=sq
theorem UI (ht:P.given.tree=none)(D:Def K mg "_law_lowest" BD zat)(rl:mg "abs"=none):Fn P w K mg base (bg P w) 33 "_law_lowest" zat dE:=by
 refine D.ok yZ (fun vs H Q E h=>?_) (fun f bM A outer s H vs Q E hr h=>?_)
 ·obtain ⟨t,b,rfl,_⟩:=h
  rfl
 obtain ⟨t,b,rfl,hb,q⟩:=h
 refine ⟨_,(ae (aH (i:=2) yZ.nd rfl (aan rfl) (aI uo rfl rl M9 (ar (pv 0) aa)))
  (ae (aH (i:=3) yZ.nd rfl (aan rfl) (pv 1))
  (ae (nj PassesOwn.never (aS lK (pv 3) ah (a9 _)) (aj (Ol (i:=2) (j:=3) rfl yZ.nd rfl rfl (by decide) rfl rfl (ar (pv 3) (ar (aL eM (pv 2) (pv 3)) aa)) rfl)))
  (aj (aG (aV (ar (aL (fu ht (Ty.cD.py hr (by decide)) rfl rfl rfl rfl rfl) (pv 0) (pv 2)) (ar (aL (fu ht (Ty.cD.py hr (by decide)) rfl rfl rfl rfl rfl) (pv 1) (pv 2)) aa)))))))),?_⟩
 refine ⟨_,rfl,t,rfl,?_⟩
 refine ⟨_,rfl,?_⟩
 refine um (fun σ H' =>∃x y:Int,σ=[some (.int t),some (.int b),some (.int x),some (.int y)]/\H' =H/\0<=x/\0<=y/\abm x y=abm t b) (fun σ _=>match σ with | [_,_,_,some (.int y)]=>y.natAbs | _=>0) ⟨_,b,rfl,rfl,?_,by omega,?_⟩ ?_ ?_
 ·split <;> omega
 ·split
  ·exact Int.neg_gcd
  ·rfl
 ·rintro σ H' ⟨x,y,rfl,rfl,hx,hy,g⟩
  refine ⟨_,rfl,rfl,_,rfl,?_⟩
  refine bx (fun c=>?_) (fun c=>?_)
  ·have Ld:y≠0:=by
    intro z
    subst z
    simp at c
   refine ⟨_,rfl,_,rfl,_,rfl,_,_,rfl,rfl,Ld,_,_,rfl,?_⟩
   exact ⟨⟨_,_,rfl,rfl,hy,ag_ _ (by omega),by rw [uC];exact g⟩,qO Ld⟩
  ·have Ld:y=0:=by
    have:=ahF.mpr c
    simp at this
    exact this
   subst Ld
   have e:x=sg t b:=by
    rw [aiC] at g
    unfold sg
    rw [if_neg (by omega)]
    unfold gz
    rw [<- g]
    omega
   subst e
   have hbn:b≠0:=by omega
   have c:=nJ (t:=t) hbn
   refine ⟨_,rfl,_,rfl,_,_,rfl,rfl,c,_,rfl,_,rfl,_,_,rfl,rfl,c,(by show 2<=sizeLine;decide),fun p hp=>?_⟩
   exact q p _ (aK hp _) ak
 ·rintro σ H' Q1 Q2 h ⟨v,e1,e2,k,ek,z⟩
  exact ⟨v,e1,e2,k,ek,h _ _ z⟩
structure Ns (n:Nat)(q:Int×Int):Prop where
 top:q.1.natAbs<=2^n
 bot:q.2.natAbs<=2^n
theorem Ns.up {m n:Nat}{q:Int×Int}(h:Ns m q)(l:m<=n):Ns n q:=⟨aai h.top (aa0 (by decide) l),aai h.bot (aa0 (by decide) l)⟩
def kQ (K:Frag)(H:Hp)(v:V)(n:Nat)(r:Rat):Prop:=∃q:Int×Int,mw K H v q/\0 < q.2/\vl q=r/\Ns n q
theorem kQ.same {H H' :Hp}{v:V}{n:Nat}{r:Rat}(h:kQ K H v n r)(s:au H H'):kQ K H' v n r:=by
 obtain ⟨q,h1,h2⟩:=h
 exact ⟨q,h1.same s,h2⟩
theorem kQ.aU {H H' :Hp}{v:V}{n:Nat}{r:Rat}(h:kQ K H v n r)(s:aY H H'):kQ K H' v n r:=by
 obtain ⟨q,h1,h2⟩:=h
 exact ⟨q,h1.aU s,h2⟩
theorem kQ.up {H:Hp}{v:V}{m n:Nat}{r:Rat}(h:kQ K H v m r)(l:m<=n):kQ K H v n r:=by
 obtain ⟨q,h1,h2,h3,h4⟩:=h
 exact ⟨q,h1,h2,h3,h4.up l⟩
theorem kR {H:Hp}{v:V}{n:Nat}{r:Rat}(h:fW K H v r)(z:Zb n r):kQ K H v n r:=⟨qr r,h,dw r,gu r,⟨z.top,z.bot⟩⟩
theorem y4 {k n:Nat}{r:Rat}(h:Sz k r)(l:k<=n):Zb n r:=⟨abA (aaI (intBits_le_iff.mp h.top) (aa0 (by decide) l)),abA (aaI (intBits_le_iff.mp h.bot) (aa0 (by decide) l))⟩
theorem Lv {q:Int×Int}(h:0 < q.2):q.1=0 ↔ vl q=0:=by
 unfold vl
 have z:((q.2:Int):Rat)≠0:=cY (abK h)
 constructor
 ·intro e
  rw [e]
  have:((0:Int):Rat)=0:=by rfl
  rw [this]
  grind
 ·intro e
  apply abr
  intro n
  have y:((q.1:Int):Rat)≠0:=cY n
  exact (by grind:¬ ((q.1:Int):Rat) / ((q.2:Int):Rat)=0) e
def f_ (x y:Int×Int):Int×Int:=(x.1*y.2+y.1*x.2,x.2*y.2)
def qg (x y:Int×Int):Int×Int:=(x.1*y.1,x.2*y.2)
theorem eZ {a b:Int}{m n:Nat}(h1:a.natAbs<=2^m)(h2:b.natAbs<=2^n):(a*b).natAbs<=2^(m+n):=by
 rw [abZ,ahR]
 exact abJ h1 h2
theorem Lw {x y:Int×Int}{m n:Nat}(hx:0 < x.2)(hy:0 < y.2)(zx:Ns m x)(zy:Ns n y):0 < (f_ x y).2/\vl (f_ x y)=vl x+vl y/\Ns (m+n+1) (f_ x y):=by
 refine ⟨ahq hx hy,?_,?_,?_⟩
 ·unfold vl f_
  have z1:((x.2:Int):Rat)≠0:=cY (abK hx)
  have z2:((y.2:Int):Rat)≠0:=cY (abK hy)
  push_cast
  grind
 ·have h1:=eZ zx.top zy.bot
  have h2:=eZ zy.top zx.bot
  rw [aif n m] at h2
  have h3:=ahm (x.1*y.2) (y.1*x.2)
  show (x.1*y.2+y.1*x.2).natAbs<=2^(m+n+1)
  rw [ahD]
  omega
 ·exact aai (eZ zx.bot zy.bot) (aa0 (by decide) (by omega))
theorem Lx {x y:Int×Int}{m n:Nat}(hx:0 < x.2)(hy:0 < y.2)(zx:Ns m x)(zy:Ns n y):0 < (qg x y).2/\vl (qg x y)=vl x*vl y/\Ns (m+n) (qg x y):=by
 refine ⟨ahq hx hy,?_,eZ zx.top zy.top,eZ zx.bot zy.bot⟩
 unfold vl qg
 have z1:((x.2:Int):Rat)≠0:=cY (abK hx)
 have z2:((y.2:Int):Rat)≠0:=cY (abK hy)
 push_cast
 grind
inductive dz (K:Frag)(f:Int×Int->Int×Int->Int×Int)(vs:ζ)(H:Hp)(Q:VK)(E_:XK):Prop where
 | mk (u v:V) (x y:Int×Int) (m n:Nat) (_:vs=[u,v]) (_:mw K H u x) (_:mw K H v y) (_:Ns m x) (_:Ns n y) (_:m+n<=130000000) (_:gives H Q (f x y)):dz K f vs H Q E_
theorem sY {H:Hp}{u v:V}{m n:Nat}{x y:Rat}{Q:VK}{E:XK}(h1:kQ K H u m x)(h2:kQ K H v n y)(l:m+n<=130000000)(k:∀(p:Addr) (H' :Hp),au H H' ->kQ K H' (.ref p) (m+n+1) (x+y)->Q (.ref p) H'):dz K f_ [u,v] H Q E:=by
 obtain ⟨q1,a1,a2,a3,a4⟩:=h1
 obtain ⟨q2,b1,b2,b3,b4⟩:=h2
 obtain ⟨c1,c2,c3⟩:=Lw a2 b2 a4 b4
 exact ⟨u,v,q1,q2,m,n,rfl,a1,b1,a4,b4,l,fun p H' s e=>k p H' s ⟨f_ q1 q2,⟨p,rfl,bU.of e⟩,c1,by rw [c2,a3,b3],c3⟩⟩
theorem y6 {H:Hp}{u v:V}{m n:Nat}{x y:Rat}{Q:VK}{E:XK}(h1:kQ K H u m x)(h2:kQ K H v n y)(l:m+n<=130000000)(k:∀(p:Addr) (H' :Hp),au H H' ->kQ K H' (.ref p) (m+n) (x*y)->Q (.ref p) H'):dz K qg [u,v] H Q E:=by
 obtain ⟨q1,a1,a2,a3,a4⟩:=h1
 obtain ⟨q2,b1,b2,b3,b4⟩:=h2
 obtain ⟨c1,c2,c3⟩:=Lx a2 b2 a4 b4
 exact ⟨u,v,q1,q2,m,n,rfl,a1,b1,a4,b4,l,fun p H' s e=>k p H' s ⟨qg q1 q2,⟨p,rfl,bU.of e⟩,c1,by rw [c2,a3,b3],c3⟩⟩
inductive gS (K:Frag)(vs:ζ)(H:Hp)(Q:VK)(E_:XK):Prop where
 | mk (u:V) (x:Int×Int) (_:vs=[u]) (_:mw K H u x) (_:gives H Q (0 - x.1,x.2)):gS K vs H Q E_
theorem vA {H:Hp}{u:V}{m:Nat}{x:Rat}{Q:VK}{E:XK}(h1:kQ K H u m x)(k:∀(p:Addr) (H' :Hp),au H H' ->kQ K H' (.ref p) m (-x)->Q (.ref p) H'):gS K [u] H Q E:=by
 obtain ⟨q1,a1,a2,a3,a4⟩:=h1
 refine ⟨u,q1,rfl,a1,fun p H' s e=>k p H' s ⟨(0 - q1.1,q1.2),⟨p,rfl,bU.of e⟩,a2,?_,?_,a4.bot⟩⟩
 ·rw [<- a3]
  unfold vl
  push_cast
  grind
 ·have:=a4.top
  show (0 - q1.1).natAbs<=2^m
  omega
theorem UJ:aF zad zad (ag BE):=sq
theorem UK (D:Def K mg "_law_sum" BE zad):Fn P w K mg base (bg P w) 1 "_law_sum" zad (dz K f_):=by
 refine D.ok UJ (fun vs H Q E h=>?_) (fun f bM A outer s H vs Q E hr h=>?_)
 ·obtain ⟨u,v,x,y,m,n,rfl,_⟩:=h
  rfl
 obtain ⟨u,v,x,y,m,n,rfl,⟨p1,rfl,h1⟩,⟨p2,rfl,h2⟩,zx,zy,l,q⟩:=h
 refine ⟨_,(aj (aG (aV (ar (aL b6 (aL jB (aJ (pv 0)) (aJ (pv 1))) (aL jB (aJ (pv 1)) (aJ (pv 0)))) (ar (aL jB (aJ (pv 0)) (aJ (pv 1))) aa))))),?_⟩
 refine ⟨_,rfl,p1,_,_,_,rfl,rfl,h1,g9,_,rfl,p2,_,_,_,rfl,rfl,h2,ip,_,_,rfl,rfl,ig zx.top zy.bot (by omega),?_⟩
 refine ⟨_,rfl,p2,_,_,_,rfl,rfl,h2,g9,_,rfl,p1,_,_,_,rfl,rfl,h1,ip,_,_,rfl,rfl,ig zy.top zx.bot (by omega),?_⟩
 refine ⟨_,_,rfl,rfl,?_⟩
 refine ⟨_,rfl,p1,_,_,_,rfl,rfl,h1,ip,_,rfl,p2,_,_,_,rfl,rfl,h2,ip,_,_,rfl,rfl,ig zx.bot zy.bot (by omega),(by show 2<=sizeLine;decide),?_⟩
 intro p3 n3;generalize eX:upd _ p3 _=H3;have ⟨s3,e3⟩:=nw n3 eX;clear eX
 exact q p3 H3 s3 e3
theorem UL:aF zad zad (ag BF):=sq
theorem UM (D:Def K mg "_law_times" BF zad):Fn P w K mg base (bg P w) 1 "_law_times" zad (dz K qg):=by
 refine D.ok UL (fun vs H Q E h=>?_) (fun f bM A outer s H vs Q E hr h=>?_)
 ·obtain ⟨u,v,x,y,m,n,rfl,_⟩:=h
  rfl
 obtain ⟨u,v,x,y,m,n,rfl,⟨p1,rfl,h1⟩,⟨p2,rfl,h2⟩,zx,zy,l,q⟩:=h
 refine ⟨_,(aj (aG (aV (ar (aL jB (aJ (pv 0)) (aJ (pv 1))) (ar (aL jB (aJ (pv 0)) (aJ (pv 1))) aa))))),?_⟩
 refine ⟨_,rfl,p1,_,_,_,rfl,rfl,h1,g9,_,rfl,p2,_,_,_,rfl,rfl,h2,g9,_,_,rfl,rfl,ig zx.top zy.top (by omega),?_⟩
 refine ⟨_,rfl,p1,_,_,_,rfl,rfl,h1,ip,_,rfl,p2,_,_,_,rfl,rfl,h2,ip,_,_,rfl,rfl,ig zx.bot zy.bot (by omega),(by show 2<=sizeLine;decide),?_⟩
 intro p3 n3;generalize eX:upd _ p3 _=H3;have ⟨s3,e3⟩:=nw n3 eX;clear eX
 exact q p3 H3 s3 e3
theorem UN:aF zav zav (ag BG):=sq
theorem UO (D:Def K mg "_law_turned" BG zav):Fn P w K mg base (bg P w) 1 "_law_turned" zav (gS K):=by
 refine D.ok UN (fun vs H Q E h=>?_) (fun f bM A outer s H vs Q E hr h=>?_)
 ·obtain ⟨u,x,rfl,_⟩:=h
  rfl
 obtain ⟨u,x,rfl,⟨p1,rfl,h1⟩,q⟩:=h
 refine ⟨_,(aj (aG (aV (ar (aL dr ah (aJ (pv 0))) (ar (aJ (pv 0)) aa))))),?_⟩
 refine ⟨_,rfl,p1,_,_,_,rfl,rfl,h1,g9,_,_,rfl,rfl,_,rfl,p1,_,_,_,rfl,rfl,h1,ip,(by show 2<=sizeLine;decide),?_⟩
 intro p3 n3;generalize eX:upd _ p3 _=H3;have ⟨s3,e3⟩:=nw n3 eX;clear eX
 exact q p3 H3 s3 e3
def nameOf (st a k:Int):Str:=if st=0 then Txt.mul "p" (k+1) else if st=1 then Txt.mul "p" a++⟨#[(gY (Str.ofString "bcdefghijklm").cps.toList k).getD 0]⟩++Txt.mul "p" (5 - a) else Txt.slice "12345" none (some a)++(toString k:String)
theorem vB:∀st:Fin 3,∀a:Fin 6,∀k:Fin 12,∀j:Fin 12,k≠j->nameOf (st.val:Int) (a.val:Int) (k.val:Int)≠nameOf (st.val:Int) (a.val:Int) (j.val:Int):=by decide+kernel
theorem P0:∀n:Fin 20,MulOk "p" (n.val:Int):=by
 intro n
 unfold MulOk
 revert n
 decide+kernel
theorem P1:∀k:Fin 12,gY (Str.ofString "bcdefghijklm").cps.toList (k.val:Int)=some ((gY (Str.ofString "bcdefghijklm").cps.toList (k.val:Int)).getD 0):=by decide+kernel
theorem IF:∀a:Fin 6,∀k:Fin 12,(Txt.mul "p" (a.val:Int)).length+(⟨#[(gY (Str.ofString "bcdefghijklm").cps.toList (k.val:Int)).getD 0]⟩:Str).length<=1000/\
  (Txt.mul "p" (a.val:Int)++(⟨#[(gY (Str.ofString "bcdefghijklm").cps.toList (k.val:Int)).getD 0]⟩:Str)).length+(Txt.mul "p" (5 - (a.val:Int))).length<=1000/\(Txt.slice "12345" none (some (a.val:Int))).length+(Str.ofString (toString (k.val:Int))).length<=1000:=by decide+kernel
inductive sZ (vs:ζ)(H:Hp)(Q:VK)(E_:XK):Prop where
 | mk (c k:Int) (_:vs=[.int c,.int k]) (_:0<=k) (_:k < 12) (_:Q (.str (nameOf (field c 3001 3) (field c 4001 6) k)) H):sZ vs H Q E_
theorem IG:aF zaE zaA (ag xl):=sq
theorem UP (hM:uI CX)(D:Def K mg "_law_name" xl zaA)(rG:mg "str"=none)(cQ:Fn P w K mg base CX 1 "_law_field" zab ed):Fn P w K mg base CX 2 "_law_name" zaA sZ:=by
 refine D.ok IG (fun vs H Q E h=>?_) (fun f bM A outer s H vs Q E hr h=>?_)
 ·obtain ⟨c,k,rfl,_⟩:=h
  rfl
 obtain ⟨c,k,rfl,h0,Rn,q⟩:=h
 have px:=uJ (X:=mi CX P w K mg base zaE "_law_name" (ag xl) f bM A outer s H E) hM
 refine ⟨_,(ae (aH (i:=2) IG.nd rfl (aan rfl) (aD cQ hr.mo px (ar (pv 0) (ar ah (ar ah aa)))))
  (ae (aH (i:=3) IG.nd rfl (aan rfl) (aD cQ hr.mo px (ar (pv 0) (ar ah (ar ah aa)))))
  (ae (bq (aS eh (pv 2) ah (a9 _)) (aj (aG (aL r9 i0 (aL b6 (pv 1) ah)))) aQ)
  (ae (bq (aS eh (pv 2) ah (a9 _)) (aj (aG (aL gG (aL gG (aL r9 i0 (pv 3)) (bw OC i0 (pv 1) (fun _ _=>rfl))) (aL r9 i0 (aL dr ah (pv 3)))))) aQ)
  (aj (aG (aL gG (eQ OS i0 ju (dS (pv 3))) (b8 jr rfl rG M_ (ar (pv 1) aa))))))))),?_⟩
 have i1:=aZ (c:=c) (p:=3001) (m:=3) (by decide)
 have i2:=aZ (c:=c) (p:=4001) (m:=6) (by decide)
 refine ⟨_,rfl,_,_,_,rfl,by decide,by decide,by decide,?_⟩
 refine ⟨_,rfl,_,_,_,rfl,by decide,by decide,by decide,?_⟩
 generalize field c 3001 3=st at i1 q ⊢
 generalize field c 4001 6=a at i2 q ⊢
 obtain ⟨kn,rfl⟩:∃n:Nat,k=(n:Int):=⟨k.toNat,by omega⟩
 obtain ⟨an,rfl⟩:∃n:Nat,a=(n:Int):=⟨a.toNat,by omega⟩
 have mk:∀i:Int,0<=i->i < 20->MulOk "p" i:=fun i a b=>by
  have:=P0 ⟨i.toNat,by omega⟩
  rwa [show ((⟨i.toNat,by omega⟩:Fin 20).val:Int)=i by show ((i.toNat:Nat):Int)=i;omega] at this
 refine ⟨_,rfl,rfl,_,rfl,?_⟩
 refine bx (fun z=>?_) (fun z=>?_)
 ·have z' :st=0:=by simpa [mj] using z
  subst z'
  refine ⟨_,rfl,_,_,rfl,rfl,_,_,rfl,rfl,mk _ (by omega) (by omega),?_⟩
  exact q
 have z' :¬ st=0:=by simpa [mj] using z
 have nl:=IF ⟨an,by omega⟩ ⟨kn,by omega⟩
 refine ⟨_,rfl,rfl,_,rfl,?_⟩
 refine bx (fun z3=>?_) (fun z3=>?_)
 ·have z3' :st=1:=by simpa [mj] using z3
  subst z3'
  refine ⟨_,rfl,_,_,rfl,rfl,mk _ (by omega) (by omega),_,rfl,_,_,_,rfl,rfl,(by decide+kernel),P1 ⟨kn,by omega⟩,?_⟩
  refine ⟨_,_,rfl,rfl,aai nl.1 (by decide),_,rfl,_,_,rfl,rfl,_,_,rfl,rfl,mk _ (by omega) (by omega),_,_,rfl,rfl,aai nl.2.1 (by decide),?_⟩
  exact q
 ·have z3' :¬ st=1:=by simpa [mj] using z3
  refine ⟨_,rfl,_,rfl,_,rfl,(by decide+kernel),?_⟩
  have lg:(kn:Int).natAbs.log2 < 1920:=aaq (aiY _) (by show kn < 1920;omega)
  refine ⟨_,rfl,_,rfl,lg,_,_,rfl,rfl,aai nl.2.2 (by decide),?_⟩
  have e:nameOf st (an:Int) (kn:Int)=Txt.slice "12345" none (some (an:Int))++Str.ofString (toString (kn:Int)):=by
   unfold nameOf
   rw [if_neg z',if_neg z3']
  rw [e] at q
  exact q
def gT (ws:Ι):Prop:=ws=[]\/(∃x y:Rat,ws=[(x,y)]/\¬ (x=0/\y=0)/\Sz 22 x/\Sz 22 y)\/ws=[(1,0),(0,1)]
theorem oQ {K:Frag}{H:Hp}{p:Addr}(i:Int)(h:H p=some (.tup [.int i,.int 1])):fW K H (.ref p) (i:Rat):=⟨p,rfl,by rw [oA];exact bU.of h⟩
theorem jT {K:Frag}{H:Hp}{p:Addr}{r:Rat}(h:H p=some (.tup [.int (qr r).1,.int (qr r).2])):fW K H (.ref p) r:=⟨p,rfl,bU.of h⟩
theorem jU {K:Frag}{H:Hp}{p:Addr}{u v:V}{r s:Rat}(h:H p=some (.tup [u,v]))(h1:fW K H u r)(h2:fW K H v s):fe K H (.ref p) (r,s):=⟨p,u,v,rfl,bU.of h,h1,h2⟩
theorem jV {k:Nat}{i:Int}(h:i.natAbs < 1048576)(hk:20<=k):Sz k (i:Rat):=kA (aaI h (show 2^20<=2^k from aa0 (by decide) hk)) (by omega)
theorem iI {t b:Int}(h:0 < b)(h1:t.natAbs < 1048576)(h2:b < 1048576):Sz 20 ((t:Rat) / (b:Rat)):=GV (abK h) (intBits_le_iff.mpr (by show _ < 1048576;omega)) (intBits_le_iff.mpr (by show _ < 1048576;omega))
theorem vC {i:Int}(h:i<=500002):(i:Rat)<=500002:=by
 have:=ahe.mpr h
 simpa using this
theorem m6 {t b:Int}(hb:0 < b)(h:t<=500002):(t:Rat) / (b:Rat)<=500002:=by
 have gi :(0:Rat) < (b:Rat):=by
  have:=Rat.intCast_lt_intCast.mpr hb
  simpa using this
 have h1:t<=500002*b:=by
  have:(500002:Int)*1<=500002*b:=Int.mul_le_mul_of_nonneg_left (by omega) (by decide)
  omega
 have h2:(t:Rat)<=500002*(b:Rat):=by
  have:=ahe.mpr h1
  simpa using this
 have e:(t:Rat) / (b:Rat)*(b:Rat)=(t:Rat):=by
  have yx:(b:Rat)≠0:=by grind
  grind
 generalize (t:Rat) / (b:Rat)=z at e
 by_cases c:z<=500002
 ·exact c
 ·have c' :500002 < z:=by grind
  have:=Rat.mul_lt_mul_of_pos_right c' gi
  grind
theorem IH {i:Int}(h:i<=500002)(h2: -500002<=i): -500002<=(i:Rat)/\(i:Rat)<=500002:=by
 refine ⟨?_,vC h⟩
 have:=ahe.mpr h2
 simpa using this
theorem y8 {t b:Int}(hb:0 < b)(h:t<=500002)(h2: -500002<=t): -500002<=(t:Rat) / (b:Rat)/\(t:Rat) / (b:Rat)<=500002:=by
 refine ⟨?_,m6 hb h⟩
 have:=m6 (t:= -t) hb (by omega)
 have e:((-t:Int):Rat) / (b:Rat)= -((t:Rat) / (b:Rat)):=by
  push_cast
  grind
 rw [e] at this
 grind
inductive s_ (K:Frag)(vs:ζ)(H:Hp)(Q:VK)(E_:XK):Prop where
 | mk (c k:Int) (_:vs=[.int c,.int k]) (_:∀(p:Addr) (x y:Rat) (H' :Hp),au H H' ->Sz 20 x->Sz 20 y->x<=500002->(-500002<=y/\y<=500002)->fe K H' (.ref p) (x,y)->Q (.ref p) H'):s_ K vs H Q E_
theorem II:aF ["_law_cell","_law_kind","_law_x"] zaD (ag BH):=sq
theorem UQ (D:Def K mg "_law_spot" BH zaD)(cQ:Fn P w K mg base (bg P w) 1 "_law_field" zab ed)(tj:Fn P w K mg base (bg P w) 33 "_law_lowest" zat dE):Fn P w K mg base (bg P w) 34 "_law_spot" zaD (s_ K):=by
 refine D.ok II (fun vs H Q E h=>?_) (fun f bM A outer s H vs Q E hr h=>?_)
 ·obtain ⟨c,k,rfl,_⟩:=h
  rfl
 obtain ⟨c,k,rfl,q⟩:=h
 have L2:2<=sizeLine:=by decide
 refine ⟨_,(ae (bq (aS eh (pv 1) ah (a9 _)) (aj (aG (aV (ar (aV (ar (aD cQ hr.mo pX (ar (pv 0) (ar ah (ar ah aa)))) (ar ah aa))) (ar (aV (ar (aD cQ hr.mo pX (ar (pv 0) (ar ah (ar ah aa)))) (ar ah aa))) aa))))) aQ)
  (ae (bq (aS eh (pv 1) ah (a9 _)) (ae (aH (i:=2) II.nd rfl (aan rfl) (aD tj hr.mo pX (ar (aL dr (aD cQ hr.mo pX (ar (pv 0) (ar ah (ar ah aa)))) ah) (ar (aL b6 ah (aD cQ hr.mo pX (ar (pv 0) (ar ah (ar ah aa))))) aa))))
   (aj (aG (aV (ar (pv 2) (ar (aD tj hr.mo pX (ar (aL dr (aD cQ hr.mo pX (ar (pv 0) (ar ah (ar ah aa)))) ah) (ar (aL b6 ah (aD cQ hr.mo pX (ar (pv 0) (ar ah (ar ah aa))))) aa))) aa)))))) aQ)
  (ae (aH (i:=2) II.nd rfl (aan rfl) (aD tj hr.mo pX (ar (aL dr (aD cQ hr.mo pX (ar (pv 0) (ar ah (ar ah aa)))) ah) (ar (aL b6 ah (aD cQ hr.mo pX (ar (pv 0) (ar ah (ar ah aa))))) aa))))
  (aj (aG (aV (ar (pv 2) (ar (aD tj hr.mo pX (ar (aL dr (aD cQ hr.mo pX (ar (pv 0) (ar ah (ar ah aa)))) ah) (ar (aL b6 ah (aD cQ hr.mo pX (ar (pv 0) (ar ah (ar ah aa))))) aa))) aa)))))))),?_⟩
 refine ⟨_,rfl,rfl,_,rfl,?_⟩
 refine bx (fun _=>?_) (fun _=>?_)
 ·have i1:=aZ (c:=c) (p:=1009) (m:=4) (by decide)
  have i2:=aZ (c:=c) (p:=2003) (m:=4) (by decide)
  refine ⟨_,rfl,_,_,_,rfl,by decide,by decide,by decide,L2,?_⟩
  intro p1 n1;generalize eX:upd _ p1 _=H1;have ⟨s1,e1⟩:=nw n1 eX;clear eX
  refine ⟨_,rfl,_,_,_,rfl,by decide,by decide,by decide,L2,?_⟩
  intro p2 n2;generalize eX:upd _ p2 _=H2;have ⟨s2,e2⟩:=nw n2 eX;clear eX
  refine ⟨L2,?_⟩
  intro p3 n3;generalize eX:upd _ p3 _=H3;have ⟨s3,e3⟩:=nw n3 eX;clear eX
  exact q p3 _ _ H3 ((s1.trans s2).trans s3) (jV (by omega) (by decide)) (jV (by omega) (by decide)) (vC (by omega)) (IH (by omega) (by omega)) (jU e3 (((oQ _ e1).same s2).same s3) ((oQ _ e2).same s3))
 refine ⟨_,rfl,rfl,_,rfl,?_⟩
 refine bx (fun _=>?_) (fun _=>?_)
 ·have i1:=aZ (c:=c) (p:=1009) (m:=13) (by decide)
  have i2:=aZ (c:=c) (p:=3001) (m:=3) (by decide)
  have i3:=aZ (c:=c) (p:=2003) (m:=13) (by decide)
  have i4:=aZ (c:=c) (p:=4001) (m:=2) (by decide)
  refine ⟨_,rfl,_,_,_,rfl,by decide,by decide,by decide,_,_,rfl,rfl,_,rfl,_,_,_,rfl,by decide,by decide,by decide,_,_,rfl,rfl,_,_,rfl,by omega,fun p1 H1 s1 e1=>?_⟩
  rw [gH (by omega)] at e1
  refine ⟨_,rfl,_,rfl,_,_,_,rfl,by decide,by decide,by decide,_,_,rfl,rfl,_,rfl,_,_,_,rfl,by decide,by decide,by decide,_,_,rfl,rfl,_,_,rfl,by omega,fun p2 H2 s2 e2=>⟨L2,?_⟩⟩
  rw [gH (by omega)] at e2
  intro p3 n3;generalize eX:upd _ p3 _=H3;have ⟨s3,e3⟩:=nw n3 eX;clear eX
  exact q p3 _ _ H3 ((s1.trans s2).trans s3) (iI (by omega) (by omega) (by omega)) (iI (by omega) (by omega) (by omega)) (m6 (by omega) (by omega)) (y8 (by omega) (by omega) (by omega)) (jU e3 (((jT e1).same s2).same s3) ((jT e2).same s3))
 ·have i1:=aZ (c:=c) (p:=1000003) (m:=1000003) (by decide)
  have i2:=aZ (c:=c) (p:=3001) (m:=997) (by decide)
  have i3:=aZ (c:=c) (p:=1000033) (m:=1000003) (by decide)
  have i4:=aZ (c:=c) (p:=4001) (m:=997) (by decide)
  refine ⟨_,rfl,_,_,_,rfl,by decide,by decide,by decide,_,_,rfl,rfl,_,rfl,_,_,_,rfl,by decide,by decide,by decide,_,_,rfl,rfl,_,_,rfl,by omega,fun p1 H1 s1 e1=>?_⟩
  rw [gH (by omega)] at e1
  refine ⟨_,rfl,_,rfl,_,_,_,rfl,by decide,by decide,by decide,_,_,rfl,rfl,_,rfl,_,_,_,rfl,by decide,by decide,by decide,_,_,rfl,rfl,_,_,rfl,by omega,fun p2 H2 s2 e2=>⟨L2,?_⟩⟩
  rw [gH (by omega)] at e2
  intro p3 n3;generalize eX:upd _ p3 _=H3;have ⟨s3,e3⟩:=nw n3 eX;clear eX
  exact q p3 _ _ H3 ((s1.trans s2).trans s3) (iI (by omega) (by omega) (by omega)) (iI (by omega) (by omega) (by omega)) (m6 (by omega) (by omega)) (y8 (by omega) (by omega) (by omega)) (jU e3 (((jT e1).same s2).same s3) ((jT e2).same s3))
inductive m7 (K:Frag)(vs:ζ)(H:Hp)(Q:VK)(E_:XK):Prop where
 | mk (c:Int) (_:vs=[.int c]) (_:∀(l:Addr) (us:ζ) (ws:Ι) (H' :Hp),gT ws->au H H' ->H l=none->H' l=some (.lst us)->g8 K H' us ws->Q (.ref l) H'):m7 K vs H Q E_
theorem Ly {r:Rat}:(qr r).1=0 ↔ r=0:=⟨sJ,fun e=>by rw [e,cu]⟩
theorem vD:aF ["_law_cell","_law_kind","_law_x","_law_y"] zaM (ag BI):=sq
theorem UR (D:Def K mg "_law_ways" BI zaM)(cQ:Fn P w K mg base (bg P w) 1 "_law_field" zab ed)(tj:Fn P w K mg base (bg P w) 33 "_law_lowest" zat dE):Fn P w K mg base (bg P w) 34 "_law_ways" zaM (m7 K):=by
 refine D.ok vD (fun vs H Q E h=>?_) (fun f bM A outer s H vs Q E hr h=>?_)
 ·obtain ⟨c,rfl,_⟩:=h
  rfl
 obtain ⟨c,rfl,q⟩:=h
 have L0:0<=sizeLine:=by decide
 have L1:1<=sizeLine:=by decide
 have L2:2<=sizeLine:=by decide
 refine ⟨_,(ae (aH (i:=1) vD.nd rfl (aan rfl) (aD cQ hr.mo pX (ar (pv 0) (ar ah (ar ah aa)))))
  (ae (bq (aS nA (pv 1) ah (a9 _)) (aj (aG (c_ aa))) aQ)
  (ae (bq (aS nA (pv 1) ah (a9 _)) (aj (aG (c_ (ar (aV (ar (aV (ar ah (ar ah aa))) (ar (aV (ar ah (ar ah aa))) aa))) (ar (aV (ar (aV (ar ah (ar ah aa))) (ar (aV (ar ah (ar ah aa))) aa))) aa))))) aQ)
  (ae (aH (i:=2) vD.nd rfl (aan rfl) (aD tj hr.mo pX (ar (aL dr (aD cQ hr.mo pX (ar (pv 0) (ar ah (ar ah aa)))) ah) (ar (aL b6 ah (aD cQ hr.mo pX (ar (pv 0) (ar ah (ar ah aa))))) aa))))
  (ae (aH (i:=3) vD.nd rfl (aan rfl) (aD tj hr.mo pX (ar (aL dr (aD cQ hr.mo pX (ar (pv 0) (ar ah (ar ah aa)))) ah) (ar (aL b6 ah (aD cQ hr.mo pX (ar (pv 0) (ar ah (ar ah aa))))) aa))))
  (ae (bq (PW.pt (wm (aS eh (aJ (pv 2)) ah (a9 _)) (rL (aS eh (aJ (pv 3)) ah (a9 _))))) (aj (aH (i:=3) vD.nd rfl (aan rfl) (aV (ar ah (ar ah aa))))) aQ)
  (aj (aG (c_ (ar (aV (ar (pv 2) (ar (pv 3) aa))) aa)))))))))),?_⟩
 refine ⟨_,rfl,_,_,_,rfl,by decide,by decide,by decide,?_⟩
 refine ⟨_,rfl,_,_,rfl,rfl,_,rfl,?_⟩
 refine bx (fun _=>?_) (fun _=>?_)
 ·refine ⟨L0,?_⟩
  intro l nl;generalize eX:upd _ l _=H1;have ⟨s1,e1⟩:=nw nl eX;clear eX
  exact q l [] [] H1 (.inl rfl) s1 nl e1 .nil
 refine ⟨_,rfl,_,_,rfl,rfl,_,rfl,?_⟩
 refine bx (fun _=>?_) (fun _=>?_)
 ·refine ⟨L2,?_⟩
  intro p1 n1;generalize eX:upd _ p1 _=H1;have ⟨s1,e1⟩:=nw n1 eX;clear eX
  refine ⟨L2,?_⟩
  intro p2 n2;generalize eX:upd _ p2 _=H2;have ⟨s2,e2⟩:=nw n2 eX;clear eX
  refine ⟨L2,?_⟩
  intro p3 n3;generalize eX:upd _ p3 _=H3;have ⟨s3,e3⟩:=nw n3 eX;clear eX
  refine ⟨L2,?_⟩
  intro p4 n4;generalize eX:upd _ p4 _=H4;have ⟨s4,e4⟩:=nw n4 eX;clear eX
  refine ⟨L2,?_⟩
  intro p5 n5;generalize eX:upd _ p5 _=H5;have ⟨s5,e5⟩:=nw n5 eX;clear eX
  refine ⟨L2,?_⟩
  intro p6 n6;generalize eX:upd _ p6 _=H6;have ⟨s6,e6⟩:=nw n6 eX;clear eX
  refine ⟨L2,?_⟩
  intro p7 n7;generalize eX:upd _ p7 _=H7;have ⟨s7,e7⟩:=nw n7 eX;clear eX
  have sh:=s1.trans (s2.trans (s3.trans (s4.trans (s5.trans s6))))
  have w1:fe K H7 (.ref p3) (1,0):=vo oJ cu (s7 _ _ (s6 _ _ (s5 _ _ (s4 _ _ e3)))) (s7 _ _ (s6 _ _ (s5 _ _ (s4 _ _ (s3 _ _ (s2 _ _ e1)))))) (s7 _ _ (s6 _ _ (s5 _ _ (s4 _ _ (s3 _ _ e2)))))
  have w2:fe K H7 (.ref p6) (0,1):=vo cu oJ (s7 _ _ e6) (s7 _ _ (s6 _ _ (s5 _ _ e4))) (s7 _ _ (s6 _ _ e5))
  exact q p7 _ [(1,0),(0,1)] _ (.inr (.inr rfl)) (sh.trans s7) (sh.free n7) e7 (.cons w1 (.cons w2 .nil))
 have i1:=aZ (c:=c) (p:=6007) (m:=7) (by decide)
 have i2:=aZ (c:=c) (p:=7001) (m:=3) (by decide)
 have i3:=aZ (c:=c) (p:=8009) (m:=7) (by decide)
 have i4:=aZ (c:=c) (p:=9001) (m:=2) (by decide)
 refine ⟨_,rfl,_,_,_,rfl,by decide,by decide,by decide,_,_,rfl,rfl,_,rfl,_,_,_,rfl,by decide,by decide,by decide,_,_,rfl,rfl,_,_,rfl,by omega,fun p1 H1 s1 e1=>?_⟩
 rw [gH (by omega)] at e1
 refine ⟨_,rfl,_,_,_,rfl,by decide,by decide,by decide,_,_,rfl,rfl,_,rfl,_,_,_,rfl,by decide,by decide,by decide,_,_,rfl,rfl,_,_,rfl,by omega,fun p2 H2 s2 e2=>?_⟩
 rw [gH (by omega)] at e2
 have z1:=iI (t:=field c 6007 7 - 3) (b:=1+field c 7001 3) (by omega) (by omega) (by omega)
 have z2:=iI (t:=field c 8009 7 - 3) (b:=1+field c 9001 2) (by omega) (by omega) (by omega)
 generalize ((field c 6007 7 - 3:Int):Rat) / ((1+field c 7001 3:Int):Rat)=x at e1 z1 ⊢
 generalize ((field c 8009 7 - 3:Int):Rat) / ((1+field c 9001 2:Int):Rat)=y at e2 z2 ⊢
 have zQ :=s2 _ _ e1
 have K7:=s1.trans s2
 have fin:∀(v:V) (y' :Rat) (H3:Hp),au H2 H3->fW K H3 v y' ->Sz 22 y' ->¬ (x=0/\y' =0)->∀(p:Addr) (l:Addr) (H5:Hp),au H3 H5->H3 l=none->H5 p=some (.tup [.ref p1,v])->H5 l=some (.lst [.ref p])->Q (.ref l) H5:=fun v y' H3 s3 hv zy hn p l H5 s5 nl ep el=>
  q l [.ref p] [(x,y')] H5 (.inr (.inl ⟨x,y',rfl,hn,z1.up (by decide),zy⟩)) (K7.trans (s3.trans s5)) ((K7.trans s3).free nl) el (.cons (jU ep (((jT zQ).same s3).same s5) (hv.same s5)) .nil)
 refine ⟨_,rfl,p1,_,_,_,rfl,rfl,bU.of zQ,g9,rfl,_,rfl,?_⟩
 refine bx (fun c1=>?_) (fun c1=>?_)
 ·have c1' :x=0:=Ly.mp (by simpa using of_decide_eq_true c1)
  refine ⟨_,rfl,p2,_,_,_,rfl,rfl,bU.of e2,g9,rfl,_,rfl,?_⟩
  refine bx (fun c2=>?_) (fun c2=>?_)
  ·refine ⟨L2,?_⟩
   intro p3 n3;generalize eX:upd _ p3 _=H3;have ⟨s3,e3⟩:=nw n3 eX;clear eX
   refine ⟨_,rfl,_,rfl,L2,?_⟩
   intro p4 n4;generalize eX:upd _ p4 _=H4;have ⟨s4,e4⟩:=nw n4 eX;clear eX
   refine ⟨L1,?_⟩
   intro l5 n5;generalize eX:upd _ l5 _=H5;have ⟨s5,e5⟩:=nw n5 eX;clear eX
   exact fin (.ref p3) 1 H3 s3 (oQ 1 e3) (jV (i:=1) (by decide) (by decide)) (fun z=>absurd z.2 (by decide)) p4 l5 H5 (s4.trans s5) (s4.free n5) (s5 _ _ e4) e5
  ·have US :¬ y=0:=fun z=>c2 (by rw [z,cu];decide)
   refine ⟨_,rfl,_,rfl,L2,?_⟩
   intro p4 n4;generalize eX:upd _ p4 _=H4;have ⟨s4,e4⟩:=nw n4 eX;clear eX
   refine ⟨L1,?_⟩
   intro l5 n5;generalize eX:upd _ l5 _=H5;have ⟨s5,e5⟩:=nw n5 eX;clear eX
   exact fin (.ref p2) y H2 (au.refl _) (jT e2) (z2.up (by decide)) (fun z=>US z.2) p4 l5 H5 (s4.trans s5) (s4.free n5) (s5 _ _ e4) e5
 ·have c1' :¬ x=0:=fun z=>c1 (by rw [z,cu];decide)
  refine OJ ?_
  refine ⟨_,rfl,_,rfl,L2,?_⟩
  intro p4 n4;generalize eX:upd _ p4 _=H4;have ⟨s4,e4⟩:=nw n4 eX;clear eX
  refine ⟨L1,?_⟩
  intro l5 n5;generalize eX:upd _ l5 _=H5;have ⟨s5,e5⟩:=nw n5 eX;clear eX
  exact fin (.ref p2) y H2 (au.refl _) (jT e2) (z2.up (by decide)) (fun z=>c1' z.1) p4 l5 H5 (s4.trans s5) (s4.free n5) (s5 _ _ e4) e5
inductive jf (K:Frag)(H:Hp)(d:Addr)(v:V)(p:aA):Prop where
 | mk (a l:Addr) (s:V) (us:ζ) (_:v=.ref a) (_:bU K H a [.str p.nm,s,.ref l]) (_:fe K H s p.sp) (_:H l=some (.lst us)) (_:g8 K H us p.ws) (_:l≠d):jf K H d v p
inductive jg (K:Frag)(H:Hp)(v:V)(p:aA):Prop where
 | mk (a l:Addr) (s:V) (us:ζ) (_:v=.ref a) (_:bU K H a [.str p.nm,s,.ref l]) (_:fe K H s p.sp) (_:H l=some (.lst us)) (_:g8 K H us p.ws):jg K H v p
inductive fF (K:Frag)(H:Hp)(pins:ν)(v:V)(b:aT):Prop where
 | mk (a:Addr) (i j:Nat) (_:v=.ref a) (_:bU K H a [.str b.nm,.int (i:Int),.int (j:Int)]) (_:pins[i]? =some b.one) (_:pins[j]? =some b.other):fF K H pins v b
section
variable {K:Frag}{H H' :Hp}{v:V}{p:aA}{d:Addr}
theorem jf.same (h:jf K H d v p)(s:au H H'):jf K H' d v p:=by
 obtain ⟨a,l,sv,us,e,h1,h2,h3,h4,h5⟩:=h
 exact ⟨a,l,sv,us,e,Ty.au.bN s h1,h2.same s,s _ _ h3,h4.same s,h5⟩
theorem jf.upd {xs:ζ}{o:HO}(h:jf K H d v p)(e:H d=some (.lst xs)):jf K (L2.upd H d o) d v p:=by
 obtain ⟨a,l,sv,us,ev,h1,h2,h3,h4,h5⟩:=h
 have t:aY H (L2.upd H d o):=.list e
 exact ⟨a,l,sv,us,ev,t.bN h1,h2.aU t,by rw [ao h5];exact h3,h4.aU t,h5⟩
theorem jf.r (h:jf K H d v p):jg K H v p:=by
 obtain ⟨a,l,sv,us,e,h1,h2,h3,h4,_⟩:=h
 exact ⟨a,l,sv,us,e,h1,h2,h3,h4⟩
theorem jg.same (h:jg K H v p)(s:au H H'):jg K H' v p:=by
 obtain ⟨a,l,sv,us,e,h1,h2,h3,h4⟩:=h
 exact ⟨a,l,sv,us,e,Ty.au.bN s h1,h2.same s,s _ _ h3,h4.same s⟩
theorem fF.same {pins:ν}{b:aT}(h:fF K H pins v b)(s:au H H'):fF K H' pins v b:=by
 obtain ⟨a,i,j,e,h1,h2,h3⟩:=h
 exact ⟨a,i,j,e,Ty.au.bN s h1,h2,h3⟩
end
structure fG (pins:ν):Prop where
 np:(pins.map (·.nm)).Nodup
 ns:(pins.map (·.sp)).Nodup
 sz:∀p∈pins,Sz 44 p.sp.1/\Sz 44 p.sp.2
 ws:∀p∈pins,gT p.ws
theorem gT.sz {ws:Ι}(h:gT ws):∀w∈ws,Sz 22 w.1/\Sz 22 w.2:=fun w hw=>by
 rcases h with rfl | ⟨x,y,rfl,_,h1,h2⟩ | rfl
 ·cases hw
 ·have:w=(x,y):=by simpa using hw
  rw [this]
  exact ⟨h1,h2⟩
 ·have e1:Sz 22 (1:Rat):=jV (k:=22) (i:=1) (by decide) (by decide)
  have e0:Sz 22 (0:Rat):=iH (by decide)
  have:w=(1,0)\/w=(0,1):=by simpa using hw
  rcases this with rfl | rfl
  ·exact ⟨e1,e0⟩
  ·exact ⟨e0,e1⟩
theorem gT.len {ws:Ι}(h:gT ws):ws.length<=2:=by
 rcases h with rfl | ⟨x,y,rfl,_⟩ | rfl <;> simp
theorem fG.snoc {pins:ν}{p:aA}(g:fG pins)(h1:p.nm∉pins.map (·.nm))(h2:p.sp∉pins.map (·.sp))(h3:Sz 44 p.sp.1/\Sz 44 p.sp.2)(h4:gT p.ws):fG (pins++[p]):=by
 refine ⟨?_,?_,fun q hq=>?_,fun q hq=>?_⟩
 ·rw [aaH,aby]
  refine ⟨g.np,by simp,fun a ha b hb e=>h1 ?_⟩
  have:b=p.nm:=by simpa using hb
  rw [<- this, <- e]
  exact ha
 ·rw [aaH,aby]
  refine ⟨g.ns,by simp,fun a ha b hb e=>h2 ?_⟩
  have:b=p.sp:=by simpa using hb
  rw [<- this, <- e]
  exact ha
 ·rcases aaA.mp hq with z | z
  ·exact g.sz q z
  ·rw [aax.mp z]
   exact h3
 ·rcases aaA.mp hq with z | z
  ·exact g.ws q z
  ·rw [aax.mp z]
   exact h4
structure ix (pins:ν)(bars:π):Prop where
 nb:(bars.map (·.nm)).Nodup
 ends:∀b∈bars,b.one∈pins/\b.other∈pins/\b.one.nm≠b.other.nm
theorem dN {α β:Type}{F:α->β->Prop}:∀{l₁:List α} {l₂:List β} {a:α} {b:β},Paired F l₁ l₂->F a b->Paired F (l₁++[a]) (l₂++[b])
 | _,_,_,_,.nil,h=>.cons h .nil
 | _,_,_,_,.cons h t,h' =>.cons h (dN t h')
theorem eg {t u:TS}{D:Ends}{σ:L2.St}{H:Hp}(inv:L2.St->Hp->Prop)(h1:∀N:L2.St->Hp->Prop,(∀σ' H',inv σ' H' ->N σ' H')->t {D with nx:=N} σ H)(h2:∀σ' H',inv σ' H' ->u D σ' H'):RL t u D σ H:=h1 _ h2
theorem UT {pins:ν}{bars:π}(g:fG pins)(b:ix pins bars)(lp:pins.length<=9)(lb:bars.length<=40):fh pins bars:=
 ⟨g.np,b.nb,b.ends,fun p hp=>⟨(g.sz p hp).1,(g.sz p hp).2,(g.ws p hp).sz⟩,lp,lb,fun p hp=>(g.ws p hp).len⟩
theorem UU:bootBuiltins "min"=some (.builtin "min"):=by decide+kernel
def cnt (pins:ν)(x:Rat):Nat:=(pins.filter fun p=>decide (x<=p.sp.1)).length
theorem IJ (x:Rat):∀pins:List aA,cnt pins (x+1)<=cnt pins x
 | []=>aaf _
 | p::ps=>by
  have ih:=IJ x ps
  unfold cnt at ih ⊢
  rw [abW,abW]
  by_cases c:x+1<=p.sp.1
  ·have c2:x<=p.sp.1:=by grind
   rw [if_pos (decide_eq_true c),if_pos (decide_eq_true c2)]
   simpa using ih
  ·rw [if_neg (by simpa using c)]
   split
   ·rw [aa5]
    omega
   ·exact ih
theorem IK {x:Rat}:∀{pins:ν},(∃p∈pins,p.sp.1=x)->cnt pins (x+1) < cnt pins x
 | [],⟨p,h,_⟩=>by simp at h
 | p::ps,⟨q,hq,e⟩=>by
  unfold cnt
  rw [abW,abW]
  by_cases c0:p.sp.1=x
  ·have c:¬ x+1<=p.sp.1:=by grind
   have c2:x<=p.sp.1:=by grind
   rw [if_neg (by simpa using c),if_pos (decide_eq_true c2),aa5]
   have:=IJ x ps
   unfold cnt at this
   omega
  ·have g7 :q∈ps:=by
    rcases aaN.mp hq with z | z
    ·exact absurd (by rw [<- z];exact e) c0
    ·exact z
   have ih:=IK (pins:=ps) ⟨q,g7,e⟩
   unfold cnt at ih
   by_cases c:x+1<=p.sp.1
   ·have c2:x<=p.sp.1:=by grind
    rw [if_pos (decide_eq_true c),if_pos (decide_eq_true c2)]
    simpa using ih
   ·rw [if_neg (by simpa using c)]
    split
    ·rw [aa5]
     omega
    ·exact ih
theorem Lz (pins:ν)(x:Rat):cnt pins x<=pins.length:=abU _ _
theorem LA (r:Rat):f_ (qr r) (1,1)=qr (r+1):=by
 have e:f_ (qr r) (1,1)=((qr r).1+(qr r).2,(qr r).2):=by
  unfold f_
  simp
 have g:abm ((qr r).1+(qr r).2) (qr r).2=1:=by
  have:=oz r
  rw [<- this]
  simp
 rw [e,qZ (q:=((qr r).1+(qr r).2,(qr r).2)) (dw r) g]
 congr 1
 have z:=w4 (r:=r)
 have v:=gu r
 unfold vl at v ⊢
 push_cast
 grind
theorem NG {k:Nat}{r:Rat}(h:Sz k r):Ns k (qr r):=⟨abA (intBits_le_iff.mp h.top),abA (intBits_le_iff.mp h.bot)⟩
theorem LB:∀i:Fin 10,∃N:Fin 6,gY [V.int 0,.int 1,.int 2,.int 2,.int 3,.int 3,.int 3,.int 4,.int 4,.int 5] (i.val:Int)=some (.int (N.val:Int)):=by decide+kernel
theorem CQ:∀st:Fin 3,∀a:Fin 6,∀k:Fin 12,nameOf (st.val:Int) (a.val:Int) (k.val:Int)≠ "free"/\nameOf (st.val:Int) (a.val:Int) (k.val:Int)≠ "far":=by decide+kernel
inductive tm (K:Frag)(vs:ζ)(H:Hp)(Q:VK)(E_:XK):Prop where
 | mk (sA:Addr) (ns:ξ) (_:vs=[.ref sA]) (_:a8 K H sA (ns.map V.int)) (_:∀(l:Addr) (us:ζ) (pins:ν) (H' :Hp),au H H' ->H l=none->H' l=some (.lst us)->Paired (jf K H' l) us pins->fG pins->pins.length<=5->(∀p∈pins,(p.nm≠ "free"/\p.nm≠ "far")/\p.sp.1<=500010/\Sz 20 p.sp.2/\ -500002<=p.sp.2/\p.sp.2<=500002)->Q (.ref l) H'):tm K vs H Q E_
theorem jW:aF ["_law_script","_law_cell","_law_many","_law_kind","_law_pins_here","_law_k","_law_spot_here"] zaF (ag BJ):=sq
theorem UW (D:Def K mg "_law_pins" BJ zaF)(bB:mg "range"=none)(IL:mg "min"=none)(kX:Fn P w K mg base (bg P w) 1 "_law_cell_at" zas (kO K))(cQ:Fn P w K mg base (bg P w) 1 "_law_field" zab ed)
  (aa3:Fn P w K mg base (bg P w) 34 "_law_spot" zaD (s_ K)) (LC:Fn P w K mg base (bg P w) 34 "_law_ways" zaM (m7 K)) (P2:Fn P w K mg base (bg P w) 2 "_law_name" zaA sZ) (tq:Fn P w K mg base (bg P w) 1 "_law_sum" zad (dz K f_)):
  Fn P w K mg base (bg P w) 35 "_law_pins" zaF (tm K):=by
 refine D.ok jW (fun vs H Q E h=>?_) (fun f bM A outer s H vs Q E hr h=>?_)
 ·obtain ⟨sA,ns,rfl,_⟩:=h
  rfl
 obtain ⟨sA,ns,rfl,hS,q⟩:=h
 have L2:2<=sizeLine:=by decide
 have L3:3<=sizeLine:=by decide
 refine ⟨_,(ae (aH (i:=1) jW.nd rfl (aan rfl) (aD kX hr.mo pX (ar (pv 0) (ar ah aa))))
  (ae (aH (i:=2) jW.nd rfl (aan rfl) (bw ba (c_ (ar ah (ar ah (ar ah (ar ah (ar ah (ar ah (ar ah (ar ah (ar ah (ar ah aa))))))))))) (aD cQ hr.mo pX (ar (pv 1) (ar ah (ar ah aa)))) (fun _ _=>rfl)))
  (ae (aH (i:=3) jW.nd rfl (aan rfl) (aD cQ hr.mo pX (ar (pv 1) (ar ah (ar ah aa)))))
  (ae (bq (aS eh (pv 3) ah (a9 _)) (aj (aH (i:=2) jW.nd rfl (aan rfl) (aI (zD rfl) rfl IL UU (ar (pv 2) (ar ah aa))))) aQ)
  (ae (aH (i:=4) jW.nd rfl (aan rfl) (c_ aa))
  (ae (bE PassesOwn.never rfl (bS rfl bB (ar (pv 2) aa)) (aC (i:=5) jW.nd rfl (aan rfl)) (ae (aH (i:=6) jW.nd rfl (aan rfl) (aD aa3 hr.mo pX (ar (aD kX hr.mo pX (ar (pv 0) (ar (aL b6 ah (pv 5)) aa))) (ar (pv 3) aa))))
   (ae (nj PassesOwn.never (aS (K0 hr.units) (pv 6) (cX (tn:=zaG) (fr:=[]) (caps:=[]) rfl ⟨rfl,by decide+kernel,rfl,by decide+kernel,by decide+kernel,rfl,trivial,trivial⟩ (bD (pv 4)) (fun _ _ _ _=>(aC (i:=0) (show (zaG:List Str).Nodup from by decide+kernel) rfl (aan rfl))) (fun _ _ _ _=>df) (fun _ _ _ _=>(bw (dX (K:=K) rfl) (pv 0) ah (fun _ _=>rfl)))) rfl) (aj (aH (i:=6) jW.nd rfl (aan rfl) (aV (ar (aD tq hr.mo pX (ar (aJ (pv 6)) (ar (aV (ar ah (ar ah aa))) aa))) (ar (aJ (pv 6)) aa))))))
   (aj (bf (gd PySem.F.plainAttrs_list PySem.F.slot_list_append PySem.F.type_list_append cG (pv 4) (ar (aV (ar (aD P2 hr.mo pX (ar (pv 1) (ar (pv 5) aa))) (ar (pv 6) (ar (aD LC hr.mo pX (ar (aD kX hr.mo pX (ar (pv 0) (ar (aL b6 ah (pv 5)) aa))) aa)) aa)))) aa)))))))
  (aj (aG (pv 4))))))))),?_⟩
 refine ⟨_,rfl,sA,ns,0,rfl,hS,by decide,by decide,?_⟩
 generalize cell ns 0=c0
 refine ⟨(by show 10<=sizeLine;decide),?_⟩
 intro t0 nt0;generalize eX:upd _ t0 _=H0;have ⟨st0,et0⟩:=nw nt0 eX;clear eX
 have i1:=aZ (c:=c0) (p:=1009) (m:=10) (by decide)
 refine ⟨_,rfl,_,_,_,rfl,by decide,by decide,by decide,?_⟩
 generalize field c0 1009 10=fi at i1 ⊢
 obtain ⟨fn,rfl⟩:∃n:Nat,fi=(n:Int):=⟨fi.toNat,by omega⟩
 obtain ⟨N,eN⟩:=LB ⟨fn,by omega⟩
 refine ⟨t0,_,_,_,rfl,rfl,a8.of et0,eN,?_⟩
 refine ⟨_,rfl,_,_,_,rfl,by decide,by decide,by decide,?_⟩
 generalize field c0 2003 3=kind
 dsimp only
 refine eg (fun σ' H' =>∃N:Nat,N<=5/\σ' =[some (.ref sA),some (.int c0),some (.int (N:Int)),some (.int kind),none,none,none]/\H' =H0) (fun Nx qh=>?_) ?_
 ·refine ⟨_,rfl,rfl,_,rfl,?_⟩
  refine bx (fun _=>?_) (fun _=>?_)
  ·have hN:=N.isLt
   refine ⟨_,rfl,_,_,rfl,?_⟩
   refine qh _ _ ⟨min N.val 4,by omega,?_,rfl⟩
   have:(if (4:Int) < (N.val:Int) then (4:Int) else (N.val:Int))=((min N.val 4:Nat):Int):=by
    split <;> omega
   rw [this]
   rfl
  ·exact qh _ _ ⟨N.val,by have:=N.isLt;omega,rfl,rfl⟩
 rintro σ' H' ⟨N,hN,rfl,rfl⟩
 refine ⟨(by show 0<=sizeLine;decide),?_⟩
 intro lp np;generalize eX:upd _ lp _=H1;have ⟨sp,ep⟩:=nw np eX;clear eX
 have s01:=st0.trans sp
 have DW:H lp=none:=st0.free np
 refine ⟨_,rfl,(N:Int),rfl,by omega,by omega,bW (lo:=0) (n:=N) (fun i σ H' =>∃(o5 o6:ω) (us:ζ) (pins:ν),σ=[some (.ref sA),some (.int c0),some (.int (N:Int)),some (.int kind),some (.ref lp),o5,o6]/\au H H' /\H' lp=some (.lst us)/\Paired (jf K H' lp) us pins/\fG pins/\pins.length=i/\∀p∈pins,∃j,j < i/\p.nm=nameOf (field c0 3001 3) (field c0 4001 6) (j:Int)/\p.sp.1<=500010/\Sz 20 p.sp.2/\ -500002<=p.sp.2/\p.sp.2<=500002) ⟨none,none,[],[],rfl,s01,ep,.nil,⟨by simp,by simp,by simp,by simp⟩,rfl,by simp⟩ ?_ ?_⟩
 ·rintro i σ H2 hi ⟨o5,o6,us,pins,rfl,s2,e2,pp,gp,lpi,nm⟩
  have ei:(0:Int)+(i:Int)=(i:Int):=aa' _
  rw [ei]
  have lu:us.length=pins.length:=Paired.length pp
  refine ⟨_,rfl,_,rfl,_,_,rfl,rfl,sA,ns,_,rfl,s2.seq hS,by omega,by omega,_,rfl,?_⟩
  refine ⟨_,_,rfl,fun p3 x0 y0 H3 s3 zx zy xb yb h3=>?_⟩
  have YR:=s2.trans s3
  have h30:fe K H3 (.ref p3) (x0+((0:Nat):Rat),y0):=by
   have e:x0+((0:Nat):Rat)=x0:=by
    have:((0:Nat):Rat)=0:=by rfl
    rw [this]
    grind
   rw [e]
   exact h3
  dsimp only
  refine eg (fun σ' H' =>∃(sv:V) (x:Rat),σ' =[some (.ref sA),some (.int c0),some (.int (N:Int)),some (.int kind),some (.ref lp),some (.int (i:Int)),some sv]/\au H3 H' /\fe K H' sv (x,y0)/\(Sz 44 x/\x<=500010)/\(x,y0)∉pins.map (·.sp)) (fun Nx qh=>?_) ?_
  ·refine ⟨fun m σ H' =>∃(sv:V) (j:Nat),σ=[some (.ref sA),some (.int c0),some (.int (N:Int)),some (.int kind),some (.ref lp),some (.int (i:Int)),some sv]/\au H3 H' /\fe K H' sv (x0+(j:Rat),y0)/\m=cnt pins (x0+(j:Rat))/\j+cnt pins (x0+(j:Rat))<=pins.length,⟨_,_,0,rfl,au.refl _,h30,rfl,by have:=Lz pins (x0+((0:Nat):Rat));omega⟩,?_⟩
   rintro m σ H4 ⟨sv,j,rfl,s4,h4,rfl,hj⟩
   have e4:=(s3.trans s4) _ _ e2
   have pp4:Paired (jf K H4 lp) us pins:=Paired.bJ pp fun _ _ z=>z.same (s3.trans s4)
   have zj:Sz 44 (x0+(j:Rat)):=(zx.add (kA (i:=(j:Int)) (k:=3) (show _ < 8 by omega) (by decide))).up (by decide)
   refine ⟨_,rfl,_,rfl,lp,rfl,⟨_,a8.of e4⟩,fun D1 n1=>?_⟩
   refine cH (cap:=[]) (K:=K) (a:=lp) (xs:=us) (fun i v H=>∃p,pins[i]? =some p/\fe K H v p.sp) n1 (by rw [lu];exact aaq (show pins.length<=1000 by omega) (by decide)) (fun H2 s2=>a8.of (s2 _ _ e4)) (fun _ _ _ _ _ h0 ks h=>by
     obtain ⟨p,h1,h2⟩:=h
     refine ⟨p,h1,h2.aU fun b xs r=>?_⟩
     rcases r with r | ⟨o',r⟩
     ·exact .inl (ks _ _ (fun e=>by rw [e,h0] at r;cases r) r)
     ·exact .inr ⟨o',ks _ _ (fun e=>by rw [e,h0] at r;cases r) r⟩) ?_ ?_
   ·intro jj u H6 R hu s6 k
    obtain ⟨p,v3,hp⟩:=av pp4 hu
    obtain ⟨a,l,sv,jI,rfl,h1,h2,_⟩:=hp
    exact ⟨_,rfl,a,_,_,_,rfl,rfl,Ty.au.bN s6 h1,rfl,k _ _ (au.refl _) ⟨p,v3,h2.same s6⟩⟩
   intro ys H6 hy fY s6 hD
   have pq:g8 K H6 ys (pins.map (·.sp)):=b9 (by rw [aab,hy,lu]) fun j u q' zQ Ro =>by
    obtain ⟨p,h1,h2⟩:=fY j u zQ
    rw [Wp,h1] at Ro
    cases Ro
    exact h2
   have h6:=h4.same s6
   refine ⟨(x0+(j:Rat),y0),D1,ys,_,rfl,a8.of hD,h6,pq,_,rfl,?_⟩
   refine bx (fun cc=>?_) (fun cc=>?_)
   ·have mem:(x0+(j:Rat),y0)∈pins.map (·.sp):=by simpa using cc
    obtain ⟨p,hp,v3⟩:=aad.mp mem
    have lt:=IK (x:=x0+(j:Rat)) ⟨p,hp,by rw [v3]⟩
    have ej:x0+(j:Rat)+1=x0+((j+1:Nat):Rat):=by
     push_cast
     grind
    rw [ej] at lt
    refine ⟨fun σ' H' =>∃(sv:V),σ' =[some (.ref sA),some (.int c0),some (.int (N:Int)),some (.int kind),some (.ref lp),some (.int (i:Int)),some sv]/\au H3 H' /\fe K H' sv (x0+((j+1:Nat):Rat),y0),fun σ' H' ⟨UX,h1,h2,h3⟩=>⟨_,lt,UX,j+1,h1,h2,h3,rfl,by omega⟩,?_⟩
    obtain ⟨sa,u1,u2,rfl,tu,P4,JF⟩:=h6
    refine ⟨_,rfl,sa,_,_,_,rfl,rfl,tu,g9,L2,?_⟩
    intro p7 n7;generalize eX:upd _ p7 _=H7;have ⟨s7,e7⟩:=nw n7 eX;clear eX
    refine ⟨u1,.ref p7,qr (x0+(j:Rat)),(1,1),44,1,rfl,P4.same s7,⟨p7,rfl,bU.of e7⟩,NG zj,⟨by decide,by decide⟩,by decide,fun p8 H8 s8 e8=>?_⟩
    rw [LA,ej] at e8
    refine ⟨_,rfl,sa,_,_,_,rfl,rfl,Ty.au.bN (s7.trans s8) tu,ip,L2,?_⟩
    intro p9 n9;generalize eX:upd _ p9 _=H9;have ⟨s9,e9⟩:=nw n9 eX;clear eX
    have P5:=(s7.trans s8).trans s9
    exact ⟨.ref p9,rfl,(s4.trans s6).trans P5,jU e9 ((jT e8).same s9) (JF.same P5)⟩
   ·have fresh:(x0+(j:Rat),y0)∉pins.map (·.sp):=by simpa using cc
    exact qh _ _ ⟨sv,x0+(j:Rat),rfl,s4.trans s6,h6,⟨zj,(by have Yx :((j:Int):Rat)<=((5:Int):Rat):=ahe.mpr (by omega);have e1:((j:Int):Rat)=(j:Rat):=rfl;have e2:((5:Int):Rat)=5:=rfl;rw [e1,e2] at Yx;grind)⟩,fresh⟩
  rintro σ' H4 ⟨sv,x,rfl,s4,h4,⟨zx',xb'⟩,fresh⟩
  have uc:=s3.trans s4
  have CM:=s2.trans uc
  have e4:=uc _ _ e2
  have pp4:Paired (jf K H4 lp) us pins:=Paired.bJ pp fun _ _ z=>z.same uc
  refine ⟨_,rfl,.inl ⟨rfl,_,a8.of e4⟩,_,rfl,_,rfl,_,_,rfl,by omega,by omega,_,rfl,?_⟩
  refine ⟨_,rfl,_,rfl,_,_,rfl,rfl,sA,ns,_,rfl,CM.seq hS,by omega,by omega,?_⟩
  refine ⟨_,rfl,fun l8 UY ws H8 wk s8 n8 e8 p8=>⟨L3,?_⟩⟩
  intro p9 n9;generalize eX:upd _ p9 _=H9;have ⟨s9,e9⟩:=nw n9 eX;clear eX
  have YS:=s8.trans s9
  have e49:=YS _ _ e4
  have pQ:Paired (jf K H9 lp) us pins:=Paired.bJ pp4 fun _ _ z=>z.same YS
  refine ⟨lp,_,_,rfl,rfl,e49,(by rw [lu];exact aaq (show pins.length<=1000 by omega) (by decide)),?_⟩
  have pZ:jf K H9 lp (.ref p9) ⟨nameOf (field c0 3001 3) (field c0 4001 6) (i:Int),(x,y0),ws⟩:=⟨p9,l8,sv,UY,rfl,bU.of e9,h4.same YS,s9 _ _ e8,p8.same s9,fun z=>by rw [z,e4] at n8;cases n8⟩
  refine ⟨_,_,_,pins++[⟨nameOf (field c0 3001 3) (field c0 4001 6) (i:Int),(x,y0),ws⟩],rfl,fun b o z=>?_,ak,dN (Paired.bJ pQ fun _ _ z=>z.upd e49) (pZ.upd e49),gp.snoc (fun z=>?_) fresh ⟨zx',zy.up (by decide)⟩ wk,by simp [lpi],fun p hp=>?_⟩
  ·rw [ao (aq z DW)]
   exact YS _ _ (CM _ _ z)
  ·obtain ⟨p,hp,v3⟩:=aad.mp z
   obtain ⟨j,hj,ej,_⟩:=nm p hp
   have i3:=aZ (c:=c0) (p:=3001) (m:=3) (by decide)
   have i4:=aZ (c:=c0) (p:=4001) (m:=6) (by decide)
   have:=vB ⟨(field c0 3001 3).toNat,by omega⟩ ⟨(field c0 4001 6).toNat,by omega⟩ ⟨j,by omega⟩ ⟨i,by omega⟩ (fun z=>by
    have:=congrArg Fin.val z
    simp at this
    omega)
   refine this ?_
   show nameOf (((field c0 3001 3).toNat:Nat):Int) (((field c0 4001 6).toNat:Nat):Int) (j:Int)=nameOf (((field c0 3001 3).toNat:Nat):Int) (((field c0 4001 6).toNat:Nat):Int) (i:Int)
   rw [show (((field c0 3001 3).toNat:Nat):Int)=field c0 3001 3 by omega,show (((field c0 4001 6).toNat:Nat):Int)=field c0 4001 6 by omega, <- ej]
   exact v3
  ·rcases aaA.mp hp with z | z
   ·obtain ⟨j,hj,ej,eb⟩:=nm p z
    exact ⟨j,by omega,ej,eb⟩
   ·rw [aax.mp z]
    exact ⟨i,by omega,rfl,xb',zy,yb⟩
 ·rintro σ H2 ⟨o5,o6,us,pins,rfl,s2,e2,pp,gp,lpi,nm⟩
  refine ⟨_,rfl,q lp us pins H2 s2 DW e2 pp gp (by omega) fun p hp=>?_⟩
  obtain ⟨j,hj,ej,eb⟩:=nm p hp
  refine ⟨?_,eb⟩
  rw [ej]
  have f1:=aZ (c:=c0) (p:=3001) (m:=3) (by decide)
  have f2:=aZ (c:=c0) (p:=4001) (m:=6) (by decide)
  obtain ⟨u,hu⟩:∃n:Nat,field c0 3001 3=(n:Int):=⟨(field c0 3001 3).toNat,by omega⟩
  obtain ⟨v,hv⟩:∃n:Nat,field c0 4001 6=(n:Int):=⟨(field c0 4001 6).toNat,by omega⟩
  rw [hu,hv]
  exact CQ ⟨u,by omega⟩ ⟨v,by omega⟩ ⟨j,by omega⟩
inductive tw (K:Frag)(vs:ζ)(H:Hp)(Q:VK)(E_:XK):Prop where
 | mk (sA pA:Addr) (ns:ξ) (us:ζ) (pins:ν) (_:vs=[.ref sA,.ref pA]) (_:a8 K H sA (ns.map V.int)) (_:H pA=some (.lst us)) (_:us.length=pins.length) (_:(pins.map (·.nm)).Nodup) (_:pins.length<=6) (_:∀(l:Addr) (ck :ζ) (bars:π) (H' :Hp),au H H' ->H l=none->H' l=some (.lst ck)->Paired (fF K H' pins) ck bars->ix pins bars->bars.length<=7->(∀b∈bars,b.nm.cps[0]? ≠some 122)->Q (.ref l) H'):tw K vs H Q E_
theorem ix.snoc {pins:ν}{bars:π}{b:aT}(g:ix pins bars)(h1:b.nm∉bars.map (·.nm))(h2:b.one∈pins/\b.other∈pins/\b.one.nm≠b.other.nm):ix pins (bars++[b]):=by
 refine ⟨?_,fun q hq=>?_⟩
 ·rw [aaH,aby]
  refine ⟨g.nb,by simp,fun a ha c hc e=>h1 ?_⟩
  have:c=b.nm:=by simpa using hc
  rw [<- this, <- e]
  exact ha
 ·rcases aaA.mp hq with z | z
  ·exact g.ends q z
  ·rw [aax.mp z]
   exact h2
theorem P6:∀st:Fin 3,∀a:Fin 6,∀k:Fin 12,(nameOf (st.val:Int) (a.val:Int) (k.val:Int)).cps[0]? ≠some 122:=by decide+kernel
theorem l0:aF ["_law_script","_law_pins_here","_law_cell","_law_many","_law_bars_here","_law_k","_law_one_here","_law_step"] zaw (ag BK):=sq
theorem UZ (D:Def K mg "_law_bars" BK zaw)(bB:mg "range"=none)(a_:mg "len"=none)(kX:Fn P w K mg base (bg P w) 1 "_law_cell_at" zas (kO K))(cQ:Fn P w K mg base (bg P w) 1 "_law_field" zab ed)(P2:Fn P w K mg base (bg P w) 2 "_law_name" zaA sZ):
  Fn P w K mg base (bg P w) 3 "_law_bars" zaw (tw K):=by
 refine D.ok l0 (fun vs H Q E h=>?_) (fun f bM A outer s H vs Q E hr h=>?_)
 ·obtain ⟨sA,pA,ns,us,pins,rfl,_⟩:=h
  rfl
 obtain ⟨sA,pA,ns,us,pins,rfl,hS,hp,lu,np,lp,q⟩:=h
 have L3:3<=sizeLine:=by decide
 refine ⟨_,(ae (aH (i:=2) l0.nd rfl (aan rfl) (aD kX hr.mo pX (ar (pv 0) (ar ah aa))))
  (ae (aH (i:=3) l0.nd rfl (aan rfl) (aD cQ hr.mo pX (ar (pv 2) (ar ah (ar ah aa)))))
  (ae (bq (aS nA (aI aE rfl a_ bT (ar (pv 1) aa)) ah (a9 _)) (aj (aH (i:=3) l0.nd rfl (aan rfl) ah)) aQ)
  (ae (aH (i:=4) l0.nd rfl (aan rfl) (c_ aa))
  (ae (bE PassesOwn.never rfl (bS rfl bB (ar (pv 3) aa)) (aC (i:=5) l0.nd rfl (aan rfl)) (ae (aH (i:=6) l0.nd rfl (aan rfl) (aD cQ hr.mo pX (ar (aD kX hr.mo pX (ar (pv 0) (ar (aL b6 ah (pv 5)) aa))) (ar ah (ar (aI aE rfl a_ bT (ar (pv 1) aa)) aa)))))
   (ae (aH (i:=7) l0.nd rfl (aan rfl) (aL b6 ah (aD cQ hr.mo pX (ar (aD kX hr.mo pX (ar (pv 0) (ar (aL b6 ah (pv 5)) aa))) (ar ah (ar (aL dr (aI aE rfl a_ bT (ar (pv 1) aa)) ah) aa))))))
   (aj (bf (gd PySem.F.plainAttrs_list PySem.F.slot_list_append PySem.F.type_list_append cG (pv 4) (ar (aV (ar (aD P2 hr.mo pX (ar (pv 2) (ar (pv 5) aa))) (ar (pv 6) (ar (aL eM (aL b6 (pv 6) (pv 7)) (aI aE rfl a_ bT (ar (pv 1) aa))) aa)))) aa)))))))
  (aj (aG (pv 4)))))))),?_⟩
 refine ⟨_,rfl,sA,ns,1,rfl,hS,by decide,by decide,?_⟩
 generalize cell ns 1=c0
 have i1:=aZ (c:=c0) (p:=1009) (m:=8) (by decide)
 refine ⟨_,rfl,_,_,_,rfl,by decide,by decide,by decide,?_⟩
 generalize field c0 1009 8=fi at i1 ⊢
 obtain ⟨fn,rfl⟩:∃n:Nat,fi=(n:Int):=⟨fi.toNat,by omega⟩
 dsimp only
 refine eg (fun σ' H' =>∃N:Nat,N<=7/\(0 < N->2<=pins.length)/\σ' =[some (.ref sA),some (.ref pA),some (.int c0),some (.int (N:Int)),none,none,none,none]/\H' =H) (fun Nx qh=>?_) ?_
 ·refine ⟨_,rfl,pA,_,rfl,.inl (a8.of hp),_,_,rfl,rfl,_,rfl,?_⟩
  refine bx (fun _=>?_) (fun c=>?_)
  ·exact qh _ _ ⟨0,by omega,by omega,rfl,rfl⟩
  ·have c' :¬ (us.length:Int) < 2:=fun z=>c (decide_eq_true z)
   exact qh _ _ ⟨fn,by omega,fun _=>by omega,rfl,rfl⟩
 rintro σ' Hy ⟨N,hN,hN2,rfl,rfl⟩
 refine ⟨(by show 0<=sizeLine;decide),?_⟩
 intro lb nb;generalize eX:upd _ lb _=H1;have ⟨sb,eb⟩:=nw nb eX;clear eX
 refine ⟨_,rfl,(N:Int),rfl,by omega,by omega,bW (lo:=0) (n:=N) (fun i σ H' =>∃(o5 o6 o7:ω) (ck :ζ) (bars:π),σ=[some (.ref sA),some (.ref pA),some (.int c0),some (.int (N:Int)),some (.ref lb),o5,o6,o7]/\au Hy H' /\H' lb=some (.lst ck)/\Paired (fF K H' pins) ck bars/\ix pins bars/\bars.length=i/\∀b∈bars,∃j,j < i/\b.nm=nameOf (field c0 3001 3) (field c0 4001 6) (j:Int)) ⟨none,none,none,[],[],rfl,sb,eb,.nil,⟨by simp,by simp⟩,rfl,by simp⟩ ?_ ?_⟩
 ·rintro i σ H2 hi ⟨o5,o6,o7,ck,bars,rfl,s2,e2,pb,gb,lbi,nm⟩
  have ei:(0:Int)+(i:Int)=(i:Int):=aa' _
  rw [ei]
  have n2:2<=pins.length:=hN2 (by omega)
  have lv:ck.length=bars.length:=Paired.length pb
  have sp:=a8.of (K:=K) (s2 _ _ hp)
  refine ⟨_,rfl,_,rfl,_,_,rfl,rfl,sA,ns,_,rfl,s2.seq hS,by omega,by omega,_,rfl,pA,_,rfl,.inl sp,_,_,_,rfl,by decide,by decide,by omega,?_⟩
  have j1:=aZ (c:=cell ns (8+(i:Int))) (p:=1009) (m:=(us.length:Int)) (by omega)
  have j2:=aZ (c:=cell ns (8+(i:Int))) (p:=2003) (m:=(us.length:Int) - 1) (by omega)
  refine ⟨_,rfl,_,rfl,_,_,rfl,rfl,sA,ns,_,rfl,s2.seq hS,by omega,by omega,_,rfl,pA,_,rfl,.inl sp,_,_,rfl,rfl,_,_,_,rfl,by decide,by decide,by omega,_,_,rfl,rfl,?_⟩
  generalize field (cell ns (8+(i:Int))) 1009 (us.length:Int)=one at j1 ⊢
  generalize field (cell ns (8+(i:Int))) 2003 ((us.length:Int) - 1)=step at j2 ⊢
  obtain ⟨on,rfl⟩:∃n:Nat,one=(n:Int):=⟨one.toNat,by omega⟩
  have oo:∃m:Nat,((on:Int)+(1+step)).fmod (us.length:Int)=(m:Int)/\m < us.length/\m≠on:=by
   have f:=jS (x:=(on:Int)+(1+step)) (m:=(us.length:Int)) (by omega)
   refine ⟨(((on:Int)+(1+step)).fmod (us.length:Int)).toNat,by omega,by omega,fun z=>?_⟩
   have e:((on:Int)+(1+step)).fmod (us.length:Int)=(on:Int):=by omega
   rw [ah5 _ (by omega)] at e
   by_cases c:(on:Int)+(1+step) < (us.length:Int)
   ·rw [ahH (by omega) c] at e
    omega
   ·rw [<- aiE,ahH (by omega) (by omega)] at e
    omega
  obtain ⟨LD,Ro,l2',ne2⟩:=oo
  refine ⟨_,rfl,.inl ⟨rfl,_,a8.of e2⟩,_,rfl,_,rfl,_,_,rfl,by omega,by omega,_,rfl,_,rfl,_,rfl,_,_,rfl,rfl,_,rfl,pA,_,rfl,.inl sp,_,_,rfl,rfl,nz (by omega),L3,?_⟩
  intro p9 n9;generalize eX:upd _ p9 _=H9;have ⟨s9,e9⟩:=nw n9 eX;clear eX
  have e9:H9 p9=some (.tup [.str (nameOf (field c0 3001 3) (field c0 4001 6) (i:Int)),.int (on:Int),.int (((on:Int)+(1+step)).fmod (us.length:Int))]):=e9
  rw [Ro] at e9
  have U0:=s9 _ _ e2
  refine ⟨lb,_,_,rfl,rfl,U0,(by rw [lv];exact aaq (show bars.length<=1000 by omega) (by decide)),?_⟩
  have l1:on < pins.length:=by omega
  have l2:LD < pins.length:=by omega
  have st:aY H9 (upd H9 lb (.lst (ck ++[.ref p9]))):=.list U0
  have ns9:∀(v:V) (b:aT),fF K H2 pins v b->fF K (upd H9 lb (.lst (ck ++[.ref p9]))) pins v b:=fun v b h=>by
   obtain ⟨a,i',j',e,h1,h2,h3⟩:=h.same s9
   exact ⟨a,i',j',e,st.bN h1,h2,h3⟩
  refine ⟨_,_,_,ck ++[.ref p9],bars++[⟨nameOf (field c0 3001 3) (field c0 4001 6) (i:Int),pins[on],pins[LD]⟩],rfl,fun b o z=>?_,ak,dN (Paired.bJ pb fun _ _ z=>ns9 _ _ z) ?_,gb.snoc (fun z=>?_) ⟨abn l1,abn l2,fun z=>?_⟩,by simp [lbi],fun b hb=>?_⟩
  ·rw [ao (aq z nb)]
   exact s9 _ _ (s2 _ _ z)
  ·exact ⟨p9,on,LD,rfl,st.bN (bU.of e9),gE l1,gE l2⟩
  ·obtain ⟨b,hb,v3⟩:=aad.mp z
   obtain ⟨j,hj,ej⟩:=nm b hb
   have i3:=aZ (c:=c0) (p:=3001) (m:=3) (by decide)
   have i4:=aZ (c:=c0) (p:=4001) (m:=6) (by decide)
   have:=vB ⟨(field c0 3001 3).toNat,by omega⟩ ⟨(field c0 4001 6).toNat,by omega⟩ ⟨j,by omega⟩ ⟨i,by omega⟩ (fun z=>by
    have:=congrArg Fin.val z
    simp at this
    omega)
   refine this ?_
   show nameOf (((field c0 3001 3).toNat:Nat):Int) (((field c0 4001 6).toNat:Nat):Int) (j:Int)=nameOf (((field c0 3001 3).toNat:Nat):Int) (((field c0 4001 6).toNat:Nat):Int) (i:Int)
   rw [show (((field c0 3001 3).toNat:Nat):Int)=field c0 3001 3 by omega,show (((field c0 4001 6).toNat:Nat):Int)=field c0 4001 6 by omega, <- ej]
   exact v3
  ·have q1:(pins.map (·.nm))[on]? =some pins[on].nm:=by rw [Wp,gE l1];rfl
   have q2:(pins.map (·.nm))[LD]? =some pins[on].nm:=by rw [Wp,gE l2];exact congrArg some z.symm
   exact ne2 ((ahn (by rw [aab];omega) np).mp (q1.trans q2.symm)).symm
  ·rcases aaA.mp hb with z | z
   ·obtain ⟨j,hj,ej⟩:=nm b z
    exact ⟨j,by omega,ej⟩
   ·rw [aax.mp z]
    exact ⟨i,by omega,rfl⟩
 ·rintro σ H2 ⟨o5,o6,o7,ck,bars,rfl,s2,e2,pb,gb,lbi,nm⟩
  refine ⟨_,rfl,q lb ck bars H2 s2 nb e2 pb gb (by omega) fun b hb=>?_⟩
  obtain ⟨j,hj,ej⟩:=nm b hb
  have i3:=aZ (c:=c0) (p:=3001) (m:=3) (by decide)
  have i4:=aZ (c:=c0) (p:=4001) (m:=6) (by decide)
  have:=P6 ⟨(field c0 3001 3).toNat,by omega⟩ ⟨(field c0 4001 6).toNat,by omega⟩ ⟨j,by omega⟩
  rw [show (((⟨(field c0 3001 3).toNat,by omega⟩:Fin 3).val:Nat):Int)=field c0 3001 3 by show (((field c0 3001 3).toNat:Nat):Int)=_;omega,show (((⟨(field c0 4001 6).toNat,by omega⟩:Fin 6).val:Nat):Int)=field c0 4001 6 by show (((field c0 4001 6).toNat:Nat):Int)=_;omega] at this
  rw [ej]
  exact this
inductive tD (K:Frag)(vs:ζ)(H:Hp)(Q:VK)(E_:XK):Prop where
 | mk (sA pA bA:Addr) (ns:ξ) (us ck :ζ) (pins:ν) (bars:π) (_:vs=[.ref sA,.ref pA,.ref bA]) (_:a8 K H sA (ns.map V.int)) (_:H pA=some (.lst us)) (_:us.length=pins.length) (_:(pins.map (·.nm)).Nodup) (_:H bA=some (.lst ck)) (_:Paired (fF K H pins) ck bars) (_:ix pins bars) (_:bars.length<=7) (_:(∀b∈bars,b.nm.cps[0]? ≠some 122)) (_:∀(l:Addr) (ws:ζ) (bs:π) (H' :Hp),au H H' ->(l=bA\/H l=none)->H' l=some (.lst ws)->Paired (fF K H' pins) ws bs->ix pins bs->bs.length<=39->Q (.ref l) H'):tD K vs H Q E_
def jh (j:Nat):Str:="z"++Str.ofString (toString (j:Int))
theorem IM:∀i:Fin 32,∀j:Fin 32,i≠j->jh i.val≠jh j.val:=by decide+kernel
theorem y_:∀i:Fin 32,(jh i.val).cps[0]? =some 122/\(("z":Str).length+(Str.ofString (toString (i.val:Int))).length<=1000):=by decide+kernel
theorem oR {α β:Type}{R:α->β->Prop}:∀{us vs:List α} {l m:List β},Paired R us l->Paired R vs m->Paired R (us++vs) (l++m)
 | _,_,_,_,.nil,h=>h
 | _,_,_,_,.cons h t,h' =>.cons h (oR t h')
theorem cN:aF ["_law_script","_law_pins_here","_law_bars_here","_law_cell","_law_more","_law_k","_law_part","_law_one_here","_law_step"] zao (ag dM):=sq
theorem tE (D:Def K mg "_law_thick" dM zao)(bB:mg "range"=none)(a_:mg "len"=none)(rG:mg "str"=none)(kX:Fn P w K mg base (bg P w) 1 "_law_cell_at" zas (kO K))(cQ:Fn P w K mg base (bg P w) 1 "_law_field" zab ed):
  Fn P w K mg base (bg P w) 3 "_law_thick" zao (tD K):=by
 refine D.ok cN (fun vs H Q E h=>?_) (fun f bM A outer s H vs Q E hr h=>?_)
 ·obtain ⟨sA,pA,bA,ns,us,ck,pins,bars,rfl,_⟩:=h
  rfl
 obtain ⟨sA,pA,bA,ns,us,ws,pins,bars,rfl,hS,hp,lu,np,hb,pb,gb,lb,nz0,q⟩:=h
 have L3:3<=sizeLine:=by decide
 refine ⟨_,(ae (aH (i:=3) cN.nd rfl (aan rfl) (aD kX hr.mo pX (ar (pv 0) (ar ah aa))))
  (ae (bq (PW.pt (lJ (c7 (EJ nA nA ah (aI aE rfl a_ bT (ar (pv 1) aa)) ah)) (g_ (aS qG (aD cQ hr.mo pX (ar (pv 3) (ar ah (ar ah aa)))) ah (a9 _))))) (aj (aG (pv 2))) aQ)
  (ae (aH (i:=4) cN.nd rfl (aan rfl) (c_ aa))
  (ae (bE PassesOwn.never rfl (bS rfl bB (ar (aL b6 ah (aD cQ hr.mo pX (ar (pv 3) (ar ah (ar ah aa))))) aa)) (aC (i:=5) cN.nd rfl (aan rfl)) (ae (aH (i:=6) cN.nd rfl (aan rfl) (aL eM (aL b6 (aL b6 (pv 3) (aL cF (aL cF ah (pv 5)) (pv 5))) (aL cF ah (pv 5))) ah))
   (ae (aH (i:=7) cN.nd rfl (aan rfl) (aD cQ hr.mo pX (ar (pv 6) (ar ah (ar (aI aE rfl a_ bT (ar (pv 1) aa)) aa)))))
   (ae (aH (i:=8) cN.nd rfl (aan rfl) (aL b6 ah (aD cQ hr.mo pX (ar (pv 6) (ar ah (ar (aL dr (aI aE rfl a_ bT (ar (pv 1) aa)) ah) aa))))))
   (aj (bf (gd PySem.F.plainAttrs_list PySem.F.slot_list_append PySem.F.type_list_append cG (pv 4) (ar (aV (ar (aL gG i0 (b8 jr rfl rG M_ (ar (pv 5) aa))) (ar (pv 7) (ar (aL eM (aL b6 (pv 7) (pv 8)) (aI aE rfl a_ bT (ar (pv 1) aa))) aa)))) aa))))))))
  (aj (aG (aL EY (pv 2) (pv 4)))))))),?_⟩
 refine ⟨_,rfl,sA,ns,1,rfl,hS,by decide,by decide,?_⟩
 generalize cell ns 1=c0
 dsimp only
 refine eg (fun σ' H' =>2<=pins.length/\pins.length<=3/\σ' =[some (.ref sA),some (.ref pA),some (.ref bA),some (.int c0),none,none,none,none,none]/\H' =H) (fun Nx qh=>?_) ?_
 ·have out:Q (.ref bA) H:=q bA ws bars H (au.refl _) (.inl rfl) hb pb gb (by omega)
  refine ⟨_,rfl,pA,_,rfl,.inl (a8.of hp),_,_,rfl,rfl,_,rfl,?_⟩
  refine bx (fun c1=>?_) (fun _=>?_)
  ·refine ⟨_,_,rfl,rfl,_,rfl,?_⟩
   refine bx (fun _=>?_) (fun c2=>?_)
   ·exact OK ⟨_,rfl,out⟩
   refine ⟨_,rfl,_,_,_,rfl,by decide,by decide,by decide,_,_,rfl,rfl,_,rfl,?_⟩
   refine bx (fun _=>⟨_,rfl,out⟩) (fun _=>?_)
   have c1' :(1:Int) < (us.length:Int):=of_decide_eq_true c1
   have US :(us.length:Int) < 4:=by simpa using c2
   exact qh _ _ ⟨by omega,by omega,rfl,rfl⟩
  ·refine ⟨_,rfl,?_⟩
   exact OK (OK ⟨_,rfl,out⟩)
 rintro σ' Hy ⟨h2,h3,rfl,rfl⟩
 refine ⟨(by show 0<=sizeLine;decide),?_⟩
 intro lm nm;generalize eX:upd _ lm _=H1;have ⟨sm,em⟩:=nw nm eX;clear eX
 have i9:=aZ (c:=c0) (p:=9001) (m:=8) (by decide)
 refine ⟨_,rfl,_,_,_,rfl,by decide,by decide,by decide,_,_,rfl,rfl,?_⟩
 generalize field c0 9001 8=fi at i9 ⊢
 obtain ⟨fn,rfl⟩:∃n:Nat,fi=(n:Int):=⟨fi.toNat,by omega⟩
 have eN:(24:Int)+(fn:Int)=((24+fn:Nat):Int):=by omega
 rw [eN]
 have lN:24+fn < 32:=by omega
 generalize 24+fn=N at lN eN ⊢
 refine ⟨(N:Int),rfl,by omega,by omega,bW (lo:=0) (n:=N) (fun i σ H' =>∃(o5 o6 o7 o8:ω) (JP:ζ) (CS:π),σ=[some (.ref sA),some (.ref pA),some (.ref bA),some (.int c0),some (.ref lm),o5,o6,o7,o8]/\au Hy H' /\H' lm=some (.lst JP)/\Paired (fF K H' pins) JP CS/\CS.map (·.nm)=(abl i).map jh/\∀b∈CS,b.one∈pins/\b.other∈pins/\b.one.nm≠b.other.nm) ⟨none,none,none,none,[],[],rfl,sm,em,.nil,rfl,fun _ h=>nomatch h⟩ ?_ ?_⟩
 ·rintro i σ H2 hi ⟨o5,o6,o7,o8,JP,CS,rfl,s2,e2,U1,Rp,U2⟩
  have ei:(0:Int)+(i:Int)=(i:Int):=aa' _
  rw [ei]
  have l2b:CS.length=i:=by
   have:=congrArg abO Rp
   simpa using this
  have lv:JP.length=CS.length:=Paired.length U1
  have sp:=a8.of (K:=K) (s2 _ _ hp)
  have m1:nO 7919 (i:Int):=⟨by decide+kernel,aai (intBits_le_64 (by omega) (by omega)) (by decide)⟩
  have m2:nO (7919*(i:Int)) (i:Int):=⟨aai (intBits_le_64 (by omega) (by omega)) (by decide),aai (intBits_le_64 (by omega) (by omega)) (by decide)⟩
  have m3:nO 31 (i:Int):=⟨by decide+kernel,aai (intBits_le_64 (by omega) (by omega)) (by decide)⟩
  refine ⟨_,rfl,_,rfl,_,_,rfl,rfl,m1,_,rfl,_,_,rfl,rfl,m2,_,_,rfl,rfl,_,rfl,_,_,rfl,rfl,m3,_,_,rfl,rfl,_,_,rfl,rfl,nz (by decide),?_⟩
  generalize Int.fmod (c0+7919*(i:Int)*(i:Int)+31*(i:Int)) 1000003=pt
  have j1:=aZ (c:=pt) (p:=1009) (m:=(us.length:Int)) (by omega)
  have j2:=aZ (c:=pt) (p:=2003) (m:=(us.length:Int) - 1) (by omega)
  refine ⟨_,rfl,_,rfl,pA,_,rfl,.inl sp,_,_,_,rfl,by decide,by decide,by omega,?_⟩
  refine ⟨_,rfl,_,rfl,pA,_,rfl,.inl sp,_,_,rfl,rfl,_,_,_,rfl,by decide,by decide,by omega,_,_,rfl,rfl,?_⟩
  generalize field pt 1009 (us.length:Int)=one at j1 ⊢
  generalize field pt 2003 ((us.length:Int) - 1)=step at j2 ⊢
  obtain ⟨on,rfl⟩:∃n:Nat,one=(n:Int):=⟨one.toNat,by omega⟩
  have oo:∃m:Nat,((on:Int)+(1+step)).fmod (us.length:Int)=(m:Int)/\m < us.length/\m≠on:=by
   have f:=jS (x:=(on:Int)+(1+step)) (m:=(us.length:Int)) (by omega)
   refine ⟨(((on:Int)+(1+step)).fmod (us.length:Int)).toNat,by omega,by omega,fun z=>?_⟩
   have e:((on:Int)+(1+step)).fmod (us.length:Int)=(on:Int):=by omega
   rw [ah5 _ (by omega)] at e
   by_cases c:(on:Int)+(1+step) < (us.length:Int)
   ·rw [ahH (by omega) c] at e
    omega
   ·rw [<- aiE,ahH (by omega) (by omega)] at e
    omega
  obtain ⟨LD,Ro,l2',ne2⟩:=oo
  have lg:(i:Int).natAbs.log2 < 1920:=aaq (aiY _) (by show i < 1920;omega)
  have tz:=y_ ⟨i,by omega⟩
  refine ⟨_,rfl,.inl ⟨rfl,_,a8.of e2⟩,_,rfl,_,rfl,lg,_,_,rfl,rfl,aai tz.2 (by decide),_,rfl,_,rfl,_,rfl,_,_,rfl,rfl,_,rfl,pA,_,rfl,.inl sp,_,_,rfl,rfl,nz (by omega),L3,?_⟩
  intro p9 n9;generalize eX:upd _ p9 _=H9;have ⟨s9,e9⟩:=nw n9 eX;clear eX
  have e9:H9 p9=some (.tup [.str (jh i),.int (on:Int),.int (((on:Int)+(1+step)).fmod (us.length:Int))]):=e9
  rw [Ro] at e9
  have U0:=s9 _ _ e2
  refine ⟨lm,_,_,rfl,rfl,U0,(by rw [lv];exact aaq (show CS.length<=1000 by omega) (by decide)),?_⟩
  have l1:on < pins.length:=by omega
  have l2:LD < pins.length:=by omega
  have st:aY H9 (upd H9 lm (.lst (JP++[.ref p9]))):=.list U0
  have ns9:∀(v:V) (b:aT),fF K H2 pins v b->fF K (upd H9 lm (.lst (JP++[.ref p9]))) pins v b:=fun v b h=>by
   obtain ⟨a,i',j',e,h1,h2,h3⟩:=h.same s9
   exact ⟨a,i',j',e,st.bN h1,h2,h3⟩
  refine ⟨_,_,_,_,JP++[.ref p9],CS++[⟨jh i,pins[on],pins[LD]⟩],rfl,fun b o z=>?_,ak,dN (Paired.bJ U1 fun _ _ z=>ns9 _ _ z) ?_,?_,fun b hb=>?_⟩
  ·rw [ao (aq z nm)]
   exact s9 _ _ (s2 _ _ z)
  ·exact ⟨p9,on,LD,rfl,st.bN (bU.of e9),gE l1,gE l2⟩
  ·rw [aaH,Rp,ahg,aaH]
   rfl
  ·rcases aaA.mp hb with z | z
   ·exact U2 b z
   ·rw [aax.mp z]
    refine ⟨abn l1,abn l2,fun z=>?_⟩
    have q1:(pins.map (·.nm))[on]? =some pins[on].nm:=by rw [Wp,gE l1];rfl
    have q2:(pins.map (·.nm))[LD]? =some pins[on].nm:=by rw [Wp,gE l2];exact congrArg some z.symm
    exact ne2 ((ahn (by rw [aab];omega) np).mp (q1.trans q2.symm)).symm
 ·rintro σ H2 ⟨o5,o6,o7,o8,JP,CS,rfl,s2,e2,U1,Rp,U2⟩
  have l2b:CS.length=N:=by
   have:=congrArg abO Rp
   simpa using this
  have lv:JP.length=CS.length:=Paired.length U1
  have lw:ws.length=bars.length:=Paired.length pb
  refine ⟨_,rfl,_,rfl,bA,lm,_,_,rfl,rfl,s2 _ _ hb,e2,(aai (show ws.length+JP.length<=40 by omega) (by decide)),?_⟩
  intro l8 n8;generalize eX:upd _ l8 _=H8;have ⟨s8,e8⟩:=nw n8 eX;clear eX
  have nms:∀n∈CS.map (·.nm),∃j,j < N/\n=jh j:=fun n hn=>by
   rw [Rp] at hn
   obtain ⟨j,hj,rfl⟩:=aad.mp hn
   exact ⟨j,abe.mp hj,rfl⟩
  refine q l8 _ (bars++CS) H8 (s2.trans s8) (.inr (s2.free n8)) e8 (oR (Paired.bJ pb fun _ _ z=>z.same (s2.trans s8)) (Paired.bJ U1 fun _ _ z=>z.same s8)) ⟨?_,fun b hb=>?_⟩ (by rw [aat];omega)
  ·rw [aaH,aby]
   refine ⟨gb.nb,?_,fun a ha c hc z=>?_⟩
   ·rw [Rp,ah4,aho]
    refine (ail (n:=N)).imp_of_mem fun {a b} ha hb h=>?_
    exact IM ⟨a,by have:=abe.mp ha;omega⟩ ⟨b,by have:=abe.mp hb;omega⟩ (fun z=>by have:=congrArg Fin.val z;simp at this;omega)
   ·obtain ⟨j,hj,ej⟩:=nms c hc
    obtain ⟨b,hb,rfl⟩:=aad.mp ha
    exact nz0 b hb (by rw [z,ej];exact (y_ ⟨j,by omega⟩).1)
  ·rcases aaA.mp hb with z | z
   ·exact gb.ends b z
   ·exact U2 b z
theorem za (v:V):abY ("ways":Str) [(("way":Str),v)]=none:=by
 have h:(("ways":Str)=="way")=false:=by decide+kernel
 simp [abY,h]
inductive oT (K:Frag)(C:Addr)(vs:ζ)(H:Hp)(Q:VK)(E_:XK):Prop where
 | mk (pA bA:Addr) (us ck :ζ) (pins:ν) (bars:π) (_:vs=[.ref pA,.ref bA]) (_:H pA=some (.lst us)) (_:Paired (jg K H) us pins) (_:H bA=some (.lst ck)) (_:Paired (fF K H pins) ck bars) (_:fG pins) (_:ix pins bars) (_:pins.length<=9) (_:bars.length<=40) (_:∀(a dx pP pW pB:Addr) (kP kW kB:γ) (H' :Hp),au H H' ->dZ K H' C a dx pP pW pB (pins.map fun p=>(p.nm,oC p.sp)) (bars.map fun b=>(b.nm,b.one.nm,b.other.nm)) kP kW kB->pM K H' (pins.map fun p=>(p.nm,p.ws)) kW->(∀kv∈kW,∀b o,H b=some o->kv.2≠.ref b)->H pP=none->H pW=none->H pB=none->Q (.ref a) H'):oT K C vs H Q E_
theorem l7:aF ["_law_pins_here","_law_bars_here","_law_frame_here","_law_name_here","_law_spot_here","_law_ways_here","_law_one_here","_law_other"] zau (ag BL):=sq
theorem U3 {C CR CF fI fR:Addr}{fdI U4:FuncData}(D:Def K mg "_law_frame" BL zau)(a_:mg "len"=none)(P7:Mk K C fI)(P8:mg "Frame"=some (.ref C))(aa8:cI P w K mg base (bg P w) 1 fI fdI zaj (sH K C))(P9:Binds K fdI zaj [])
  (CT:mg "Roller"=some (.ref CR)) (CU:mg "Fixed"=some (.ref CF)) (CV:QY K CF) (CW:Mk K CR fR) (P_:cI P w K mg base (bg P w) 1 fR U4 zaz (mZ K CR)) (CY:Binds K U4 zaz [])
  (wR:bI P w K mg base (bg P w) 2 CR "ways" zaj (gL K CR)) (wF:bI P w K mg base (bg P w) 2 CF "ways" zaj (gM K))
  (Rq:bI P w K mg base (bg P w) 3 C "put_bar" zah (iu K C)) (NH:bI P w K mg base (bg P w) 3 C "put_pin" zar (cT P w K mg base C)) (Rr:sj P w K mg base (bg P w) 3 C "put_pin" zar [.none] (cT P w K mg base C)):
  Fn P w K mg base (bg P w) 4 "_law_frame" zau (oT K C):=by
 refine D.ok l7 (fun vs H Q E h=>?_) (fun f bM A outer s H vs Q E hr h=>?_)
 ·obtain ⟨pA,bA,us,ck,pins,bars,rfl,_⟩:=h
  rfl
 obtain ⟨pA,bA,us,ck,pins,bars,rfl,hp,pp,hb,pb,gp,gb,lp6,lb8,q⟩:=h
 have lu:us.length=pins.length:=Paired.length pp
 refine ⟨_,(ae (aH (i:=2) l7.nd rfl (aan rfl) (EO P7 aa8 hr.mo rfl P8 P9 .nil (pY P w)))
  (ae (bE PassesOwn.never rfl (bD (pv 0)) (fm rfl (bu (aC (i:=3) l7.nd rfl (aan rfl)) (bu (aC (i:=4) l7.nd rfl (aan rfl)) (bu (aC (i:=5) l7.nd rfl (aan rfl)) dF)))) (ae (bq (aS eh (aI aE rfl a_ bT (ar (pv 5) aa)) ah (a9 _)) (aj (bf (yD (k:=3) (pv 2) hr.mo (pY P w) (ar (pv 3) (ar (aJ (pv 4)) (ar (aJ (pv 4)) aa)))))) aQ)
   (ae (bq (aS eh (aI aE rfl a_ bT (ar (pv 5) aa)) ah (a9 _)) (aj (bf (cK (k:=3) (pv 2) hr.mo (pY P w) (ar (pv 3) (ar (aJ (pv 4)) (ar (aJ (pv 4)) (ar (ym CW P_ hr.mo rfl CT CY .nil (pY P w) (ar (aJ (yK (pv 5))) (ar (aJ (yK (pv 5))) aa))) aa))))))) aQ)
   (aj (bq (aS eh (aI aE rfl a_ bT (ar (pv 5) aa)) ah (a9 _)) (aj (bf (cK (k:=3) (pv 2) hr.mo (pY P w) (ar (pv 3) (ar (aJ (pv 4)) (ar (aJ (pv 4)) (ar (FO CV rfl CU) aa))))))) aQ)))))
  (ae (bE PassesOwn.never rfl (bD (pv 1)) (fm rfl (bu (aC (i:=3) l7.nd rfl (aan rfl)) (bu (aC (i:=6) l7.nd rfl (aan rfl)) (bu (aC (i:=7) l7.nd rfl (aan rfl)) dF)))) (aj (bf (cK (k:=3) (pv 2) hr.mo (pY P w) (ar (pv 3) (ar (aJ (bw ba (pv 0) (pv 6) (fun _ _=>rfl))) (ar (aJ (bw ba (pv 0) (pv 7) (fun _ _=>rfl))) aa)))))))
  (aj (aG (pv 2)))))),?_⟩
 intro a dx na ndx nad
 have sF:au H (upd (upd H dx (.own a)) a (.ins C dx [])):=fun b o e=>by rw [ao (aq e na),ao (aq e ndx)];exact e
 refine ⟨a,dx,rfl,ak,fun pP pW pB H1 k1 nP nW nB R1=>⟨rfl,?_⟩⟩
 have s1:au H H1:=fun b o e=>k1 b o (aq e na) (sF _ _ e)
 have nP:=kC sF nP
 have nW:=kC sF nW
 have nB:=kC sF nB
 refine ⟨_,rfl,pA,rfl,⟨_,a8.of (s1 _ _ hp)⟩,cv (K:=K) (a:=pA) (xs:=us) (fun i σ H' =>∃(o4 o5 o6:ω) (kP kW:γ),σ=[some (.ref pA),some (.ref bA),some (.ref a),o4,o5,o6,none,none]/\au H H' /\dZ K H' C a dx pP pW pB ((pins.take i).map fun p=>(p.nm,oC p.sp)) [] kP kW []/\pM K H' ((pins.take i).map fun p=>(p.nm,p.ws)) kW/\∀kv∈kW,∀b o,H b=some o->kv.2≠.ref b) ⟨none,none,none,[],[],rfl,s1,R1,.nil,fun kv h=>(nomatch h)⟩ (fun i σ H' _ h=>by
   obtain ⟨_,_,_,_,_,_,s,_⟩:=h
   exact a8.of (s _ _ hp)) ?_ ?_⟩
 ·rintro i u σ H2 hu ⟨o4,o5,o6,kP,kW,rfl,s2,R2,W2,nw⟩
  obtain ⟨p,ep,Qa⟩:=av pp hu
  have mp:p∈pins:=be ep
  obtain ⟨ta,l,sv,ws,rfl,h1,h2,h3,h4⟩:=Qa.same s2
  obtain ⟨sa,x1,y1,rfl,tu,P4,JF⟩:=h2
  refine ⟨ta,_,rfl,h1,rfl,_,_,rfl,_,_,rfl,_,_,rfl,rfl,?_⟩
  have tk:=take_snoc ep
  have il:i < pins.length:=(ir.mp ep).1
  have nlP:l≠pP:=fun z=>by rw [z,R2.pl] at h3;cases h3
  have nlW:l≠pW:=fun z=>by rw [z,R2.wy] at h3;cases h3
  have fin:∀(hv:V) (H5:Hp) (Q5:VK) (E5:XK),au H2 H5->HM P w K mg base H5 hv p.ws->
    (∀H' pO iM,au H H' ->H' l=some (.lst ws)->dZ K H' C a dx pP pW pB ((pins.take (i+1)).map fun p=>(p.nm,oC p.sp)) [] pO iM []->pM K H' ((pins.take (i+1)).map fun p=>(p.nm,p.ws)) iM ->(∀kv∈iM,∀b o,H b=some o->kv.2≠.ref b)->Q5 .cB H')->cT P w K mg base C [.ref a,.str p.nm,x1,y1,hv] H5 Q5 E5:=fun hv H5 Q5 E5 s5 hY fin=>by
   refine ⟨a,dx,pP,pW,pB,_,_,kP,kW,_,_,p.nm,x1,y1,hv,oC p.sp,p.ws,rfl,R2.same s5,W2.same s5,by rw [aaE,aaE];rfl,P4.same s5,JF.same s5,fun z=>?_,fun z hz e=>?_,?_,hY,fun H' pO iM k' R' W' nl' =>?_⟩
   ·rw [aaE] at z
    obtain ⟨p',kJ,e'⟩:=aad.mp z
    exact jD (nm:=aA.nm) gp.np ep kJ e'
   ·obtain ⟨p',kJ,e'⟩:=aad.mp hz
    rw [<- e'] at e
    have e1:=congrArg an_ e
    have e2:=congrArg ao_ e
    have e3:p'.sp=p.sp:=ahQ (gI e1) (gI e2)
    obtain ⟨j,hj,ej⟩:=abE.mp kJ
    rw [aiL] at ej
    rw [aa2] at hj
    have q1:(pins.map (·.sp))[j]? =some p.sp:=by rw [Wp,gE (by omega),ej, <- e3];rfl
    have q2:(pins.map (·.sp))[i]? =some p.sp:=by rw [Wp,ep];rfl
    have:=(ahn (by rw [aab];omega) gp.ns).mp (q1.trans q2.symm)
    omega
   ·rw [aab,aa2]
    omega
   ·refine fin H' pO iM (fun b o z=>k' b o (aq z nP) (aq z nW) (s5 _ _ (s2 _ _ z))) (k' _ _ nlP nlW (s5 _ _ h3)) ?_ ?_ ?_
    ·rw [tk,aaH]
     exact R'
    ·rw [tk,aaH]
     exact W'
    ·obtain ⟨l9,e9,n9⟩:=nl'
     rw [e9]
     intro kv ND b o hb z
     rcases aaA.mp ND with h | h
     ·exact nw kv h b o hb z
     ·rw [aax.mp h] at z
      injection z with z
      have:=(s2.trans s5).free n9
      rw [z,hb] at this
      cases this
  have l2:=a8.of (K:=K) h3
  have lw:ws.length=p.ws.length:=Paired.length h4
  refine ⟨_,rfl,l,_,rfl,.inl l2,rfl,_,rfl,?_⟩
  rcases gp.ws p mp with hw | ⟨wx,wy,hw,wn,_,_⟩ | hw
  ·rw [hw] at lw
   refine bx (fun _=>?_) (fun c=>by rw [lw] at c;simp at c)
   refine ⟨_,rfl,a,C,dx,_,_,_,rfl,R2.obj,rfl,Rr,_,rfl,_,rfl,sa,_,_,_,rfl,rfl,tu,g9,_,rfl,sa,_,_,_,rfl,rfl,tu,ip,?_⟩
   dsimp only [dQ]
   refine fin .cB H2 _ _ (au.refl _) (.inl ⟨rfl,hw⟩) fun H' pO iM s' l' R' W' U5 =>?_
   have l' :=a8.of (K:=K) l'
   refine ⟨_,rfl,l,_,rfl,.inl l',rfl,_,rfl,?_⟩
   refine bx (fun c=>by rw [lw] at c;simp at c) (fun _=>?_)
   refine ⟨_,rfl,l,_,rfl,.inl l',rfl,_,rfl,?_⟩
   refine bx (fun c=>by rw [lw] at c;simp at c) (fun _=>?_)
   exact ⟨_,_,_,pO,iM,rfl,s',R',W',U5⟩
  ·rw [hw] at lw h4
   obtain ⟨w0,rfl⟩:∃w0,ws=[w0]:=by
    match ws,lw with
    | [w0],_=>exact ⟨w0,rfl⟩
   have hw0:fe K H2 w0 (wx,wy):=by
    cases h4 with
    | cons h _=>exact h
   obtain ⟨wa,y2,y3,rfl,zR,yB,U6⟩:=hw0
   refine bx (fun c=>by simp at c) (fun _=>?_)
   refine ⟨_,rfl,l,_,rfl,.inl l2,rfl,_,rfl,?_⟩
   refine bx (fun _=>?_) (fun c=>absurd rfl c)
   refine ⟨_,rfl,a,C,dx,_,_,_,rfl,R2.obj,rfl,NH,_,rfl,_,rfl,sa,_,_,_,rfl,rfl,tu,g9,_,rfl,sa,_,_,_,rfl,rfl,tu,ip,?_⟩
   refine ⟨_,rfl,l,_,_,_,rfl,rfl,l2,rfl,wa,_,_,_,rfl,rfl,zR,g9,_,rfl,l,_,_,_,rfl,rfl,l2,rfl,wa,_,_,_,rfl,rfl,zR,ip,?_⟩
   intro dB d1 LF Qb ne1
   have s4:au H2 (upd (upd H2 d1 (.own dB)) dB (.ins CR d1 [])):=fun b o e=>by rw [ao (aq e LF),ao (aq e Qb)];exact e
   have e4:(upd (upd H2 d1 (.own dB)) dB (.ins CR d1 [])) dB =some (.ins CR d1 []):=ak
   generalize upd (upd H2 d1 (.own dB)) dB (.ins CR d1 [])=H4 at s4 e4 ⊢
   refine ⟨dB,d1,y2,y3,wx,wy,rfl,e4,yB.same s4,U6.same s4,wn,fun p5 n5=>⟨rfl,?_⟩⟩
   have yx:p5≠dB :=fun z=>by rw [z,e4] at n5;cases n5
   have s5:au H2 (upd (upd H4 p5 (.tup [y2,y3])) dB (.ins CR d1 [("way",.ref p5)])):=fun b o e=>by
    have z:b≠dB :=fun z=>by rw [z,LF] at e;cases e
    rw [ao z]
    exact aK n5 _ _ _ (s4 _ _ e)
   have e5:(upd (upd H4 p5 (.tup [y2,y3])) dB (.ins CR d1 [("way",.ref p5)])) dB =some (.ins CR d1 [("way",.ref p5)]):=ak
   have t5:(upd (upd H4 p5 (.tup [y2,y3])) dB (.ins CR d1 [("way",.ref p5)])) p5=some (.tup [y2,y3]):=by rw [ao yx,ak]
   generalize upd (upd H4 p5 (.tup [y2,y3])) dB (.ins CR d1 [("way",.ref p5)])=H5 at s5 e5 t5 ⊢
   have Qc:fe K H5 (.ref p5) (wx,wy):=jU t5 (yB.same s5) (U6.same s5)
   dsimp only [dQ]
   refine fin (.ref dB) H5 _ _ s5 (.inr ⟨dB,CR,d1,_,zaj,gL K CR,rfl,e5,za _,wR,fun H6 e6 t6 Q' an=>⟨dB,d1,p5,(wx,wy),rfl,e6,Qc.aU t6,by rw [hw] at an;exact an⟩⟩) fun H' pO iM s' l' R' W' U5 =>?_
   refine ⟨_,rfl,l,_,rfl,.inl (a8.of (K:=K) l'),rfl,_,rfl,?_⟩
   refine bx (fun c=>by simp at c) (fun _=>?_)
   exact ⟨_,_,_,pO,iM,rfl,s',R',W',U5⟩
  ·rw [hw] at lw
   refine bx (fun c=>by rw [lw] at c;simp at c) (fun _=>?_)
   refine ⟨_,rfl,l,_,rfl,.inl l2,rfl,_,rfl,?_⟩
   refine bx (fun c=>by rw [lw] at c;simp at c) (fun _=>?_)
   refine ⟨_,rfl,l,_,rfl,.inl l2,rfl,_,rfl,?_⟩
   refine bx (fun _=>?_) (fun c=>by rw [lw] at c;simp at c)
   refine ⟨_,rfl,a,C,dx,_,_,_,rfl,R2.obj,rfl,NH,_,rfl,_,rfl,sa,_,_,_,rfl,rfl,tu,g9,_,rfl,sa,_,_,_,rfl,rfl,tu,ip,?_⟩
   intro dB d1 LF Qb ne1
   have s4:au H2 (upd (upd H2 d1 (.own dB)) dB (.ins CF d1 [])):=fun b o e=>by rw [ao (aq e LF),ao (aq e Qb)];exact e
   have e4:(upd (upd H2 d1 (.own dB)) dB (.ins CF d1 [])) dB =some (.ins CF d1 []):=ak
   generalize upd (upd H2 d1 (.own dB)) dB (.ins CF d1 [])=H4 at s4 e4 ⊢
   dsimp only [dQ]
   refine fin (.ref dB) H4 _ _ s4 (.inr ⟨dB,CF,d1,_,zaj,gM K,rfl,e4,rfl,wF,fun H6 _ _ Q' an=>⟨dB,rfl,by rw [hw] at an;exact an⟩⟩) fun H' pO iM s' l' R' W' U5 =>?_
   exact ⟨_,_,_,pO,iM,rfl,s',R',W',U5⟩
 ·rintro σ H2 ⟨o4,o5,o6,kP,kW,rfl,s2,R2,W2,nw⟩
  rw [lu,abf] at R2 W2
  have lv:ck.length=bars.length:=Paired.length pb
  refine ⟨_,rfl,bA,rfl,⟨_,a8.of (s2 _ _ hb)⟩,cv (K:=K) (a:=bA) (xs:=ck) (fun i σ H' =>∃(o3 o7 o8:ω) (kB:γ),σ=[some (.ref pA),some (.ref bA),some (.ref a),o3,o5,o6,o7,o8]/\au H H' /\dZ K H' C a dx pP pW pB (pins.map fun p=>(p.nm,oC p.sp)) ((bars.take i).map fun b=>(b.nm,b.one.nm,b.other.nm)) kP kW kB/\pM K H' (pins.map fun p=>(p.nm,p.ws)) kW) ⟨_,none,none,[],rfl,s2,R2,W2⟩ (fun i σ H' _ h=>by
    obtain ⟨_,_,_,_,_,s,_⟩:=h
    exact a8.of (s _ _ hb)) ?_ ?_⟩
  ·rintro i u σ H3 hu ⟨o3,o7,o8,kB,rfl,s3,R3,W3⟩
   obtain ⟨b,YT,YU⟩:=av pb hu
   have mb:b∈bars:=be YT
   obtain ⟨ta,i1,j1,rfl,h1,g1,g2⟩:=YU.same s3
   obtain ⟨m1,m2,m3⟩:=gb.ends b mb
   have tk:=take_snoc YT
   have il:i < bars.length:=(ir.mp YT).1
   have U7 :∀(k:Nat) (p:aA),pins[k]? =some p->∃(c la:Addr) (sv:V),gY us (k:Int)=some (.ref c)/\bU K H3 c [.str p.nm,sv,.ref la]:=fun k p ek=>by
    obtain ⟨u',NI,hu'⟩:=av (bG pp) ek
    obtain ⟨c,la,sv,ws,rfl,q1,_⟩:=jg.same hu' s3
    exact ⟨c,la,sv,bV NI,q1⟩
   obtain ⟨c1,la1,sv1,ea1,q1⟩:=U7 _ _ g1
   obtain ⟨c2,la2,sv2,ea2,q2⟩:=U7 _ _ g2
   refine ⟨ta,_,rfl,h1,rfl,_,_,rfl,_,_,rfl,_,_,rfl,rfl,?_⟩
   have lp3:=a8.of (K:=K) (s3 _ _ hp)
   refine ⟨_,rfl,a,C,dx,_,_,_,rfl,R3.obj,rfl,Rq,_,rfl,_,rfl,_,rfl,pA,_,_,_,rfl,rfl,lp3,ea1,c1,_,_,_,rfl,rfl,q1,rfl,_,rfl,_,rfl,pA,_,_,_,rfl,rfl,lp3,ea2,c2,_,_,_,rfl,rfl,q2,rfl,?_⟩
   refine ⟨a,dx,pP,pW,pB,_,_,kP,kW,kB,b.nm,b.one.nm,b.other.nm,rfl,R3,fun z=>?_,?_,?_,m3,?_,fun H' Nr k' R' =>?_⟩
   ·rw [aaE] at z
    obtain ⟨b',gi,e'⟩:=aad.mp z
    exact jD (nm:=aT.nm) gb.nb YT gi e'
   ·rw [aaE]
    exact aad.mpr ⟨_,m1,rfl⟩
   ·rw [aaE]
    exact aad.mpr ⟨_,m2,rfl⟩
   ·rw [aab,aa2]
    omega
   ·refine ⟨_,_,_,Nr,rfl,fun c o z=>k' c o (aq z nB) (s3 _ _ z),?_,?_⟩
    ·rw [tk,aaH]
     exact R'
    ·refine Paired.bJ W3 fun p' kv z=>⟨z.1,?_⟩
     obtain ⟨l',jI,z1,z2,z3⟩:=z.2
     refine ⟨l',jI,z1,k' _ _ (fun z=>by rw [z,R3.br] at z2;cases z2) z2,z3.aU fun c xs r=>?_⟩
     rcases r with r | ⟨o',r⟩
     ·exact .inl (k' _ _ (fun e=>by rw [e,R3.br] at r;cases r) r)
     ·exact .inr ⟨o',k' _ _ (fun e=>by rw [e,R3.br] at r;cases r) r⟩
  ·rintro σ H3 ⟨o3,o7,o8,kB,rfl,s3,R3,W3⟩
   rw [lv,abf] at R3
   exact ⟨_,rfl,q a dx pP pW pB kP kW kB H3 s3 R3 W3 nw nP nW nB⟩
def ax (k:Int)(p:Rat×Rat):Rat:=if k=0 then p.1 else p.2
theorem IP {K:Frag}{H:Hp}{v:V}{p:Rat×Rat}{k:Int}(hk:k=0\/k=1)(h:fe K H v p):∃(a:Addr) (xs:ζ) (u:V),v=.ref a/\bU K H a xs/\gY xs k=some u/\fW K H u (ax k p):=by
 obtain ⟨a,u1,u2,rfl,hq,h1,h2⟩:=h
 rcases hk with rfl | rfl
 ·exact ⟨a,_,u1,rfl,hq,rfl,h1⟩
 ·exact ⟨a,_,u2,rfl,hq,rfl,h2⟩
theorem IQ {n:Nat}{p:Rat×Rat}{k:Int}(h:Sz n p.1/\Sz n p.2):Sz n (ax k p):=by
 unfold ax
 split
 ·exact h.1
 ·exact h.2
theorem IS {K:Frag}{H:Hp}{us:ζ}{pins:ν}{k:Nat}{p:aA}(pp:Paired (jg K H) us pins)(e:pins[k]? =some p):∃(c la:Addr) (sv:V),gY us (k:Int)=some (.ref c)/\bU K H c [.str p.nm,sv,.ref la]/\fe K H sv p.sp:=by
 obtain ⟨u',NI,hu'⟩:=av (bG pp) e
 obtain ⟨c,la,sv,ws,rfl,q1,q2,_⟩:jg K H u' p:=hu'
 exact ⟨c,la,sv,bV NI,q1,q2⟩
inductive xG (K:Frag)(vs:ζ)(H:Hp)(Q:VK)(E_:XK):Prop where
 | mk (pA:Addr) (us:ζ) (pins:ν) (u:V) (b:aT) (k:Int) (_:vs=[.ref pA,u,.int k]) (_:H pA=some (.lst us)) (_:Paired (jg K H) us pins) (_:fG pins) (_:fF K H pins u b) (_:(k=0\/k=1)) (_:∀(v:V) (H' :Hp),au H H' ->kQ K H' v 89 (ax k b.other.sp - ax k b.one.sp)->Q v H'):xG K vs H Q E_
theorem U8:aF zan zan (ag BM):=sq
theorem U9 (D:Def K mg "_law_arm" BM zan)(tq:Fn P w K mg base (bg P w) 1 "_law_sum" zad (dz K f_))(Qd:Fn P w K mg base (bg P w) 1 "_law_turned" zav (gS K)):
  Fn P w K mg base (bg P w) 2 "_law_arm" zan (xG K):=by
 refine D.ok U8 (fun vs H Q E h=>?_) (fun f bM A outer s H vs Q E hr h=>?_)
 ·obtain ⟨pA,us,pins,u,b,k,rfl,_⟩:=h
  rfl
 obtain ⟨pA,us,pins,u,b,k,rfl,hp,pp,gp,⟨ta,i,j,rfl,hb,e1,e2⟩,hk,q⟩:=h
 refine ⟨_,(aj (aG (aD tq hr.mo pX (ar (bw kb (aJ (bw ba (pv 0) (aJ (pv 1)) (fun _ _=>rfl))) (pv 2) (fun _ _=>rfl)) (ar (aD Qd hr.mo pX (ar (bw kb (aJ (bw ba (pv 0) (aJ (pv 1)) (fun _ _=>rfl))) (pv 2) (fun _ _=>rfl)) aa)) aa))))),?_⟩
 obtain ⟨c1,l1,sv1,ea1,q1,r1⟩:=IS pp e1
 obtain ⟨c2,l2,sv2,ea2,q2,r2⟩:=IS pp e2
 obtain ⟨a1,xs1,u1,rfl,t1,v1,n1⟩:=IP hk r1
 obtain ⟨a2,xs2,u2,rfl,t2,v2,n2⟩:=IP hk r2
 have z1:=IQ (k:=k) (gp.sz _ (be e1))
 have z2:=IQ (k:=k) (gp.sz _ (be e2))
 have lp:=a8.of (K:=K) hp
 refine ⟨_,rfl,_,rfl,ta,_,_,_,rfl,rfl,hb,rfl,pA,_,_,_,rfl,rfl,lp,ea2,c2,_,_,_,rfl,rfl,q2,rfl,_,rfl,a2,_,_,_,rfl,rfl,t2,v2,_,rfl,_,rfl,ta,_,_,_,rfl,rfl,hb,rfl,pA,_,_,_,rfl,rfl,lp,ea1,c1,_,_,_,rfl,rfl,q1,rfl,_,rfl,a1,_,_,_,rfl,rfl,t1,v1,?_⟩
 dsimp only [dQ]
 show gS K [_] _ _ E0
 refine vA (kR n1 (y4 z1 (aaf _))) fun p3 H3 s3 n3=>?_
 show dz K f_ [_,_] _ _ E0
 refine sY ((kR n2 (y4 z2 (aaf _))).same s3) n3 (by decide) fun p4 H4 s4 n4=>?_
 refine q (.ref p4) H4 (s3.trans s4) ?_
 rw [Rat.sub_eq_add_neg]
 exact n4
structure Found (K:Frag)(H:Hp)(fA:Addr)(ls:τ)(F:Nat->Rat×Rat)(B:Nat):Prop where
 hf:H fA=some (.lst (ls.map V.ref))
 nd:ls.Nodup
 nf:fA∉ls
 row:∀(i:Nat) (l:Addr),ls[i]? =some l->∃v1 v2,H l=some (.lst [v1,v2])/\kQ K H v1 B (F i).1/\kQ K H v2 B (F i).2
def KL (ls:τ)(H H' :Hp):Prop:=∀b o,b∉ls->H b=some o->H' b=some o
theorem Found.same {H H' :Hp}{fA:Addr}{ls:τ}{F:Nat->Rat×Rat}{B:Nat}(h:Found K H fA ls F B)(s:au H H'):Found K H' fA ls F B:=⟨s _ _ h.hf,h.nd,h.nf,fun i l e=>by
 obtain ⟨v1,v2,a,b,c⟩:=h.row i l e
 exact ⟨v1,v2,s _ _ a,b.same s,c.same s⟩⟩
theorem Found.up {H:Hp}{fA:Addr}{ls:τ}{F:Nat->Rat×Rat}{B B' :Nat}(h:Found K H fA ls F B)(l:B<=B'):Found K H fA ls F B' :=⟨h.hf,h.nd,h.nf,fun i x e=>by
 obtain ⟨v1,v2,a,b,c⟩:=h.row i x e
 exact ⟨v1,v2,a,b.up l,c.up l⟩⟩
theorem Found.aU {H H' :Hp}{fA:Addr}{ls:τ}{F:Nat->Rat×Rat}{B:Nat}(h:Found K H fA ls F B)(k:KL ls H H'):aY H H' :=fun b xs r=>by
 have key:∀o,H b=some o->(∀ys,o≠.lst ys)->H' b=some o:=fun o e n=>k b o (fun m=>by
  obtain ⟨i,ei⟩:=aas m
  obtain ⟨v1,v2,a,_⟩:=h.row i b ei
  rw [a] at e
  exact n _ (aay e).symm) e
 rcases r with r | ⟨o',r⟩
 ·exact .inl (key _ r fun ys z=>nomatch z)
 ·exact .inr ⟨o',key _ r fun ys z=>nomatch z⟩
def dP (F:Nat->Rat×Rat)(k:Nat)(a:Int)(d:Rat):Nat->Rat×Rat:=fun i=>if i=k then (if a=0 then ((F i).1+d,(F i).2) else ((F i).1,(F i).2+d)) else F i
theorem tF {F:Nat->Rat×Rat}{k:Nat}{a:Int}{d:Rat}(ha:a=0\/a=1){c:Int}(hc:c=0\/c=1)(i:Nat):ax c (dP F k a d i)=ax c (F i)+if i=k/\c=a then d else 0:=by
 unfold dP ax
 by_cases hi:i=k
 ·subst hi
  rcases ha with rfl | rfl <;> rcases hc with rfl | rfl <;> simp <;> grind
 ·simp [hi]
  grind
inductive xH (K:Frag)(vs:ζ)(H:Hp)(Q:VK)(E_:XK):Prop where
 | mk (fA:Addr) (ls:τ) (F:Nat->Rat×Rat) (B:Nat) (k:Nat) (a:Int) (v:V) (m:Nat) (d:Rat) (_:vs=[.ref fA,.int (k:Int),.int a,v]) (_:Found K H fA ls F B) (_:k < ls.length) (_:(a=0\/a=1)) (_:kQ K H v m d) (_:B+m<=130000000) (_:∀(H' :Hp),KL ls H H' ->Found K H' fA ls (dP F k a d) (B+m+1)->Q .cB H'):xH K vs H Q E_
theorem U_:aF zal zal (ag BN):=sq
theorem Va (D:Def K mg "_law_add" BN zal)(tq:Fn P w K mg base (bg P w) 1 "_law_sum" zad (dz K f_)):
  Fn P w K mg base (bg P w) 2 "_law_add" zal (xH K):=by
 refine D.ok U_ (fun vs H Q E h=>?_) (fun f bM A outer s H vs Q E hr h=>?_)
 ·obtain ⟨fA,ls,F,B,k,a,v,m,d,rfl,_⟩:=h
  rfl
 obtain ⟨fA,ls,F,B,k,a,v,m,d,rfl,hF,hk,ha,nv,le,q⟩:=h
 refine ⟨_,(aj (nh (aD tq hr.mo pX (ar (bw ba (bw ba (pv 0) (pv 1) (fun _ _=>rfl)) (pv 2) (fun _ _=>rfl)) (ar (pv 3) aa))) (rM (bw ba (pv 0) (pv 1) (fun _ _=>rfl)) (pv 2) set_list))),?_⟩
 obtain ⟨l,el⟩:∃l,ls[k]? =some l:=⟨_,gE hk⟩
 obtain ⟨v1,v2,hl,n1,n2⟩:=hF.row k l el
 have ek:gY (ls.map V.ref) (k:Int)=some (.ref l):=bV (by rw [Wp,el];rfl)
 have lm:l∈ls:=be el
 have lf:l≠fA:=fun z=>hF.nf (z▸lm)
 obtain ⟨u,ea,nu⟩:∃u,gY [v1,v2] a=some u/\kQ K H u B (ax a (F k)):=by
  rcases ha with rfl | rfl
  ·exact ⟨v1,rfl,n1⟩
  ·exact ⟨v2,rfl,n2⟩
 refine ⟨_,rfl,_,rfl,fA,_,_,_,rfl,rfl,a8.of hF.hf,ek,_,rfl,l,_,_,_,rfl,rfl,a8.of hl,ea,_,rfl,?_⟩
 dsimp only [dQ]
 show dz K f_ [_,_] _ _ E0
 refine sY nu nv le fun p3 H3 s3 n3=>?_
 obtain ⟨j,ej,hj⟩:∃j,ET [v1,v2].length a=some j/\((a=0/\j=0)\/(a=1/\j=1)):=by
  rcases ha with rfl | rfl
  ·exact ⟨0,rfl,.inl ⟨rfl,rfl⟩⟩
  ·exact ⟨1,rfl,.inr ⟨rfl,rfl⟩⟩
 refine ⟨_,rfl,_,rfl,fA,_,_,_,rfl,rfl,a8.of (s3 _ _ hF.hf),ek,_,rfl,l,_,_,j,rfl,rfl,s3 _ _ hl,ej,?_⟩
 have F3:=hF.same s3
 have kl:KL ls H (upd H3 l (.lst ([v1,v2].set j (.ref p3)))):=fun b o nb e=>by
  rw [ao (fun z=>nb (by rw [z];exact lm))]
  exact s3 _ _ e
 have k3:KL ls H3 (upd H3 l (.lst ([v1,v2].set j (.ref p3)))):=fun b o nb e=>by
  rw [ao (fun z=>nb (by rw [z];exact lm))]
  exact e
 have st:=F3.aU k3
 refine q _ kl ⟨?_,hF.nd,hF.nf,fun i l' e=>?_⟩
 ·rw [ao (aaW lf)]
  exact F3.hf
 ·by_cases c:i=k
  ·subst c
   rw [el] at e
   cases e
   refine ⟨([v1,v2].set j (.ref p3))[0]?.getD .cB,([v1,v2].set j (.ref p3))[1]?.getD .cB,?_,?_,?_⟩
   ·rw [ak]
    rcases hj with ⟨_,rfl⟩ | ⟨_,rfl⟩ <;> rfl
   ·unfold dP
    rw [if_pos rfl]
    rcases hj with ⟨rfl,rfl⟩ | ⟨rfl,rfl⟩
    ·exact n3.aU st
    ·exact ((n1.same s3).aU st).up (by omega)
   ·unfold dP
    rw [if_pos rfl]
    rcases hj with ⟨rfl,rfl⟩ | ⟨rfl,rfl⟩
    ·exact ((n2.same s3).aU st).up (by omega)
    ·exact n3.aU st
  ·obtain ⟨w1,w2,g1,g2,g3⟩:=F3.row i l' e
   have nl:l' ≠l:=fun z=>c (cO hF.nd e (z▸el))
   refine ⟨w1,w2,?_,?_,?_⟩
   ·rw [ao nl]
    exact g1
   ·unfold dP
    rw [if_neg c]
    exact (g2.aU st).up (by omega)
   ·unfold dP
    rw [if_neg c]
    exact (g3.aU st).up (by omega)
structure LG (K:Frag)(H:Hp)(pA bA:Addr)(us vs:ζ)(pins:ν)(bars:π):Prop where
 hp:H pA=some (.lst us)
 pp:Paired (jg K H) us pins
 gp:fG pins
 hb:H bA=some (.lst vs)
 pb:Paired (fF K H pins) vs bars
 en:∀b∈bars,b.one.nm≠b.other.nm
 lp:pins.length<=9
 lb:bars.length<=40
theorem LG.same {H H' :Hp}{pA bA:Addr}{us vs:ζ}{pins:ν}{bars:π}(h:LG K H pA bA us vs pins bars)(s:au H H'):LG K H' pA bA us vs pins bars:=⟨s _ _ h.hp,Paired.bJ h.pp fun _ _ z=>z.same s,h.gp,s _ _ h.hb,Paired.bJ h.pb fun _ _ z=>z.same s,h.en,h.lp,h.lb⟩
structure LFo (K:Frag)(H:Hp)(tA uA:Addr)(ts xs:ζ)(pins:ν)(bars:π)(T:Μ)(U:χ)(N:Nat):Prop where
 ht:H tA=some (.lst ts)
 pt:Paired (fun v (b:aT)=>kQ K H v N (T b.nm)) ts bars
 hu:H uA=some (.lst xs)
 pu:Paired (fun v (p:aA)=>∃la ys,v=.ref la/\H la=some (.lst ys)/\Paired (fun v r=>kQ K H v N r) ys (U p.nm)) xs pins
 lU:∀p∈pins,(U p.nm).length=p.ws.length
 hN:N<=400000
theorem KL.same {H H6 H7:Hp}{ls:τ}(hn:∀l∈ls,H l=none)(s:au H H6)(k:KL ls H6 H7):au H H7:=fun b o e=>k b o (fun m=>by rw [hn b m] at e;cases e) (s b o e)
def jX (T:Μ)(bs:π)(a:Int)(p:aA):Rat:=(bs.map fun b=>T b.nm*ax a (mv (fZ b) p.nm)).sum
theorem xI {T:Μ}{bs:π}{b:aT}{a:Int}{p:aA}:jX T (bs++[b]) a p=jX T bs a p+T b.nm*ax a (mv (fZ b) p.nm):=by
 unfold jX
 rw [aaH,List.sum_append,aal,ab_,aib,List.sum_nil]
 grind
theorem IT {pins:ν}(nd:(pins.map (·.nm)).Nodup){i j:Nat}{p q:aA}(hi:pins[i]? =some p)(hj:pins[j]? =some q)(e:p.nm=q.nm):i=j:=cO nd (x:=q.nm) (by rw [Wp,hi, <- e];rfl) (by rw [Wp,hj];rfl)
theorem IU {pins:ν}(nd:(pins.map (·.nm)).Nodup){b:aT}(hb:b.one.nm≠b.other.nm){i i1 i2:Nat}{p:aA}(hi:pins[i]? =some p)(h1:pins[i1]? =some b.one)(h2:pins[i2]? =some b.other)(t:Rat)(k:Int):
  (if i=i1 then t*(ax k b.other.sp - ax k b.one.sp) else 0)+(if i=i2 then -(t*(ax k b.other.sp - ax k b.one.sp)) else 0)=t*ax k (mv (fZ b) p.nm):=by
 have YV:i1≠i2:=fun z=>by rw [z,h2] at h1;exact hb (by rw [aay h1])
 unfold mv fZ
 by_cases c1:i=i1
 ·subst c1
  rw [h1] at hi
  cases hi
  rw [if_pos rfl,if_neg YV,if_pos rfl]
  show _=t*ax k (sM b.one b.other)
  unfold ax sM
  split <;> grind
 ·rw [if_neg c1,if_neg (fun z=>c1 (IT nd hi h1 z))]
  by_cases c2:i=i2
  ·subst c2
   rw [h2] at hi
   cases hi
   rw [if_pos rfl,if_pos rfl]
   show _=t*ax k (sM b.other b.one)
   unfold ax sM
   split <;> grind
  ·rw [if_neg c2,if_neg (fun z=>c2 (IT nd hi h2 z))]
   show (0:Rat)+0=t*ax k (0,0)
   unfold ax
   split <;> grind
inductive oV (K:Frag)(vs:ζ)(H:Hp)(Q:VK)(E_:XK):Prop where
 | mk (pA bA tA uA:Addr) (us ws ts xs:ζ) (pins:ν) (bars:π) (T:Μ) (U:χ) (N:Nat) (_:vs=[.ref pA,.ref bA,.ref tA,.ref uA]) (_:LG K H pA bA us ws pins bars) (_:LFo K H tA uA ts xs pins bars T U N) (_:∀(fA:Addr) (ls:τ) (F:Nat->Rat×Rat) (H' :Hp),au H H' ->ls.length=pins.length->Found K H' fA ls F (1+196*(N+91))->(∀(i:Nat) (p:aA),pins[i]? =some p->(F i).1=fE bars T U p (·.1)/\(F i).2=fE bars T U p (·.2))->Q (.ref fA) H'):oV K vs H Q E_
theorem l_:aF ["_law_pins_here","_law_bars_here","_law_pulls","_law_pushes","_law_found","_law_k","_law_axis","_law_draw","_law_j"] zaa (ag BO):=sq
theorem Vb (D:Def K mg "_law_forces" BO zaa)(a_:mg "len"=none)(bB:mg "range"=none)(Vc:Fn P w K mg base (bg P w) 1 "_law_times" zad (dz K qg))(Qd:Fn P w K mg base (bg P w) 1 "_law_turned" zav (gS K))(abd:Fn P w K mg base (bg P w) 2 "_law_arm" zan (xG K))(Qe:Fn P w K mg base (bg P w) 2 "_law_add" zal (xH K)):
  Fn P w K mg base (bg P w) 3 "_law_forces" zaa (oV K):=by
 refine D.ok l_ (fun vs H Q E h=>?_) (fun f bM A outer s H vs Q E hr h=>?_)
 ·obtain ⟨pA,bA,tA,uA,us,ws,ts,xs,pins,bars,T,U,N,rfl,_⟩:=h
  rfl
 obtain ⟨pA,bA,tA,uA,us,ws,ts,xs,pins,bars,T,U,N,rfl,fr,fo,q⟩:=h
 have L2:2<=sizeLine:=by decide
 have hN:=fo.hN
 have lp:=fr.lp
 have lb:=fr.lb
 have lu:us.length=pins.length:=Paired.length fr.pp
 have lw:ws.length=bars.length:=Paired.length fr.pb
 refine ⟨_,(ae (mS (i:=4) l_.nd rfl (aan rfl) (tn:=zaG) (fr:=[]) (caps:=[]) rfl ⟨rfl,by decide+kernel,rfl,by decide+kernel,by decide+kernel,rfl,trivial,trivial⟩ (bD (pv 0)) (fun _ _ _ _=>(aC (i:=0) (show (zaG:List Str).Nodup from by decide+kernel) rfl (aan rfl))) (fun _ _ _ _=>df) (fun _ _ _ _=>(c_ (ar (aV (ar ah (ar ah aa))) (ar (aV (ar ah (ar ah aa))) aa)))))
  (ae (bE PassesOwn.never rfl (bS rfl bB (ar (aI aE rfl a_ bT (ar (pv 1) aa)) aa)) (aC (i:=5) l_.nd rfl (aan rfl)) (aj (bE PassesOwn.never rfl (bS rfl bB (ar ah aa)) (aC (i:=6) l_.nd rfl (aan rfl)) (ae (aH (i:=7) l_.nd rfl (aan rfl) (aD Vc hr.mo pX (ar (bw ba (pv 2) (pv 5) (fun _ _=>rfl)) (ar (aD abd hr.mo pX (ar (pv 0) (ar (bw ba (pv 1) (pv 5) (fun _ _=>rfl)) (ar (pv 6) aa)))) aa))))
    (ae (bf (aD Qe hr.mo pX (ar (pv 4) (ar (aJ (bw ba (pv 1) (pv 5) (fun _ _=>rfl))) (ar (pv 6) (ar (pv 7) aa))))))
    (aj (bf (aD Qe hr.mo pX (ar (pv 4) (ar (aJ (bw ba (pv 1) (pv 5) (fun _ _=>rfl))) (ar (pv 6) (ar (aD Qd hr.mo pX (ar (pv 7) aa)) aa))))))))))))
  (ae (bE PassesOwn.never rfl (bS rfl bB (ar (aI aE rfl a_ bT (ar (pv 0) aa)) aa)) (aC (i:=5) l_.nd rfl (aan rfl)) (aj (bE PassesOwn.never rfl (bS rfl bB (ar (aI aE rfl a_ bT (ar (aJ (bw ba (pv 0) (pv 5) (fun _ _=>rfl))) aa)) aa)) (aC (i:=8) l_.nd rfl (aan rfl)) (aj (bE PassesOwn.never rfl (bS rfl bB (ar ah aa)) (aC (i:=6) l_.nd rfl (aan rfl)) (aj (bf (aD Qe hr.mo pX (ar (pv 4) (ar (pv 5) (ar (pv 6) (ar (aD Vc hr.mo pX (ar (bw ba (bw ba (pv 3) (pv 5) (fun _ _=>rfl)) (pv 8) (fun _ _=>rfl)) (ar (bw kb (bw ba (aJ (bw ba (pv 0) (pv 5) (fun _ _=>rfl))) (pv 8) (fun _ _=>rfl)) (pv 6) (fun _ _=>rfl)) aa))) aa))))))))))))
  (aj (aG (pv 4)))))),?_⟩
 refine ⟨_,rfl,pA,rfl,⟨_,a8.of fr.hp⟩,fun fA n1=>?_⟩
 refine xf (cap:=[]) (K:=K) (a:=pA) (xs:=us) (fun ys H' =>∃ls:List Addr,ys=ls.map V.ref/\ls.Nodup/\fA∉ls/\∀l∈ls,H l=none/\∃p q:Addr,H' l=some (.lst [.ref p,.ref q])/\H' p=some (.tup [.int 0,.int 1])/\H' q=some (.tup [.int 0,.int 1])) n1 (by rw [lu];exact aaq (show pins.length<=100 by omega) (by decide)) (fun H2 s2=>a8.of (s2 _ _ fr.hp)) ⟨[],rfl,apI,by simp,fun l h=>by cases h⟩ ?_ ?_
 ·intro i x ys H2 R hx ly hJ s2 hD k
  obtain ⟨ls,rfl,nd,nf,hl⟩:=hJ
  refine ⟨L2,?_⟩
  intro p3 n3;generalize eX:upd _ p3 _=H3;have ⟨s3,e3⟩:=nw n3 eX;clear eX
  refine ⟨L2,?_⟩
  intro p4 n4;generalize eX:upd _ p4 _=H4;have ⟨s4,e4⟩:=nw n4 eX;clear eX
  refine ⟨L2,?_⟩
  intro l5 n5;generalize eX:upd _ l5 _=H5;have ⟨s5,e5⟩:=nw n5 eX;clear eX
  have we:=s3.trans (s4.trans s5)
  have D5:=we _ _ hD
  have D4:=s4 _ _ (s3 _ _ hD)
  refine k _ _ we ⟨ls++[l5],by simp,?_,?_,fun l hm=>?_⟩
  ·rw [aby]
   refine ⟨nd,by simp,fun a ha b hb z=>?_⟩
   have gi :b=l5:=by simpa using hb
   obtain ⟨_,p,q,h1,_⟩:=hl a ha
   rw [z,gi] at h1
   rw [s4 _ _ (s3 _ _ h1)] at n5
   cases n5
  ·intro z
   rcases aaA.mp z with z | z
   ·exact nf z
   ·rw [<- aax.mp z,D4] at n5
    cases n5
  ·rcases aaA.mp hm with z | z
   ·obtain ⟨h0,p,q,h1,h2,h3⟩:=hl l z
    refine ⟨h0,p,q,?_,?_,?_⟩
    ·rw [ao (fun e:l=fA=>nf (by rw [<- e];exact z))]
     exact we _ _ h1
    ·rw [ao (fun e=>by rw [e,hD] at h2;cases h2)]
     exact we _ _ h2
    ·rw [ao (fun e=>by rw [e,hD] at h3;cases h3)]
     exact we _ _ h3
   ·have z:=aax.mp z
    subst z
    refine ⟨(s2.trans (s3.trans s4)).free n5,p3,p4,?_,?_,?_⟩
    ·rw [ao (fun e=>by rw [e,D4] at n5;cases n5)]
     exact e5
    ·rw [ao (fun e=>by rw [e,hD] at n3;cases n3)]
     exact s5 _ _ (s4 _ _ e3)
    ·rw [ao (fun e=>by rw [e,s3 _ _ hD] at n4;cases n4)]
     exact s5 _ _ e4
 intro ys H2 ly hJ s2 hD
 obtain ⟨ls,rfl,nd,nf,hl⟩:=hJ
 have hn:∀l∈ls,H l=none:=fun l m=>(hl l m).1
 have ll:ls.length=pins.length:=by rw [<- lu, <- ly,aab]
 have z0:∀(p:Addr) (H' :Hp),H' p=some (.tup [.int 0,.int 1])->kQ K H' (.ref p) 1 0:=fun p H' e=>⟨(0,1),⟨p,rfl,bU.of e⟩,by decide,by decide+kernel,by decide,by decide⟩
 have F0:Found K H2 fA ls (fun _=>(0,0)) (1+0*(4*(N+91))):=⟨hD,nd,nf,fun i l e=>by
  obtain ⟨_,p,q,h1,h2,h3⟩:=hl l (be e)
  rw [ahZ]
  exact ⟨_,_,h1,z0 p _ h2,z0 q _ h3⟩⟩
 have en:((ws.length:Nat):Int).toNat=ws.length:=by omega
 refine ⟨_,rfl,bA,_,rfl,.inl (a8.of (s2 _ _ fr.hb)),((ws.length:Nat):Int),rfl,by omega,by omega,bW (lo:=0) (n:=((ws.length:Nat):Int).toNat) (fun t σ H' =>∃(F:Nat->Rat×Rat) (o5 o6 o7:ω),σ=[some (.ref pA),some (.ref bA),some (.ref tA),some (.ref uA),some (.ref fA),o5,o6,o7,none]/\au H H' /\Found K H' fA ls F (1+t*(4*(N+91)))/\∀(i:Nat) (p:aA),pins[i]? =some p->∀a:Int,(a=0\/a=1)->ax a (F i)=jX T (bars.take t) a p) ⟨_,none,none,none,rfl,s2,F0,fun i p _ a _=>?_⟩ ?_ ?_⟩
 ·show ax a (0,0)=0
  unfold ax
  split <;> rfl
 ·rintro t σ H3 ht ⟨F,o5,o6,o7,rfl,s3,F3,hF⟩
  have ek:(0:Int)+(t:Int)=(t:Int):=aa' _
  rw [ek]
  have htw:t < ws.length:=by omega
  obtain ⟨b,eb,YU⟩:=av fr.pb (gE htw)
  have mb:b∈bars:=be eb
  obtain ⟨tv,etv,htv⟩:=av (bG fo.pt) eb
  have YW:gY ws (t:Int)=some ws[t]:=bV (gE htw)
  have att:gY ts (t:Int)=some tv:=bV etv
  have bt:t*(4*(N+91))<=39*(4*(N+91)):=aa4 _ (by omega)
  generalize hB:1+t*(4*(N+91))=B at F3
  refine ⟨(2:Int),rfl,by decide,by decide,bW (lo:=0) (n:=2) (fun k σ H' =>∃(F:Nat->Rat×Rat) (o6 o7:ω),σ=[some (.ref pA),some (.ref bA),some (.ref tA),some (.ref uA),some (.ref fA),some (.int (t:Int)),o6,o7,none]/\au H H' /\Found K H' fA ls F (B+k*(2*(N+91)))/\∀(i:Nat) (p:aA),pins[i]? =some p->∀a:Int,(a=0\/a=1)->ax a (F i)=jX T (bars.take t) a p+if a < (k:Int) then T b.nm*ax a (mv (fZ b) p.nm) else 0) ⟨F,o6,o7,rfl,s3,by rw [ahZ];exact F3,fun i p e a ha=>?_⟩ ?_ ?_⟩
  ·rw [hF i p e a ha,if_neg (by rcases ha with rfl | rfl <;> decide)]
   grind
  ·rintro k σ H4 hk ⟨F,o6,o7,rfl,s4,F4,hF⟩
   have ek:(0:Int)+(k:Int)=(k:Int):=aa' _
   rw [ek]
   have Nm:(k:Int)=0\/(k:Int)=1:=by omega
   have Rt:=fr.same s4
   have bk:k*(2*(N+91))<=1*(2*(N+91)):=aa4 _ (by omega)
   obtain ⟨ta,i1,i2,eta,hbt,e1,e2⟩:=YU.same s4
   have OU:i1 < ls.length:=by rw [ll];exact (ir.mp e1).1
   have SD:i2 < ls.length:=by rw [ll];exact (ir.mp e2).1
   refine ⟨_,rfl,_,rfl,tA,_,_,_,rfl,rfl,a8.of (s4 _ _ fo.ht),att,_,rfl,_,rfl,_,rfl,bA,_,_,_,rfl,rfl,a8.of Rt.hb,YW,_,rfl,pA,us,pins,_,b,(k:Int),rfl,Rt.hp,Rt.pp,fr.gp,YU.same s4,Nm,fun v5 H5 s5 n5=>?_⟩
   dsimp only [dQ]
   show dz K qg [_,_] _ _ E0
   refine y6 ((htv.same s4).same s5) n5 (by omega) fun p6 H6 s6 n6=>?_
   have wd:=s4.trans (s5.trans s6)
   rw [eta] at YW
   have F6:=F4.same (s5.trans s6)
   refine ⟨_,rfl,_,rfl,_,rfl,bA,_,_,_,rfl,rfl,a8.of (wd _ _ fr.hb),YW,ta,_,_,_,rfl,rfl,Ty.au.bN (s5.trans s6) hbt,rfl,_,rfl,_,rfl,fA,ls,F,_,i1,(k:Int),_,_,_,rfl,F6,OU,Nm,n6,by omega,fun H7 k7 F7=>?_⟩
   have s07:=KL.same hn wd k7
   have n7:=n6.aU (F6.aU k7)
   refine ⟨_,rfl,_,rfl,_,rfl,bA,_,_,_,rfl,rfl,a8.of (s07 _ _ fr.hb),YW,ta,_,_,_,rfl,rfl,(F6.aU k7).bN (Ty.au.bN (s5.trans s6) hbt),rfl,_,rfl,_,rfl,?_⟩
   dsimp only [dQ]
   show gS K [_] _ _ E0
   refine vA n7 fun p8 H8 s8 n8=>?_
   have F8:=F7.same s8
   refine ⟨fA,ls,_,_,i2,(k:Int),_,_,_,rfl,F8,SD,Nm,n8,by omega,fun H9 k9 F9=>?_⟩
   have s09:=KL.same hn (s07.trans s8) k9
   refine ⟨_,_,_,rfl,s09,F9.up (by rw [acf];omega),fun i p e a ha=>?_⟩
   rw [tF Nm ha,tF Nm ha,hF i p e a ha]
   have bp:=IU fr.gp.np (fr.en b mb) e e1 e2 (T b.nm) (k:Int)
   by_cases ca:a=(k:Int)
   ·subst ca
    rw [if_neg (c:=(k:Int) < (k:Int)) (by omega),if_pos (c:=(k:Int) < ((k+1:Nat):Int)) (by omega), <- bp]
    simp only [and_true]
    grind
   ·have c1:¬ (i=i1/\a=(k:Int)):=fun z=>ca z.2
    have c2:¬ (i=i2/\a=(k:Int)):=fun z=>ca z.2
    rw [if_neg c1,if_neg c2]
    by_cases cl:a < (k:Int)
    ·rw [if_pos cl,if_pos (c:=a < ((k+1:Nat):Int)) (by omega)]
     grind
    ·rw [if_neg cl,if_neg (c:=a < ((k+1:Nat):Int)) (by omega)]
     grind
  ·rintro σ H4 ⟨F,o6,o7,rfl,s4,F4,hF⟩
   refine ⟨F,_,_,_,rfl,s4,F4.up (by rw [acf, <- hB];omega),fun i p e a ha=>?_⟩
   rw [take_snoc eb,xI,hF i p e a ha,if_pos (by rcases ha with rfl | rfl <;> decide)]
 ·rintro σ H3 ⟨F,o5,o6,o7,rfl,s3,F3,hF⟩
  rw [en,lw] at F3
  rw [en,lw,abf] at hF
  have bl:bars.length*(4*(N+91))<=40*(4*(N+91)):=aa4 _ (by omega)
  generalize hB:1+bars.length*(4*(N+91))=B at F3
  have U2:((us.length:Nat):Int).toNat=us.length:=by omega
  refine ⟨_,rfl,pA,_,rfl,.inl (a8.of (s3 _ _ fr.hp)),((us.length:Nat):Int),rfl,by omega,by omega,bW (lo:=0) (n:=((us.length:Nat):Int).toNat) (fun k σ H' =>∃(F:Nat->Rat×Rat) (o5 o6 o7 o8:ω),σ=[some (.ref pA),some (.ref bA),some (.ref tA),some (.ref uA),some (.ref fA),o5,o6,o7,o8]/\au H H' /\Found K H' fA ls F (B+k*(4*(N+91)))/\∀(i:Nat) (p:aA),pins[i]? =some p->∀a:Int,(a=0\/a=1)->ax a (F i)=jX T bars a p+if i < k then sP (U p.nm) (p.ws.map (ax a)) else 0) ⟨F,o5,o6,o7,none,rfl,s3,by rw [ahZ];exact F3,fun i p e a ha=>?_⟩ ?_ ?_⟩
  ·rw [hF i p e a ha,if_neg (by omega)]
   grind
  ·rintro k σ H4 hk ⟨F,o5,o6,o7,o8,rfl,s4,F4,hF⟩
   have ek:(0:Int)+(k:Int)=(k:Int):=aa' _
   rw [ek]
   have hku:k < us.length:=by omega
   obtain ⟨p,ep,Qa⟩:=av fr.pp (gE hku)
   have mp:p∈pins:=be ep
   obtain ⟨xv,exv,la,ys,exl,Ru,py⟩:=av (bG fo.pu) ep
   subst exl
   have lup:=fo.lU p mp
   have lwp:=(fr.gp.ws p mp).len
   have ly:ys.length=(U p.nm).length:=Paired.length py
   have akx:gY xs (k:Int)=some (.ref la):=bV exv
   have aku:gY us (k:Int)=some us[k]:=bV (gE hku)
   obtain ⟨pa,l,sv,ck,epa,h1,h2,h3,h4⟩:=Qa
   rw [epa] at aku
   have lv:ck.length=p.ws.length:=Paired.length h4
   have kp:k < pins.length:=by omega
   have bk:k*(4*(N+91))<=8*(4*(N+91)):=aa4 _ (by omega)
   generalize hB2:B+k*(4*(N+91))=B2 at F4
   have en3:((ck.length:Nat):Int).toNat=ck.length:=by omega
   refine ⟨_,rfl,_,rfl,pA,_,_,_,rfl,rfl,a8.of (s4 _ _ fr.hp),aku,pa,_,_,_,rfl,rfl,Ty.au.bN s4 h1,rfl,l,_,rfl,.inl (a8.of (s4 _ _ h3)),((ck.length:Nat):Int),rfl,by omega,by omega,bW (lo:=0) (n:=((ck.length:Nat):Int).toNat) (fun j σ H' =>∃(F:Nat->Rat×Rat) (o6 o7 o8:ω),σ=[some (.ref pA),some (.ref bA),some (.ref tA),some (.ref uA),some (.ref fA),some (.int (k:Int)),o6,o7,o8]/\au H H' /\Found K H' fA ls F (B2+j*(2*(N+91)))/\∀(i:Nat) (p:aA),pins[i]? =some p->∀a:Int,(a=0\/a=1)->ax a (F i)=jX T bars a p+if i < k then sP (U p.nm) (p.ws.map (ax a)) else if i=k then sP ((U p.nm).take j) ((p.ws.take j).map (ax a)) else 0) ⟨F,o6,o7,o8,rfl,s4,by rw [ahZ];exact F4,fun i p e a ha=>?_⟩ ?_ ?_⟩
   ·rw [hF i p e a ha,List.take_zero,gR]
    split <;> simp
   ·rintro j σ H5 hj ⟨F,o6,o7,o8,rfl,s5,F5,hF⟩
    have ek:(0:Int)+(j:Int)=(j:Int):=aa' _
    rw [ek]
    have hj1:j < ck.length:=by omega
    have hj2:j < ys.length:=by omega
    obtain ⟨x,ex,hx⟩:=av py (gE hj2)
    obtain ⟨wq,ewq,hwq⟩:=av h4 (gE hj1)
    have zw:=(fr.gp.ws p mp).sz wq (be ewq)
    have axj:gY ys (j:Int)=some ys[j]:=bV (gE hj2)
    have awj:gY ck (j:Int)=some ck[j]:=bV (gE hj1)
    have bj:j*(2*(N+91))<=1*(2*(N+91)):=aa4 _ (by omega)
    generalize hB3:B2+j*(2*(N+91))=B3 at F5
    refine ⟨(2:Int),rfl,by decide,by decide,bW (lo:=0) (n:=2) (fun c σ H' =>∃(F:Nat->Rat×Rat) (o6:ω),σ=[some (.ref pA),some (.ref bA),some (.ref tA),some (.ref uA),some (.ref fA),some (.int (k:Int)),o6,o7,some (.int (j:Int))]/\au H H' /\Found K H' fA ls F (B3+c*(N+91))/\∀(i:Nat) (p:aA),pins[i]? =some p->∀a:Int,(a=0\/a=1)->ax a (F i)=(jX T bars a p+if i < k then sP (U p.nm) (p.ws.map (ax a)) else if i=k then sP ((U p.nm).take j) ((p.ws.take j).map (ax a)) else 0)+if i=k/\a < (c:Int) then x*ax a wq else 0) ⟨F,o6,rfl,s5,by rw [ahZ];exact F5,fun i p e a ha=>?_⟩ ?_ ?_⟩
    ·rw [hF i p e a ha,if_neg (c:=i=k/\a < ((0:Nat):Int)) (fun z=>by rcases ha with rfl | rfl <;> exact absurd z.2 (by decide))]
     grind
    ·rintro c σ H6 hc ⟨F,o6,rfl,s6,F6,hF⟩
     have ek:(0:Int)+(c:Int)=(c:Int):=aa' _
     rw [ek]
     have Oy:(c:Int)=0\/(c:Int)=1:=by omega
     have bc:c*(N+91)<=1*(N+91):=aa4 _ (by omega)
     obtain ⟨wa,zs,u,ewa,zR,awc,nwc⟩:=IP Oy (hwq.same s6)
     rw [ewa] at awj
     refine ⟨_,rfl,_,rfl,_,rfl,_,rfl,_,rfl,uA,_,_,_,rfl,rfl,a8.of (s6 _ _ fo.hu),akx,_,rfl,la,_,_,_,rfl,rfl,a8.of (s6 _ _ Ru),axj,_,rfl,_,rfl,pA,_,_,_,rfl,rfl,a8.of (s6 _ _ fr.hp),aku,pa,_,_,_,rfl,rfl,Ty.au.bN s6 h1,rfl,_,rfl,l,_,_,_,rfl,rfl,a8.of (s6 _ _ h3),awj,_,rfl,wa,_,_,_,rfl,rfl,zR,awc,?_⟩
     dsimp only [dQ]
     show dz K qg [_,_] _ _ E0
     refine y6 (hx.same s6) (kR nwc (y4 (IQ zw) (aaf _))) (by omega) fun p7 H7 s7 n7=>?_
     refine ⟨fA,ls,F,_,k,(c:Int),_,_,_,rfl,F6.same s7,by omega,Oy,n7,by omega,fun H8 k8 F8=>?_⟩
     refine ⟨_,_,rfl,KL.same hn (s6.trans s7) k8,F8.up (by rw [acf];omega),fun i p' e a ha=>?_⟩
     rw [tF Oy ha,hF i p' e a ha]
     by_cases ci:i=k
     ·by_cases ca:a=(c:Int)
      ·subst ca
       rw [if_neg (c:=i=k/\(c:Int) < (c:Int)) (fun z=>by omega),if_pos (c:=i=k/\(c:Int)=(c:Int)) ⟨ci,rfl⟩,if_pos (c:=i=k/\(c:Int) < ((c+1:Nat):Int)) ⟨ci,by omega⟩]
       grind
      ·rw [if_neg (c:=i=k/\a=(c:Int)) (fun z=>ca z.2)]
       by_cases cl:a < (c:Int)
       ·rw [if_pos (c:=i=k/\a < (c:Int)) ⟨ci,cl⟩,if_pos (c:=i=k/\a < ((c+1:Nat):Int)) ⟨ci,by omega⟩]
        grind
       ·rw [if_neg (c:=i=k/\a < (c:Int)) (fun z=>cl z.2),if_neg (c:=i=k/\a < ((c+1:Nat):Int)) (fun z=>by have:=z.2;omega)]
        grind
     ·rw [if_neg (c:=i=k/\a < (c:Int)) (fun z=>ci z.1),if_neg (c:=i=k/\a=(c:Int)) (fun z=>ci z.1),if_neg (c:=i=k/\a < ((c+1:Nat):Int)) (fun z=>ci z.1)]
      grind
    ·rintro σ H6 ⟨F,o6,rfl,s6,F6,hF⟩
     refine ⟨F,_,_,_,rfl,s6,F6.up (by rw [acf, <- hB3];omega),fun i p' e a ha=>?_⟩
     rw [hF i p' e a ha]
     by_cases ci:i=k
     ·subst ci
      rw [ep] at e
      cases e
      rw [if_neg (abp _),if_pos rfl,if_neg (abp _),if_pos rfl,if_pos (c:=i=i/\a < ((2:Nat):Int)) ⟨rfl,by rcases ha with rfl | rfl <;> decide⟩]
      rw [take_snoc ex,take_snoc ewq,aaH,kK _ _ (by rw [aab,aa2,aa2];omega),aal,ab_,dG,gR]
      grind
     ·rw [if_neg (c:=i=k/\a < ((2:Nat):Int)) (fun z=>ci z.1),if_neg ci,if_neg ci]
      grind
   ·rintro σ H5 ⟨F,o6,o7,o8,rfl,s5,F5,hF⟩
    rw [en3] at F5 hF
    refine ⟨F,_,_,_,_,rfl,s5,F5.up (by
     have:ck.length*(2*(N+91))<=2*(2*(N+91)):=aa4 _ (by omega)
     rw [acf, <- hB2]
     omega),fun i p' e a ha=>?_⟩
    rw [hF i p' e a ha]
    by_cases ci:i=k
    ·subst ci
     rw [ep] at e
     cases e
     rw [if_neg (abp _),if_pos rfl,if_pos (aba _),ahc (by omega),ahc (by omega)]
    ·rw [if_neg ci]
     by_cases cl:i < k
     ·rw [if_pos cl,if_pos (by omega)]
     ·rw [if_neg cl,if_neg (by omega)]
  ·rintro σ H4 ⟨F,o5,o6,o7,o8,rfl,s4,F4,hF⟩
   rw [U2,lu] at F4 hF
   have bp:pins.length*(4*(N+91))<=9*(4*(N+91)):=aa4 _ (by omega)
   refine ⟨_,rfl,q fA ls F H4 s4 ll (F4.up (by omega)) fun i p e=>?_⟩
   have hi:=(ir.mp e).1
   have a0:=hF i p e 0 (.inl rfl)
   have a1:=hF i p e 1 (.inr rfl)
   rw [if_pos hi] at a0 a1
   unfold fE
   unfold jX at a0 a1
   have e0:ax 0=fun p:Rat×Rat=>p.1:=rfl
   have e1:ax 1=fun p:Rat×Rat=>p.2:=rfl
   rw [e0] at a0
   rw [e1] at a1
   exact ⟨a0.trans (Rat.add_comm _ _),a1.trans (Rat.add_comm _ _)⟩
theorem abg:PySem.W.kitOne K (.type "int") (.type "int")=some true:=by unfold PySem.W.kitOne;rw [if_pos (by decide)]
theorem abh:PySem.W.kitOne K (.type "int") (.type "bool")=some false:=FF ⟨by decide,fun _=>⟨by decide+kernel,by decide+kernel⟩⟩
theorem LH (x:Int×Int):cW [.v (.int x.1),.v (.int x.2)] [.v (.int x.1),.v (.int x.2)]=true:=by
 simp [cW,gf,mj]
inductive oW (K:Frag)(vs:ζ)(H:Hp)(Q:VK)(E_:XK):Prop where
 | mk (u:V) (r:Rat) (_:vs=[u]) (_:fW K H u r) (_:∀H',au H H' ->Q (.bl true) H'):oW K vs H Q E_
theorem NJ:aF ["_law_x","_law_part"] ["_law_x"] (ag BP):=sq
theorem Vd (D:Def K mg "_law_number" BP ["_law_x"])(a_:mg "len"=none)(bC:mg "isinstance"=none)(oX:mg "int"=none)(xJ:mg "bool"=none)(iJ:mg "tuple"=none)
  (tj:Fn P w K mg base (bg P w) 33 "_law_lowest" zat dE):Fn P w K mg base (bg P w) 34 "_law_number" ["_law_x"] (oW K):=by
 refine D.ok NJ (fun vs H Q E h=>?_) (fun f bM A outer s H vs Q E hr h=>?_)
 ·obtain ⟨u,r,rfl,_⟩:=h
  rfl
 obtain ⟨_,r,rfl,⟨p1,rfl,h1⟩,q⟩:=h
 have hp:=dw r
 have hg:=oz r
 generalize qr r=x at h1 hp hg
 refine ⟨_,(ae (bq (PW.pt (lJ (c7 (cU (aI qV rfl bC cz (ar (pv 0) (ar (lR rfl iJ yv) aa))))) (g_ (aS lK (aI aE rfl a_ bT (ar (pv 0) aa)) ah (a9 _))))) (aj (aG cP)) aQ)
  (ae (bE PassesOwn.never rfl (Oo (pv 0)) (aC (i:=1) NJ.nd rfl (aan rfl)) (aj (bq (PW.pt (lJ (c7 (cU (aI gh rfl bC cz (ar (pv 1) (ar (lR rfl oX FH) aa))))) (g_ (cU (aI gh rfl bC cz (ar (pv 1) (ar (lR rfl xJ ON) aa))))))) (aj (aG cP)) aQ)))
  (aj (aG (D' (iy qG (aJ (pv 0)) ah (a9 _)) (D_ (iy (mR hr.units) (aD tj hr.mo pX (ar (aJ (pv 0)) (ar (aJ (pv 0)) aa))) (pv 0) (a9 _)))))))),?_⟩
 refine ⟨_,rfl,p1,_,rfl,h1,_,rfl,?_⟩
 refine bx (fun c=>nomatch c) (fun _=>?_)
 refine ⟨_,rfl,p1,_,rfl,.inr h1,rfl,_,rfl,?_⟩
 refine M6 rfl ?_
 refine ⟨_,rfl,p1,rfl,⟨_,h1⟩,Ki (K:=K) (a:=p1) (xs:=[.int x.1,.int x.2]) (fun i σ H' =>∃o,σ=[some (.ref p1),o]/\H' =H) ⟨none,rfl,rfl⟩ (fun i σ H' _ ⟨o,_,e⟩=>by rw [e];exact h1) ?_ ?_⟩
 ·rintro i z σ H' hi ⟨o,rfl,rfl⟩
  obtain ⟨n,rfl⟩:∃n,z=V.int n:=by
   match i,hi with
   | 0,hi=>exact ⟨_,(aay hi).symm⟩
   | 1,hi=>exact ⟨_,(aay hi).symm⟩
  refine ⟨_,rfl,_,_,_,true,rfl,rfl,.int n,abg,_,rfl,?_⟩
  refine bx (fun c=>nomatch c) (fun _=>?_)
  refine ⟨_,rfl,_,_,_,false,rfl,rfl,.int n,abh,_,rfl,?_⟩
  refine bx (fun c=>nomatch c) (fun _=>?_)
  exact ⟨_,rfl,rfl⟩
 ·rintro σ H' ⟨o,rfl,rfl⟩
  refine ⟨_,rfl,p1,_,_,_,rfl,rfl,h1,ip,_,_,rfl,rfl,_,rfl,?_⟩
  refine bx (fun _=>?_) (fun c=>absurd (decide_eq_true hp) c)
  refine ⟨_,rfl,p1,_,_,_,rfl,rfl,h1,g9,_,rfl,p1,_,_,_,rfl,rfl,h1,ip,_,_,rfl,hp,fun p2 H2 s2 e2=>?_⟩
  rw [nN hp hg] at e2
  refine ⟨_,rfl,_,_,.inl ⟨mW (q:=x) ⟨p2,rfl,bU.of e2⟩,mW (q:=x) ⟨p1,rfl,Ty.au.bN s2 h1⟩⟩,rfl,Ky,?_⟩
  rw [LH x]
  exact q _ s2
theorem Qf:PySem.W.kitOne K (.type "dict") (.type "dict")=some true:=by unfold PySem.W.kitOne;rw [if_pos (by decide)]
theorem abi:PySem.W.kitOne K (.type "list") (.type "list")=some true:=by unfold PySem.W.kitOne;rw [if_pos (by decide)]
theorem oY {K:Frag}{H:Hp}:∀ws:List Str,eA K H (ws.map fun w=>Da.v (.str w)) (ws.map V.str)
 | []=>by unfold eA;trivial
 | w::ws=>by
  rw [aal,aal]
  unfold eA
  refine ⟨?_,oY ws⟩
  unfold Is
  exact ⟨rfl,rfl⟩
theorem zb:∀ws:List Str,cW (ws.map fun w=>Da.v (.str w)) (ws.map fun w=>Da.v (.str w))=true
 | []=>by simp [cW]
 | w::ws=>by
  rw [aal]
  unfold cW
  rw [zb ws]
  simp [gf,mj]
theorem zc:∀ws:List Str,dc (ws.map fun w=>Da.v (.str w)) (ws.map fun w=>Da.v (.str w))=true
 | []=>by simp [dc]
 | w::ws=>by
  rw [aal]
  unfold dc
  rw [zc ws]
  simp [alike]
theorem vE:∀ws:List Str,dH (ws.map fun w=>Da.v (.str w))<=60
 | []=>by simp [dH]
 | w::ws=>by
  rw [aal]
  unfold dH
  have:=vE ws
  simp only [dep]
  omega
theorem zd {K:Frag}{H:Hp}{p p2:Addr}{ws:ρ}{Q:VK}(e1:H p=some (.lst (ws.map V.str)))(e2:H p2=some (.lst (ws.map V.str)))(q:Q (.bl false) H):uG K (.ref p) (.ref p2) H Q:=by
 refine ⟨ws.map fun w=>Da.v (.str w),ws.map fun w=>Da.v (.str w),.inr ⟨?_,?_⟩,zc ws,vE ws,by rw [zb];exact q⟩
 ·unfold Is
  exact ⟨p,_,rfl,a8.of e1,oY ws⟩
 ·unfold Is
  exact ⟨p2,_,rfl,a8.of e2,oY ws⟩
theorem oZ {x:V}{ys:ζ}:gY (x::ys) 0=some x:=bV (xs:=x::ys) (j:=0) rfl
theorem vF {α:Type}{D1 a:Addr}{H:Hp}{us:ζ}{zs:List α}{nm:α->Str}{cap:L2.St}{R:VK}(n1:H D1=none)(ha:H a=some (.lst us))(pr:Paired (fun u z=>∃c ys,u=.ref c/\bU K H c (.str (nm z)::ys)) us zs)(l:zs.length<=1000)(k:∀H',au H H' ->H' D1=some (.lst ((zs.map nm).map V.str))->R (.ref D1) H'):
  km D1 (c9 0) ki (Oq (EU K) (Kf 0) (tC (V.int 0))) (JE K a) (none::cap) H R:=by
 have lu:us.length=zs.length:=Paired.length pr
 refine cH (K:=K) (a:=a) (xs:=us) (fun i v _=>∃z,zs[i]? =some z/\v=.str (nm z)) n1 (by rw [lu];exact aaq l (by decide)) (fun H2 s2=>a8.of (s2 _ _ ha)) (fun _ _ _ _ _ _ _ h=>h) ?_ ?_
 ·intro i u H2 R hu s2 k
  obtain ⟨z,ez,c,ys,rfl,h1⟩:=av pr hu
  exact ⟨_,rfl,c,_,_,_,rfl,rfl,Ty.au.bN s2 h1,oZ,k _ _ (au.refl _) ⟨z,ez,rfl⟩⟩
 ·intro ys H2 hy fY s2 hD
  refine k H2 s2 ?_
  rw [hD]
  congr 2
  refine abo fun i=>?_
  rw [aaE,Wp]
  by_cases c:i < ys.length
  ·obtain ⟨p,e1,e2⟩:=fY i ys[i] (gE c)
   rw [gE c,e1,e2]
   rfl
  ·rw [aaj (by omega),aaj (by omega)]
   rfl
theorem lW {α:Type}{nm:α->Str}{kM:γ}{zs:List α}(h:kM.map (·.1)=zs.map (fun p=>(abc (nm p):Key))):(kM.map fun kv=>kV kv.1)=(zs.map nm).map V.str:=by
 have:(kM.map fun kv=>kV kv.1)=(kM.map (·.1)).map kV:=by rw [aaE];rfl
 rw [this,h,aaE,aaE]
 rfl
theorem xK {H:Hp}{us:ζ}{pins:ν}(h:Paired (jg K H) us pins):Paired (fun u (z:aA)=>∃c ys,u=.ref c/\bU K H c (.str z.nm::ys)) us pins:=Paired.bJ h fun _ _ ⟨a,l,s,us,e,h1,_,_,_⟩=>⟨a,_,e,h1⟩
theorem xM {H:Hp}{us:ζ}{pins:ν}{bars:π}(h:Paired (fF K H pins) us bars):Paired (fun u (z:aT)=>∃c ys,u=.ref c/\bU K H c (.str z.nm::ys)) us bars:=Paired.bJ h fun _ _ ⟨a,i,j,e,h1,_,_⟩=>⟨a,_,e,h1⟩
theorem vG {ys:ζ}(h:∀(i:Nat) (v:V),ys[i]? =some v->v=.bl true):∃bs:List Bool,ys=bs.map V.bl/\bs.all id=true:=by
 induction ys with
 | nil=>exact ⟨[],rfl,rfl⟩
 | cons y ys ih=>
  obtain ⟨bs,e,h2⟩:=ih fun i v e=>h (i+1) v (by simpa using e)
  exact ⟨true::bs,by rw [h 0 y rfl,e];rfl,by simp [h2]⟩
inductive xN (K:Frag)(vs:ζ)(H:Hp)(Q:VK)(E_:XK):Prop where
 | mk (pA bA dT dU:Addr) (us ws:ζ) (pins:ν) (bars:π) (kT kU:γ) (T:Μ) (U:χ) (N:Nat) (_:vs=[.ref pA,.ref bA,.ref dT,.ref dU]) (_:LG K H pA bA us ws pins bars) (_:JO K H pins bars dT dU kT kU T U N) (_:∀H',au H H' ->Q (.bl true) H'):xN K vs H Q E_
theorem ze:aF ["_law_pins_here","_law_bars_here","_law_pulls","_law_pushes","_law_name_here","_law_spot_here","_law_ways_here"] zaa (ag BQ):=sq
theorem Ve (D:Def K mg "_law_are_forces" BQ zaa)(bC:mg "isinstance"=none)(f7:mg "dict"=none)(bO:mg "list"=none)(a_:mg "len"=none)(o_:mg "all"=none)(Vf:Fn P w K mg base (bg P w) 34 "_law_number" ["_law_x"] (oW K)):
  Fn P w K mg base (bg P w) 35 "_law_are_forces" zaa (xN K):=by
 refine D.ok ze (fun vs H Q E h=>?_) (fun f bM A outer s H vs Q E hr h=>?_)
 ·obtain ⟨pA,bA,dT,dU,us,ws,pins,bars,kT,kU,T,U,N,rfl,_⟩:=h
  rfl
 obtain ⟨pA,bA,dT,dU,us,ws,pins,bars,kT,kU,T,U,N,rfl,fr,pl,q⟩:=h
 have lp:=fr.lp
 have lb:=fr.lb
 have lw:ws.length=bars.length:=Paired.length fr.pb
 refine ⟨_,(ae (bq (PW.pt (lJ (c7 (cU (aI gh rfl bC cz (ar (pv 2) (ar (lR rfl f7 wN) aa))))) (g_ (aS (jy hr.units) (b8 (eG rfl) rfl bO fS (ar (pv 2) aa)) (cX (tn:=zaJ) (fr:=[]) (caps:=[]) rfl ⟨rfl,by decide+kernel,rfl,by decide+kernel,by decide+kernel,rfl,trivial,trivial⟩ (bD (pv 1)) (fun _ _ _ _=>(aC (i:=0) (show (zaJ:List Str).Nodup from by decide+kernel) rfl (aan rfl))) (fun _ _ _ _=>df) (fun _ _ _ _=>(bw (dX (K:=K) rfl) (pv 0) ah (fun _ _=>rfl)))) (a9 _))))) (aj (aG cP)) aQ)
  (ae (bq (PW.pt (lJ (c7 (cU (aI gh rfl bC cz (ar (pv 3) (ar (lR rfl f7 wN) aa))))) (g_ (aS (jy hr.units) (b8 (eG rfl) rfl bO fS (ar (pv 3) aa)) (cX (tn:=zaG) (fr:=[]) (caps:=[]) rfl ⟨rfl,by decide+kernel,rfl,by decide+kernel,by decide+kernel,rfl,trivial,trivial⟩ (bD (pv 0)) (fun _ _ _ _=>(aC (i:=0) (show (zaG:List Str).Nodup from by decide+kernel) rfl (aan rfl))) (fun _ _ _ _=>df) (fun _ _ _ _=>(bw (dX (K:=K) rfl) (pv 0) ah (fun _ _=>rfl)))) (a9 _))))) (aj (aG cP)) aQ)
  (ae (bq (c7 (cU (aI (kq rfl) rfl o_ FG (ar (cX (tn:=zaJ) (fr:=["_law_pulls"]) (caps:=[2]) rfl ⟨rfl,by decide+kernel,rfl,by decide+kernel,by decide+kernel,rfl,⟨(by first | exact aan rfl | exact aa_ rfl),trivial⟩,⟨(by first | exact aan rfl | exact aa_ rfl),trivial⟩⟩ (bD (pv 1)) (fun _ _ _ _=>(aC (i:=0) (show (["_law_bar","_law_pulls"]:List Str).Nodup from by decide+kernel) rfl (aan rfl))) (fun _ _ _ _=>df) (fun _ _ _ _=>(aD Vf hr.mo (uN (by first | assumption | exact bg.rZ) rfl) (ar (cA (bX hr) (pv 1) (bw (dX (K:=K) rfl) (pv 0) ah (fun _ _=>rfl)) (fun _ _=>rfl)) aa)))) aa)))) (aj (aG cP)) aQ)
  (ae (bE PassesOwn.never rfl (bD (pv 0)) (fm rfl (bu (aC (i:=4) ze.nd rfl (aan rfl)) (bu (aC (i:=5) ze.nd rfl (aan rfl)) (bu (aC (i:=6) ze.nd rfl (aan rfl)) dF)))) (ae (bq (PW.pt (lJ (c7 (cU (aI gh rfl bC cz (ar (cA (bX hr) (pv 3) (pv 4) (fun _ _=>rfl)) (ar (lR rfl bO fS) aa))))) (g_ (aS lK (aI aE rfl a_ bT (ar (cA (bX hr) (pv 3) (pv 4) (fun _ _=>rfl)) aa)) (aI aE rfl a_ bT (ar (pv 6) aa)) (a9 _))))) (aj (aG cP)) aQ)
   (aj (bq (c7 (cU (aI (kq rfl) rfl o_ FG (ar (cX (tn:=zav) (fr:=[]) (caps:=[]) rfl ⟨rfl,by decide+kernel,rfl,by decide+kernel,by decide+kernel,rfl,trivial,trivial⟩ (bD (cA (bX hr) (pv 3) (pv 4) (fun _ _=>rfl))) (fun _ _ _ _=>(aC (i:=0) (show (zav:List Str).Nodup from by decide+kernel) rfl (aan rfl))) (fun _ _ _ _=>df) (fun _ _ _ _=>(aD Vf hr.mo (uN (by first | assumption | exact bg.rZ) rfl) (ar (pv 0) aa)))) aa)))) (aj (aG cP)) aQ))))
  (aj (aG cP)))))),?_⟩
 refine ⟨_,rfl,_,_,_,true,rfl,rfl,.dK pl.hT,Qf,_,rfl,?_⟩
 refine bx (fun c=>nomatch c) (fun _=>?_)
 refine ⟨_,rfl,dT,_,rfl,.inl pl.hT,?_⟩
 intro l1 n1;generalize eX:upd _ l1 _=H1;have ⟨s1,e1⟩:=nw n1 eX;clear eX
 rw [lW (nm:=aT.nm) pl.xw] at e1
 have fr1:=fr.same s1
 refine ⟨_,rfl,bA,rfl,⟨_,a8.of fr1.hb⟩,fun D2 n2=>?_⟩
 refine vF (nm:=aT.nm) n2 fr1.hb (xM fr1.pb) (by omega) fun H2 s2 e2=>?_
 refine zd (s2 _ _ e1) e2 ?_
 refine ⟨_,rfl,?_⟩
 refine bx (fun c=>nomatch c) (fun _=>?_)
 have v_:=s1.trans s2
 refine ⟨_,rfl,_,_,_,true,rfl,rfl,.dK (v_ _ _ pl.hU),Qf,_,rfl,?_⟩
 refine bx (fun c=>nomatch c) (fun _=>?_)
 refine ⟨_,rfl,dU,_,rfl,.inl (v_ _ _ pl.hU),?_⟩
 intro l3 n3;generalize eX:upd _ l3 _=H3;have ⟨s3,e3⟩:=nw n3 eX;clear eX
 rw [lW (nm:=aA.nm) pl.xx] at e3
 have rF:=v_.trans s3
 have QS:=fr.same rF
 refine ⟨_,rfl,pA,rfl,⟨_,a8.of QS.hp⟩,fun D4 n4=>?_⟩
 refine vF (nm:=aA.nm) n4 QS.hp (xK QS.pp) (by omega) fun H4 s4 e4=>?_
 refine zd (s4 _ _ e3) e4 ?_
 refine ⟨_,rfl,?_⟩
 refine bx (fun c=>nomatch c) (fun _=>?_)
 have CM:=rF.trans s4
 refine ⟨_,rfl,bA,rfl,⟨_,a8.of (CM _ _ fr.hb)⟩,fun D5 n5=>?_⟩
 refine cH (cap:=[some (.ref dT)]) (K:=K) (a:=bA) (xs:=ws) (fun _ v _=>v=.bl true) n5 (by rw [lw];exact aaq (show bars.length<=100 by omega) (by decide)) (fun H5 s5=>a8.of (s5 _ _ (CM _ _ fr.hb))) (fun _ _ _ _ _ _ _ h=>h) ?_ ?_
 ·intro i u H5 R hu s5 k
  obtain ⟨b,eb,c,i1,i2,rfl,h1,_⟩:=av fr.pb hu
  have sO:=CM.trans s5
  obtain ⟨v,dg,nv⟩:=(pl.same sO).aaQ (be eb)
  exact ⟨_,rfl,_,rfl,c,_,_,_,rfl,rfl,Ty.au.bN sO h1,rfl,dT,_,rfl,dg,v,_,rfl,nv,fun H6 s6=>k _ _ s6 rfl⟩
 intro ys H5 hy fY s5 hD
 obtain ⟨bs,eb,ea⟩:=vG fY
 refine ⟨D5,bs,rfl,by rw [<- eb];exact a8.of hD,?_⟩
 rw [ea]
 refine ⟨_,rfl,?_⟩
 refine bx (fun c=>nomatch c) (fun _=>?_)
 have sO:=CM.trans s5
 refine ⟨_,rfl,pA,rfl,⟨_,a8.of (sO _ _ fr.hp)⟩,cv (K:=K) (a:=pA) (xs:=us) (fun i σ H' =>∃(o4 o5 o6:ω),σ=[some (.ref pA),some (.ref bA),some (.ref dT),some (.ref dU),o4,o5,o6]/\au H H') ⟨none,none,none,rfl,sO⟩ (fun i σ H' _ h=>by
   obtain ⟨_,_,_,_,s⟩:=h
   exact a8.of (s _ _ fr.hp)) ?_ ?_⟩
 ·rintro i u σ H6 hu ⟨o4,o5,o6,rfl,s6⟩
  obtain ⟨p,ep,Qa⟩:=av fr.pp hu
  have mp:p∈pins:=be ep
  obtain ⟨ta,l,sv,ck,rfl,h1,h2,h3,h4⟩:=Qa.same s6
  refine ⟨ta,_,rfl,h1,rfl,_,_,rfl,_,_,rfl,_,_,rfl,rfl,?_⟩
  obtain ⟨la,xs,dg,et,pu⟩:=(pl.same s6).PY mp
  have lw:ck.length=p.ws.length:=Paired.length h4
  have lx:xs.length=(U p.nm).length:=Paired.length pu
  have lup:=pl.lU p mp
  have lwp:=(fr.gp.ws p mp).len
  refine ⟨_,rfl,_,rfl,dU,_,rfl,dg,_,_,_,true,rfl,rfl,.lst et,abi,_,rfl,?_⟩
  refine bx (fun c=>nomatch c) (fun _=>?_)
  refine ⟨_,rfl,_,rfl,dU,_,rfl,dg,la,_,rfl,.inl (a8.of et),_,rfl,l,_,rfl,.inl (a8.of h3),rfl,_,rfl,?_⟩
  refine bx (fun c=>absurd (show (xs.length:Int)=(ck.length:Int) by omega) (fun e=>by rw [e] at c;simp at c)) (fun _=>?_)
  refine ⟨_,rfl,_,rfl,dU,_,rfl,dg,la,rfl,⟨_,a8.of et⟩,fun D7 n7=>?_⟩
  refine cH (cap:=[]) (K:=K) (a:=la) (xs:=xs) (fun _ v _=>v=.bl true) n7 (aaq (show xs.length<=100 by omega) (by decide)) (fun H7 s7=>a8.of (s7 _ _ et)) (fun _ _ _ _ _ _ _ h=>h) ?_ ?_
  ·intro j x H7 R hx s7 k
   obtain ⟨r,er,nr⟩:=av pu hx
   exact ⟨_,rfl,x,r,rfl,nr.same s7,fun H8 s8=>k _ _ s8 rfl⟩
  intro ys H7 hy fY s7 hD
  obtain ⟨bs,eb,ea⟩:=vG fY
  refine ⟨D7,bs,rfl,by rw [<- eb];exact a8.of hD,?_⟩
  rw [ea]
  refine ⟨_,rfl,?_⟩
  refine bx (fun c=>nomatch c) (fun _=>?_)
  exact ⟨_,_,_,rfl,s6.trans s7⟩
 ·rintro σ H6 ⟨o4,o5,o6,rfl,s6⟩
  exact q H6 s6
theorem iK {α:Type}{R:V->α->Prop}:∀{us:ζ} {zs:List α},us.length=zs.length->(∀(i:Nat) (u:V),us[i]? =some u->∃z,zs[i]? =some z/\R u z)->Paired R us zs
 | [],[],_,_=>.nil
 | u::us,z::zs,l,h=>by
  obtain ⟨z',e,hz⟩:=h 0 u rfl
  cases e
  exact .cons hz (iK (by simpa using l) fun i u e=>h (i+1) u (by simpa using e))
inductive pd (K:Frag)(vs:ζ)(H:Hp)(Q:VK)(E_:XK):Prop where
 | mk (pA bA dT dU dL:Addr) (us ws:ζ) (pins:ν) (bars:π) (kT kU:γ) (T:Μ) (U:χ) (N:Nat) (_:vs=[.ref pA,.ref bA,.ref dT,.ref dU,.ref dL]) (_:LG K H pA bA us ws pins bars) (_:JO K H pins bars dT dU kT kU T U N) (_:N<=400000) (_:H dL=some (.dK [])) (_:kN pins bars T U) (_:∀H',au H H' ->Q (.bl true) H'):pd K vs H Q E_
theorem rH:aF ["_law_pins_here","_law_bars_here","_law_pulls","_law_pushes","_law_load","_law_some","_law_found","_law_k","_law_drawn","_law_axis"] zaf (ag BR):=sq
theorem Vg (D:Def K mg "_law_at_rest" BR zaf)(a_:mg "len"=none)(bB:mg "range"=none)(abk:Fn P w K mg base (bg P w) 3 "_law_forces" zaa (oV K))(tq:Fn P w K mg base (bg P w) 1 "_law_sum" zad (dz K f_)):
  Fn P w K mg base (bg P w) 4 "_law_at_rest" zaf (pd K):=by
 refine D.ok rH (fun vs H Q E h=>?_) (fun f bM A outer s H vs Q E hr h=>?_)
 ·obtain ⟨pA,bA,dT,dU,dL,us,ws,pins,bars,kT,kU,T,U,N,rfl,_⟩:=h
  rfl
 obtain ⟨pA,bA,dT,dU,dL,us,ws,pins,bars,kT,kU,T,U,N,rfl,fr,pl,hN,hL,rest,q⟩:=h
 have L2:2<=sizeLine:=by decide
 have lp:=fr.lp
 have lb:=fr.lb
 have lu:us.length=pins.length:=Paired.length fr.pp
 have lw:ws.length=bars.length:=Paired.length fr.pb
 refine ⟨_,(ae (mS (i:=5) rH.nd rfl (aan rfl) (tn:=zaG) (fr:=["_law_pushes"]) (caps:=[3]) rfl ⟨rfl,by decide+kernel,rfl,by decide+kernel,by decide+kernel,rfl,⟨(by first | exact aan rfl | exact aa_ rfl),trivial⟩,⟨(by first | exact aan rfl | exact aa_ rfl),trivial⟩⟩ (bD (pv 0)) (fun _ _ _ _=>(aC (i:=0) (show (["_law_pin","_law_pushes"]:List Str).Nodup from by decide+kernel) rfl (aan rfl))) (fun _ _ _ _=>df) (fun _ _ _ _=>(cA (bX hr) (pv 1) (bw (dX (K:=K) rfl) (pv 0) ah (fun _ _=>rfl)) (fun _ _=>rfl))))
  (ae (aH (i:=6) rH.nd rfl (aan rfl) (aD abk hr.mo pX (ar (pv 0) (ar (pv 1) (ar (cX (tn:=zaJ) (fr:=["_law_pulls"]) (caps:=[2]) rfl ⟨rfl,by decide+kernel,rfl,by decide+kernel,by decide+kernel,rfl,⟨(by first | exact aan rfl | exact aa_ rfl),trivial⟩,⟨(by first | exact aan rfl | exact aa_ rfl),trivial⟩⟩ (bD (pv 1)) (fun _ _ _ _=>(aC (i:=0) (show (["_law_bar","_law_pulls"]:List Str).Nodup from by decide+kernel) rfl (aan rfl))) (fun _ _ _ _=>df) (fun _ _ _ _=>(cA (bX hr) (pv 1) (bw (dX (K:=K) rfl) (pv 0) ah (fun _ _=>rfl)) (fun _ _=>rfl)))) (ar (pv 5) aa))))))
  (ae (bE PassesOwn.never rfl (bS rfl bB (ar (aI aE rfl a_ bT (ar (pv 0) aa)) aa)) (aC (i:=7) rH.nd rfl (aan rfl)) (ae (aH (i:=8) rH.nd rfl (aan rfl) (uV (bX hr) (pv 4) (aJ (bw ba (pv 0) (pv 7) (fun _ _=>rfl))) (aV (ar (aV (ar ah (ar ah aa))) (ar (aV (ar ah (ar ah aa))) aa))) ⟨rfl,rfl,rfl,rfl⟩))
   (aj (bE PassesOwn.never rfl (bS rfl bB (ar ah aa)) (aC (i:=9) rH.nd rfl (aan rfl)) (aj (bq (aS lK (aJ (aD tq hr.mo pX (ar (bw ba (bw ba (pv 6) (pv 7) (fun _ _=>rfl)) (pv 9) (fun _ _=>rfl)) (ar (bw kb (pv 8) (pv 9) (fun _ _=>rfl)) aa)))) ah (a9 _)) (aj (aG cP)) aQ))))))
  (aj (aG cP))))),?_⟩
 refine ⟨_,rfl,pA,rfl,⟨_,a8.of fr.hp⟩,fun D1 n1=>?_⟩
 refine cH (cap:=[some (.ref dU)]) (K:=K) (a:=pA) (xs:=us) (fun i v H' =>∃p la ys,pins[i]? =some p/\v=.ref la/\H la=some (.lst ys)/\Paired (fW K H) ys (U p.nm)) n1 (by rw [lu];exact aaq (show pins.length<=100 by omega) (by decide)) (fun H5 s5=>a8.of (s5 _ _ fr.hp)) (fun _ _ _ _ _ _ _ h=>h) ?_ ?_
 ·intro i u H5 R hu s5 k
  obtain ⟨p,ep,c,l,sv,jI,rfl,h1,_⟩:=av fr.pp hu
  obtain ⟨la,ys,dg,Ru,pu⟩:=pl.PY (be ep)
  obtain ⟨la',ys',dg',asm,_⟩:=(pl.same s5).PY (be ep)
  obtain ⟨la2,ys2,g1,g2,g3⟩:=pl.tU p (be ep)
  have dg5:cL H5 dU (.str p.nm) (some (.ref la2)):=by
   have:=cL.k (k:=.inr p.nm) (s5 _ _ pl.hU)
   rw [g1] at this
   exact this
  exact ⟨_,rfl,_,rfl,c,_,_,_,rfl,rfl,Ty.au.bN s5 h1,rfl,dU,_,rfl,dg5,k _ _ (au.refl _) ⟨p,la2,ys2,ep,rfl,g2,g3⟩⟩
 intro xs H2 hx fY s2 hD
 refine ⟨_,rfl,_,rfl,_,rfl,bA,rfl,⟨_,a8.of (s2 _ _ fr.hb)⟩,fun D3 n3=>?_⟩
 refine cH (cap:=[some (.ref dT)]) (K:=K) (a:=bA) (xs:=ws) (fun i v _=>∃b,bars[i]? =some b/\fW K H v (T b.nm)) n3 (by rw [lw];exact aaq (show bars.length<=100 by omega) (by decide)) (fun H5 s5=>a8.of (s5 _ _ (s2 _ _ fr.hb))) (fun _ _ _ _ _ _ _ h=>h) ?_ ?_
 ·intro i u H5 R hu s5 k
  obtain ⟨b,eb,c,i1,i2,rfl,h1,_⟩:=av fr.pb hu
  have sO:=s2.trans s5
  obtain ⟨v,g1,g2⟩:=pl.tT b (be eb)
  have dg5:cL H5 dT (.str b.nm) (some v):=by
   have:=cL.k (k:=.inr b.nm) (sO _ _ pl.hT)
   rw [g1] at this
   exact this
  exact ⟨_,rfl,_,rfl,c,_,_,_,rfl,rfl,Ty.au.bN sO h1,rfl,dT,_,rfl,dg5,k _ _ (au.refl _) ⟨b,eb,g2⟩⟩
 intro ts H3 ht hrt s3 hT
 have rF:=s2.trans s3
 have fo:LFo K H3 D3 D1 ts xs pins bars T U N:=by
  refine ⟨hT,iK (by omega) fun i v e=>?_,s3 _ _ hD,iK (by omega) fun i v e=>?_,pl.lU,hN⟩
  ·obtain ⟨b,eb,nv⟩:=hrt i v e
   exact ⟨b,eb,kR (nv.same rF) (pl.zT b (be eb))⟩
  ·obtain ⟨p,la,ys,ep,rfl,Ru,pu⟩:=fY i v e
   have mp:=be ep
   refine ⟨p,ep,la,ys,rfl,rF _ _ Ru,iK (Paired.length pu) fun j y ey=>?_⟩
   obtain ⟨r,er,nr⟩:=av pu ey
   exact ⟨r,er,kR (nr.same rF) (pl.zU p mp r (be er))⟩
 refine ⟨_,rfl,pA,bA,D3,D1,us,ws,ts,xs,pins,bars,T,U,N,rfl,fr.same rF,fo,fun fA ls F H4 s4 ll hF eF=>?_⟩
 have CM:=rF.trans s4
 have en:((us.length:Nat):Int).toNat=us.length:=by omega
 refine ⟨_,rfl,pA,_,rfl,.inl (a8.of (CM _ _ fr.hp)),((us.length:Nat):Int),rfl,by omega,by omega,bW (lo:=0) (n:=((us.length:Nat):Int).toNat) (fun t σ H' =>∃(o7 o8 o9:ω),σ=[some (.ref pA),some (.ref bA),some (.ref dT),some (.ref dU),some (.ref dL),some (.ref D1),some (.ref fA),o7,o8,o9]/\au H4 H') ⟨none,none,none,rfl,au.refl _⟩ ?_ ?_⟩
 ·rintro t σ H5 ht ⟨o7,o8,o9,rfl,s5⟩
  have ek:(0:Int)+(t:Int)=(t:Int):=aa' _
  rw [ek]
  have sO:=CM.trans s5
  have htu:t < us.length:=by omega
  obtain ⟨p,ep,Qa⟩:=av fr.pp (gE htu)
  have mp:=be ep
  have atu:gY us (t:Int)=some us[t]:=bV (gE htu)
  obtain ⟨c,l,sv,jI,ec,h1,_,_,_⟩:=Qa
  rw [ec] at atu
  refine ⟨_,rfl,dL,rfl,.inl ⟨_,.inl (sO _ _ hL)⟩,_,rfl,_,rfl,pA,_,_,_,rfl,rfl,a8.of (sO _ _ fr.hp),atu,c,_,_,_,rfl,rfl,Ty.au.bN sO h1,rfl,L2,?_⟩
  intro p7 n7;generalize eX:upd _ p7 _=H7;have ⟨s7,e7⟩:=nw n7 eX;clear eX
  refine ⟨L2,?_⟩
  intro p8 n8;generalize eX:upd _ p8 _=H8;have ⟨s8,e8⟩:=nw n8 eX;clear eX
  refine ⟨L2,?_⟩
  intro p9 n9;generalize eX:upd _ p9 _=H9;have ⟨s9,e9⟩:=nw n9 eX;clear eX
  have s59:=s7.trans (s8.trans s9)
  have s09:=sO.trans s59
  refine ⟨_,cL.k (k:=.inr p.nm) (s09 _ _ hL),?_⟩
  rw [show (bR ([]:List (Key×V)) (.inr p.nm)).getD (.ref p9)=.ref p9 from rfl]
  have hd:fe K H9 (.ref p9) (0,0):=vo cu cu e9 (s9 _ _ (s8 _ _ e7)) (s9 _ _ e8)
  generalize V.ref p9=dv at hd ⊢
  obtain ⟨da,u1,u2,rfl,hdq,T_,hd2⟩:=hd
  refine ⟨(2:Int),rfl,by decide,by decide,bW (lo:=0) (n:=2) (fun k σ H' =>∃(o9:ω),σ=[some (.ref pA),some (.ref bA),some (.ref dT),some (.ref dU),some (.ref dL),some (.ref D1),some (.ref fA),some (.int (t:Int)),some (.ref da),o9]/\au H9 H') ⟨o9,rfl,au.refl _⟩ ?_ ?_⟩
  ·rintro k σ yw hk ⟨o9,rfl,KA⟩
   have ek:(0:Int)+(k:Int)=(k:Int):=aa' _
   rw [ek]
   have Nm:(k:Int)=0\/(k:Int)=1:=by omega
   have F10:=hF.same (s5.trans (s59.trans KA))
   obtain ⟨lr,elr⟩:∃lr,ls[t]? =some lr:=⟨_,gE (by omega)⟩
   obtain ⟨w1,w2,hlr,nw1,nw2⟩:=F10.row t lr elr
   obtain ⟨f1,f2⟩:=eF t p ep
   obtain ⟨r1,r2⟩:=rest p mp
   obtain ⟨x,y,X,Y,a1,a2,nx,ny,zy,e0⟩:∃(x y:V) (X Y:Rat),gY [w1,w2] (k:Int)=some x/\gY [u1,u2] (k:Int)=some y/\kQ K yw x (1+196*(N+91)) X/\fW K yw y Y/\Y=0/\X+Y=0:=by
    rcases Nm with e | e
    ·exact ⟨w1,u1,_,_,by rw [e];rfl,by rw [e];rfl,nw1,T_.same KA,rfl,by rw [f1,r1];exact Rat.add_zero 0⟩
    ·exact ⟨w2,u2,_,_,by rw [e];rfl,by rw [e];rfl,nw2,hd2.same KA,rfl,by rw [f2,r2];exact Rat.add_zero 0⟩
   have etl:gY (ls.map V.ref) (t:Int)=some (.ref lr):=bV (by rw [Wp,elr];rfl)
   refine ⟨_,rfl,_,rfl,fA,_,_,_,rfl,rfl,a8.of F10.hf,etl,_,rfl,lr,_,_,_,rfl,rfl,a8.of hlr,a1,_,rfl,_,rfl,da,_,_,_,rfl,rfl,Ty.au.bN KA hdq,a2,?_⟩
   dsimp only [dQ]
   show dz K f_ [_,_] _ _ E0
   refine sY nx (kR ny (y4 (k:=1) (by rw [zy];exact iH (aaf _)) (aaf _))) (by omega) fun p12 CZ K7 YV=>?_
   rw [e0] at YV
   obtain ⟨z,⟨asw,e12,k1⟩,k2,k3,_⟩:=YV
   cases e12
   have z0:z.1=0:=(Lv k2).mpr k3
   rw [z0] at k1
   refine ⟨p12,_,_,_,rfl,rfl,k1,g9,rfl,_,rfl,?_⟩
   refine bx (fun c=>by simp at c) (fun _=>?_)
   exact ⟨_,rfl,KA.trans K7⟩
  ·rintro σ yw ⟨o9,rfl,KA⟩
   exact ⟨_,_,_,rfl,s5.trans (s59.trans KA)⟩
 ·rintro σ H5 ⟨o7,o8,o9,rfl,s5⟩
  exact q H5 (CM.trans s5)
abbrev JQ (pins:ν):List (Str×Pt):=pins.map fun p=>(p.nm,oC p.sp)
abbrev YX (pins:ν):List (Str×List (Rat×Rat)):=pins.map fun p=>(p.nm,p.ws)
abbrev wg (bars:π):List (Str×Str×Str):=bars.map fun b=>(b.nm,b.one.nm,b.other.nm)
def ji (K:Frag)(H:Hp)(d e:Addr)(v:V)(p:aA):Prop:=∃(a l:Addr) (s:V) (us:ζ),v=.ref a/\bU K H a [.str p.nm,s,.ref l]/\fe K H s p.sp/\H l=some (.lst us)/\g8 K H us p.ws/\l≠d/\l≠e
theorem ji.same {H H' :Hp}{d e:Addr}{v:V}{p:aA}(h:ji K H d e v p)(s:au H H'):ji K H' d e v p:=by
 obtain ⟨a,l,sv,us,ev,h1,h2,h3,h4,h5⟩:=h
 exact ⟨a,l,sv,us,ev,Ty.au.bN s h1,h2.same s,s _ _ h3,h4.same s,h5⟩
theorem ji.r {H:Hp}{d e:Addr}{v:V}{p:aA}(h:ji K H d e v p):jg K H v p:=by
 obtain ⟨a,l,sv,us,ev,h1,h2,h3,h4,_⟩:=h
 exact ⟨a,l,sv,us,ev,h1,h2,h3,h4⟩
def KO (pP pW pB lP lB:Addr)(H H' :Hp):Prop:=∀b o,b≠pP->b≠pW->b≠pB->b≠lP->b≠lB->H b=some o->H' b=some o
theorem KO.trans {pP pW pB lP lB:Addr}{H H1 H2:Hp}(a:KO pP pW pB lP lB H H1)(b:KO pP pW pB lP lB H1 H2):KO pP pW pB lP lB H H2:=fun c o n1 n2 n3 n4 n5 e=>b c o n1 n2 n3 n4 n5 (a c o n1 n2 n3 n4 n5 e)
theorem KO.of {pP pW pB lP lB:Addr}{H H1:Hp}(a:au H H1):KO pP pW pB lP lB H H1:=fun c o _ _ _ _ _ e=>a c o e
structure WS (K:Frag)(H:Hp)(C fA dx pP pW pB lP lB:Addr)(us vs:ζ)(pins:ν)(bars:π):Prop where
 fr:∃kP kW kB,dZ K H C fA dx pP pW pB (JQ pins) (wg bars) kP kW kB/\pM K H (YX pins) kW/\∀kv∈kW,kv.2≠.ref lP/\kv.2≠.ref lB
 hp:H lP=some (.lst us)
 pp:Paired (ji K H lP lB) us pins
 hb:H lB=some (.lst vs)
 pb:Paired (fF K H pins) vs bars
 gp:fG pins
 gb:ix pins bars
 lp:pins.length<=8
 lb:bars.length<=39
 ne:lP≠lB
section
variable {H H' :Hp}{C fA dx pP pW pB lP lB:Addr}{us vs:ζ}{pins:ν}{bars:π}
theorem WS.same (h:WS K H C fA dx pP pW pB lP lB us vs pins bars)(s:au H H'):WS K H' C fA dx pP pW pB lP lB us vs pins bars:=by
 obtain ⟨kP,kW,kB,R,W,n⟩:=h.fr
 exact ⟨⟨kP,kW,kB,R.same s,W.same s,n⟩,s _ _ h.hp,Paired.bJ h.pp fun _ _ z=>z.same s,s _ _ h.hb,Paired.bJ h.pb fun _ _ z=>z.same s,h.gp,h.gb,h.lp,h.lb,h.ne⟩
theorem WS.fa (h:WS K H C fA dx pP pW pB lP lB us vs pins bars):JI K H C fA pins bars:=by
 obtain ⟨kP,kW,kB,R,W,n⟩:=h.fr
 exact ⟨dx,pP,pW,pB,kP,kW,kB,R,W⟩
theorem WS.g (h:WS K H C fA dx pP pW pB lP lB us vs pins bars):fh pins bars:=UT h.gp h.gb (by have:=h.lp;omega) (by have:=h.lb;omega)
theorem WS.pr (h:WS K H C fA dx pP pW pB lP lB us vs pins bars):Paired (jg K H) us pins:=Paired.bJ h.pp fun _ _ z=>z.r
theorem WS.away (h:WS K H C fA dx pP pW pB lP lB us vs pins bars){b:Addr}{o:HO}(e:H b=some o)(n1:∀kvs,o≠.dK kvs)(n2:∀xs,o≠.lst xs):b≠pP/\b≠pW/\b≠pB/\b≠lP/\b≠lB:=by
 obtain ⟨kP,kW,kB,R,W,_⟩:=h.fr
 refine ⟨fun z=>?_,fun z=>?_,fun z=>?_,fun z=>?_,fun z=>?_⟩
 ·rw [z,R.pl] at e
  exact n1 _ (aay e).symm
 ·rw [z,R.wy] at e
  exact n1 _ (aay e).symm
 ·rw [z,R.br] at e
  exact n1 _ (aay e).symm
 ·rw [z,h.hp] at e
  exact n2 _ (aay e).symm
 ·rw [z,h.hb] at e
  exact n2 _ (aay e).symm
theorem WS.fresh (h:WS K H C fA dx pP pW pB lP lB us vs pins bars){b:Addr}(e:H b=none):b≠pP/\b≠pW/\b≠pB/\b≠lP/\b≠lB:=by
 obtain ⟨kP,kW,kB,R,W,_⟩:=h.fr
 refine ⟨fun z=>?_,fun z=>?_,fun z=>?_,fun z=>?_,fun z=>?_⟩
 ·rw [z,R.pl] at e
  cases e
 ·rw [z,R.wy] at e
  cases e
 ·rw [z,R.br] at e
  cases e
 ·rw [z,h.hp] at e
  cases e
 ·rw [z,h.hb] at e
  cases e
theorem KO.at (k:KO pP pW pB lP lB H H'){b:Addr}{o:HO}(n:b≠pP/\b≠pW/\b≠pB/\b≠lP/\b≠lB)(e:H b=some o):H' b=some o:=k b o n.1 n.2.1 n.2.2.1 n.2.2.2.1 n.2.2.2.2 e
theorem WS.t (h:WS K H C fA dx pP pW pB lP lB us vs pins bars)(k:KO pP pW pB lP lB H H'):aY H H' :=fun b xs r=>by
 rcases r with r | ⟨o',r⟩
 ·exact .inl (k.at (h.away r (fun _ z=>nomatch z) fun _ z=>nomatch z) r)
 ·exact .inr ⟨o',k.at (h.away r (fun _ z=>nomatch z) fun _ z=>nomatch z) r⟩
theorem WS.way (h:WS K H C fA dx pP pW pB lP lB us vs pins bars){l:Addr}{xs:ζ}(e:H l=some (.lst xs))(n1:l≠lP)(n2:l≠lB):l≠pP/\l≠pW/\l≠pB/\l≠lP/\l≠lB:=by
 obtain ⟨kP,kW,kB,R,W,_⟩:=h.fr
 refine ⟨fun z=>?_,fun z=>?_,fun z=>?_,n1,n2⟩
 ·rw [z,R.pl] at e
  cases e
 ·rw [z,R.wy] at e
  cases e
 ·rw [z,R.br] at e
  cases e
theorem WS.C_ (h:WS K H C fA dx pP pW pB lP lB us vs pins bars)(k:KO pP pW pB lP lB H H'){v:V}{p:aA}(y:ji K H lP lB v p):ji K H' lP lB v p:=by
 obtain ⟨a,l,sv,ws,ev,h1,h2,h3,h4,h5,h6⟩:=y
 have t:=h.t k
 exact ⟨a,l,sv,ws,ev,t.bN h1,h2.aU t,k.at (h.way h3 h5 h6) h3,h4.aU t,h5,h6⟩
theorem WS.wys (h:WS K H C fA dx pP pW pB lP lB us vs pins bars)(k:KO pP pW pB lP lB H H'){kW:γ}{pw:Ζ}(W:pM K H pw kW)(n:∀kv∈kW,kv.2≠.ref lP/\kv.2≠.ref lB):pM K H' pw kW:=by
 have t:=h.t k
 refine b9 (Paired.length W) fun i p kv e1 e2=>?_
 obtain ⟨S',e3,z1,l,jI,z2,z3,z4⟩:=av W e1
 rw [e2] at e3
 cases e3
 have nn:=n _ (be e2)
 exact ⟨z1,l,jI,z2,k.at (h.way z3 (fun z=>nn.1 (by rw [z2,z])) (fun z=>nn.2 (by rw [z2,z]))) z3,z4.aU t⟩
end
inductive xO (K:Frag)(C:Addr)(vs:ζ)(H:Hp)(Q:VK)(E_:XK):Prop where
 | mk (fA dx pP pW pB lP lB:Addr) (us ck :ζ) (pins:ν) (bars:π) (sv:V) (lw:Addr) (ws:ζ) (p:aA) (_:vs=[.ref fA,.ref lP,.str p.nm,sv,.ref lw]) (_:WS K H C fA dx pP pW pB lP lB us ck pins bars) (_:fe K H sv p.sp) (_:H lw=some (.lst ws)) (_:g8 K H ws p.ws) (_:(lw≠lP/\lw≠lB)) (_:p.nm∉pins.map (·.nm)) (_:p.sp∉pins.map (·.sp)) (_:(Sz 44 p.sp.1/\Sz 44 p.sp.2)) (_:gT p.ws) (_:pins.length<=7) (_:∀(jI :ζ) (H' :Hp),KO pP pW pB lP lB H H' ->WS K H' C fA dx pP pW pB lP lB jI ck (pins++[p]) bars->Q .cB H'):xO K C vs H Q E_
theorem pf:aF zac zac (ag cR):=sq
theorem ph {C CR CF fR:Addr}{U4:FuncData}(D:Def K mg "_law_put_pin" cR zac)(a_:mg "len"=none)
  (CT:mg "Roller"=some (.ref CR)) (CU:mg "Fixed"=some (.ref CF)) (CV:QY K CF) (CW:Mk K CR fR) (P_:cI P w K mg base (bg P w) 1 fR U4 zaz (mZ K CR)) (CY:Binds K U4 zaz [])
  (wR:bI P w K mg base (bg P w) 2 CR "ways" zaj (gL K CR)) (wF:bI P w K mg base (bg P w) 2 CF "ways" zaj (gM K))
  (NH:bI P w K mg base (bg P w) 3 C "put_pin" zar (cT P w K mg base C)) (Rr:sj P w K mg base (bg P w) 3 C "put_pin" zar [.none] (cT P w K mg base C)):
  Fn P w K mg base (bg P w) 4 "_law_put_pin" zac (xO K C):=by
 refine D.ok pf (fun vs H Q E h=>?_) (fun f bM A outer s H vs Q E hr h=>?_)
 ·obtain ⟨fA,dx,pP,pW,pB,lP,lB,us,ck,pins,bars,sv,lw,ws,p,rfl,_⟩:=h
  rfl
 obtain ⟨fA,dx,pP,pW,pB,lP,lB,us,ck,pins,bars,sv,lw,ws,p,rfl,st,hsv,hlw,hws,⟨nl1,YY⟩,Rm,pZ,hsz,wk,lp7,q⟩:=h
 have L3:3<=sizeLine:=by decide
 have lu:us.length=pins.length:=Paired.length st.pp
 obtain ⟨kP,kW,kB,R,W,nW⟩:=st.fr
 refine ⟨_,(ae (bf (gd PySem.F.plainAttrs_list PySem.F.slot_list_append PySem.F.type_list_append cG (pv 1) (ar (aV (ar (pv 2) (ar (pv 3) (ar (pv 4) aa)))) aa)))
  (aj (bq (aS eh (aI aE rfl a_ bT (ar (pv 4) aa)) ah (a9 _)) (aj (bf (yD (k:=3) (pv 0) hr.mo (pY P w) (ar (pv 2) (ar (aJ (pv 3)) (ar (aJ (pv 3)) aa)))))) (aj (bq (aS eh (aI aE rfl a_ bT (ar (pv 4) aa)) ah (a9 _)) (aj (bf (cK (k:=3) (pv 0) hr.mo (pY P w) (ar (pv 2) (ar (aJ (pv 3)) (ar (aJ (pv 3)) (ar (ym CW P_ hr.mo rfl CT CY .nil (pY P w) (ar (aJ (yK (pv 4))) (ar (aJ (yK (pv 4))) aa))) aa))))))) (aj (bf (cK (k:=3) (pv 0) hr.mo (pY P w) (ar (pv 2) (ar (aJ (pv 3)) (ar (aJ (pv 3)) (ar (FO CV rfl CU) aa)))))))))))),?_⟩
 refine ⟨_,rfl,.inl ⟨rfl,_,a8.of st.hp⟩,_,rfl,_,rfl,_,rfl,L3,?_⟩
 intro t1 n1;generalize eX:upd _ t1 _=H1;have ⟨s1,e1⟩:=nw n1 eX;clear eX
 refine ⟨lP,_,_,rfl,rfl,s1 _ _ st.hp,(by rw [lu];exact aaq (show pins.length<=1000 by omega) (by decide)),?_⟩
 have st1:=st.same s1
 have k2:KO pP pW pB lP lB H (upd H1 lP (.lst (us++[.ref t1]))):=fun b o _ _ _ n4 _ e=>by rw [ao n4];exact s1 _ _ e
 have e2:(upd H1 lP (.lst (us++[.ref t1]))) lP=some (.lst (us++[.ref t1])):=ak
 have nP:pP≠lP:=fun z=>by have h:=R.pl;rw [z,st.hp] at h;cases h
 have Vh:pW≠lP:=fun z=>by have h:=R.wy;rw [z,st.hp] at h;cases h
 have nB:pB≠lP:=fun z=>by have h:=R.br;rw [z,st.hp] at h;cases h
 have YZ :pP≠lB:=fun z=>by have h:=R.pl;rw [z,st.hb] at h;cases h
 have Y0 :pW≠lB:=fun z=>by have h:=R.wy;rw [z,st.hb] at h;cases h
 have ot:∀b o,b≠lP->H b=some o->(upd H1 lP (.lst (us++[.ref t1]))) b=some o:=fun b o n e=>by rw [ao n];exact s1 _ _ e
 have nt:t1≠lP:=fun z=>by rw [z,st.hp] at n1;cases n1
 have et:(upd H1 lP (.lst (us++[.ref t1]))) t1=some (.tup [.str p.nm,sv,.ref lw]):=by rw [ao nt];exact e1
 generalize upd H1 lP (.lst (us++[.ref t1]))=H2 at k2 e2 ot et ⊢
 have t2:=st.t k2
 have R2:dZ K H2 C fA dx pP pW pB (JQ pins) (wg bars) kP kW kB:=R.bY t2 ((k2.at (st.away R.obj (fun _ z=>nomatch z) fun _ z=>nomatch z) R.obj).trans R.obj.symm) ((ot _ _ nP R.pl).trans R.pl.symm) ((ot _ _ Vh R.wy).trans R.wy.symm) ((ot _ _ nB R.br).trans R.br.symm)
 have W2:=st.wys k2 W nW
 have abu:=ot _ _ nl1 hlw
 have abv:=hsv.aU t2
 have Vi:=hws.aU t2
 obtain ⟨sa,x1,y1,rfl,tu,P4,JF⟩:=id abv
 have fin:∀(hv:V) (H5:Hp) (Q5:VK) (E5:XK),au H2 H5->HM P w K mg base H5 hv p.ws->(∀H',KO pP pW pB lP lB H H' ->WS K H' C fA dx pP pW pB lP lB (us++[.ref t1]) ck (pins++[p]) bars->Q5 .cB H')->cT P w K mg base C [.ref fA,.str p.nm,x1,y1,hv] H5 Q5 E5:=fun hv H5 Q5 E5 s5 hY fin=>by
  refine ⟨fA,dx,pP,pW,pB,_,_,kP,kW,_,_,p.nm,x1,y1,hv,oC p.sp,p.ws,rfl,R2.same s5,W2.same s5,by rw [aaE,aaE];rfl,P4.same s5,JF.same s5,fun z=>Rm ?_,fun z hz e=>pZ ?_,?_,hY,fun H' pO iM k' R' W' nl=>?_⟩
  ·rw [aaE] at z
   exact z
  ·obtain ⟨p',kJ,e'⟩:=aad.mp hz
   rw [<- e'] at e
   exact aad.mpr ⟨p',kJ,ahQ (gI (congrArg an_ e)) (gI (congrArg ao_ e))⟩
  ·rw [aab]
   omega
  have k0:KO pP pW pB lP lB H H' :=fun b o m1 m2 m3 m4 m5 e=>k' b o m1 m2 (s5 _ _ (k2 b o m1 m2 m3 m4 m5 e))
  have t0:=st.t k0
  have fr:=st.fresh n1
  refine fin H' k0 ⟨⟨pO,iM,kB,?_,?_,fun kv ND=>?_⟩,k' _ _ (aaW nP) (aaW Vh) (s5 _ _ e2),dN (Paired.bJ st.pp fun _ _ z=>st.C_ k0 z) ⟨t1,lw,_,ws,rfl,bU.of (k' _ _ fr.1 fr.2.1 (s5 _ _ et)),hsv.aU t0,k0.at (st.way hlw nl1 YY) hlw,hws.aU t0,nl1,YY⟩,k' _ _ (aaW YZ) (aaW Y0) (s5 _ _ (ot _ _ (aaW st.ne) st.hb)),Paired.bJ st.pb fun u b z=>?_,st.gp.snoc Rm pZ hsz wk,⟨st.gb.nb,fun b hb=>?_⟩,by rw [aat];simp;omega,st.lb,st.ne⟩
  ·rw [show JQ (pins++[p])=JQ pins++[(p.nm,oC p.sp)] from aaH]
   exact R'
  ·rw [show YX (pins++[p])=YX pins++[(p.nm,p.ws)] from aaH]
   exact W'
  ·obtain ⟨l9,e9,n9⟩:=nl
   rw [e9] at ND
   rcases aaA.mp ND with h | h
   ·exact nW kv h
   ·rw [aax.mp h]
    refine ⟨fun z=>?_,fun z=>?_⟩
    ·injection z with z
     rw [z,s5 _ _ e2] at n9
     cases n9
    ·injection z with z
     rw [z,s5 _ _ (ot _ _ (aaW st.ne) st.hb)] at n9
     cases n9
  ·obtain ⟨a,i,j,e,h1,g1,g2⟩:=z
   exact ⟨a,i,j,e,t0.bN h1,by rw [aaD (ir.mp g1).1];exact g1,by rw [aaD (ir.mp g2).1];exact g2⟩
  ·obtain ⟨m1,m2,m3⟩:=st.gb.ends b hb
   exact ⟨aa7 _ m1,aa7 _ m2,m3⟩
 have l2:=a8.of (K:=K) abu
 have Qg :ws.length=p.ws.length:=Paired.length hws
 refine ⟨_,rfl,lw,_,rfl,.inl l2,rfl,_,rfl,?_⟩
 rcases wk with hw | ⟨wx,wy,hw,wn,_,_⟩ | hw
 ·rw [hw] at Qg
  refine bx (fun _=>?_) (fun c=>by rw [Qg] at c;simp at c)
  refine ⟨_,rfl,fA,C,dx,_,_,_,rfl,R2.obj,rfl,Rr,_,rfl,_,rfl,sa,_,_,_,rfl,rfl,tu,g9,_,rfl,sa,_,_,_,rfl,rfl,tu,ip,?_⟩
  dsimp only [dQ]
  exact fin .cB H2 _ _ (au.refl _) (.inl ⟨rfl,hw⟩) fun H' k' W' =>q _ H' k' W'
 ·rw [hw] at Qg Vi
  obtain ⟨w0,rfl⟩:∃w0,ws=[w0]:=by
   match ws,Qg with
   | [w0],_=>exact ⟨w0,rfl⟩
  have hw0:fe K H2 w0 (wx,wy):=by
   cases Vi with
   | cons h _=>exact h
  obtain ⟨wa,y2,y3,rfl,zR,yB,U6⟩:=hw0
  refine bx (fun c=>by simp at c) (fun _=>?_)
  refine ⟨_,rfl,lw,_,rfl,.inl l2,rfl,_,rfl,?_⟩
  refine bx (fun _=>?_) (fun c=>absurd rfl c)
  refine ⟨_,rfl,fA,C,dx,_,_,_,rfl,R2.obj,rfl,NH,_,rfl,_,rfl,sa,_,_,_,rfl,rfl,tu,g9,_,rfl,sa,_,_,_,rfl,rfl,tu,ip,?_⟩
  refine ⟨_,rfl,lw,_,_,_,rfl,rfl,l2,rfl,wa,_,_,_,rfl,rfl,zR,g9,_,rfl,lw,_,_,_,rfl,rfl,l2,rfl,wa,_,_,_,rfl,rfl,zR,ip,?_⟩
  intro dB d1 LF Qb ne1
  have s4:au H2 (upd (upd H2 d1 (.own dB)) dB (.ins CR d1 [])):=fun b o e=>by rw [ao (aq e LF),ao (aq e Qb)];exact e
  have e4:(upd (upd H2 d1 (.own dB)) dB (.ins CR d1 [])) dB =some (.ins CR d1 []):=ak
  generalize upd (upd H2 d1 (.own dB)) dB (.ins CR d1 [])=H4 at s4 e4 ⊢
  refine ⟨dB,d1,y2,y3,wx,wy,rfl,e4,yB.same s4,U6.same s4,wn,fun p5 n5=>⟨rfl,?_⟩⟩
  have yx:p5≠dB :=fun z=>by rw [z,e4] at n5;cases n5
  have s5:au H2 (upd (upd H4 p5 (.tup [y2,y3])) dB (.ins CR d1 [("way",.ref p5)])):=fun b o e=>by
   have z:b≠dB :=fun z=>by rw [z,LF] at e;cases e
   rw [ao z]
   exact aK n5 _ _ _ (s4 _ _ e)
  have e5:(upd (upd H4 p5 (.tup [y2,y3])) dB (.ins CR d1 [("way",.ref p5)])) dB =some (.ins CR d1 [("way",.ref p5)]):=ak
  have t5:(upd (upd H4 p5 (.tup [y2,y3])) dB (.ins CR d1 [("way",.ref p5)])) p5=some (.tup [y2,y3]):=by rw [ao yx,ak]
  generalize upd (upd H4 p5 (.tup [y2,y3])) dB (.ins CR d1 [("way",.ref p5)])=H5 at s5 e5 t5 ⊢
  have Qc:fe K H5 (.ref p5) (wx,wy):=jU t5 (yB.same s5) (U6.same s5)
  dsimp only [dQ]
  exact fin (.ref dB) H5 _ _ s5 (.inr ⟨dB,CR,d1,_,zaj,gL K CR,rfl,e5,za _,wR,fun H6 e6 t6 Q' an=>⟨dB,d1,p5,(wx,wy),rfl,e6,Qc.aU t6,by rw [hw] at an;exact an⟩⟩) fun H' k' W' =>q _ H' k' W'
 ·rw [hw] at Qg
  refine bx (fun c=>by rw [Qg] at c;simp at c) (fun _=>?_)
  refine ⟨_,rfl,lw,_,rfl,.inl l2,rfl,_,rfl,?_⟩
  refine bx (fun c=>by rw [Qg] at c;simp at c) (fun _=>?_)
  refine ⟨_,rfl,fA,C,dx,_,_,_,rfl,R2.obj,rfl,NH,_,rfl,_,rfl,sa,_,_,_,rfl,rfl,tu,g9,_,rfl,sa,_,_,_,rfl,rfl,tu,ip,?_⟩
  intro dB d1 LF Qb ne1
  have s4:au H2 (upd (upd H2 d1 (.own dB)) dB (.ins CF d1 [])):=fun b o e=>by rw [ao (aq e LF),ao (aq e Qb)];exact e
  have e4:(upd (upd H2 d1 (.own dB)) dB (.ins CF d1 [])) dB =some (.ins CF d1 []):=ak
  generalize upd (upd H2 d1 (.own dB)) dB (.ins CF d1 [])=H4 at s4 e4 ⊢
  dsimp only [dQ]
  exact fin (.ref dB) H4 _ _ s4 (.inr ⟨dB,CF,d1,_,zaj,gM K,rfl,e4,rfl,wF,fun H6 _ _ Q' an=>⟨dB,rfl,by rw [hw] at an;exact an⟩⟩) fun H' k' W' =>q _ H' k' W'
def LI (pins:ν)(i:Nat)(b:aT):Bool:=decide ((pins[i]?).map (·.nm)=some b.one.nm) || decide ((pins[i]?).map (·.nm)=some b.other.nm)
def LJ (pins:ν)(bars:π)(i:Nat):Bool:= !(bars.any (LI pins i))
theorem NK {pins:ν}(np:(pins.map (·.nm)).Nodup){i j:Nat}{p:aA}(e:pins[j]? =some p):(pins[i]?).map (·.nm)=some p.nm ↔ i=j:=by
 constructor
 ·intro h
  have e1:(pins.map (·.nm))[i]? =some p.nm:=by rw [Wp];exact h
  have e2:(pins.map (·.nm))[j]? =some p.nm:=by rw [Wp,e];rfl
  exact cO np e1 e2
 ·rintro rfl
  rw [e]
  rfl
theorem kY {α:Type}(g:aA->Str×α)(hg:∀p,(g p).1=p.nm):∀{pins:ν} {k:Nat} {p:aA},(pins.map (·.nm)).Nodup->pins[k]? =some p->(pins.map g).filter (fun b=>decide (b.1≠p.nm))=(pins.eraseIdx k).map g
 | q::ps,0,p,nd,e=>by
  cases e
  rw [aal,aaX] at nd
  rw [aal,ab3 (by rw [hg];simp),List.eraseIdx_cons_zero,aiw]
  intro b hb
  obtain ⟨r,hr,rfl⟩:=aad.mp hb
  rw [hg]
  exact decide_eq_true (fun z=>nd.1 (by rw [<- z];exact aad.mpr ⟨r,hr,rfl⟩))
 | q::ps,k+1,p,nd,e=>by
  rw [aal,aaX] at nd
  have e' :ps[k]? =some p:=by simpa using e
  have ne:q.nm≠p.nm:=fun z=>nd.1 (by rw [z];exact aad.mpr ⟨p,be e',rfl⟩)
  rw [aal,ab2 (by rw [hg];exact decide_eq_true ne),List.eraseIdx_cons_succ,aal,kY g hg nd.2 e']
theorem pj {pins:ν}{k i:Nat}(h:i≠k):(pins.eraseIdx k)[if k < i then i - 1 else i]? =pins[i]? :=by
 rw [abL]
 by_cases c:k < i
 ·rw [if_pos c,if_neg (by omega),show i - 1+1=i by omega]
 ·rw [if_neg c,if_pos (by omega)]
theorem fG.erase {pins:ν}(g:fG pins)(k:Nat):fG (pins.eraseIdx k):=by
 have sub:aht (pins.eraseIdx k) pins:=ahK _ _
 exact ⟨g.np.sublist (sub.map _),g.ns.sublist (sub.map _),fun p hp=>g.sz p (sub.subset hp),fun p hp=>g.ws p (sub.subset hp)⟩
theorem vH {H:Hp}:∀fs:List Nat,eA K H (fs.map fun i:Nat=>Da.v (.int (i:Int))) (fs.map fun i:Nat=>V.int (i:Int))
 | []=>by
  unfold eA
  trivial
 | i::fs=>by
  show eA K H (_::_) (_::_)
  unfold eA
  refine ⟨?_,vH fs⟩
  unfold Is
  exact ⟨rfl,rfl⟩
theorem NL {x y z:V}:fH [x,y,z] (some 1) (some 3)=[y,z]:=rfl
theorem abw {x y z:V}:fH [x,y,z] (some 3) none=[]:=rfl
theorem xP {X:Cx}{K:Frag}(h:X.K=K)(hc:X.calm=true):fg X (.builtin "any") (O_ K):=by subst h;exact z_ hc
inductive IV (K:Frag)(C:Addr)(vs:ζ)(H:Hp)(Q:VK)(E_:XK):Prop where
 | mk (fA dx pP pW pB lP lB:Addr) (us ck :ζ) (pins:ν) (bars:π) (c:Int) (_:vs=[.ref fA,.ref lP,.ref lB,.int c]) (_:WS K H C fA dx pP pW pB lP lB us ck pins bars) (_:(∀H',au H H' ->Q .cB H')) (_:∀(k:Nat) (p:aA) (y:V) (jI Rv:ζ) (H' :Hp),pins[k]? =some p->KO pP pW pB lP lB H H' ->WS K H' C fA dx pP pW pB lP lB jI Rv (pins.eraseIdx k) bars->ji K H' lP lB y p->Q y H'):IV K C vs H Q E_
theorem cg:aF ["_law_frame_here","_law_pins_here","_law_bars_here","_law_cell","_law_free","_law_at","_law_gone","_law_k","_law_one_here","_law_other"] zai (ag cS):=sq
theorem pC {C:Addr}(D:Def K mg "_law_pin_out" cS zai)(a_:mg "len"=none)(bB:mg "range"=none)(IW:mg "any"=none)(oX:mg "int"=none)(cQ:Fn P w K mg base (bg P w) 1 "_law_field" zab ed)
  (MTk:bI P w K mg base (bg P w) 2 C "take_pin" zaB (gO K C)):
  Fn P w K mg base (bg P w) 3 "_law_pin_out" zai (IV K C):=by
 refine D.ok cg (fun vs H Q E h=>?_) (fun f bM A outer s H vs Q E hr h=>?_)
 ·obtain ⟨fA,dx,pP,pW,pB,lP,lB,us,ck,pins,bars,c,rfl,_⟩:=h
  rfl
 obtain ⟨fA,dx,pP,pW,pB,lP,lB,us,ck,pins,bars,c,rfl,st,q0,q⟩:=h
 have L3:3<=sizeLine:=by decide
 have lu:us.length=pins.length:=Paired.length st.pp
 have lv:ck.length=bars.length:=Paired.length st.pb
 have lp8:=st.lp
 have lb8:=st.lb
 obtain ⟨kP,kW,kB,R,W,nW⟩:=st.fr
 refine ⟨_,(ae (HC (i:=4) cg.nd rfl (aan rfl) (yc:="_law_k") (tn:=["_law_k"]) (fr:=["_law_bars_here"]) (caps:=[2]) rfl ⟨rfl,rfl,by decide+kernel,by decide+kernel,rfl,⟨(by first | exact aan rfl | exact aa_ rfl),trivial⟩,⟨(by first | exact aan rfl | exact aa_ rfl),trivial⟩,fun _ _=>rfl,fun _=>rfl,by decide+kernel,by decide+kernel⟩ (bS rfl bB (ar (aI aE rfl a_ bT (ar (pv 1) aa)) aa)) (fun _ _ _ _=>(aC (i:=0) (show (["_law_k","_law_bars_here"]:List Str).Nodup from by decide+kernel) rfl (aa_ rfl))) (fun _ _ _ _=>(FK (c7 (cU (aI (xP (K:=K) rfl rfl) rfl IW SW (ar (cX (tn:=zaJ) (fr:=["_law_k"]) (caps:=[0]) rfl ⟨rfl,by decide+kernel,rfl,by decide+kernel,by decide+kernel,rfl,⟨(by first | exact aan rfl | exact aa_ rfl),trivial⟩,⟨(by first | exact aan rfl | exact aa_ rfl),trivial⟩⟩ (FV (K:=K) rfl (pv 1)) (fun _ _ _ _=>(aC (i:=0) (show (["_law_bar","_law_k"]:List Str).Nodup from by decide+kernel) rfl (aan rfl))) (fun _ _ _ _=>df) (fun _ _ _ _=>(iy (xa (K:=K) rfl) (pv 1) (eQ (K6 (K:=K) rfl) (pv 0) (dS ah) (dS ah)) rfl))) aa)))))) (fun _ _ _ _=>(pv 0)))
  (ae (bq (aS (mR hr.units) (pv 4) (c_ aa) (a9 _)) (aj (aG ng)) aQ)
  (ae (aH (i:=5) cg.nd rfl (aan rfl) (bw ba (pv 4) (aD cQ hr.mo (pY P w) (ar (pv 3) (ar ah (ar (aI aE rfl a_ bT (ar (pv 4) aa)) aa)))) (fun _ _=>rfl)))
  (ae (aH (i:=6) cg.nd rfl (aan rfl) (gd PySem.F.plainAttrs_list PySem.F.slot_list_pop PySem.F.type_list_pop uB (pv 1) (ar (pv 5) aa)))
  (ae (bf (cK (k:=2) (pv 0) hr.mo (pY P w) (ar (aJ (pv 6)) aa)))
  (ae (bE PassesOwn.never rfl (bS rfl bB (ar (aI aE rfl a_ bT (ar (pv 2) aa)) aa)) (aC (i:=7) cg.nd rfl (aan rfl)) (ae (nh (eQ wK (bw ba (pv 2) (pv 7) (fun _ _=>rfl)) (dS ah) (dS ah)) (fm rfl (bu (aC (i:=8) cg.nd rfl (aan rfl)) (bu (aC (i:=9) cg.nd rfl (aan rfl)) dF))))
   (aj (nh (aL Kr (aV (ar (aJ (bw ba (pv 2) (pv 7) (fun _ _=>rfl))) (ar (aL dr (pv 8) (b8 qH rfl oX FH (ar (iy qG (pv 8) (pv 5) (a9 _)) aa))) (ar (aL dr (pv 9) (b8 qH rfl oX FH (ar (iy qG (pv 9) (pv 5) (a9 _)) aa))) aa)))) (eQ wK (bw ba (pv 2) (pv 7) (fun _ _=>rfl)) (dS ah) ju)) (rM (pv 2) (pv 7) set_list)))))
  (aj (aG (pv 6))))))))),?_⟩
 refine ⟨_,rfl,lP,_,rfl,.inl (a8.of st.hp),((us.length:Nat):Int),rfl,by omega,by omega,fun lF nF=>?_⟩
 refine vg (n:=us.length) (cap:=[some (.ref lB)]) (LJ pins bars) nF (aaq (show us.length<=1000 by omega) (by decide)) (fun i H1 RR hi s1 kk=>?_) (fun i H1 RR r=>⟨_,rfl,r⟩) fun H1 s1 eF=>?_
 ·have Tn:=s1 _ _ st.hb
  refine ⟨_,rfl,lB,rfl,⟨_,a8.of Tn⟩,fun D2 n2=>?_⟩
  refine cH (cap:=[some (.int (i:Int))]) (K:=K) (a:=lB) (xs:=ck) (fun j v _=>∀b,bars[j]? =some b->v=.bl (LI pins i b)) n2 (aaq (show ck.length<=1000 by omega) (by decide)) (fun H2 s2=>a8.of (s2 _ _ Tn)) (fun _ _ _ _ _ _ _ h=>h) ?_ ?_
  ·intro j u H2 R2 hu s2 k2
   obtain ⟨b,eb,a,i1,j1,rfl,h1,g1,g2⟩:=av st.pb hu
   have h2:=Ty.au.bN (s1.trans s2) h1
   refine ⟨_,rfl,_,rfl,1,rfl,3,rfl,a,_,rfl,h2,(by show ¬ (HT.dR 3 0 (some 1)=0/\HT.dR 3 3 (some 3)=3);decide),?_⟩
   rw [NL]
   intro p3 n3;generalize eX:upd _ p3 _=H3;have ⟨s3,e3⟩:=nw n3 eX;clear eX
   refine ⟨p3,_,rfl,.inr (bU.of e3),rfl,rfl,k2 _ _ s3 fun b' JM =>?_⟩
   rw [eb] at JM
   cases JM
   congr 1
   have a1:=NK st.gp.np (i:=i) g1
   have a2:=NK st.gp.np (i:=i) g2
   show Kv (.int (i:Int)) [.int (i1:Int),.int (j1:Int)]=LI pins i b
   unfold LI Kv
   simp only [ahh,List.any_nil,mj,aix]
   have d1:((i1:Int)==(i:Int))=decide ((pins[i]?).map (·.nm)=some b.one.nm):=by
    rw [abq,decide_eq_true_iff,a1,beq_iff_eq]
    omega
   have d2:((j1:Int)==(i:Int))=decide ((pins[i]?).map (·.nm)=some b.other.nm):=by
    rw [abq,decide_eq_true_iff,a2,beq_iff_eq]
    omega
   rw [d1,d2]
  ·intro zs H2 lz hz s2 hD
   have ez:zs=(bars.map (LI pins i)).map V.bl:=by
    refine abo fun j=>?_
    by_cases cj:j < zs.length
    ·obtain ⟨b,eb⟩:∃b,bars[j]? =some b:=⟨_,gE (by omega)⟩
     have e1:zs[j]? =some zs[j]:=gE cj
     rw [e1,hz j _ e1 b eb,Wp,Wp,eb]
     rfl
    ·rw [aaj (by omega),aaj (by rw [aab,aab];omega)]
   rw [ez] at hD
   refine ⟨D2,_,rfl,a8.of hD,_,rfl,?_⟩
   have:=kk _ s2
   unfold LJ at this
   rw [List.any_map]
   exact this
 have st1:=st.same s1
 have R1:=R.same s1
 have W1:=W.same s1
 generalize ef:(abl us.length).filter (LJ pins bars)=fs at eF
 dsimp only [c9]
 refine eg (fun σ' H' =>σ' =[some (.ref fA),some (.ref lP),some (.ref lB),some (.int c),some (.ref lF),none,none,none,none,none]/\au H1 H' /\fs≠[]) (fun Nx qh=>?_) ?_
 ·refine ⟨_,rfl,(by show 0<=sizeLine;decide),?_⟩
  intro l2 n2;generalize eX:upd _ l2 _=H2;have ⟨s2,e2⟩:=nw n2 eX;clear eX
  refine ⟨fs.map fun i:Nat=>Da.v (.int (i:Int)),[],.inr ⟨?_,?_⟩,by cases fs <;> rfl,?_,_,rfl,?_⟩
  ·unfold Is
   exact ⟨lF,_,rfl,a8.of (s2 _ _ eF),vH fs⟩
  ·unfold Is
   refine ⟨l2,_,rfl,a8.of e2,?_⟩
   unfold eA
   trivial
  ·have:∀l:List Nat,dH (l.map fun i:Nat=>Da.v (.int (i:Int)))<=60:=fun l=>by
    induction l with
    | nil=>exact aa6 _
    | cons i l ih=>
     show max (dep (Da.v (.int (i:Int)))) (dH (l.map fun i:Nat=>Da.v (.int (i:Int))))<=60
     have:dep (Da.v (.int (i:Int)))=0:=rfl
     omega
   exact this fs
  ·refine bx (fun _=>?_) (fun cc=>?_)
   ·exact q0 _ (s1.trans s2)
   ·refine qh _ _ ⟨rfl,s2,fun z=>cc ?_⟩
    rw [z]
    rfl
 rintro σ' H2 ⟨rfl,s2,nfs⟩
 have eF2:=s2 _ _ eF
 have jk:=st1.same s2
 have R2:=R1.same s2
 have W2:=W1.same s2
 have lf:0 < fs.length:=by
  cases fs with
  | nil=>exact absurd rfl nfs
  | cons a l=>exact Nat.succ_pos _
 refine ⟨_,rfl,_,rfl,_,rfl,lF,_,rfl,.inl (a8.of eF2),_,_,_,rfl,by decide,by decide,(by rw [aab];omega),?_⟩
 have fi:=aZ (c:=c) (p:=7001) (m:=(((fs.map fun i:Nat=>V.int (i:Int)).length:Nat):Int)) (by rw [aab];omega)
 generalize field c 7001 (((fs.map fun i:Nat=>V.int (i:Int)).length:Nat):Int)=fv at fi ⊢
 rw [aab] at fi
 obtain ⟨fn,rfl⟩:∃n:Nat,fv=(n:Int):=⟨fv.toNat,by omega⟩
 have RH:fn < fs.length:=by omega
 obtain ⟨k,ek⟩:∃k,fs[fn]? =some k:=⟨_,gE RH⟩
 have mk:=be ek
 rw [<- ef] at mk
 obtain ⟨mk1,mk2⟩:=abM.mp mk
 have hk:k < us.length:=abe.mp mk1
 have af:gY (fs.map fun i:Nat=>V.int (i:Int)) (fn:Int)=some (.int (k:Int)):=bV (by rw [Wp,ek];rfl)
 refine ⟨lF,_,_,_,rfl,rfl,a8.of eF2,af,?_⟩
 obtain ⟨p,ep⟩:∃p,pins[k]? =some p:=⟨_,gE (by omega)⟩
 have mp:=be ep
 obtain ⟨y,ey,hy⟩:=av (bG jk.pp) ep
 have hy:ji K H2 lP lB y p:=hy
 have free:∀b∈bars,p.nm≠b.one.nm/\p.nm≠b.other.nm:=fun b hb=>by
  have h1:LI pins k b=false:=by
   cases hc:LI pins k b with
   | false=>rfl
   | true=>
    have:(bars.any (LI pins k))=true:=ahN.mpr ⟨b,hb,hc⟩
    unfold LJ at mk2
    rw [this] at mk2
    cases mk2
  unfold LI at h1
  rw [Bool.or_eq_false_iff] at h1
  have e1:(pins[k]?).map (·.nm)=some p.nm:=by rw [ep];rfl
  refine ⟨fun z=>?_,fun z=>?_⟩
  ·exact absurd (by rw [e1,z]) (of_decide_eq_false h1.1)
  ·exact absurd (by rw [e1,z]) (of_decide_eq_false h1.2)
 refine ⟨_,rfl,.inl ⟨rfl,_,a8.of jk.hp⟩,_,rfl,lP,us,(k:Int),k,y,rfl,rfl,jk.hp,by omega,by omega,GS hk,ey,?_⟩
 have k3:KO pP pW pB lP lB H2 (upd H2 lP (.lst (us.eraseIdx k))):=fun b o _ _ _ n4 _ e=>by rw [ao n4];exact e
 have e3:(upd H2 lP (.lst (us.eraseIdx k))) lP=some (.lst (us.eraseIdx k)):=ak
 have nP:pP≠lP:=fun z=>by have h:=R2.pl;rw [z,jk.hp] at h;cases h
 have Vh:pW≠lP:=fun z=>by have h:=R2.wy;rw [z,jk.hp] at h;cases h
 have nB:pB≠lP:=fun z=>by have h:=R2.br;rw [z,jk.hp] at h;cases h
 have YZ :pP≠lB:=fun z=>by have h:=R2.pl;rw [z,jk.hb] at h;cases h
 have Y0 :pW≠lB:=fun z=>by have h:=R2.wy;rw [z,jk.hb] at h;cases h
 have nB' :pB≠lB:=fun z=>by have h:=R2.br;rw [z,jk.hb] at h;cases h
 have ot:∀b o,b≠lP->H2 b=some o->(upd H2 lP (.lst (us.eraseIdx k))) b=some o:=fun b o n e=>by rw [ao n];exact e
 generalize upd H2 lP (.lst (us.eraseIdx k))=H3 at k3 e3 ot ⊢
 have t3:=jk.t k3
 have R3:dZ K H3 C fA dx pP pW pB (JQ pins) (wg bars) kP kW kB:=R2.bY t3 ((k3.at (jk.away R2.obj (fun _ z=>nomatch z) fun _ z=>nomatch z) R2.obj).trans R2.obj.symm) ((ot _ _ nP R2.pl).trans R2.pl.symm) ((ot _ _ Vh R2.wy).trans R2.wy.symm) ((ot _ _ nB R2.br).trans R2.br.symm)
 have W3:=jk.wys k3 W2 nW
 have hy3:=jk.C_ k3 hy
 obtain ⟨ta,la,sv,ws,rfl,h1,h2,h3,h4,h5,h6⟩:=id hy3
 refine ⟨_,rfl,fA,C,dx,_,_,_,rfl,R3.obj,rfl,MTk,_,rfl,ta,_,_,_,rfl,rfl,h1,rfl,?_⟩
 dsimp only [dQ]
 refine ⟨fA,dx,pP,pW,pB,JQ pins,wg bars,kP,kW,kB,YX pins,p.nm,rfl,R3,W3,by rw [aaE,aaE];rfl,by rw [aaE];exact aad.mpr ⟨p,mp,rfl⟩,fun b hb=>?_,fun H4 pO iM k4 R4 W4 sub=>?_⟩
 ·obtain ⟨b',gi,rfl⟩:=aad.mp hb
  exact free b' gi
 rw [kY (fun p=>(p.nm,oC p.sp)) (fun _=>rfl) st.gp.np ep] at R4
 rw [kY (fun p=>(p.nm,p.ws)) (fun _=>rfl) st.gp.np ep] at W4
 have Y1:KO pP pW pB lP lB H2 H4:=fun b o m1 m2 m3 m4 m5 e=>k4 b o m1 m2 (k3 b o m1 m2 m3 m4 m5 e)
 have LK:H4 lB=some (.lst ck):=k4 _ _ (aaW YZ) (aaW Y0) (ot _ _ (aaW st.ne) jk.hb)
 have hp4:H4 lP=some (.lst (us.eraseIdx k)):=k4 _ _ (aaW nP) (aaW Vh) e3
 have t24:=jk.t Y1
 have pe:∀{us:ζ} {l:ν} {j:Nat},Paired (ji K H4 lP lB) us l->Paired (ji K H4 lP lB) (us.eraseIdx j) (l.eraseIdx j):=fun {us l j} h=>by
  induction h generalizing j with
  | nil=>exact .nil
  | cons x t ih=>
   cases j with
   | zero=>exact t
   | succ j=>exact .cons x ih
 have QX:∀(H5:Hp) (Y2:ζ),(∀b o,b≠lB->H4 b=some o->H5 b=some o)->H5 lB=some (.lst Y2)->Paired (fF K H5 (pins.eraseIdx k)) Y2 bars->WS K H5 C fA dx pP pW pB lP lB (us.eraseIdx k) Y2 (pins.eraseIdx k) bars/\KO pP pW pB lP lB H H5:=fun H5 Y2 k5 NM pb5=>by
  have k25:KO pP pW pB lP lB H2 H5:=fun b o m1 m2 m3 m4 m5 e=>k5 b o m5 (Y1 b o m1 m2 m3 m4 m5 e)
  have t5:aY H4 H5:=fun b xs r=>by
   rcases r with r | ⟨o',r⟩
   ·exact .inl (k5 _ _ (fun z=>by rw [z,LK] at r;cases r) r)
   ·exact .inr ⟨o',k5 _ _ (fun z=>by rw [z,LK] at r;cases r) r⟩
  have nw:∀kv∈iM,kv.2≠.ref lP/\kv.2≠.ref lB:=fun kv ND=>nW kv (sub kv ND)
  refine ⟨⟨⟨pO,iM,kB,R4.bY t5 ((k5 _ _ (fun z=>by have h:=R4.obj;rw [z,LK] at h;cases h) R4.obj).trans R4.obj.symm) ((k5 _ _ YZ R4.pl).trans R4.pl.symm) ((k5 _ _ Y0 R4.wy).trans R4.wy.symm) ((k5 _ _ nB' R4.br).trans R4.br.symm),?_,nw⟩,k5 _ _ st.ne hp4,Paired.bJ (pe (j:=k) (Paired.bJ jk.pp fun _ _ z=>jk.C_ Y1 z)) fun _ _ z=>?_,NM,pb5,st.gp.erase k,⟨st.gb.nb,fun b hb=>?_⟩,?_,st.lb,st.ne⟩,(KO.of (s1.trans s2)).trans k25⟩
  ·refine b9 (Paired.length W4) fun i p' kv e1 e2=>?_
   obtain ⟨S',UC,z1,l,jI,z2,z3,z4⟩:=av W4 e1
   rw [e2] at UC
   cases UC
   exact ⟨z1,l,jI,z2,k5 _ _ (fun z=>(nw _ (be e2)).2 (by rw [z2,z])) z3,z4.aU t5⟩
  ·obtain ⟨a',l',UX,ws',ev',c1,c2,c3,c4,c5,c6⟩:=z
   exact ⟨a',l',UX,ws',ev',t5.bN c1,c2.aU t5,k5 _ _ c6 c3,c4.aU t5,c5,c6⟩
  ·obtain ⟨m1,m2,m3⟩:=st.gb.ends b hb
   obtain ⟨f1,f2⟩:=free b hb
   have ins:∀r∈pins,p.nm≠r.nm->r∈pins.eraseIdx k:=fun r hr ne=>by
    obtain ⟨i,ei⟩:=aas hr
    have ik:i≠k:=fun z=>by
     rw [z,ep] at ei
     cases ei
     exact ne rfl
    exact be ((pj ik).trans ei)
   exact ⟨ins _ m1 f1,ins _ m2 f2,m3⟩
  ·rw [ab0]
   split <;> omega
 refine ⟨_,rfl,lB,_,rfl,.inl (a8.of LK),((ck.length:Nat):Int),rfl,by omega,by omega,bW (lo:=0) (n:=((ck.length:Nat):Int).toNat) (fun i σ H' =>∃(o7 o8 o9:ω) (xs:ζ),σ=[some (.ref fA),some (.ref lP),some (.ref lB),some (.int c),some (.ref lF),some (.int (k:Int)),some (.ref ta),o7,o8,o9]/\(∀b o,b≠lB->H4 b=some o->H' b=some o)/\H' lB=some (.lst xs)/\xs.length=ck.length/\(∀(j:Nat) (u:V) (b:aT),j < i->xs[j]? =some u->bars[j]? =some b->fF K H' (pins.eraseIdx k) u b)/\∀j,i<=j->xs[j]? =ck[j]?) ⟨none,none,none,ck,rfl,fun _ _ _ e=>e,LK,rfl,fun j u b h=>absurd h (abP _),fun _ _=>rfl⟩ ?_ ?_⟩
 ·rintro i σ H5 hi ⟨o7,o8,o9,xs,rfl,k5,NM,lx,Y3,rest⟩
  have ei:(0:Int)+(i:Int)=(i:Int):=aa' _
  rw [ei]
  have OU:i < ck.length:=by omega
  obtain ⟨u,eu⟩:∃u,ck[i]? =some u:=⟨_,gE OU⟩
  obtain ⟨b,eb,a,i1,j1,rfl,Tn,g1,g2⟩:=av jk.pb eu
  obtain ⟨f1,f2⟩:=free b (be eb)
  have t5:aY H4 H5:=fun b xs r=>by
   rcases r with r | ⟨o',r⟩
   ·exact .inl (k5 _ _ (fun z=>by rw [z,LK] at r;cases r) r)
   ·exact .inr ⟨o',k5 _ _ (fun z=>by rw [z,LK] at r;cases r) r⟩
  have ha5:bU K H5 a [.str b.nm,.int (i1:Int),.int (j1:Int)]:=t5.bN (t24.bN Tn)
  have ax:gY xs (i:Int)=some (.ref a):=bV (by rw [rest i (aaf _)];exact eu)
  have n1k:i1≠k:=fun z=>by rw [z,ep] at g1;cases g1;exact f1 rfl
  have n2k:j1≠k:=fun z=>by rw [z,ep] at g2;cases g2;exact f2 rfl
  refine ⟨_,rfl,_,rfl,lB,_,_,_,rfl,rfl,a8.of NM,ax,1,rfl,3,rfl,a,_,rfl,ha5,(by show ¬ (HT.dR 3 0 (some 1)=0/\HT.dR 3 3 (some 3)=3);decide),?_⟩
  rw [NL]
  intro p6 n6;generalize eX:upd _ p6 _=H6;have ⟨s6,e6⟩:=nw n6 eX;clear eX
  refine ⟨p6,_,rfl,bU.of e6,rfl,_,_,rfl,_,_,rfl,rfl,?_⟩
  have hb6:=s6 _ _ NM
  have ha6:=Ty.au.bN s6 ha5
  refine ⟨_,rfl,_,rfl,lB,_,_,_,rfl,rfl,a8.of hb6,ax,a,_,_,_,rfl,rfl,ha6,oZ,?_⟩
  refine ⟨_,rfl,_,rfl,_,rfl,_,_,rfl,rfl,.inr ⟨_,rfl,_,_,rfl,rfl,?_⟩⟩
  refine ⟨_,rfl,_,rfl,_,rfl,_,_,rfl,rfl,.inr ⟨_,rfl,_,_,rfl,rfl,L3,?_⟩⟩
  intro p7 n7;generalize eX:upd _ p7 _=H7;have ⟨s7,e7⟩:=nw n7 eX;clear eX
  have Uw:=s7 _ _ hb6
  have ha7:=Ty.au.bN s7 ha6
  refine ⟨_,rfl,_,rfl,lB,_,_,_,rfl,rfl,a8.of Uw,ax,3,rfl,a,_,rfl,ha7,(by show ¬ (HT.dR 3 0 (some 3)=0/\HT.dR 3 3 none=3);decide),?_⟩
  rw [abw]
  intro p8 n8;generalize eX:upd _ p8 _=H8;have ⟨s8,e8⟩:=nw n8 eX;clear eX
  have e78:=s8 _ _ e7
  have hb8:=s8 _ _ Uw
  refine ⟨p7,p8,_,_,rfl,rfl,bU.of e78,bU.of e8,by simp,(by show 3<=sizeLine;decide),fun _=>?_,fun z=>absurd rfl z⟩
  have ixn:ET xs.length (i:Int)=some i:=xn (by omega)
  refine ⟨_,rfl,_,rfl,lB,_,_,i,rfl,rfl,hb8,ixn,?_⟩
  have Rb:=s6.trans (s7.trans s8)
  have sh:∀m:Nat,((m:Int) - (if decide ((k:Int) < (m:Int))=true then 1 else 0))=(((if k < m then m - 1 else m:Nat)):Int):=fun m=>by
   by_cases cm:k < m
   ·rw [if_pos (decide_eq_true (by omega)),if_pos cm]
    omega
   ·rw [if_neg (by simpa using cm),if_neg cm]
    omega
  have k9:∀b o,b≠lB->H5 b=some o->(upd H8 lB (.lst (xs.set i (.ref p7)))) b=some o:=fun b o n e=>by rw [ao n];exact Rb _ _ e
  have np7:p7≠lB:=fun z=>by rw [z,hb6] at n7;cases n7
  have e79:(upd H8 lB (.lst (xs.set i (.ref p7)))) p7=some (.tup [.str b.nm,.int (((if k < i1 then i1 - 1 else i1:Nat)):Int),.int (((if k < j1 then j1 - 1 else j1:Nat)):Int)]):=by
   rw [ao np7,e78, <- sh i1, <- sh j1]
  have t9:aY H5 (upd H8 lB (.lst (xs.set i (.ref p7)))):=fun b' ys r=>by
   rcases r with r | ⟨o',r⟩
   ·exact .inl (k9 _ _ (fun z=>by rw [z,NM] at r;cases r) r)
   ·exact .inr ⟨o',k9 _ _ (fun z=>by rw [z,NM] at r;cases r) r⟩
  refine ⟨_,_,_,xs.set i (.ref p7),rfl,fun b' o' n e=>k9 _ _ n (k5 _ _ n e),ak,by rw [ai0];exact lx,fun j u' b' hj NI JM =>?_,fun j hj=>?_⟩
  ·by_cases cj:j=i
   ·subst cj
    rw [ahA (by omega)] at NI
    cases NI
    rw [eb] at JM
    cases JM
    exact ⟨p7,_,_,rfl,bU.of e79,(pj n1k).trans g1,(pj n2k).trans g2⟩
   ·rw [ahp (aaW cj)] at NI
    obtain ⟨a',i',j',e',c1,c2,c3⟩:=Y3 j u' b' (by omega) NI JM
    exact ⟨a',i',j',e',t9.bN c1,c2,c3⟩
  ·rw [ahp (by omega)]
   exact rest j (by omega)
 ·rintro σ H5 ⟨o7,o8,o9,xs,rfl,k5,NM,lx,Y3,rest⟩
  have en:((ck.length:Nat):Int).toNat=ck.length:=by omega
  rw [en] at Y3
  have pb5:Paired (fF K H5 (pins.eraseIdx k)) xs bars:=b9 (by omega) fun j u b e1 e2=>Y3 j u b (by have:=(ir.mp e1).1;omega) e1 e2
  obtain ⟨w5,ko⟩:=QX H5 xs k5 NM pb5
  refine ⟨_,rfl,q k p (.ref ta) _ xs H5 ep ko w5 ?_⟩
  have ta4:=jk.C_ Y1 hy
  obtain ⟨a',l',UX,ws',ev',c1,c2,c3,c4,c5,c6⟩:=ta4
  have t5:aY H4 H5:=fun b xs r=>by
   rcases r with r | ⟨o',r⟩
   ·exact .inl (k5 _ _ (fun z=>by rw [z,LK] at r;cases r) r)
   ·exact .inr ⟨o',k5 _ _ (fun z=>by rw [z,LK] at r;cases r) r⟩
  exact ⟨a',l',UX,ws',ev',t5.bN c1,c2.aU t5,k5 _ _ c6 c3,c4.aU t5,c5,c6⟩
theorem LL (r:Rat)(n:Int):f_ (qr r) (n,1)=qr (r+(n:Rat)):=by
 have e:f_ (qr r) (n,1)=((qr r).1+n*(qr r).2,(qr r).2):=by
  unfold f_
  simp
 have g:abm ((qr r).1+n*(qr r).2) (qr r).2=1:=by
  have:=oz r
  rw [<- this]
  simp
 rw [e,qZ (q:=((qr r).1+n*(qr r).2,(qr r).2)) (dw r) g]
 congr 1
 have z:=w4 (r:=r)
 have v:=gu r
 unfold vl at v ⊢
 push_cast
 grind
inductive Qh (K:Frag)(C:Addr)(vs:ζ)(H:Hp)(Q:VK)(E_:XK):Prop where
 | mk (fA dx pP pW pB lP lB:Addr) (us ck :ζ) (pins:ν) (bars:π) (g:V) (c:Int) (_:vs=[.ref fA,.ref lP,g,.int c]) (_:WS K H C fA dx pP pW pB lP lB us ck pins bars) (_:pins.length<=7) (_:((g=.cB/\∀p∈pins,p.nm≠ "far"/\p.sp.1<=1000001)\/∃p,ji K H lP lB g p/\p.nm∉pins.map (·.nm)/\p.sp∉pins.map (·.sp)/\Sz 44 p.sp.1/\Sz 20 p.sp.2/\ -500002<=p.sp.2/\∀q∈pins,q.sp.2<=500002)) (_:∀(p:aA) (jI :ζ) (H' :Hp),KO pP pW pB lP lB H H' ->WS K H' C fA dx pP pW pB lP lB jI ck (pins++[p]) bars->Q .cB H'):Qh K C vs H Q E_
theorem f':aF ["_law_frame_here","_law_pins_here","_law_gone","_law_cell","_law_spot_here","_law_up"] zak (ag dj):=sq
theorem qi {C:Addr}(D:Def K mg "_law_pin_in" dj zak)(cQ:Fn P w K mg base (bg P w) 1 "_law_field" zab ed)(LC:Fn P w K mg base (bg P w) 34 "_law_ways" zaM (m7 K))(tq:Fn P w K mg base (bg P w) 1 "_law_sum" zad (dz K f_))
  (iW:Fn P w K mg base (bg P w) 4 "_law_put_pin" zac (xO K C)):
  Fn P w K mg base (bg P w) 35 "_law_pin_in" zak (Qh K C):=by
 refine D.ok f' (fun vs H Q E h=>?_) (fun f bM A outer s H vs Q E hr h=>?_)
 ·obtain ⟨fA,dx,pP,pW,pB,lP,lB,us,ck,pins,bars,g,c,rfl,_⟩:=h
  rfl
 obtain ⟨fA,dx,pP,pW,pB,lP,lB,us,ck,pins,bars,g,c,rfl,st,lp7,hg,q⟩:=h
 have L2:2<=sizeLine:=by decide
 refine ⟨_,(aj (bq (aS wz (pv 2) ng (a9 _)) (ae (aH (i:=4) f'.nd rfl (aan rfl) (aV (ar (aV (ar ah (ar ah aa))) (ar (aV (ar (aD cQ hr.mo pX (ar (pv 3) (ar ah (ar ah aa)))) (ar ah aa))) aa))))
   (aj (bf (aD iW hr.mo pX (ar (pv 0) (ar (pv 1) (ar i0 (ar (pv 4) (ar (aD LC hr.mo pX (ar (pv 3) aa)) aa))))))))) (ae (aH (i:=5) f'.nd rfl (aan rfl) (aD tq hr.mo pX (ar (aJ (aJ (pv 2))) (ar (aV (ar (aL cF ah (aD cQ hr.mo pX (ar (pv 3) (ar ah (ar ah aa))))) (ar ah aa))) aa))))
   (aj (bf (aD iW hr.mo pX (ar (pv 0) (ar (pv 1) (ar (aJ (pv 2)) (ar (aV (ar (aJ (aJ (pv 2))) (ar (pv 5) aa))) (ar (aD LC hr.mo pX (ar (pv 3) aa)) aa))))))))))),?_⟩
 refine ⟨_,rfl,rfl,_,rfl,?_⟩
 rcases hg with ⟨rfl,hf⟩ | ⟨p,hy,Rm,pZ,z1,z2,yb,qb⟩
 ·refine bx (fun _=>?_) (fun cc=>absurd (by decide) cc)
  have i2:=aZ (c:=c) (p:=2003) (m:=99) (by decide)
  refine ⟨L2,?_⟩
  intro p1 n1;generalize eX:upd _ p1 _=H1;have ⟨s1,e1⟩:=nw n1 eX;clear eX
  refine ⟨_,rfl,_,_,_,rfl,by decide,by decide,by decide,L2,?_⟩
  intro p2 n2;generalize eX:upd _ p2 _=H2;have ⟨s2,e2⟩:=nw n2 eX;clear eX
  refine ⟨L2,?_⟩
  intro p3 n3;generalize eX:upd _ p3 _=H3;have ⟨s3,e3⟩:=nw n3 eX;clear eX
  have rF:=s1.trans (s2.trans s3)
  refine ⟨_,rfl,_,rfl,_,rfl,_,rfl,_,rfl,fun l8 UY ws H8 wk s8 n8 e8 p8=>?_⟩
  try dsimp only [dQ]
  have hpt:fe K H3 (.ref p3) (((2000003:Int):Rat),((field c 2003 99:Int):Rat)):=jU e3 ((oQ _ e1).same (s2.trans s3)) ((oQ _ e2).same s3)
  have fr:=(st.same rF).fresh n8
  refine ⟨fA,dx,pP,pW,pB,lP,lB,us,ck,pins,bars,.ref p3,l8,UY,⟨"far",(((2000003:Int):Rat),((field c 2003 99:Int):Rat)),ws⟩,rfl,st.same (rF.trans s8),hpt.same s8,e8,p8,⟨fr.2.2.2.1,fr.2.2.2.2⟩,fun z=>?_,fun z=>?_,⟨?_,?_⟩,wk,lp7,fun jI H' k' W' =>q _ jI H' ((KO.of (rF.trans s8)).trans k') W'⟩
  ·obtain ⟨p',kJ,e'⟩:=aad.mp z
   exact (hf p' kJ).1 e'
  ·obtain ⟨p',kJ,e'⟩:=aad.mp z
   have h1:=(hf p' kJ).2
   rw [e'] at h1
   have h2:((2000003:Int):Rat)<=1000001:=h1
   exact absurd h2 (by decide+kernel)
  ·exact kA (by decide) (by decide)
  ·exact kA (aaI (show _ < 128 by omega) (by decide)) (by decide)
 ·obtain ⟨ta,la,sv,ws0,rfl,h1,h2,h3,h4,h5,h6⟩:=id hy
  obtain ⟨sa,x1,y1,rfl,tu,P4,JF⟩:=h2
  refine bx (fun cc=>absurd (of_decide_eq_true cc) (fun z=>nomatch z)) (fun _=>?_)
  have i2:=aZ (c:=c) (p:=3001) (m:=2) (by decide)
  refine ⟨_,rfl,ta,_,_,_,rfl,rfl,h1,rfl,sa,_,_,_,rfl,rfl,tu,ip,_,rfl,_,_,_,rfl,by decide,by decide,by decide,_,_,rfl,rfl,⟨by decide+kernel,aai (intBits_le_64 (by omega) (by omega)) (by decide)⟩,L2,?_⟩
  intro p2 n2;generalize eX:upd _ p2 _=H2;have ⟨s2,e2⟩:=nw n2 eX;clear eX
  try dsimp only [dQ]
  generalize field c 3001 2=fv at i2 e2 ⊢
  have nb:Ns 22 (4000037*fv,(1:Int)):=⟨by show (4000037*fv).natAbs<=4194304;omega,by show 1<=2^22;decide⟩
  refine ⟨y1,.ref p2,qr p.sp.2,(4000037*fv,1),20,22,rfl,JF.same s2,⟨p2,rfl,bU.of e2⟩,NG z2,nb,by decide,fun p5 H5 s5 e5=>?_⟩
  rw [LL] at e5
  have sO:=s2.trans s5
  have dB :=Ty.au.bN sO h1
  have abF :=Ty.au.bN sO tu
  refine ⟨_,rfl,_,rfl,_,rfl,ta,_,_,_,rfl,rfl,dB,oZ,_,rfl,ta,_,_,_,rfl,rfl,dB,rfl,sa,_,_,_,rfl,rfl,abF,g9,_,rfl,L2,?_⟩
  intro p6 n6;generalize eX:upd _ p6 _=H6;have ⟨s6,e6⟩:=nw n6 eX;clear eX
  have wd:=sO.trans s6
  refine ⟨_,rfl,_,rfl,fun l8 UY ws H8 wk s8 n8 e8 p8=>?_⟩
  try dsimp only [dQ]
  have hpt:fe K H6 (.ref p6) (p.sp.1,p.sp.2+((4000037*fv:Int):Rat)):=jU e6 (P4.same wd) ((jT e5).same s6)
  have fr:=(st.same wd).fresh n8
  refine ⟨fA,dx,pP,pW,pB,lP,lB,us,ck,pins,bars,.ref p6,l8,UY,⟨p.nm,(p.sp.1,p.sp.2+((4000037*fv:Int):Rat)),ws⟩,rfl,st.same (wd.trans s8),hpt.same s8,e8,p8,⟨fr.2.2.2.1,fr.2.2.2.2⟩,Rm,fun z=>?_,⟨z1,?_⟩,wk,lp7,fun jI H' k' W' =>q _ jI H' ((KO.of (wd.trans s8)).trans k') W'⟩
  ·obtain ⟨p',kJ,e'⟩:=aad.mp z
   have two:fv=0\/fv=1:=by omega
   rcases two with rfl | rfl
   ·refine pZ (aad.mpr ⟨p',kJ,e'.trans ?_⟩)
    refine ahQ rfl ?_
    show p.sp.2+((4000037*0:Int):Rat)=p.sp.2
    have:((4000037*0:Int):Rat)=0:=by decide+kernel
    rw [this]
    grind
   ·have h1:=qb p' kJ
    rw [e'] at h1
    have h2:p.sp.2+((4000037*1:Int):Rat)<=500002:=h1
    have:((4000037*1:Int):Rat)=4000037:=by decide+kernel
    rw [this] at h2
    grind
  ·exact (z2.add (kA (i:=4000037*fv) (k:=22) (by show _ < 4194304;omega) (by decide))).up (by decide)
mutual
theorem LM {H:Hp}:∀(d:Da) (x:V),Is K H d x->alike d d=true/\gf d d=true
 | .v a,x,h=>by
  unfold Is at h
  unfold alike gf
  exact ⟨rfl,uF h.2⟩
 | .t ds,x,h=>by
  unfold Is at h
  unfold alike gf
  obtain ⟨p,xs,_,_,k⟩:=h
  exact gA ds xs k
 | .l ds,x,h=>by
  unfold Is at h
  unfold alike gf
  obtain ⟨p,xs,_,_,k⟩:=h
  exact gA ds xs k
theorem gA {H:Hp}:∀(ds:List Da) (xs:ζ),eA K H ds xs->dc ds ds=true/\cW ds ds=true
 | [],_,_=>⟨rfl,rfl⟩
 | d::ds,[],h=>by unfold eA at h;exact h.elim
 | d::ds,x::xs,h=>by
  unfold eA at h
  unfold dc cW
  obtain ⟨a1,a2⟩:=LM d x h.1
  obtain ⟨b1,b2⟩:=gA ds xs h.2
  rw [a1,a2,b1,b2]
  exact ⟨rfl,rfl⟩
end
theorem pD {α:Type}{f:α->Da}(h:∀a,dep (f a)<=60):∀l:List α,dH (l.map f)<=60
 | []=>aa6 _
 | a::l=>by
  show max (dep (f a)) (dH (l.map f))<=60
  have h1:=h a
  have h2:=pD h l
  omega
theorem gU {α:Type}{H:Hp}{f:α->Da}{R:V->α->Prop}(h:∀u a,R u a->Is K H (f a) u):∀{us:ζ} {l:List α},Paired R us l->eA K H (l.map f) us
 | [],[],.nil=>by
  unfold eA
  trivial
 | _::_,_::_,.cons z t=>by
  show eA K H (_::_) _
  unfold eA
  exact ⟨h _ _ z,gU h t⟩
theorem xQ {H:Hp}(x:Str):Is K H (.v (.str x)) (.str x):=by
 unfold Is
 exact ⟨rfl,rfl⟩
theorem C' (xs:ρ):Paired (fun u (x:Str)=>u=V.str x) (xs.map V.str) xs:=by
 induction xs with
 | nil=>exact .nil
 | cons x xs ih=>exact .cons rfl ih
theorem zf {H:Hp}{l:Addr}{xs:ρ}(h:a8 K H l (xs.map V.str)):Is K H (.l (xs.map fun x=>.v (.str x))) (.ref l):=by
 unfold Is
 exact ⟨l,_,rfl,h,gU (fun u a z=>by rw [z];exact xQ a) (C' xs)⟩
theorem abG {H:Hp}{ds:List Da}{x y:V}{Q:VK}(h1:Is K H (.l ds) x)(h2:Is K H (.l ds) y)(hd:dH ds<=60)(q:Q (.bl false) H):uG K x y H Q:=by
 have h:=h1
 unfold Is at h
 obtain ⟨p,xs,_,_,k⟩:=h
 obtain ⟨b1,b2⟩:=gA ds xs k
 refine ⟨ds,ds,.inr ⟨h1,h2⟩,b1,hd,?_⟩
 rw [b2]
 exact q
theorem Qi {H:Hp}{ds:List Da}{x y:V}{Q:VK}(h1:Is K H (.t ds) x)(h2:Is K H (.t ds) y)(hd:dH ds<=60)(q:Q (.bl false) H):uG K x y H Q:=by
 have h:=h1
 unfold Is at h
 obtain ⟨p,xs,_,_,k⟩:=h
 obtain ⟨b1,b2⟩:=gA ds xs k
 refine ⟨ds,ds,.inl ⟨h1,h2⟩,b1,hd,?_⟩
 rw [b2]
 exact q
abbrev Qj (r:Rat):List Da:=[.v (.int (qr r).1),.v (.int (qr r).2)]
theorem ma {H:Hp}{v:V}{r:Rat}(h:fW K H v r):Is K H (.t (Qj r)) v:=by
 obtain ⟨p,rfl,h⟩:=h
 unfold Is
 refine ⟨p,_,rfl,h,?_⟩
 unfold eA
 refine ⟨by unfold Is;exact ⟨rfl,rfl⟩,?_⟩
 unfold eA
 refine ⟨by unfold Is;exact ⟨rfl,rfl⟩,?_⟩
 unfold eA
 trivial
theorem xR (r:Rat):dH (Qj r)<=60:=by
 show max 0 (max 0 0)<=60
 decide
inductive IX (K:Frag)(vs:ζ)(H:Hp)(Q:VK)(E_:XK):Prop where
 | mk (lP lB lN p:Addr) (us ck :ζ) (pins:ν) (bars:π) (kvs:γ) (os:List dy) (o:dy) (kT kU:γ) (_:vs=[.ref lP,.ref lB,.ref lN,.str o.1.1,.ref p]) (_:LG K H lP lB us ck pins bars) (_:(bars.map (·.nm)).Nodup) (_:gy K H pins bars kvs os 110000) (_:o∈os) (_:vy K H pins bars 110000 o p kT kU) (_:H lN=some (.lst ((os.map (·.1.1)).map V.str))) (_:∀H',au H H' ->Q (.bl true) H'):IX K vs H Q E_
theorem gW:aF ["_law_pins_here","_law_bars_here","_law_names","_law_name_here","_law_pair","_law_behind","_law_bar"] zae (ag fk):=sq
theorem xS (D:Def K mg "_law_one" fk zae)(bC:mg "isinstance"=none)(iJ:mg "tuple"=none)(a_:mg "len"=none)(abH:Fn P w K mg base (bg P w) 35 "_law_are_forces" zaa (xN K))(abI:Fn P w K mg base (bg P w) 4 "_law_at_rest" zaf (pd K)):
  Fn P w K mg base (bg P w) 36 "_law_one" zae (IX K):=by
 refine D.ok gW (fun vs H Q E h=>?_) (fun f bM A outer s H vs Q E hr h=>?_)
 ·obtain ⟨lP,lB,lN,p,us,ck,pins,bars,kvs,os,o,kT,kU,rfl,_⟩:=h
  rfl
 obtain ⟨lP,lB,lN,p,us,ws,pins,bars,kvs,os,o,kT,kU,rfl,fr,nb,mo,ho,ow,hN,q⟩:=h
 have L2:2<=sizeLine:=by decide
 have LN:∀{H' :Hp},au H H' ->bU K H' p [.ref o.2.1,.ref o.2.2.1]:=fun {H'} s' =>Ty.au.bN s' ow.hp
 have pl:=ow.pl
 refine ⟨_,(ae (bq (PW.pt (lJ (c7 (cU (aI qV rfl bC cz (ar (pv 4) (ar (lR rfl iJ yv) aa))))) (g_ (aS lK (aI aE rfl a_ bT (ar (pv 4) aa)) ah (a9 _))))) (aj (aG cP)) aQ)
  (ae (bq (c7 (cU (aD abH hr.mo pX (ar (pv 0) (ar (pv 1) (ar (aJ (pv 4)) (ar (aJ (pv 4)) aa))))))) (aj (aG cP)) aQ)
  (ae (bq (c7 (cU (aD abI hr.mo pX (ar (pv 0) (ar (pv 1) (ar (aJ (pv 4)) (ar (aJ (pv 4)) (ar eR aa)))))))) (aj (aG cP)) aQ)
  (ae (aH (i:=5) gW.nd rfl (aan rfl) cP)
  (ae (bE PassesOwn.never rfl (bD (pv 1)) (aC (i:=6) gW.nd rfl (aan rfl)) (aj (bq (aS eh (aJ (pv 6)) (pv 3) (a9 _)) (ae (aH (i:=5) gW.nd rfl (aan rfl) cP)
    (aj (bq (aS (jy hr.units) (cA (bX hr) (aJ (pv 4)) (pv 3) (fun _ _=>rfl)) (aV (ar ah (ar ah aa))) (a9 _)) (aj (aG cP)) aQ))) (aj (bq (PW.pt (wm (PW.pt (lJ (cU (pv 5)) (g_ (aS ke (aJ (pv 6)) (pv 2) rfl)))) (rL (aS (jy hr.units) (cA (bX hr) (aJ (pv 4)) (aJ (pv 6)) (fun _ _=>rfl)) (aV (ar ah (ar ah aa))) (a9 _))))) (aj (aG cP)) aQ)))))
  (aj (aG cP))))))),?_⟩
 refine ⟨_,rfl,p,_,rfl,LN (au.refl _),_,rfl,?_⟩
 refine bx (fun c=>nomatch c) (fun _=>?_)
 refine ⟨_,rfl,p,_,rfl,.inr (LN (au.refl _)),rfl,_,rfl,?_⟩
 refine M6 rfl ?_
 refine ⟨_,rfl,_,rfl,_,rfl,p,_,_,_,rfl,rfl,LN (au.refl _),g9,_,rfl,p,_,_,_,rfl,rfl,LN (au.refl _),ip,lP,lB,o.2.1,o.2.2.1,us,ws,pins,bars,kT,kU,o.1.2.1,o.1.2.2,110000,rfl,fr,pl,fun H1 s1=>⟨_,rfl,?_⟩⟩
 refine bx (fun c=>nomatch c) (fun _=>?_)
 refine ⟨_,rfl,_,rfl,_,rfl,p,_,_,_,rfl,rfl,LN s1,g9,_,rfl,p,_,_,_,rfl,rfl,LN s1,ip,?_⟩
 intro dL nL;generalize eX:upd _ dL _=H2;have ⟨sL,eL⟩:=nw nL eX;clear eX
 have v_:=s1.trans sL
 refine ⟨lP,lB,o.2.1,o.2.2.1,dL,us,ws,pins,bars,kT,kU,o.1.2.1,o.1.2.2,110000,rfl,fr.same v_,pl.same v_,by decide,eL,mo.no o ho,fun H3 s3=>⟨_,rfl,?_⟩⟩
 refine bx (fun c=>nomatch c) (fun _=>?_)
 have rF:=v_.trans s3
 refine ⟨_,rfl,lB,rfl,⟨_,a8.of (rF _ _ fr.hb)⟩,cv (K:=K) (a:=lB) (xs:=ws) (fun i σ H' =>∃(bh:Bool) (o6:ω),σ=[some (.ref lP),some (.ref lB),some (.ref lN),some (.str o.1.1),some (.ref p),some (.bl bh),o6]/\au H H' /\(bh=true->∃k b,k < i/\bars[k]? =some b/\b.nm=o.1.1)) ⟨false,none,rfl,rF,fun z=>nomatch z⟩ (fun i σ H' _ h=>by
   obtain ⟨_,_,_,s,_⟩:=h
   exact a8.of (s _ _ fr.hb)) ?_ ?_⟩
 ·rintro i u σ H4 hu ⟨bh,o6,rfl,s4,hbh⟩
  obtain ⟨b,eb,c,i1,i2,rfl,h1,_⟩:=av fr.pb hu
  have mb:=be eb
  have hq:∀{H' :Hp},au H H' ->bU K H' c [.str b.nm,.int (i1:Int),.int (i2:Int)]:=fun {H'} s' =>Ty.au.bN s' h1
  have dg:∀{H' :Hp} {b' :aT},au H H' ->b' ∈bars->∃v,cL H' o.2.1 (.str b'.nm) (some v)/\fW K H' v (o.1.2.1 b'.nm):=fun {H' b'} s' gi =>by
   obtain ⟨v,a,n⟩:=pl.tT b' gi
   refine ⟨v,?_,n.same s'⟩
   have:=cL.k (k:=.inr b'.nm) (s' _ _ pl.hT)
   rw [a] at this
   exact this
  refine ⟨_,rfl,c,_,_,_,rfl,rfl,hq s4,rfl,_,rfl,rfl,_,rfl,?_⟩
  refine bx (fun c1=>?_) (fun c1=>?_)
  ·have en:b.nm=o.1.1:=by simpa [mj] using c1
   obtain ⟨v,gv,nv⟩:=dg s4 mb
   rw [en] at gv nv
   rw [mo.one o ho] at nv
   refine ⟨_,rfl,p,_,_,_,rfl,rfl,LN s4,g9,_,rfl,o.2.1,_,rfl,gv,L2,?_⟩
   intro t5 n5;generalize eX:upd _ t5 _=H5;have ⟨s5,e5⟩:=nw n5 eX;clear eX
   refine Qi (ma (nv.same s5)) (ma (r:=1) ⟨t5,rfl,by rw [oJ];exact bU.of e5⟩) (xR _) ⟨_,rfl,?_⟩
   refine bx (fun c=>nomatch c) (fun _=>?_)
   exact ⟨true,_,rfl,s4.trans s5,fun _=>⟨i,b,aba _,eb,en⟩⟩
  ·have en:¬ b.nm=o.1.1:=by simpa [mj] using c1
   have up:bh=true->∃k b,k < i+1/\bars[k]? =some b/\b.nm=o.1.1:=fun z=>by
    obtain ⟨k,b',h,r⟩:=hbh z
    exact ⟨k,b',ab1 h,r⟩
   obtain ⟨v,gv,nv⟩:=dg s4 mb
   have z0:bh=true\/b.nm∈os.map (·.1.1)->o.1.2.1 b.nm=0:=fun z=>by
    rcases z with z | z
    ·obtain ⟨k,b',h,e',r⟩:=hbh z
     exact mo.beh o ho k i b' b e' r eb h
    ·obtain ⟨o',DZ,e'⟩:=aad.mp z
     rw [<- e']
     exact mo.JH o ho o' DZ (by rw [e'];exact en)
   refine ⟨_,rfl,_,rfl,?_⟩
   refine bx (fun cb=>?_) (fun cb=>?_)
   ·rw [z0 (.inl cb)] at nv
    refine ⟨_,rfl,p,_,_,_,rfl,rfl,LN s4,g9,_,rfl,c,_,_,_,rfl,rfl,hq s4,rfl,o.2.1,_,rfl,gv,L2,?_⟩
    intro t5 n5;generalize eX:upd _ t5 _=H5;have ⟨s5,e5⟩:=nw n5 eX;clear eX
    refine Qi (ma (nv.same s5)) (ma (r:=0) ⟨t5,rfl,by rw [cu];exact bU.of e5⟩) (xR _) ⟨_,rfl,?_⟩
    refine bx (fun c=>nomatch c) (fun _=>?_)
    exact ⟨bh,_,rfl,s4.trans s5,up⟩
   ·refine ⟨_,rfl,c,_,_,_,rfl,rfl,hq s4,rfl,_,rfl,lN,_,rfl,.inl (a8.of (s4 _ _ hN)),rfl,(by rw [aiH];exact aid.mpr fun _ _=>rfl),_,rfl,?_⟩
    refine bx (fun cn=>?_) (fun cn=>?_)
    ·have cn' :Kv (.str b.nm) ((os.map (·.1.1)).map V.str)=true:=cn
     rw [u5,decide_eq_true_iff] at cn'
     rw [z0 (.inr cn')] at nv
     refine ⟨_,rfl,p,_,_,_,rfl,rfl,LN s4,g9,_,rfl,c,_,_,_,rfl,rfl,hq s4,rfl,o.2.1,_,rfl,gv,L2,?_⟩
     intro t5 n5;generalize eX:upd _ t5 _=H5;have ⟨s5,e5⟩:=nw n5 eX;clear eX
     refine Qi (ma (nv.same s5)) (ma (r:=0) ⟨t5,rfl,by rw [cu];exact bU.of e5⟩) (xR _) ⟨_,rfl,?_⟩
     refine bx (fun c=>nomatch c) (fun _=>?_)
     exact ⟨bh,_,rfl,s4.trans s5,up⟩
    ·refine bx (fun c=>nomatch c) (fun _=>?_)
     exact ⟨bh,_,rfl,s4,up⟩
 ·rintro σ H4 ⟨bh,o6,rfl,s4,_⟩
  exact q _ s4
theorem xT {α:Type}[DecidableEq α]:∀{l' l:List α},aht l' l->l.Nodup->l.filter (fun x=>decide (x∈l'))=l' :=by
 intro l' l h
 induction h with
 | slnil=>
  intro _
  rfl
 | @cons l1 l2 a hs ih=>
  intro nd
  rw [aaX] at nd
  rw [ab3 (by simpa using fun z=>nd.1 (hs.subset z)),ih nd.2]
 | @cons_cons l1 l2 a hs ih=>
  intro nd
  rw [aaX] at nd
  rw [ab2 (by simp)]
  congr 1
  have e:l2.filter (fun x=>decide (x∈a::l1))=l2.filter (fun x=>decide (x∈l1)):=aiO fun x hx=>by
   rw [abq,decide_eq_true_iff,decide_eq_true_iff]
   constructor
   ·intro z
    rcases aaN.mp z with z | z
    ·exact absurd (by rw [<- z];exact hx) nd.1
    ·exact z
   ·exact fun z=>aae _ z
  rw [e,ih nd.2]
theorem IY {α:Type}[DecidableEq α]{l' l:List α}(h:aht l' l)(nd:l.Nodup){p:α->Bool}(hp:∀x,p x=true ↔ x∈l'):l.filter p=l' :=
 (aiO fun x _=>by rw [abq,hp,decide_eq_true_iff]).trans (xT h nd)
theorem xU {D:Addr}{te:TE}{tt:TT}{cap:L2.St}{H1:Hp}{Q:VK}{a:Addr}{α:Type}{xs:ζ}{zs:List α}{Rl:V->α->Prop}(p:α->Bool)(f:α->V)(hp:Paired Rl xs zs)(nD:H1 D=none)(hn:xs.length < sizeLine)(hS:∀H,au H1 H->a8 K H a xs)
  (ht:∀x z H (R:Bool->Hp->Prop),Rl x z->au H1 H->R (p z) H->tt (some x::cap) H R)
  (he:∀x z H (R:VK),Rl x z->au H1 H->R (f z) H->te (some x::cap) H R)
  (hd:∀H,au H1 H->H D=some (.lst ((zs.filter p).map f))->Q (.ref D) H):
  km D (c9 0) tt te (JE K a) (none::cap) H1 Q:=by
 have lz:xs.length=zs.length:=Paired.length hp
 refine ⟨fun i m σ ys H=>m=xs.length - i/\i<=xs.length/\(∃o,σ=o::cap)/\au H1 H/\H D=some (.lst ys)/\ys=((zs.take i).filter p).map f/\ys.length<=i,⟨xs.length,by simp,aa6 _,⟨none,rfl⟩,fun b o e=>by rw [ao (aq e nD)];exact e,ak,by simp,aaf _⟩,?_⟩
 rintro i m σ ys H ⟨rfl,hi,⟨o,rfl⟩,s,hD,ey,ly⟩
 by_cases jm:i < xs.length
 ·refine .inr ⟨⟨xs,xs[i],hS H s,gE jm⟩,fun v H' y=>?_⟩
  obtain ⟨rfl,y2⟩:=y
  have q1:=y2 xs (hS _ s)
  obtain ⟨z,ez,hz⟩:=av hp q1
  unfold c9
  refine ht v z _ _ hz s ?_
  by_cases c:p z=true
  ·rw [if_pos c]
   refine he v z _ _ hz s ⟨hD,by omega,xs.length - (i+1),by omega,rfl,by omega,⟨_,rfl⟩,?_,ak,?_,by simp;omega⟩
   ·exact fun b o e=>by
     rw [ao (aq e nD)]
     exact s _ _ e
   ·rw [take_snoc ez,ab8,ab2 c,aaH,ey]
    rfl
  ·rw [if_neg c]
   exact ⟨xs.length - (i+1),by omega,rfl,by omega,⟨_,rfl⟩,s,hD,by rw [take_snoc ez,ab8,ab3 c,aaH,ey];simp,by omega⟩
 ·have e:i=xs.length:=by omega
  subst e
  refine .inl ⟨⟨xs,hS _ s,aaf _⟩,hd H s ?_⟩
  rw [lz,abf] at ey
  rw [<- ey]
  exact hD
section
variable {H:Hp}{pins:ν}{bars:π}{kvs:γ}{os:List dy}{N:Nat}
theorem gy.keys (h:gy K H pins bars kvs os N):kvs.map (·.1)=os.map fun o=>(abc o.1.1:Key):=by
 refine abo fun i=>?_
 rw [Wp,Wp]
 have l:=Paired.length h.pr
 by_cases hi:i < kvs.length
 ·obtain ⟨o,eo,_,_,_,e,_⟩:=av h.pr (gE hi)
  rw [eo,gE hi,e]
  rfl
 ·rw [aaj (by omega),aaj (by omega)]
  rfl
theorem gy.nk (h:gy K H pins bars kvs os N)(nb:(bars.map (·.nm)).Nodup):(kvs.map (·.1)).Nodup:=by
 rw [h.keys,show (os.map fun o=>(abc o.1.1:Key))=(os.map (·.1.1)).map abc by rw [aaE];rfl]
 exact aiP _ (fun a b n z=>n (by injection z)) (h.sub.nodup nb)
theorem gy.has (h:gy K H pins bars kvs os N)(x:Str):(bR kvs (.inr x)).isSome=decide (x∈os.map (·.1.1)):=by
 rw [abq,decide_eq_true_iff,ahv]
 constructor
 ·rintro ⟨v,e⟩
  have m:(abc x:Key)∈kvs.map (·.1):=aad.mpr ⟨_,u0 e,rfl⟩
  rw [h.keys] at m
  obtain ⟨o,ho,e'⟩:=aad.mp m
  exact aad.mpr ⟨o,ho,abx e'⟩
 ·intro m
  obtain ⟨o,ho,rfl⟩:=aad.mp m
  exact eI (by rw [h.keys];exact aad.mpr ⟨o,ho,rfl⟩)
theorem gy.names (h:gy K H pins bars kvs os N)(nb:(bars.map (·.nm)).Nodup):((bars.filter fun b=>(bR kvs (.inr b.nm)).isSome).map fun b=>V.str b.nm)=(os.map (·.1.1)).map V.str:=by
 have e:=IY h.sub nb (p:=fun x=>(bR kvs (.inr x)).isSome) (fun x=>by rw [h.has x,decide_eq_true_iff])
 rw [<- e,List.filter_map,aaE]
 rfl
end
inductive m8 (K:Frag)(vs:ζ)(H:Hp)(Q:VK)(E_:XK):Prop where
 | mk (lP lB dm:Addr) (us ck :ζ) (pins:ν) (bars:π) (kvs:γ) (os:List dy) (_:vs=[.ref lP,.ref lB,.ref dm]) (_:LG K H lP lB us ck pins bars) (_:(bars.map (·.nm)).Nodup) (_:gy K H pins bars kvs os 110000) (_:H dm=some (.dK kvs)) (_:∀H',au H H' ->Q (.bl true) H'):m8 K vs H Q E_
theorem NO:aF ["_law_pins_here","_law_bars_here","_law_told","_law_names"] zaq (ag BS):=sq
theorem Vj (D:Def K mg "_law_right" BS zaq)(bC:mg "isinstance"=none)(f7:mg "dict"=none)(bO:mg "list"=none)(o_:mg "all"=none)
  (DA:Fn P w K mg base (bg P w) 36 "_law_one" zae (IX K)):
  Fn P w K mg base (bg P w) 37 "_law_right" zaq (m8 K):=by
 refine D.ok NO (fun vs H Q E h=>?_) (fun f bM A outer s H vs Q E hr h=>?_)
 ·obtain ⟨lP,lB,dm,us,ck,pins,bars,kvs,os,rfl,_⟩:=h
  rfl
 obtain ⟨lP,lB,dm,us,ck,pins,bars,kvs,os,rfl,fr,nb,mo,hm,q⟩:=h
 have lvb:ck.length=bars.length:=Paired.length fr.pb
 have lb:=fr.lb
 have lm:=mo.lm
 have lk:kvs.length=os.length:=Paired.length mo.pr
 refine ⟨_,(ae (bq (c7 (cU (aI gh rfl bC cz (ar (pv 2) (ar (lR rfl f7 wN) aa))))) (aj (aG cP)) aQ)
  (ae (aH (i:=3) NO.nd rfl (aa_ rfl) (cX (tn:=zaJ) (fr:=zaN) (caps:=[2]) rfl ⟨rfl,by decide+kernel,rfl,by decide+kernel,by decide+kernel,rfl,⟨(by first | exact aan rfl | exact aa_ rfl),trivial⟩,⟨(by first | exact aan rfl | exact aa_ rfl),trivial⟩⟩ (bD (pv 1)) (fun _ _ _ _=>(aC (i:=0) (show (["_law_bar","_law_told"]:List Str).Nodup from by decide+kernel) rfl (aan rfl))) (fun _ _ _ _=>(FK (i5 (wW (bX hr) (bw (dX (K:=K) rfl) (pv 0) ah (fun _ _=>rfl)) (pv 1))))) (fun _ _ _ _=>(bw (dX (K:=K) rfl) (pv 0) ah (fun _ _=>rfl)))))
  (ae (bq (aS (jy hr.units) (b8 (eG rfl) rfl bO fS (ar (pv 2) aa)) (pv 3) (a9 _)) (aj (aG cP)) aQ)
  (aj (aG (aI (kq rfl) rfl o_ FG (ar (cX (tn:=["_law_name_here"]) (fr:=["_law_told","_law_pins_here","_law_names","_law_bars_here"]) (caps:=[2,0,3,1]) rfl ⟨rfl,by decide+kernel,rfl,by decide+kernel,by decide+kernel,rfl,⟨(by first | exact aan rfl | exact aa_ rfl),⟨(by first | exact aan rfl | exact aa_ rfl),⟨(by first | exact aan rfl | exact aa_ rfl),⟨(by first | exact aan rfl | exact aa_ rfl),trivial⟩⟩⟩⟩,⟨(by first | exact aan rfl | exact aa_ rfl),⟨(by first | exact aan rfl | exact aa_ rfl),⟨(by first | exact aan rfl | exact aa_ rfl),⟨(by first | exact aan rfl | exact aa_ rfl),trivial⟩⟩⟩⟩⟩ (bD (pv 3)) (fun _ _ _ _=>(aC (i:=0) (show (["_law_name_here","_law_told","_law_pins_here","_law_names","_law_bars_here"]:List Str).Nodup from by decide+kernel) rfl (aan rfl))) (fun _ _ _ _=>df) (fun _ _ _ _=>(aD DA hr.mo (uN (by first | assumption | exact bg.rZ) rfl) (ar (pv 2) (ar (pv 4) (ar (pv 3) (ar (pv 0) (ar (cA (bX hr) (pv 1) (pv 0) (fun _ _=>rfl)) aa)))))))) aa))))))),?_⟩
 refine ⟨_,rfl,_,_,_,true,rfl,rfl,.dK hm,Qf,_,rfl,?_⟩
 refine bx (fun c=>nomatch c) (fun _=>?_)
 refine ⟨_,rfl,lB,rfl,⟨_,a8.of fr.hb⟩,fun D1 n1=>?_⟩
 refine xU (a:=lB) (cap:=[some (.ref dm)]) (Rl:=fF K H pins) (fun b=>(bR kvs (.inr b.nm)).isSome) (fun b=>.str b.nm) fr.pb n1 (aaq (show ck.length<=1000 by omega) (by decide)) (fun H6 s6=>a8.of (s6 _ _ fr.hb)) (fun u b H6 R6 hx s6 k6=>?_) (fun u b H6 R6 hx s6 k6=>?_) fun H1 s1 YK=>?_
 ·obtain ⟨a,i,j,rfl,h1,_⟩:=hx.same s6
  exact ⟨_,rfl,a,_,_,_,rfl,rfl,h1,rfl,_,rfl,dm,_,rfl,cL.k (k:=.inr b.nm) (s6 _ _ hm),_,rfl,k6⟩
 ·obtain ⟨a,i,j,rfl,h1,_⟩:=hx.same s6
  exact ⟨_,rfl,a,_,_,_,rfl,rfl,h1,rfl,k6⟩
 rw [mo.names nb] at YK
 have yB:=s1 _ _ hm
 refine ⟨_,rfl,dm,kvs,rfl,.inl yB,fun l2 YY=>?_⟩
 have sa:=aK YY (.lst (kvs.map fun kv=>kV kv.1))
 have e2:(upd H1 l2 (.lst (kvs.map fun kv=>kV kv.1))) l2=some (.lst (kvs.map fun kv=>kV kv.1)):=ak
 generalize upd H1 l2 (.lst (kvs.map fun kv=>kV kv.1))=H2 at sa e2 ⊢
 have ek:(kvs.map fun kv=>kV kv.1)=(os.map (·.1.1)).map V.str:=by
  rw [show (kvs.map fun kv=>kV kv.1)=(kvs.map (·.1)).map kV by rw [aaE];rfl,mo.keys,aaE,aaE]
  rfl
 rw [ek] at e2
 have Y4:=sa _ _ YK
 refine ⟨_,rfl,?_⟩
 refine abG (zf (a8.of e2)) (zf (a8.of Y4)) (pD (fun _=>by show 0<=60;decide) _) ⟨_,rfl,?_⟩
 refine bx (fun c=>nomatch c) (fun _=>?_)
 have v_:=s1.trans sa
 refine ⟨_,rfl,D1,rfl,⟨_,a8.of Y4⟩,fun D3 n3=>?_⟩
 refine cH (K:=K) (a:=D1) (xs:=(os.map (·.1.1)).map V.str) (cap:=[some (.ref dm),some (.ref lP),some (.ref D1),some (.ref lB)]) (fun _ v _=>v=.bl true) n3 (aaq (show ((os.map (·.1.1)).map V.str).length<=1000 by rw [aab,aab];omega) (by decide)) (fun H6 s6=>a8.of (s6 _ _ Y4)) (fun _ _ _ _ _ _ _ h=>h) (fun i u H6 R6 hu s6 k6=>?_) fun zs H3 lz hz s3 hD3=>?_
 ·rw [Wp,Wp] at hu
  obtain ⟨x,ex,rfl⟩:=aar.mp hu
  obtain ⟨o,eo,rfl⟩:=aar.mp ex
  obtain ⟨kv,rA,p,kT,kU,e,oa⟩:=av (bG mo.pr) eo
  have wd:=v_.trans s6
  have dg:cL H6 dm (.str o.1.1) (some (.ref p)):=by
   have:=cL.k (k:=.inr o.1.1) (wd _ _ hm)
   rw [gK (mo.nk nb) (by rw [rA,e])] at this
   exact this
  refine ⟨_,rfl,_,rfl,_,rfl,_,rfl,_,rfl,_,rfl,dm,_,rfl,dg,?_⟩
  try dsimp only [dQ]
  exact ⟨lP,lB,D1,p,us,ck,pins,bars,kvs,os,o,kT,kU,rfl,fr.same wd,nb,mo.same wd,be eo,oa.keep (fun _ _ r=>r.imp (wd _ _) fun ⟨o,z⟩=>⟨o,wd _ _ z⟩) (fun _ _ _ e=>wd _ _ e),s6 _ _ Y4,fun H' s' =>k6 _ _ s' rfl⟩
 ·have ez:zs=(aaJ zs.length true).map V.bl:=by
   rw [List.map_replicate]
   exact List.eq_replicate_iff.mpr ⟨rfl,fun v hv=>by
    obtain ⟨i,ei⟩:=aas hv
    exact hz i v ei⟩
  rw [ez] at hD3
  refine ⟨D3,_,rfl,a8.of hD3,?_⟩
  have ea:(aaJ zs.length true).all id=true:=by
   rw [aid]
   intro b hb
   rw [(List.mem_replicate.mp hb).2]
   rfl
  rw [ea]
  exact q _ (v_.trans s3)
theorem vI {D:Addr}{te:TE}{cap:L2.St}{H1:Hp}{Q:VK}{d:Addr}{o:Obj}{kvs:γ}(Rel:Nat->V->Hp->Prop)(nD:H1 D=none)(hn:kvs.length < sizeLine)(hX:H1 d=some (.dA o (.dK kvs)))
  (hR:∀i v H H' ys,H D=some (.lst ys)->aX D H H' ->Rel i v H->Rel i v H')
  (he:∀i k y H (R:VK),kvs[i]? =some (k,y)->au H1 H->(∃zs,H D=some (.lst zs))->(∀v H6,au H H6->Rel i v H6->R v H6)->te (some (kV k)::some y::cap) H R)
  (hd:∀zs H,zs.length=kvs.length->(∀i v,zs[i]? =some v->Rel i v H)->au H1 H->H D=some (.lst zs)->Q (.ref D) H):
  km D (EA K 2 (uk (c9 0) (uk (c9 1) Oj))) ki te (O7 d o kvs) (none::none::cap) H1 Q:=by
 refine ⟨fun i m σ zs H=>m=kvs.length - i/\i<=kvs.length/\(∃o o',σ=o::o' ::cap)/\(zs.length=i/\(∀i v,zs[i]? =some v->Rel i v H)/\au H1 H)/\H D=some (.lst zs),⟨kvs.length,by simp,aa6 _,⟨none,none,rfl⟩,⟨rfl,fun i v e=>by simp at e,fun b o e=>by rw [ao (aq e nD)];exact e⟩,ak⟩,?_⟩
 rintro i m σ zs H ⟨rfl,hi,⟨o1,o',rfl⟩,⟨l,r,s⟩,hD⟩
 by_cases jm:i < kvs.length
 ·refine .inr ⟨⟨s _ _ hX,jm⟩,fun v H' y=>?_⟩
  obtain ⟨p,k,x,q1,rfl,np,rfl⟩:=y
  have sp:au H (upd H p (.tup [kV k,x])):=fun b o e=>by rw [ao (aq e np)];exact e
  refine ⟨p,_,rfl,bU.of ak,rfl,_,_,rfl,_,_,rfl,rfl,?_⟩
  unfold ki
  dsimp only
  rw [if_pos rfl]
  refine he i k x _ _ q1 (fun b o e=>sp _ _ (s _ _ e)) ⟨zs,sp _ _ hD⟩ fun v H6 s6 rv=>⟨s6 _ _ (sp _ _ hD),by omega,kvs.length - (i+1),by omega,rfl,by omega,⟨_,_,rfl⟩,⟨by simp [l],fun j u e=>?_,fun b o e=>?_⟩,ak⟩
  ·by_cases c:j < zs.length
   ·rw [aaD c] at e
    have ru:=hR j u H H6 zs hD (aX.of fun b o q=>s6 _ _ (sp _ _ q)) (r j u e)
    exact hR j u H6 _ zs (s6 _ _ (sp _ _ hD)) aX.upd ru
   ·rw [aaY (by omega)] at e
    have ej:j=i:=by
     by_cases z:j - zs.length=0
     ·omega
     ·rw [aaj (by simp;omega)] at e
      cases e
    subst ej
    have:v=u:=by
     rw [show j - zs.length=0 by omega] at e
     exact aay e
    subst this
    exact hR j v H6 _ zs (s6 _ _ (sp _ _ hD)) aX.upd rv
  ·rw [ao (aq e nD)]
   exact s6 _ _ (sp _ _ (s _ _ e))
 ·have e:i=kvs.length:=by omega
  subst e
  exact .inl ⟨⟨s _ _ hX,aaf _⟩,hd zs H l r s hD⟩
def Vk (K:Frag)(H:Hp)(o:dy)(x:V)(b:aT):Prop:=∃t v,x=.ref t/\bU K H t [.str b.nm,v]/\fW K H v (o.1.2.1 b.nm)
def Rw (K:Frag)(H0 H:Hp)(o:dy)(x:V)(p:aA):Prop:=∃t l vs,x=.ref t/\bU K H t [.str p.nm,.ref l]/\H l=some (.lst vs)/\H0 l=none/\Paired (fW K H) vs (o.1.2.2 p.nm)
def jY (K:Frag)(H0 H:Hp)(pins:ν)(bars:π)(v:V)(o:dy):Prop:=∃(a lT lU:Addr) (xs ys:ζ),v=.ref a/\bU K H a [.str o.1.1,.ref lT,.ref lU]/\H lT=some (.lst xs)/\H0 lT=none/\Paired (Vk K H o) xs bars/\H lU=some (.lst ys)/\H0 lU=none/\Paired (Rw K H0 H o) ys pins
section
variable {H0 H H' :Hp}{pins:ν}{bars:π}{v:V}{o:dy}
theorem Vk.t {x:V}{b:aT}(h:Vk K H o x b)(t:aY H H'):Vk K H' o x b:=by
 obtain ⟨a,w,e,h1,h2⟩:=h
 exact ⟨a,w,e,t.bN h1,h2.aU t⟩
theorem Rw.keep {x:V}{p:aA}(h:Rw K H0 H o x p)(t:aY H H')(k:∀l xs,H0 l=none->H l=some (.lst xs)->H' l=some (.lst xs)):Rw K H0 H' o x p:=by
 obtain ⟨a,l,vs,e,h1,h2,h3,h4⟩:=h
 exact ⟨a,l,vs,e,t.bN h1,k _ _ h3 h2,h3,Paired.bJ h4 fun _ _ z=>z.aU t⟩
theorem jY.keep (h:jY K H0 H pins bars v o)(t:aY H H')(k:∀l xs,H0 l=none->H l=some (.lst xs)->H' l=some (.lst xs)):jY K H0 H' pins bars v o:=by
 obtain ⟨a,lT,lU,xs,ys,e,h1,h2,h3,h4,h5,h6,h7⟩:=h
 exact ⟨a,lT,lU,xs,ys,e,t.bN h1,k _ _ h3 h2,h3,Paired.bJ h4 fun _ _ z=>z.t t,k _ _ h6 h5,h6,Paired.bJ h7 fun _ _ z=>z.keep t k⟩
end
theorem jY.old {H0 H1 H:Hp}{pins:ν}{bars:π}{v:V}{o:dy}(h:jY K H1 H pins bars v o)(n:∀l,H1 l=none->H0 l=none):jY K H0 H pins bars v o:=by
 obtain ⟨a,lT,lU,xs,ys,e,h1,h2,h3,h4,h5,h6,h7⟩:=h
 exact ⟨a,lT,lU,xs,ys,e,h1,h2,n _ h3,h4,h5,n _ h6,Paired.bJ h7 fun _ _ ⟨t,l,vs,e,k1,k2,k3,k4⟩=>⟨t,l,vs,e,k1,k2,n _ k3,k4⟩⟩
theorem NP {xs:ζ}:yW (.lst xs):=⟨fun _ z=>(nomatch z),fun _ _ z=>(nomatch z)⟩
abbrev daT (o:dy)(b:aT):Da:=.t [.v (.str b.nm),.t (Qj (o.1.2.1 b.nm))]
abbrev daU (o:dy)(p:aA):Da:=.t [.v (.str p.nm),.l ((o.1.2.2 p.nm).map fun r=>.t (Qj r))]
def Vl (pins:ν)(bars:π)(o:dy):Da:=.t [.v (.str o.1.1),.l (bars.map (daT o)),.l (pins.map (daU o))]
theorem m9 {α:Type}{f:α->Da}{n:Nat}(h:∀a,dep (f a)<=n):∀l:List α,dH (l.map f)<=n
 | []=>aa6 _
 | a::l=>by
  show max (dep (f a)) (dH (l.map f))<=n
  have h1:=h a
  have h2:=m9 h l
  omega
theorem LO (pins:ν)(bars:π)(o:dy):dep (Vl pins bars o)<=60:=by
 have dn:∀r,dep (.t (Qj r))<=1:=fun r=>by
  show max 0 (max 0 0)+1<=1
  decide
 have h1:dH (bars.map (daT o))<=10:=m9 (fun b=>by
  show max 0 (max (dep (.t (Qj (o.1.2.1 b.nm)))) 0)+1<=10
  have:=dn (o.1.2.1 b.nm)
  omega) _
 have h2:dH (pins.map (daU o))<=10:=m9 (fun p=>by
  show max 0 (max (dH ((o.1.2.2 p.nm).map fun r=>.t (Qj r))+1) 0)+1<=10
  have:=m9 (n:=1) dn (o.1.2.2 p.nm)
  omega) _
 show max 0 (max (dH (bars.map (daT o))+1) (max (dH (pins.map (daU o))+1) 0))+1<=60
 omega
theorem IZ {H:Hp}{t:Addr}{x y:V}{d:Da}{s:Str}(h:bU K H t [.str s,y])(hy:Is K H d y):Is K H (.t [.v (.str s),d]) (.ref t):=by
 unfold Is
 refine ⟨t,_,rfl,h,?_⟩
 unfold eA
 refine ⟨xQ s,?_⟩
 unfold eA
 refine ⟨hy,?_⟩
 unfold eA
 trivial
theorem jY.is {H0 H:Hp}{pins:ν}{bars:π}{v:V}{o:dy}(h:jY K H0 H pins bars v o):Is K H (Vl pins bars o) v:=by
 obtain ⟨a,lT,lU,xs,ys,rfl,h1,h2,_,h4,h5,_,h7⟩:=h
 unfold Vl Is
 refine ⟨a,_,rfl,h1,?_⟩
 unfold eA
 refine ⟨xQ _,?_⟩
 unfold eA
 refine ⟨?_,?_⟩
 ·unfold Is
  refine ⟨lT,xs,rfl,a8.of h2,gU (R:=Vk K H o) (fun u b z=>?_) h4⟩
  obtain ⟨t,w,rfl,k1,k2⟩:=z
  exact IZ (x:=w) k1 (ma k2)
 ·unfold eA
  refine ⟨?_,by unfold eA;trivial⟩
  unfold Is
  refine ⟨lU,ys,rfl,a8.of h5,gU (R:=Rw K H0 H o) (fun u p z=>?_) h7⟩
  obtain ⟨t,l,vs,rfl,k1,k2,_,k4⟩:=z
  refine IZ (x:=.ref l) k1 ?_
  unfold Is
  exact ⟨l,vs,rfl,a8.of k2,gU (R:=fW K H) (fun u r z=>ma z) k4⟩
inductive xV (K:Frag)(vs:ζ)(H:Hp)(Q:VK)(E_:XK):Prop where
 | mk (dm:Addr) (pins:ν) (bars:π) (kvs:γ) (os:List dy) (N:Nat) (_:vs=[.ref dm]) (_:gy K H pins bars kvs os N) (_:(bars.map (·.nm)).Nodup) (_:(pins.map (·.nm)).Nodup) (_:pins.length<=9) (_:bars.length<=40) (_:H dm=some (.dK kvs)) (_:(∀a∈f9 pins os,a≠dm)) (_:∀(lC:Addr) (zs:ζ) (H' :Hp),au H H' ->H lC=none->H' lC=some (.lst zs)->Paired (jY K H H' pins bars) zs os->Q (.ref lC) H'):xV K vs H Q E_
theorem fP:aF ["_law_told","_law_kept","_law_name_here","_law_pushes"] zaN (ag eJ):=sq
theorem vJ (D:Def K mg "_law_copy" eJ zaN)(bO:mg "list"=none):Fn P w K mg base (bg P w) 1 "_law_copy" zaN (xV K):=by
 refine D.ok fP (fun vs H Q E h=>?_) (fun f bM A outer s H vs Q E hr h=>?_)
 ·obtain ⟨dm,pins,bars,kvs,os,N,rfl,_⟩:=h
  rfl
 obtain ⟨dm,pins,bars,kvs,os,N,rfl,mo,nb,np,lp,lb,hm,nr,q⟩:=h
 have L2:2<=sizeLine:=by decide
 have L3:3<=sizeLine:=by decide
 have lk:kvs.length=os.length:=Paired.length mo.pr
 have lm:=mo.lm
 refine ⟨_,(ae (aH (i:=1) fP.nd rfl (aan rfl) (c_ aa))
  (ae (jC (bE PassesOwn.never rfl (KW (pv 0)) (aC (i:=2) fP.nd rfl (aan rfl)) (ae (jC (mS (i:=3) fP.nd rfl (aan rfl) (tn:=zaK) (fr:=[]) (caps:=[]) rfl ⟨rfl,by decide+kernel,rfl,by decide+kernel,by decide+kernel,rfl,trivial,trivial⟩ (jA (aJ (cA (bX hr) (pv 0) (pv 2) (fun _ _=>rfl)))) (fun _ _ _ _=>(yy (K:=K) (n:=2) rfl rfl (bu (aC (i:=0) (show (zaK:List Str).Nodup from by decide+kernel) rfl (aan rfl)) (bu (aC (i:=1) (show (zaK:List Str).Nodup from by decide+kernel) rfl (aan rfl)) dF)))) (fun _ _ _ _=>df) (fun _ _ _ _=>(aV (ar (pv 0) (ar (b8 (uQ (K:=K) rfl) rfl bO fS (ar (pv 1) aa)) aa))))))
   (aj (bf (gd PySem.F.plainAttrs_list PySem.F.slot_list_append PySem.F.type_list_append cG (pv 1) (ar (aV (ar (pv 2) (ar (AM rfl rfl bO (aJ (cA (bX hr) (pv 0) (pv 2) (fun _ _=>rfl)))) (ar (pv 3) aa)))) aa)))))))
  (aj (aG (pv 1))))),?_⟩
 refine ⟨(by show 0<=sizeLine;decide),?_⟩
 intro lC nC;generalize eX:upd _ lC _=H1;have ⟨sC,eC⟩:=nw nC eX;clear eX
 have yB:=sC _ _ hm
 refine ⟨_,rfl,dm,kvs,rfl,yB,fun o=>?_⟩
 have MD:lC≠dm:=fun z=>by rw [z,hm] at nC;cases nC
 have kf:aX dm H1 (upd H1 dm (.dA o (.dK kvs))):=aX.upd
 have fz:(upd H1 dm (.dA o (.dK kvs))) dm=some (.dA o (.dK kvs)):=ak
 generalize upd H1 dm (.dA o (.dK kvs))=Hf at kf fz ⊢
 have nH:∀{l:Addr},H1 l=none->H l=none:=fun {l} n=>sC.free n
 have tf:∀{H' :Hp},(∀b u,b≠dm->b≠lC->H1 b=some u->H' b=some u)->aY H H' :=fun {H'} k b xs r=>by
  have nt:∀{u:HO},H b=some u->(u=.tup xs\/∃o',u=.dA o' (.tup xs))->b≠dm:=fun {u} e c z=>by
   rw [z,hm] at e
   cases e
   rcases c with c | ⟨_,c⟩ <;> cases c
  rcases r with r | ⟨o',r⟩
  ·exact .inl (k _ _ (nt r (.inl rfl)) (aq r nC) (sC _ _ r))
  ·exact .inr ⟨o',k _ _ (nt r (.inr ⟨_,rfl⟩)) (aq r nC) (sC _ _ r)⟩
 refine GO (d:=dm) (o:=o) (kvs:=kvs) (fun i σ H' =>∃(o2 o3:ω) (zs:ζ),σ=[some (.ref dm),some (.ref lC),o2,o3]/\(∀b u,b≠dm->b≠lC->H1 b=some u->H' b=some u)/\H' dm=some (.dA o (.dK kvs))/\H' lC=some (.lst zs)/\Paired (jY K H1 H' pins bars) zs (os.take i)) ⟨none,none,[],rfl,fun b u n _ e=>kf _ _ n e,fz,kf _ _ MD eC,by simpa using Paired.nil⟩ (fun i σ H' _ h=>by
   obtain ⟨_,_,_,_,_,h,_⟩:=h
   exact h) ?_ ?_
 ·rintro i k x σ H2 ek ⟨o2,o3,zs,rfl,k2,d2,c2,Vm⟩
  obtain ⟨ow,eo,p,kT,kU,rA,oa⟩:=av mo.pr ek
  obtain ⟨rfl,rfl⟩:=Prod.mk.inj rA
  have mo' :=be eo
  have LP:vy K H2 pins bars N ow p kT kU:=oa.keep (tf k2) fun a ha u e=>k2 _ _ (nr a (abb.mpr ⟨ow,mo',ha⟩)) (aq e nC) (sC _ _ e)
  have dgv:bR kvs (.inr ow.1.1)=some (.ref p):=gK (mo.nk nb) ek
  have dg:∀{H' :Hp},H' dm=some (.dA o (.dK kvs))->cL H' dm (.str ow.1.1) (some (.ref p)):=fun {H'} e=>.inl ⟨kvs,.inr ow.1.1,.inr ⟨o,e⟩,rfl,dgv.symm⟩
  have nU:ow.2.2.1≠dm:=nr _ (abb.mpr ⟨ow,mo',aae _ aap⟩)
  have hU0:H ow.2.2.1=some (.dK kU):=oa.pl.hU
  have lkU:kU.length=pins.length:=by
   have:=congrArg abO oa.pl.xx
   simpa using this
  have lkT:kT.length=bars.length:=by
   have:=congrArg abO oa.pl.xw
   simpa using this
  have kx:∀{α:Type} {nm:α->Str} {kM:γ} {l:List α},(l.map nm).Nodup->kM.map (·.1)=l.map (fun p=>(abc (nm p):Key))->∀{j:Nat} {kv:Key×V} {a:α},kM[j]? =some kv->l[j]? =some a->kv.1=.inr (nm a)/\bR kM (.inr (nm a))=some kv.2:=fun {α nm kM l} nd hk {j kv a} e1 e2=>by
   have kj:(kM.map (·.1))[j]? =some (abc (nm a):Key):=by rw [hk,Wp,e2];rfl
   rw [Wp,e1] at kj
   have k1:kv.1=.inr (nm a):=aay kj
   refine ⟨k1,gK ?_ (show kM[j]? =some (.inr (nm a),kv.2) by rw [e1, <- k1])⟩
   rw [hk,show (l.map fun p=>(abc (nm p):Key))=(l.map nm).map abc by rw [aaE];rfl]
   exact aiP _ (fun a b n z=>n (by injection z)) nd
  refine ⟨_,rfl,_,rfl,dm,_,rfl,dg d2,p,_,_,_,rfl,rfl,LP.hp,ip,ow.2.2.1,kU,rfl,LP.pl.hU,fun oU DU nU' =>?_⟩
  have kg:aX ow.2.2.1 H2 (upd H2 ow.2.2.1 (.dA oU (.dK kU))):=aX.upd
  have gz:(upd H2 ow.2.2.1 (.dA oU (.dK kU))) ow.2.2.1=some (.dA oU (.dK kU)):=ak
  have bk:∀H' :Hp,au (upd H2 ow.2.2.1 (.dA oU (.dK kU))) H' ->au H2 (upd H' ow.2.2.1 (.dK kU)):=fun H' s' b o' e=>by
   by_cases c:b=ow.2.2.1
   ·rw [c,LP.pl.hU] at e
    rw [c,ak]
    exact e
   ·rw [ao c]
    exact s' _ _ (kg _ _ c e)
  have Y5:∀{H' :Hp},au (upd H2 ow.2.2.1 (.dA oU (.dK kU))) H' ->∀l,H' l=none->H1 l=none:=fun {H'} s' l n=>by
   cases e:H1 l with
   | none=>rfl
   | some u=>
    by_cases c1:l=ow.2.2.1
    ·rw [c1,s' _ _ gz] at n
     cases n
    by_cases US :l=dm
    ·rw [US,s' _ _ (kg _ _ (aaW nU) d2)] at n
     cases n
    by_cases c3:l=lC
    ·rw [c3] at c1 n
     rw [s' _ _ (kg _ _ c1 c2)] at n
     cases n
    rw [s' _ _ (kg _ _ c1 (k2 _ _ US c3 e))] at n
    cases n
  generalize upd H2 ow.2.2.1 (.dA oU (.dK kU))=Hg at kg gz bk Y5 nU' ⊢
  have tg:aY H2 Hg:=bY LP.pl.hU yX kg
  refine vI (cap:=[]) (fun j v H' =>∀q',pins[j]? =some q' ->∃t l vs,v=.ref t/\bU K H' t [.str q'.nm,.ref l]/\H' l=some (.lst vs)/\H1 l=none/\l≠DU/\Paired (fW K H') vs (ow.1.2.2 q'.nm)) nU' (aaq (show kU.length<=1000 by omega) (by decide)) gz ?_ ?_ ?_
  ·intro j v Ha Hb ys hD kk h q' eq
   obtain ⟨t,l,vs,e,h1,h2,h3,h4,h5⟩:=h q' eq
   have tt:=bY hD NP kk
   exact ⟨t,l,vs,e,tt.bN h1,kk _ _ h4 h2,h3,h4,Paired.bJ h5 fun _ _ z=>z.aU tt⟩
  ·rintro j k y Ha RR ekj sa ⟨mX,hDa⟩ kk
   have hj:=(ir.mp ekj).1
   obtain ⟨q',eq⟩:∃q',pins[j]? =some q' :=⟨_,gE (by omega)⟩
   have mq:=be eq
   obtain ⟨ek1,ev⟩:=kx np oa.pl.xx ekj eq
   have abN :k=.inr q'.nm:=ek1
   subst abN
   obtain ⟨la,vs,a1,b1,c1⟩:=LP.pl.tU q' mq
   rw [ev] at a1
   have ey:y=.ref la:=aay a1
   subst ey
   have Ru:Ha la=some (.lst vs):=sa _ _ (kg _ _ (fun z=>by rw [z,LP.pl.hU] at b1;cases b1) b1)
   refine ⟨_,rfl,_,rfl,la,vs,rfl,a8.of Ru,fun l nl=>?_⟩
   have s5:=aK nl (.lst vs)
   have e5:(upd Ha l (.lst vs)) l=some (.lst vs):=ak
   generalize upd Ha l (.lst vs)=H5 at s5 e5 ⊢
   refine ⟨L2,?_⟩
   intro t6 n6;generalize eX:upd _ t6 _=H6;have ⟨s6,e6⟩:=nw n6 eX;clear eX
   refine kk _ _ (s5.trans s6) fun q'' e'' =>?_
   rw [eq] at e''
   cases e''
   exact ⟨t6,l,vs,rfl,bU.of e6,s6 _ _ e5,Y5 sa l nl,(fun z=>by rw [z,hDa] at nl;cases nl),Paired.bJ c1 fun _ _ z=>((z.aU tg).same sa).same (s5.trans s6)⟩
  intro mX Hh lz hz sh hDh
  refine ⟨ow.2.2.1,oU,kU,sh _ _ gz,fun o' u' z=>(by have z' :H ow.2.2.1=some (.dA o' u'):=z;rw [hU0] at z';cases z'),?_⟩
  have uc:=bk Hh sh
  have Y6:aX ow.2.2.1 Hh (upd Hh ow.2.2.1 (.dK kU)):=aX.upd
  have tU4:aY Hh (upd Hh ow.2.2.1 (.dK kU)):=bY (sh _ _ gz) xE Y6
  have Np:(upd Hh ow.2.2.1 (.dK kU)) DU=some (.lst mX):=Y6 _ _ (fun z=>by rw [z,sh _ _ gz] at hDh;cases hDh) hDh
  have nw4:∀l,(upd Hh ow.2.2.1 (.dK kU)) l=none->H1 l=none:=fun l n=>by
   refine Y5 sh l ?_
   rw [ao (fun z=>by rw [z,ak] at n;cases n)] at n
   exact n
  have pU4:Paired (Rw K H1 (upd Hh ow.2.2.1 (.dK kU)) ow) mX pins:=b9 (by omega) fun j v q' e1 e2=>by
   obtain ⟨t,l,vs,e,h1,h2,h3,_,h5⟩:=hz j v e1 q' e2
   exact ⟨t,l,vs,e,tU4.bN h1,Y6 _ _ (fun z=>by rw [z,sh _ _ gz] at h2;cases h2) h2,h3,Paired.bJ h5 fun _ _ z=>z.aU tU4⟩
  generalize upd Hh ow.2.2.1 (.dK kU)=H4 at uc Y6 tU4 Np nw4 pU4 ⊢
  have c4:=uc _ _ c2
  have hp4:bU K H4 p [.ref ow.2.1,.ref ow.2.2.1]:=Ty.au.bN uc LP.hp
  refine ⟨_,rfl,.inl ⟨rfl,_,a8.of c4⟩,_,rfl,_,rfl,_,rfl,dm,_,rfl,dg (uc _ _ d2),p,_,_,_,rfl,rfl,hp4,g9,ow.2.1,kT,rfl,uc _ _ LP.pl.hT,fun l xs H5 s5 nl el pl=>⟨_,rfl,L3,?_⟩⟩
  intro a6 n6;generalize eX:upd _ a6 _=H6;have ⟨s6,e6⟩:=nw n6 eX;clear eX
  have v9:=s5.trans s6
  have Qk:=uc.trans v9
  have c6:=Qk _ _ c2
  have lzs:zs.length<=60:=by
   have h1:=Paired.length Vm
   rw [aa2] at h1
   omega
  refine ⟨lC,_,_,rfl,rfl,c6,aaq (show zs.length<=1000 by omega) (by decide),?_⟩
  have kc:aX lC H6 (upd H6 lC (.lst (zs++[.ref a6]))):=aX.upd
  have tc:aY H6 (upd H6 lC (.lst (zs++[.ref a6]))):=.list c6
  have nlc:∀{l:Addr},H1 l=none->l≠lC:=fun {l} n z=>by rw [z,eC] at n;cases n
  have t26:aY H2 H6:=fun _ _ r=>r.imp (Qk _ _) fun ⟨o,z⟩=>⟨o,Qk _ _ z⟩
  have t46:aY H4 H6:=fun _ _ r=>r.imp (v9 _ _) fun ⟨o,z⟩=>⟨o,v9 _ _ z⟩
  refine ⟨_,_,zs++[.ref a6],rfl,fun b u n1 n2 e=>kc _ _ n2 (Qk _ _ (k2 _ _ n1 n2 e)),kc _ _ (aaW MD) (Qk _ _ d2),ak,?_⟩
  rw [take_snoc eo]
  refine fO (Paired.bJ Vm fun _ _ z=>(z.keep t26 fun l xs _ e=>Qk _ _ e).keep tc fun l xs n e=>kc _ _ (nlc n) e) ?_
  refine jY.keep (H:=H6) ⟨a6,l,DU,xs,mX,rfl,bU.of e6,s6 _ _ el,nw4 l nl,b9 (by rw [Paired.length pl];exact lkT) fun j x b e1 e2=>?_,v9 _ _ Np,Y5 (fun _ _ e=>e) DU nU',Paired.bJ pU4 fun _ _ z=>z.keep t46 fun l xs _ e=>v9 _ _ e⟩ tc fun l xs n e=>kc _ _ (nlc n) e
  obtain ⟨kv,rA,t,ex,ht⟩:=av pl e1
  obtain ⟨ek1,ev⟩:=kx nb oa.pl.xw rA e2
  obtain ⟨v,a1,b1⟩:=LP.pl.tT b (be e2)
  rw [ev] at a1
  have ey:kv.2=v:=aay a1
  rw [ek1] at ht
  exact ⟨t,kv.2,ex,bU.of (s6 _ _ ht),by rw [ey];exact b1.same Qk⟩
 ·rintro σ H2 ⟨o2,o3,zs,rfl,k2,d2,c2,Vm⟩
  rw [lk,abf] at Vm
  refine ⟨dm,o,kvs,d2,fun o' u' z=>(by have z' :H dm=some (.dA o' u'):=z;rw [hm] at z';cases z'),?_⟩
  have kt:aX dm H2 (upd H2 dm (.dK kvs)):=aX.upd
  have tt:aY H2 (upd H2 dm (.dK kvs)):=bY d2 xE kt
  refine ⟨_,rfl,q lC zs _ (fun b u e=>?_) nC (kt _ _ MD c2) (Paired.bJ Vm fun _ _ z=>(z.keep tt fun l xs n e=>kt _ _ (fun y=>by rw [y,yB] at n;cases n) e).old fun l n=>nH n)⟩
  by_cases c:b=dm
  ·rw [c,hm] at e
   rw [c,ak]
   exact e
  ·exact kt _ _ c (k2 _ _ c (aq e nC) (sC _ _ e))
theorem LQ {ws:Ι}(h:gT ws):HY ws:=fun us hl h1 h2 u hu=>by
 rcases h with rfl | ⟨x,y,rfl,ne,_,_⟩ | rfl
 ·rw [ahz.mp hl] at hu
  cases hu
 ·obtain ⟨a,rfl⟩:=List.length_eq_one_iff.mp hl
  have e:u=a:=by simpa using hu
  have e1:a*x=0:=by
   have:=h1
   rw [aal,ab_,dG,gR] at this
   grind
  have e2:a*y=0:=by
   have:=h2
   rw [aal,ab_,dG,gR] at this
   grind
  rw [e]
  by_cases c:x=0
  ·have:y≠0:=fun z=>ne ⟨c,z⟩
   grind
  ·grind
 ·match us,hl with
  | [a,b],_=>
   rw [aal,aal,ab_,dG,dG,gR] at h1 h2
   have ea:a=0:=by grind
   have eb:b=0:=by grind
   rcases aaN.mp hu with z | z
   ·rw [z];exact ea
   ·rw [aax.mp z];exact eb
theorem fG.un {pins:ν}(g:fG pins){k:Nat}{p:aA}(e:pins[k]? =some p):p.nm∉(pins.eraseIdx k).map (·.nm)/\p.sp∉(pins.eraseIdx k).map (·.sp):=by
 have hk:=(ir.mp e).1
 have at' :∀q∈pins.eraseIdx k,∃i,i≠k/\pins[i]? =some q:=fun q hq=>by
  obtain ⟨j,ej⟩:=aas hq
  rw [abL] at ej
  by_cases c:j < k
  ·rw [if_pos c] at ej
   exact ⟨j,by omega,ej⟩
  ·rw [if_neg c] at ej
   exact ⟨j+1,by omega,ej⟩
 refine ⟨fun z=>?_,fun z=>?_⟩
 ·obtain ⟨q,hq,en⟩:=aad.mp z
  obtain ⟨i,ni,ei⟩:=at' q hq
  have e1:(pins.map (·.nm))[i]? =some p.nm:=by rw [Wp,ei, <- en];rfl
  have e2:(pins.map (·.nm))[k]? =some p.nm:=by rw [Wp,e];rfl
  exact ni (cO g.np e1 e2)
 ·obtain ⟨q,hq,en⟩:=aad.mp z
  obtain ⟨i,ni,ei⟩:=at' q hq
  have e1:(pins.map (·.sp))[i]? =some p.sp:=by rw [Wp,ei, <- en];rfl
  have e2:(pins.map (·.sp))[k]? =some p.sp:=by rw [Wp,e];rfl
  exact ni (cO g.ns e1 e2)
theorem jZ {α β:Type}{R:α->β->Prop}:∀{us:List α} {l:List β} {j:Nat},Paired R us l->Paired R (us.eraseIdx j) (l.eraseIdx j)
 | _,_,_,.nil=>.nil
 | _,_,0,.cons _ t=>t
 | _,_,_+1,.cons h t=>.cons h (jZ t)
theorem pE:∀{bars:π} {k:Nat} {b:aT},(bars.map (·.nm)).Nodup->bars[k]? =some b->(wg bars).filter (fun x=>decide (x.1≠b.nm))=wg (bars.eraseIdx k)
 | q::ps,0,p,nd,e=>by
  cases e
  rw [aal,aaX] at nd
  show ((q.nm,q.one.nm,q.other.nm)::wg ps).filter _=wg ps
  rw [ab3 (by simp),aiw]
  intro b hb
  obtain ⟨r,hr,rfl⟩:=aad.mp hb
  exact decide_eq_true (fun z=>nd.1 (by rw [<- z];exact aad.mpr ⟨r,hr,rfl⟩))
 | q::ps,k+1,p,nd,e=>by
  rw [aal,aaX] at nd
  have e' :ps[k]? =some p:=by simpa using e
  have ne:q.nm≠p.nm:=fun z=>nd.1 (by rw [z];exact aad.mpr ⟨p,be e',rfl⟩)
  show ((q.nm,q.one.nm,q.other.nm)::wg ps).filter _=(q.nm,q.one.nm,q.other.nm)::wg (ps.eraseIdx k)
  rw [ab2 (by simpa using ne),pE nd.2 e']
theorem vK {α β:Type}{f:α->List β}:∀{l:List α},(l.flatMap f).Nodup->∀{i j:Nat} {a b:α},l[i]? =some a->l[j]? =some b->i≠j->∀x∈f a,x∉f b
 | [],_,i,j,a,b,h,_,_=>by simp at h
 | c::l,nd,i,j,a,b,h1,h2,ne=>by
  rw [aaS,aby] at nd
  cases i with
  | zero=>
   cases j with
   | zero=>exact absurd rfl ne
   | succ j=>
    cases h1
    exact fun x hx hy=>nd.2.2 x hx x (abb.mpr ⟨b,be (by simpa using h2),hy⟩) rfl
  | succ i=>
   cases j with
   | zero=>
    cases h2
    exact fun x hx hy=>nd.2.2 x hy x (abb.mpr ⟨a,be (by simpa using h1),hx⟩) rfl
   | succ j=>exact vK nd.2.1 (i:=i) (j:=j) (by simpa using h1) (by simpa using h2) (by omega)
theorem zg {α β:Type}{f:α->List β}:∀{l:List α},(l.flatMap f).Nodup->∀{a:α},a∈l->(f a).Nodup
 | [],_,a,h=>nomatch h
 | c::l,nd,a,h=>by
  rw [aaS,aby] at nd
  rcases aaN.mp h with e | h
  ·rw [e]
   exact nd.1
  ·exact zg nd.2.1 h
theorem WS.lf {H:Hp}{C fA dx pP pW pB lP lB:Addr}{us vs:ζ}{pins:ν}{bars:π}(st:WS K H C fA dx pP pW pB lP lB us vs pins bars):LG K H lP lB us vs pins bars:=⟨st.hp,st.pr,st.gp,st.hb,st.pb,fun b hb=>(st.gb.ends b hb).2.2,by have:=st.lp;omega,by have:=st.lb;omega⟩
theorem abQ {H:Hp}{ds:List Da}{x y:V}{Q:VK}(h1:Is K H (.l ds) x)(h2:Is K H (.l ds) y)(hd:dH ds<=60)(q:Q (.bl true) H):FE K x y H Q:=by
 have h:=h1
 unfold Is at h
 obtain ⟨p,xs,_,_,k⟩:=h
 obtain ⟨b1,b2⟩:=gA ds xs k
 refine ⟨ds,ds,.inr ⟨h1,h2⟩,b1,hd,?_⟩
 rw [b2]
 exact q
def Rg (H:Hp)(pins:ν)(o:dy):Prop:=∃kT kU:List (Key×V),H o.2.1=some (.dK kT)/\H o.2.2.1=some (.dK kU)/\∀q∈pins,bR kU (.inr q.nm)=some (.ref (o.2.2.2 q.nm))/\∃vs,H (o.2.2.2 q.nm)=some (.lst vs)/\vs.length=q.ws.length
theorem Rg.keep {H H' :Hp}{pins:ν}{o:dy}(h:Rg H pins o)(k:∀a∈jd pins o.2,∀u,H a=some u->H' a=some u):Rg H' pins o:=by
 obtain ⟨kT,kU,h1,h2,h3⟩:=h
 refine ⟨kT,kU,k _ aap _ h1,k _ (aae _ aap) _ h2,fun q hq=>?_⟩
 obtain ⟨a,vs,b,c⟩:=h3 q hq
 exact ⟨a,vs,k _ (aae _ (aae _ (aad.mpr ⟨q,hq,rfl⟩))) _ b,c⟩
theorem vy.rg {H:Hp}{pins:ν}{bars:π}{N:Nat}{o:dy}{p:Addr}{kT kU:γ}(h:vy K H pins bars N o p kT kU):Rg H pins o:=⟨kT,kU,h.pl.hT,h.pl.hU,fun q hq=>by
 obtain ⟨la,vs,a,b,c⟩:=h.pl.tU q hq
 have e:=h.la q hq
 rw [a] at e
 have e' :la=o.2.2.2 q.nm:=by injection (aay e)
 rw [e'] at a b
 exact ⟨a,vs,b,by rw [Paired.length c];exact h.pl.lU q hq⟩⟩
def Kp (H3 H6 H:Hp):Prop:=aY H6 H/\∀b o,H3 b=none->H6 b=some o->H b=some o
theorem Kp.same {H3 H6 H H' :Hp}(h:Kp H3 H6 H)(s:au H H'):Kp H3 H6 H' :=⟨fun b xs r=>(h.1 b xs r).imp (s _ _) fun ⟨o,z⟩=>⟨o,s _ _ z⟩,fun b o n e=>s _ _ (h.2 b o n e)⟩
theorem Kp.ko {H3 H6 H H' :Hp}(h:Kp H3 H6 H){C fA dx pP pW pB lP lB:Addr}{us vs us0 SQ:ζ}{pins Vn:ν}{bars I_:π}(ua:WS K H3 C fA dx pP pW pB lP lB us0 SQ Vn I_)(st:WS K H C fA dx pP pW pB lP lB us vs pins bars)(k:KO pP pW pB lP lB H H'):Kp H3 H6 H' :=⟨fun b xs r=>st.t k _ _ (h.1 b xs r),fun b o n e=>k.at (ua.fresh n) (h.2 b o n e)⟩
theorem ff:aF ["_law_script","_law_pins_here","_law_bars_here","_law_frame_here","_law_first","_law_kept","_law_pair","_law_name_here","_law_spot_here","_law_ways_here","_law_bar","_law_gone"] zaF (ag jF):=sq
theorem Ql {f:Addr}{fd:FuncData}{C:Addr}(F:mO K "law" "law" jF f fd)(bO:mg "list"=none)(a_:mg "len"=none)
  (kX:Fn P w K mg base (bg P w) 1 "_law_cell_at" zas (kO K)) (cQ:Fn P w K mg base (bg P w) 1 "_law_field" zab ed)
  (abR:Fn P w K mg base (bg P w) 35 "_law_pins" zaF (tm K)) (abS:Fn P w K mg base (bg P w) 3 "_law_bars" zaw (tw K)) (vL:Fn P w K mg base (bg P w) 3 "_law_thick" zao (tD K)) (abT:Fn P w K mg base (bg P w) 4 "_law_frame" zau (oT K C))
  (dO:Fn P w K mg base (bg P w) 39 "spares_of" ["F"] (ID K C)) (Ja:Fn P w K mg base (bg P w) 37 "_law_right" zaq (m8 K)) (pF:Fn P w K mg base (bg P w) 1 "_law_copy" zaN (xV K))
  (MTb:bI P w K mg base (bg P w) 1 C "take_bar" zaB (iF K C)) (Rq:bI P w K mg base (bg P w) 3 C "put_bar" zah (iu K C))
  (qj:Fn P w K mg base (bg P w) 3 "_law_pin_out" zai (IV K C)) (tG:Fn P w K mg base (bg P w) 35 "_law_pin_in" zak (Qh K C)):
  cI P w K mg base (bg P w) 42 f fd zaF (FI K):=by
 refine F.okG ff (fun vs H Q E h=>?_) (fun bM A outer s H vs Q E hr h=>?_)
 ·obtain ⟨a,ns,rfl,_⟩:=h
  rfl
 obtain ⟨sA,ns,rfl,hS,hn,hb,q⟩:=h
 have L2:2<=sizeLine:=by decide
 have L3:3<=sizeLine:=by decide
 refine ⟨_,(ae (aH (i:=1) ff.nd rfl (aan rfl) (aD abR hr.mo (pY P w) (ar (pv 0) aa)))
  (ae (aH (i:=2) ff.nd rfl (aan rfl) (aD vL hr.mo (pY P w) (ar (pv 0) (ar (pv 1) (ar (aD abS hr.mo (pY P w) (ar (pv 0) (ar (pv 1) aa))) aa)))))
  (ae (aH (i:=3) ff.nd rfl (aan rfl) (aD abT hr.mo (pY P w) (ar (pv 1) (ar (pv 2) aa))))
  (ae (aH (i:=4) ff.nd rfl (aan rfl) (aD dO hr.mo (pY P w) (ar (pv 3) aa)))
  (ae (bq (c7 (cU (aD Ja hr.mo (pY P w) (ar (pv 1) (ar (pv 2) (ar (pv 4) aa)))))) (aj (aG cP)) aQ)
  (ae (aH (i:=5) ff.nd rfl (aan rfl) (aD pF hr.mo (pY P w) (ar (pv 4) aa)))
  (ae (bE PassesOwn.never rfl (bD (AN rfl rfl bO (aD dO hr.mo (pY P w) (ar (pv 3) aa)))) (aC (i:=6) ff.nd rfl (aan rfl)) (ae (bf (ra (aJ (pv 6))))
   (ae (bE PassesOwn.never rfl (bD (pv 1)) (fm rfl (bu (aC (i:=7) ff.nd rfl (aan rfl)) (bu (aC (i:=8) ff.nd rfl (aan rfl)) (bu (aC (i:=9) ff.nd rfl (aan rfl)) dF)))) (ae (bq (aS lK (aI aE rfl a_ bT (ar (cA (bX hr) (aJ (pv 6)) (pv 7) (fun _ _=>rfl)) aa)) (aI aE rfl a_ bT (ar (pv 9) aa)) (a9 _)) (aj (aG cP)) aQ)
    (aj (bf (gd PySem.F.plainAttrs_list PySem.F.slot_list_append PySem.F.type_list_append cG (cA (bX hr) (aJ (pv 6)) (pv 7) (fun _ _=>rfl)) (ar (aV (ar ah (ar ah aa))) aa))))))
   (aj (bf (ra (aJ (pv 6))))))))
  (ae (bq (c7 (cU (aD Ja hr.mo (pY P w) (ar (pv 1) (ar (pv 2) (ar (aD dO hr.mo (pY P w) (ar (pv 3) aa)) aa)))))) (aj (aG cP)) aQ)
  (ae (bq (aS qG (aI aE rfl a_ bT (ar (pv 2) aa)) ah (a9 _)) (ae (aH (i:=10) ff.nd rfl (aan rfl) (gd PySem.F.plainAttrs_list PySem.F.slot_list_pop PySem.F.type_list_pop uB (pv 2) (ar (aD cQ hr.mo (pY P w) (ar (aD kX hr.mo (pY P w) (ar (pv 0) (ar ah aa))) (ar ah (ar (aI aE rfl a_ bT (ar (pv 2) aa)) aa)))) aa)))
   (ae (bf (cK (k:=1) (pv 3) hr.mo (pY P w) (ar (aJ (pv 10)) aa)))
   (ae (bf (gd PySem.F.plainAttrs_list PySem.F.slot_list_append PySem.F.type_list_append cG (pv 2) (ar (aV (ar (aJ (pv 10)) (ar (aJ (pv 10)) (ar (aJ (pv 10)) aa)))) aa)))
   (ae (bf (cK (k:=3) (pv 3) hr.mo (pY P w) (ar (aJ (pv 10)) (ar (aJ (bw ba (pv 1) (aJ (pv 10)) (fun _ _=>rfl))) (ar (aJ (bw ba (pv 1) (aJ (pv 10)) (fun _ _=>rfl))) aa)))))
   (aj (bq (c7 (cU (aD Ja hr.mo (pY P w) (ar (pv 1) (ar (pv 2) (ar (aD dO hr.mo (pY P w) (ar (pv 3) aa)) aa)))))) (aj (aG cP)) aQ)))))) aQ)
  (ae (aH (i:=11) ff.nd rfl (aan rfl) (aD qj hr.mo (pY P w) (ar (pv 3) (ar (pv 1) (ar (pv 2) (ar (aD kX hr.mo (pY P w) (ar (pv 0) (ar ah aa))) aa))))))
  (ae (bq (c7 (cU (aD Ja hr.mo (pY P w) (ar (pv 1) (ar (pv 2) (ar (aD dO hr.mo (pY P w) (ar (pv 3) aa)) aa)))))) (aj (aG cP)) aQ)
  (ae (bf (aD tG hr.mo (pY P w) (ar (pv 3) (ar (pv 1) (ar (pv 11) (ar (aD kX hr.mo (pY P w) (ar (pv 0) (ar ah aa))) aa))))))
  (aj (aG (D' (aD Ja hr.mo (pY P w) (ar (pv 1) (ar (pv 2) (ar (aD dO hr.mo (pY P w) (ar (pv 3) aa)) aa)))) (D_ (iy (mR hr.units) (aD pF hr.mo (pY P w) (ar (pv 4) aa)) (pv 5) (a9 _)))))))))))))))))),?_⟩
 refine ⟨_,rfl,sA,ns,rfl,hS,fun lP us pins H1 s1 nP eP pp gp lp pn=>?_⟩
 have lu:us.length=pins.length:=Paired.length pp
 refine ⟨_,rfl,_,rfl,_,rfl,_,rfl,sA,lP,ns,us,pins,rfl,s1.seq hS,eP,lu,gp.np,by omega,fun lB0 SQ I_ Hb sb nB0 eB0 pb0 gb0 lb0 nz0=>?_⟩
 try dsimp only [dQ]
 refine ⟨sA,lP,lB0,ns,us,SQ,pins,I_,rfl,(s1.trans sb).seq hS,sb _ _ eP,lu,gp.np,eB0,pb0,gb0,lb0,nz0,fun lB vs bars H2 jk oB eB pb gb lb=>?_⟩
 have nB:H1 lB=none:=by
  rcases oB with z | z
  ·rw [z]
   exact nB0
  ·exact sb.free z
 have s2:=sb.trans jk
 have abV:Paired (jg K H2) us pins:=Paired.bJ pp fun _ _ z=>z.r.same s2
 have eP2:=s2 _ _ eP
 refine ⟨_,rfl,_,rfl,lP,lB,us,vs,pins,bars,rfl,eP2,abV,eB,pb,gp,gb,by omega,by omega,fun fA dx pP pW pB kP kW kB H3 s3 R3 W3 nwq nP3 nW3 nB3=>?_⟩
 have rF:=s1.trans (s2.trans s3)
 have Oe:lP≠lB:=fun z=>by rw [<- z,eP] at nB;cases nB
 have ua:WS K H3 C fA dx pP pW pB lP lB us vs pins bars:=⟨⟨kP,kW,kB,R3,W3,fun kv h=>⟨nwq kv h _ _ eP2,nwq kv h _ _ eB⟩⟩,s3 _ _ eP2,Paired.bJ pp fun u p z=>by
  obtain ⟨a,l,sv,xs,e,h1,h2,h3,h4,h5⟩:=z
  have ub:=s2.trans s3
  exact ⟨a,l,sv,xs,e,Ty.au.bN ub h1,h2.same ub,ub _ _ h3,h4.same ub,h5,fun y=>by rw [y,nB] at h3;cases h3⟩,s3 _ _ eB,Paired.bJ pb fun _ _ z=>z.same s3,gp,gb,by omega,by omega,Oe⟩
 have np0:=(s1.trans s2).free nP3
 have nw0:=(s1.trans s2).free nW3
 have nb0:=(s1.trans s2).free nB3
 have abX:=s1.free nB
 have xW:∀{Hx:Hp},KO pP pW pB lP lB H Hx->a8 K Hx sA (ns.map V.int):=fun {Hx} k=>by
  rcases hS with r | r
  ·have ne:∀{o:HO},H sA=some o->sA≠pP/\sA≠pW/\sA≠pB/\sA≠lP/\sA≠lB:=fun {o} e=>⟨aq e np0,aq e nw0,aq e nb0,aq e nP,aq e abX⟩
   rcases r with r | ⟨o,r⟩
   ·exact .inl (.inl (k.at (ne r) r))
   ·exact .inl (.inr ⟨o,k.at (ne r) r⟩)
  ·exact .inr r
 have Rx:∀{Hx:Hp} {us vs:ζ} {pins:ν} {bars:π},WS K Hx C fA dx pP pW pB lP lB us vs pins bars->∀p∈pins,HY p.ws:=fun st p hp=>LQ (st.gp.ws p hp)
 have ri:∀{Hx:Hp} {us vs:ζ} {pins:ν} {bars:π} {dm:Addr} {kT:γ} {os:List dy} {Q' :VK} {E' :XK},WS K Hx C fA dx pP pW pB lP lB us vs pins bars->Hx dm=some (.dK kT)->gy K Hx pins bars kT os 110000->(∀H',au Hx H' ->Q' (.bl true) H')->m8 K [.ref lP,.ref lB,.ref dm] Hx Q' E' :=fun {Hx us vs pins bars dm kT os Q' E'} st hm mo k=>⟨lP,lB,dm,us,vs,pins,bars,kT,os,rfl,st.lf,st.gb.nb,mo,hm,k⟩
 refine ⟨_,rfl,fA,pins,bars,rfl,ua.fa,ua.g,Rx ua,fun dm kT os H4 s4 em4 mo4 nd4 Rt=>?_⟩
 have QX:=ua.same s4
 refine ⟨_,rfl,_,rfl,_,rfl,ri QX em4 mo4 fun H5 s5=>⟨_,rfl,?_⟩⟩
 refine bx (fun c=>nomatch c) (fun _=>?_)
 have nrd:∀a∈f9 pins os,a≠dm:=fun a ha z=>(aaX.mp nd4).1 (by rw [<- z];exact ha)
 refine ⟨_,rfl,dm,pins,bars,kT,os,110000,rfl,mo4.same s5,gb.nb,gp.np,by omega,by omega,s5 _ _ em4,nrd,fun lC zs H6 s6 nC eC pc=>?_⟩
 have s36:=s4.trans (s5.trans s6)
 have NQ:=ua.same s36
 refine ⟨_,rfl,fA,pins,bars,rfl,NQ.fa,NQ.g,Rx NQ,fun d2 Ry Jb H7 s7 em7 mo7 nd7 Z0=>⟨d2,Ry,rfl,em7,fun lV nV=>?_⟩⟩
 have tV:=aK nV (.lst (Ry.map fun kv=>kv.2))
 have eV:(upd H7 lV (.lst (Ry.map fun kv=>kv.2))) lV=some (.lst (Ry.map fun kv=>kv.2)):=ak
 generalize upd H7 lV (.lst (Ry.map fun kv=>kv.2))=H9 at tV eV ⊢
 have YH:=s7
 have P5:=s7.trans tV
 have no6:∀{b:Addr} {o:HO},H6 b=some o->b∉f9 pins Jb:=fun {b o} e z=>by
  rw [Z0 b (aae _ z)] at e
  cases e
 have mo9:=mo7.same tV
 have noV:lV∉f9 pins Jb:=fun z=>by
  obtain ⟨o,ho,hz⟩:=abb.mp z
  obtain ⟨i,ei⟩:=aas ho
  obtain ⟨kv,_,p,Y7,kU,_,oa⟩:=av (bG mo7.pr) ei
  obtain ⟨Y7,kU,h1,h2,h3⟩:=oa.rg
  have:∃u,H7 lV=some u:=by
   rcases aaN.mp hz with z | hz
   ·rw [z]
    exact ⟨_,h1⟩
   rcases aaN.mp hz with z | hz
   ·rw [z]
    exact ⟨_,h2⟩
   obtain ⟨q',g7,rfl⟩:=aad.mp hz
   obtain ⟨_,ck,e,_⟩:=h3 q' g7
   exact ⟨_,e⟩
  obtain ⟨u,e⟩:=this
  rw [nV] at e
  cases e
 refine ⟨lV,rfl,⟨_,a8.of eV⟩,cv (K:=K) (a:=lV) (xs:=Ry.map fun kv=>kv.2) (fun i σ H' =>∃(o6 o7 o8 o9:ω),σ=[some (.ref sA),some (.ref lP),some (.ref lB),some (.ref fA),some (.ref dm),some (.ref lC),o6,o7,o8,o9,none,none]/\(∀b o,b∉f9 pins Jb->H9 b=some o->H' b=some o)/\aY H9 H' /\∀j o,i<=j->Jb[j]? =some o->Rg H' pins o) ⟨none,none,none,none,rfl,fun _ _ _ e=>e,fun _ _ r=>r,fun j o _ e1=>?_⟩ (fun i σ H' _ h=>by
   obtain ⟨_,_,_,_,_,h,_⟩:=h
   exact a8.of (h _ _ noV eV)) ?_ ?_⟩
 ·obtain ⟨kv,_,p,Y7,kU,_,oa⟩:=av (bG mo9.pr) e1
  exact oa.rg
 ·rintro i u σ yw hu ⟨o6,o7,o8,o9,rfl,k10,t10,g10⟩
  rw [Wp] at hu
  obtain ⟨kv,ek,rfl⟩:=aar.mp hu
  obtain ⟨ow,eo,p,kT0,kU0,rA,oa⟩:=av mo9.pr ek
  have mr:=be eo
  have rn:=(aaX.mp nd7).2
  have Y8:ow.2.1≠ow.2.2.1/\(∀q∈pins,ow.2.2.2 q.nm≠ow.2.1)/\(∀q∈pins,ow.2.2.2 q.nm≠ow.2.2.1)/\(pins.map fun q=>ow.2.2.2 q.nm).Nodup:=by
   have z:(ow.2.1::ow.2.2.1::pins.map fun q=>ow.2.2.2 q.nm).Nodup:=zg (f:=fun o:dy=>jd pins o.2) rn mr
   rw [aaX,aaX] at z
   refine ⟨fun e=>z.1 (by rw [e];exact aap),fun q hq e=>z.1 (by rw [<- e];exact aae _ (aad.mpr ⟨q,hq,rfl⟩)),fun q hq e=>z.2.1 (by rw [<- e];exact aad.mpr ⟨q,hq,rfl⟩),z.2.2⟩
  have inr:∀{b:Addr},b∈jd pins ow.2->b∈f9 pins Jb:=fun {b} hb=>abb.mpr ⟨ow,mr,hb⟩
  have m1:ow.2.1∈jd pins ow.2:=aap
  have m2:ow.2.2.1∈jd pins ow.2:=aae _ aap
  have m3:∀q∈pins,ow.2.2.2 q.nm∈jd pins ow.2:=fun q hq=>aae _ (aae _ (aad.mpr ⟨q,hq,rfl⟩))
  obtain ⟨Y7,kU,h2,h3,h4⟩:=g10 i ow (aaf _) eo
  have ep:kv.2=.ref p:=by rw [rA]
  rw [ep]
  refine ⟨_,rfl,p,_,_,_,rfl,rfl,t10.bN oa.hp,g9,ow.2.1,Y7,rfl,h2,?_⟩
  have JH:∀{Ha Hb:Hp},(∀b o,b∉jd pins ow.2->Ha b=some o->Hb b=some o)->(∀j o,i+1<=j->Jb[j]? =some o->Rg Ha pins o)->∀j o,i+1<=j->Jb[j]? =some o->Rg Hb pins o:=fun {Ha Hb} kk hh j o hj e1=>(hh j o hj e1).keep fun a ha u e=>kk _ _ (vK rn e1 eo (show j≠i by omega) a ha) e
  have kc:aX ow.2.1 yw (upd yw ow.2.1 (.dK [])):=aX.upd
  have tc:aY yw (upd yw ow.2.1 (.dK [])):=bY h2 yX kc
  generalize upd yw ow.2.1 (.dK [])=Yu at kc tc ⊢
  have k11:∀b o,b∉f9 pins Jb->H9 b=some o->Yu b=some o:=fun b o n e=>kc _ _ (fun z=>n (by rw [z];exact inr m1)) (k10 b o n e)
  have Vo:∀{Hx:Hp},(∀b o,b∉f9 pins Jb->H9 b=some o->Hx b=some o)->Hx lP=some (.lst us):=fun {Hx} kx=>kx _ _ (no6 NQ.hp) (P5 _ _ NQ.hp)
  refine ⟨_,rfl,lP,rfl,⟨_,a8.of (Vo k11)⟩,cv (K:=K) (a:=lP) (xs:=us) (fun t σ H' =>∃(o7 o8 o9:ω),σ=[some (.ref sA),some (.ref lP),some (.ref lB),some (.ref fA),some (.ref dm),some (.ref lC),some (.ref p),o7,o8,o9,none,none]/\(∀b o,b∉f9 pins Jb->H9 b=some o->H' b=some o)/\aY H9 H' /\(∀j o,i+1<=j->Jb[j]? =some o->Rg H' pins o)/\H' ow.2.2.1=some (.dK kU)/\∀c q,t<=c->pins[c]? =some q->∃ck,H' (ow.2.2.2 q.nm)=some (.lst ck)/\ck.length=q.ws.length) ⟨_,_,_,rfl,k11,fun _ _ r=>tc _ _ (t10 _ _ r),JH (fun b o n e=>kc _ _ (fun z=>n (by rw [z];exact m1)) e) fun j o hj=>g10 j o (by omega),kc _ _ (aaW Y8.1) h3,fun c q _ ec=>?_⟩ (fun t σ H' _ h=>by
    obtain ⟨_,_,_,_,h,_⟩:=h
    exact a8.of (Vo h)) ?_ ?_⟩
  ·have mq:=be ec
   obtain ⟨_,ck,e,l⟩:=h4 q mq
   exact ⟨ck,kc _ _ (Y8.2.1 q mq) e,l⟩
  ·rintro t u σ CZ hu ⟨o7,o8,o9,rfl,Y9,Rz,g12,Rn,l12⟩
   obtain ⟨q,eq,ta,l,sv,wv,rfl,c1,c2,c3,c4⟩:=av NQ.pr hu
   have mq:=be eq
   have hw:CZ l=some (.lst wv):=Y9 _ _ (no6 c3) (P5 _ _ c3)
   have lwv:wv.length=q.ws.length:=Paired.length c4
   obtain ⟨ck,hv,lv⟩:=l12 t q (aaf _) eq
   have LR:bU K CZ p [.ref ow.2.1,.ref ow.2.2.1]:=Rz.bN oa.hp
   have dgU:cL CZ ow.2.2.1 (.str q.nm) (some (.ref (ow.2.2.2 q.nm))):=by
    have:=cL.k (k:=.inr q.nm) Rn
    rw [(h4 q mq).1] at this
    exact this
   refine ⟨ta,_,rfl,Rz.bN (Ty.au.bN P5 c1),rfl,_,_,rfl,_,_,rfl,_,_,rfl,rfl,?_⟩
   refine ⟨_,rfl,p,_,_,_,rfl,rfl,LR,ip,_,rfl,ow.2.2.1,_,rfl,dgU,ow.2.2.2 q.nm,_,rfl,.inl (a8.of hv),_,rfl,l,_,rfl,.inl (a8.of hw),rfl,_,rfl,?_⟩
   rw [lv,lwv,decide_eq_true rfl]
   refine bx (fun c=>nomatch c) (fun _=>?_)
   refine ⟨_,rfl,p,_,_,_,rfl,rfl,LR,ip,_,rfl,ow.2.2.1,_,rfl,dgU,.inl ⟨rfl,_,a8.of hv⟩,L2,?_⟩
   intro Y_ n13;generalize eX:upd _ Y_ _=ud;have ⟨ub,e13⟩:=nw n13 eX;clear eX
   have lq2:q.ws.length<=2:=ua.g.lw q mq
   refine ⟨ow.2.2.2 q.nm,_,_,rfl,rfl,ub _ _ hv,(aaq (show ck.length<=1000 by omega) (by decide)),?_⟩
   have kd:aX (ow.2.2.2 q.nm) ud (upd ud (ow.2.2.2 q.nm) (.lst (ck ++[.ref Y_]))):=aX.upd
   have td:aY ud (upd ud (ow.2.2.2 q.nm) (.lst (ck ++[.ref Y_]))):=bY (ub _ _ hv) NP kd
   generalize upd ud (ow.2.2.2 q.nm) (.lst (ck ++[.ref Y_]))=Y' at kd td ⊢
   have ka:∀b o,b≠ow.2.2.2 q.nm->CZ b=some o->Y' b=some o:=fun b o n e=>kd _ _ n (ub _ _ e)
   refine ⟨_,_,_,rfl,fun b o n e=>ka b o (fun z=>n (by rw [z];exact inr (m3 q mq))) (Y9 b o n e),fun b xs r=>td _ _ ((Rz b xs r).imp (ub _ _) fun ⟨o,z⟩=>⟨o,ub _ _ z⟩),JH (fun b o n e=>ka b o (fun z=>n (by rw [z];exact m3 q mq)) e) g12,ka _ _ (aaW (Y8.2.2.1 q mq)) Rn,fun c q' hc ec=>?_⟩
   obtain ⟨Rv,e2,l2⟩:=l12 c q' (by omega) ec
   refine ⟨Rv,ka _ _ (fun z=>?_) e2,l2⟩
   have f1:(pins.map fun q=>ow.2.2.2 q.nm)[c]? =some (ow.2.2.2 q.nm):=by rw [Wp,ec, <- z];rfl
   have f2:(pins.map fun q=>ow.2.2.2 q.nm)[t]? =some (ow.2.2.2 q.nm):=by rw [Wp,eq];rfl
   have:=cO Y8.2.2.2 f1 f2
   omega
  ·rintro σ CZ ⟨o7,o8,o9,rfl,Y9,Rz,g12,Rn,l12⟩
   have LR:bU K CZ p [.ref ow.2.1,.ref ow.2.2.1]:=Rz.bN oa.hp
   refine ⟨_,rfl,p,_,_,_,rfl,rfl,LR,ip,ow.2.2.1,kU,rfl,Rn,?_⟩
   have kd:aX ow.2.2.1 CZ (upd CZ ow.2.2.1 (.dK [])):=aX.upd
   have td:aY CZ (upd CZ ow.2.2.1 (.dK [])):=bY Rn yX kd
   generalize upd CZ ow.2.2.1 (.dK [])=ud at kd td ⊢
   exact ⟨_,_,_,_,rfl,fun b o n e=>kd _ _ (fun z=>n (by rw [z];exact inr m2)) (Y9 b o n e),fun b xs r=>td _ _ (Rz b xs r),JH (fun b o n e=>kd _ _ (fun z=>n (by rw [z];exact m2)) e) g12⟩
 rintro σ yw ⟨o6,o7,o8,o9,rfl,k10,t10,_⟩
 have Vp:au H6 yw:=fun b o e=>k10 b o (no6 e) (P5 _ _ e)
 have LS:=NQ.same Vp
 dsimp only
 refine eg (fun σ' H' =>σ' =[some (.ref sA),some (.ref lP),some (.ref lB),some (.ref fA),some (.ref dm),some (.ref lC),o6,o7,o8,o9,none,none]/\au yw H') (fun Nx qh=>?_) ?_
 ·refine ⟨_,rfl,_,rfl,_,rfl,fA,pins,bars,rfl,LS.fa,LS.g,Rx LS,fun d3 kT3 os3 Yu Z1 ab5 ab6 _ _=>?_⟩
  try dsimp only [dQ]
  refine ri (LS.same Z1) ab5 ab6 fun CZ K7=>⟨_,rfl,?_⟩
  refine bx (fun c=>nomatch c) (fun _=>?_)
  exact qh _ _ ⟨rfl,Z1.trans K7⟩
 rintro σ' ud ⟨rfl,Vq⟩
 have Jc:=Vp.trans Vq
 have s0:=rF.trans (s36.trans Jc)
 have e_:=NQ.same Jc
 have Vr:Kp H3 H6 ud:=⟨fun _ _ r=>r.imp (Jc _ _) fun ⟨o,z⟩=>⟨o,Jc _ _ z⟩,fun b o _ e=>Jc _ _ e⟩
 refine eg (fun σ' H' =>∃(Za:ω) (ck :ζ) (Vs :π),σ' =[some (.ref sA),some (.ref lP),some (.ref lB),some (.ref fA),some (.ref dm),some (.ref lC),o6,o7,o8,o9,Za,none]/\KO pP pW pB lP lB H H' /\Kp H3 H6 H' /\WS K H' C fA dx pP pW pB lP lB us ck pins Vs) (fun Nx qh=>?_) ?_
 ·have lvb:vs.length=bars.length:=Paired.length e_.pb
  refine ⟨_,rfl,lB,_,rfl,.inl (a8.of e_.hb),_,_,rfl,rfl,_,rfl,?_⟩
  refine bx (fun cl=>?_) (fun cl=>?_)
  ·have cl' :=of_decide_eq_true cl
   refine ⟨_,rfl,.inl ⟨rfl,_,a8.of e_.hb⟩,_,rfl,sA,ns,2,rfl,xW (KO.of s0),by decide,by decide,_,rfl,lB,_,rfl,.inl (a8.of e_.hb),_,_,_,rfl,by decide,by decide,by omega,?_⟩
   have fi:=aZ (c:=cell ns 2) (p:=1009) (m:=((vs.length:Nat):Int)) (by omega)
   generalize field (cell ns 2) 1009 ((vs.length:Nat):Int)=fv at fi ⊢
   obtain ⟨k,rfl⟩:∃n:Nat,fv=(n:Int):=⟨fv.toNat,by omega⟩
   have hk:k < vs.length:=by omega
   obtain ⟨b,eb⟩:∃b,bars[k]? =some b:=⟨_,gE (by omega)⟩
   have mb:=be eb
   obtain ⟨y,ey,hy⟩:=av (bG e_.pb) eb
   have hy:fF K ud pins y b:=hy
   obtain ⟨ta,i,j,rfl,h1,g1,g2⟩:=hy
   obtain ⟨pO,iM,Nr,R,W,nW⟩:=e_.fr
   refine ⟨lB,vs,(k:Int),k,.ref ta,rfl,rfl,e_.hb,by omega,by omega,GS hk,ey,?_⟩
   have xX:∀b o,b≠lB->ud b=some o->(upd ud lB (.lst (vs.eraseIdx k))) b=some o:=fun b o n e=>by rw [ao n];exact e
   have Vt:(upd ud lB (.lst (vs.eraseIdx k))) lB=some (.lst (vs.eraseIdx k)):=ak
   generalize upd ud lB (.lst (vs.eraseIdx k))=Y' at xX Vt ⊢
   have k14:KO pP pW pB lP lB ud Y':=fun b o _ _ _ _ n5 e=>xX b o n5 e
   have t14:=e_.t k14
   have nPb:pP≠lB:=fun z=>by have h:=R.pl;rw [z,e_.hb] at h;cases h
   have nWb:pW≠lB:=fun z=>by have h:=R.wy;rw [z,e_.hb] at h;cases h
   have Zc:pB≠lB:=fun z=>by have h:=R.br;rw [z,e_.hb] at h;cases h
   have nBp:pB≠lP:=fun z=>by have h:=R.br;rw [z,e_.hp] at h;cases h
   have fb:fA≠lB:=fun z=>by have h:=R.obj;rw [z,e_.hb] at h;cases h
   have fB:fA≠pB:=fun z=>by have h:=R.obj;rw [z,R.br] at h;cases h
   have R14:dZ K Y' C fA dx pP pW pB (JQ pins) (wg bars) pO iM Nr :=R.bY t14 ((xX _ _ fb R.obj).trans R.obj.symm) ((xX _ _ nPb R.pl).trans R.pl.symm) ((xX _ _ nWb R.wy).trans R.wy.symm) ((xX _ _ Zc R.br).trans R.br.symm)
   refine ⟨_,rfl,fA,C,dx,_,_,_,rfl,R14.obj,rfl,MTb,_,rfl,ta,_,_,_,rfl,rfl,t14.bN h1,rfl,?_⟩
   dsimp only [dQ]
   refine ⟨fA,dx,pP,pW,pB,JQ pins,wg bars,pO,iM,Nr,b.nm,rfl,R14,by rw [aaE];exact aad.mpr ⟨b,mb,rfl⟩,fun Zd kB1 k15 JR=>?_⟩
   have em:=pE gb.nb eb
   have nob:b.nm∉(bars.eraseIdx k).map (·.nm):=fun z=>by
    obtain ⟨c,hc,e⟩:=aad.mp z
    have mc:(c.nm,c.one.nm,c.other.nm)∈wg (bars.eraseIdx k):=aad.mpr ⟨c,hc,rfl⟩
    rw [<- em] at mc
    exact (of_decide_eq_true (abM.mp mc).2) e
   rw [em] at JR
   have Qm:∀b o,b≠lB->b≠pB->ud b=some o->Zd b=some o:=fun b o n n' e=>k15 _ _ n' (xX b o n e)
   have Jd:=k15 _ _ (aaW Zc) Vt
   have Vu:KO pP pW pB lP lB ud Zd:=fun b o _ _ n3 _ n5 e=>Qm b o n5 n3 e
   have SO:=(e_.t Vu).bN h1
   refine ⟨_,rfl,.inl ⟨rfl,_,a8.of Jd⟩,_,rfl,ta,_,_,_,rfl,rfl,SO,rfl,_,rfl,ta,_,_,_,rfl,rfl,SO,rfl,_,rfl,ta,_,_,_,rfl,rfl,SO,rfl,L3,?_⟩
   intro LU n16;generalize eX:upd _ LU _=Ze;have ⟨T7,e16⟩:=nw n16 eX;clear eX
   refine ⟨lB,_,_,rfl,rfl,T7 _ _ Jd,(aaq (show (vs.eraseIdx k).length<=1000 by have:=af_ vs k;omega) (by decide)),?_⟩
   have tH:∀b o,b≠lB->Zd b=some o->(upd Ze lB (.lst (vs.eraseIdx k++[.ref LU]))) b=some o:=fun b o n e=>by rw [ao n];exact T7 _ _ e
   have Vv:(upd Ze lB (.lst (vs.eraseIdx k++[.ref LU]))) lB=some (.lst (vs.eraseIdx k++[.ref LU])):=ak
   have Zf:(upd Ze lB (.lst (vs.eraseIdx k++[.ref LU]))) LU=some (.tup [.str b.nm,.int (j:Int),.int (i:Int)]):=by rw [ao (fun z=>by rw [z,Jd] at n16;cases n16)];exact e16
   generalize upd Ze lB (.lst (vs.eraseIdx k++[.ref LU]))=Zg at tH Vv Zf ⊢
   have Je:KO pP pW pB lP lB ud Zg:=fun b o _ _ n3 _ n5 e=>tH b o n5 (Qm b o n5 n3 e)
   have Vw:aY Zd Zg:=fun b xs r=>by
    rcases r with r | ⟨o',r⟩
    ·exact .inl (tH _ _ (fun z=>by rw [z,Jd] at r;cases r) r)
    ·exact .inr ⟨o',tH _ _ (fun z=>by rw [z,Jd] at r;cases r) r⟩
   have R17:=JR.bY Vw ((tH _ _ fb JR.obj).trans JR.obj.symm) ((tH _ _ nPb JR.pl).trans JR.pl.symm) ((tH _ _ nWb JR.wy).trans JR.wy.symm) ((tH _ _ Zc JR.br).trans JR.br.symm)
   have h17:=(e_.t Je).bN h1
   have Qn:Zg lP=some (.lst us):=tH _ _ Oe (Qm _ _ Oe (aaW nBp) e_.hp)
   have Vx:Paired (ji K Zg lP lB) us pins:=Paired.bJ e_.pp fun _ _ z=>e_.C_ Je z
   obtain ⟨u1,eu1,p1,_,_,_,rfl,c1,_⟩:=av (bG Vx) g1
   obtain ⟨u2,eu2,p2,_,_,_,rfl,c2,_⟩:=av (bG Vx) g2
   refine ⟨_,rfl,fA,C,dx,_,_,_,rfl,R17.obj,rfl,Rq,_,rfl,ta,_,_,_,rfl,rfl,h17,rfl,_,rfl,_,rfl,ta,_,_,_,rfl,rfl,h17,rfl,lP,_,_,_,rfl,rfl,a8.of Qn,bV eu2,p2,_,_,_,rfl,rfl,c2,rfl,_,rfl,_,rfl,ta,_,_,_,rfl,rfl,h17,rfl,lP,_,_,_,rfl,rfl,a8.of Qn,bV eu1,p1,_,_,_,rfl,rfl,c1,rfl,?_⟩
   dsimp only [dQ]
   obtain ⟨m1,m2,m3⟩:=gb.ends b mb
   have len:=List.length_eraseIdx_of_lt (l:=bars) (i:=k) (by omega)
   have nmP:(JQ pins).map (·.1)=pins.map (·.nm):=by rw [aaE];rfl
   refine ⟨fA,dx,pP,pW,pB,JQ pins,wg (bars.eraseIdx k),pO,iM,kB1,b.nm,b.other.nm,b.one.nm,rfl,R17,by rw [aaE];exact nob,by rw [nmP];exact aad.mpr ⟨_,m2,rfl⟩,by rw [nmP];exact aad.mpr ⟨_,m1,rfl⟩,aaW m3,by rw [aab];omega,fun H18 kB2 Zh R18=>?_⟩
   have vM:KO pP pW pB lP lB ud H18:=fun b o n1 n2 n3 n4 n5 e=>Zh _ _ n3 (Je b o n1 n2 n3 n4 n5 e)
   have Vy:=e_.t vM
   have sub:aht (bars.eraseIdx k) bars:=ahK _ _
   have Jf:WS K H18 C fA dx pP pW pB lP lB us (vs.eraseIdx k++[.ref LU]) pins (bars.eraseIdx k++[⟨b.nm,b.other,b.one⟩]):=by
    refine ⟨⟨pO,iM,kB2,?_,e_.wys vM W nW,nW⟩,Zh _ _ (aaW nBp) Qn,Paired.bJ e_.pp fun _ _ z=>e_.C_ vM z,Zh _ _ (aaW Zc) Vv,dN (jZ (Paired.bJ e_.pb fun u b z=>?_)) ⟨LU,j,i,rfl,bU.of (Zh _ _ (fun z=>by rw [z,R17.br] at Zf;cases Zf) Zf),g2,g1⟩,gp,ix.snoc ⟨gb.nb.sublist (sub.map _),fun c hc=>gb.ends c (sub.subset hc)⟩ nob ⟨m2,m1,aaW m3⟩,e_.lp,?_,Oe⟩
    ·rw [show wg (bars.eraseIdx k++[⟨b.nm,b.other,b.one⟩])=wg (bars.eraseIdx k)++[(b.nm,b.other.nm,b.one.nm)] from aaH]
     exact R18
    ·obtain ⟨a,i,j,e,h1,g1,g2⟩:=z
     exact ⟨a,i,j,e,Vy.bN h1,g1,g2⟩
    ·rw [aat,aip]
     omega
   have aca:KO pP pW pB lP lB H H18:=(KO.of s0).trans vM
   have acb:=Vr.ko ua e_ vM
   refine ⟨_,rfl,_,rfl,_,rfl,fA,pins,_,rfl,Jf.fa,Jf.g,Rx Jf,fun d5 kT5 os5 H24 uc Qo Qp _ _=>?_⟩
   try dsimp only [dQ]
   refine ri (Jf.same uc) Qo Qp fun H25 we=>⟨_,rfl,?_⟩
   refine bx (fun c=>nomatch c) (fun _=>?_)
   exact qh _ _ ⟨_,_,_,rfl,aca.trans (KO.of (uc.trans we)),acb.same (uc.trans we),(Jf.same uc).same we⟩
  ·exact qh _ _ ⟨none,vs,bars,rfl,KO.of s0,Vr,e_⟩
 rintro σ' H20 ⟨Za,Rv,vN,rfl,Qq,Vz,LV⟩
 refine eg (fun σ' H' =>∃(g:V) (j0:ν) (usG vsG:ζ),σ' =[some (.ref sA),some (.ref lP),some (.ref lB),some (.ref fA),some (.ref dm),some (.ref lC),o6,o7,o8,o9,Za,some g]/\KO pP pW pB lP lB H H' /\Kp H3 H6 H' /\WS K H' C fA dx pP pW pB lP lB usG vsG j0 vN/\j0.length<=7/\((g=.cB/\∀p∈j0,p.nm≠ "far"/\p.sp.1<=1000001)\/∃p,ji K H' lP lB g p/\p.nm∉j0.map (·.nm)/\p.sp∉j0.map (·.sp)/\Sz 44 p.sp.1/\Sz 20 p.sp.2/\ -500002<=p.sp.2/\∀q∈j0,q.sp.2<=500002)) (fun Nx qh=>?_) ?_
 ·refine ⟨_,rfl,_,rfl,_,rfl,_,rfl,sA,ns,15,rfl,xW Qq,by decide,by decide,?_⟩
  try dsimp only [dQ]
  refine ⟨fA,dx,pP,pW,pB,lP,lB,_,Rv,_,vN,_,rfl,LV,fun H23 YR=>?_,fun k p y jI vs3 H23 ek ko xY py=>?_⟩
  ·exact qh _ _ ⟨.cB,_,_,Rv,rfl,Qq.trans (KO.of YR),Vz.same YR,LV.same YR,by omega,.inl ⟨rfl,fun p hp=>⟨(pn p hp).1.2,by have:=(pn p hp).2.1;grind⟩⟩⟩
  ·have mp:=be ek
   obtain ⟨u1,u2⟩:=LV.gp.un ek
   have sub:∀q∈pins.eraseIdx k,q∈pins:=fun q hq=>(ahK _ _).subset hq
   refine qh _ _ ⟨y,_,jI,vs3,rfl,Qq.trans ko,Vz.ko ua LV ko,xY,?_,.inr ⟨p,py,u1,u2,(gp.sz p mp).1,(pn p mp).2.2.1,(pn p mp).2.2.2.1,fun q hq=>(pn q (sub q hq)).2.2.2.2⟩⟩
   have:=af_ pins k
   omega
 rintro σ' H23 ⟨g,j0,usG,vsG,rfl,acg,ach,xY,lG,alt⟩
 refine eg (fun σ' H' =>σ' =[some (.ref sA),some (.ref lP),some (.ref lB),some (.ref fA),some (.ref dm),some (.ref lC),o6,o7,o8,o9,Za,some g]/\au H23 H') (fun Nx qh=>?_) ?_
 ·refine ⟨_,rfl,_,rfl,_,rfl,fA,j0,vN,rfl,xY.fa,xY.g,Rx xY,fun d5 kT5 os5 H24 uc Qo Qp _ _=>?_⟩
  try dsimp only [dQ]
  refine ri (xY.same uc) Qo Qp fun H25 we=>⟨_,rfl,?_⟩
  refine bx (fun c=>nomatch c) (fun _=>?_)
  exact qh _ _ ⟨rfl,uc.trans we⟩
 rintro σ' H25 ⟨rfl,we⟩
 have VA:=xY.same we
 have aci:=acg.trans (KO.of (pP:=pP) (pW:=pW) (pB:=pB) (lP:=lP) (lB:=lB) we)
 have acj:=ach.same we
 refine ⟨_,rfl,_,rfl,_,rfl,_,rfl,sA,ns,15,rfl,xW aci,by decide,by decide,?_⟩
 try dsimp only [dQ]
 refine ⟨fA,dx,pP,pW,pB,lP,lB,usG,vsG,j0,vN,g,_,rfl,VA,lG,alt.imp id (fun ⟨p,a,b⟩=>⟨p,a.same we,b⟩),fun p jI H26 ko LW=>?_⟩
 refine ⟨_,rfl,_,rfl,_,rfl,fA,_,vN,rfl,LW.fa,LW.g,Rx LW,fun d6 kT6 os6 H27 s27 ack acm _ _=>?_⟩
 try dsimp only [dQ]
 refine ri (LW.same s27) ack acm fun H28 s28=>⟨_,rfl,?_⟩
 refine bx (fun _=>?_) (fun c=>absurd rfl c)
 have LX:=(acj.ko ua VA ko).same (s27.trans s28)
 have mo6:=mo4.same (s5.trans s6)
 have acn:=mo6.keep LX.1 fun a ha u e=>LX.2 _ _ (Rt a (aae _ ha)) e
 have aco:H28 dm=some (.dK kT):=LX.2 _ _ (Rt dm aap) (s6 _ _ (s5 _ _ em4))
 refine ⟨_,rfl,dm,pins,bars,kT,os,110000,rfl,acn,gb.nb,gp.np,by omega,by omega,aco,nrd,fun lC2 zs2 RA s29 nC2 eC2 pc2=>?_⟩
 have s35:=s4.trans s5
 have Qr:=LX.same s29
 have acp:RA lC=some (.lst zs):=Qr.2 _ _ (s35.free nC) eC
 have acq:Paired (jY K H5 RA pins bars) zs os:=Paired.bJ pc fun _ _ z=>z.keep Qr.1 fun l xs n e=>Qr.2 _ _ (s35.free n) e
 have i1:Is K RA (.l (os.map (Vl pins bars))) (.ref lC2):=by
  unfold Is
  exact ⟨lC2,zs2,rfl,a8.of eC2,gU (R:=jY K H28 RA pins bars) (fun _ _ z=>z.is) pc2⟩
 have i2:Is K RA (.l (os.map (Vl pins bars))) (.ref lC):=by
  unfold Is
  exact ⟨lC,zs,rfl,a8.of acp,gU (R:=jY K H5 RA pins bars) (fun _ _ z=>z.is) acq⟩
 exact ⟨_,rfl,abQ i1 i2 (pD (LO pins bars) _) (q _)⟩
end
theorem all_mk {l:PySem.W.OpenLaw}{w:World}{K:Frag}{h:Heap}{mg:ι}{fa:Addr}(X:K.In h)(G:h.Ns mainGlobals mg)(hfa:mg "law"=some (.ref fa))
  (acr:HXx K "difference_of" xj) (acw:HXx K "lowest_terms" vi) (acA:HXx K "greatest_shared" AO) (acE:HXx K "arm_between" AQ) (acI:HXx K "pair_difference" xk) (acM:HXx K "pair_row" AR) (acQ:HXx K "bar_row" AS) (acU:HXx K "draw_rows" AU) (acY:HXx K "pulls_and_pushes" AV) (mE:HXx K "spare_columns" cq) (tI:HXx K "spare_list" di) (ac2:HXx K "turned" AW) (ac6:HXx K "whole_row" AX) (ac':HXx K "reduced" AY) (adf:HXx K "first_not_nought" AZ) (adj:HXx K "cleared" A_) (adn:HXx K "divided" BA) (vO:HXx K "spares_of" dJ) (ads:HXx K "_law_cell_at" BB) (adw:HXx K "_law_field" BC) (adA:HXx K "_law_lowest" BD) (adE:HXx K "_law_sum" BE) (adI:HXx K "_law_times" BF) (adM:HXx K "_law_turned" BG) (adQ:HXx K "_law_name" xl) (adU:HXx K "_law_spot" BH) (adY:HXx K "_law_ways" BI) (ad2:HXx K "_law_pins" BJ) (ad6:HXx K "_law_bars" BK) (vS:HXx K "_law_thick" dM) (ad':HXx K "_law_frame" BL) (aed:HXx K "_law_arm" BM) (aeh:HXx K "_law_add" BN) (ael:HXx K "_law_forces" BO) (aep:HXx K "_law_number" BP) (aet:HXx K "_law_are_forces" BQ) (aex:HXx K "_law_at_rest" BR) (DK:HXx K "_law_one" fk) (aeB:HXx K "_law_right" BS) (x3:HXx K "_law_copy" eJ) (qm:HXx K "_law_put_pin" cR) (qv:HXx K "_law_pin_out" cS) (tO:HXx K "_law_pin_in" dj) (WL:nsIn K mainGlobals "law"=some (some (.ref NZ))) (WM:K.lookup NZ=some ⟨aeF,aeG,.func (fnOf "law" "law" (ay jF) (aw jF) (ag jF) .none QC QD QE QF Jw QG),aeH⟩) (WN:codeIn K Jw "law"=true) (WO:keepIn K (.ref NZ)=true) (aeI:nsIn K mainGlobals "MOST_PINS"=some (some (.int 24 anw))) (aeJ:nsIn K mainGlobals "MOST_BARS"=some (some (.int 60 anx))) (aeK:nsIn K mainGlobals "NOUGHT"=some (some (.ref QH))) (aeL:K.lookup QH=some ⟨.type "tuple",anz,.seq #[.int 0 aeM,.int 1 aeN] anA,anB⟩) (aeO:nsIn K mainGlobals "ONE"=some (some (.ref QI))) (aeP:K.lookup QI=some ⟨.type "tuple",anC,.seq #[.int 1 aeQ,.int 1 aeR] anD,anE⟩) (aeS:nsIn K mainGlobals "NO_MOVE"=some (some (.ref QJ))) (aeT:K.lookup QJ=some ⟨.type "tuple",anF,.seq #[.ref WQ,.ref WR] anG,anH⟩) (aeU:K.lookup WQ=some ⟨.type "tuple",anI,.seq #[.int 0 aeV,.int 1 aeW] anJ,anK⟩) (aeX:K.lookup WR=some ⟨.type "tuple",anL,.seq #[.int 0 aeY,.int 1 aeZ] anM,anN⟩) (tW:nsIn K mainGlobals "ValueError"=some none) (WT:nsIn K mainGlobals "abs"=some none) (WU:nsIn K mainGlobals "all"=some none) (WV:nsIn K mainGlobals "any"=some none) (QK:nsIn K mainGlobals "bool"=some none) (QL:nsIn K mainGlobals "dict"=some none) (vX:nsIn K mainGlobals "enumerate"=some none) (WW:nsIn K mainGlobals "int"=some none) (tX:nsIn K mainGlobals "isinstance"=some none) (WX:nsIn K mainGlobals "len"=some none) (QM:nsIn K mainGlobals "list"=some none) (WY:nsIn K mainGlobals "min"=some none) (Mj:nsIn K mainGlobals "range"=some none) (WZ:nsIn K mainGlobals "str"=some none) (Ml:nsIn K mainGlobals "tuple"=some none) (W5:nsIn K mainGlobals "zip"=some none) (ae0:nsIn K mainGlobals "YardError"=some (some (.ref ae1))) (ae2:nsIn K mainGlobals "NoWay"=some (some (.ref ae3))) (ae4:nsIn K mainGlobals "PinThere"=some (some (.ref ae5))) (ae6:nsIn K mainGlobals "SpotTaken"=some (some (.ref ae7))) (ae8:nsIn K mainGlobals "NoPin"=some (some (.ref ae9))) (DO:nsIn K mainGlobals "PinBusy"=some (some (.ref DP))) (ae':nsIn K mainGlobals "BarThere"=some (some (.ref afa))) (afb:nsIn K mainGlobals "NoBar"=some (some (.ref afc))) (afd:nsIn K mainGlobals "NoLength"=some (some (.ref afe))) (aff:nsIn K mainGlobals "TooMany"=some (some (.ref afg))) (afh:nsIn K mainGlobals "Frame"=some (some (.ref bP))) (afi:nsIn K mainGlobals "Hold"=some (some (.ref mI))) (afj:nsIn K mainGlobals "Roller"=some (some (.ref iP))) (afk:nsIn K mainGlobals "Fixed"=some (some (.ref k_))) (W7:PySem.W.plainGet K bP Str.empty=true) (W8:PySem.W.hasDictIn K bP=true) (W9:PySem.W.plainOver K bP=true) (W_:PySem.W.findIn K (.ref bP) "__setattr__"=some (some (.builtin "object.__setattr__"))) (Xa:PySem.W.makesIn K bP=true) (Xb:keepIn K (.ref bP)=true) (Xc:HXy K bP "__init__" "Frame.__init__" BU) (afn:PySem.W.findIn K (.ref bP) "put_pin"=some (some (.ref Mm))) (afo:PySem.W.isFn K (.ref Mm)=true) (afp:K.lookup Mm=some ⟨anW,anY,.func (fnOf "put_pin" "Frame.put_pin" (ay my) (aw my) (ag my) (.ref Jy) N0 N1 N2 N3 Jz N4),anZ⟩) (Xg:K.lookup Jy=some ⟨an0,afq,.seq #[.none] an1,afr⟩) (afs:codeIn K Jz "Frame.put_pin"=true) (Xh:keepIn K (.ref Mm)=true) (aft:HXy K bP "put_bar" "Frame.put_bar" BV) (afx:HXy K bP "check_bar" "Frame.check_bar" BW) (afB:HXy K bP "check_pin" "Frame.check_pin" BX) (afF:HXy K bP "take_bar" "Frame.take_bar" BY) (lh:HXy K bP "take_pin" "Frame.take_pin" b_) (afJ:HXy K bP "pins" "Frame.pins" BZ) (afN:HXy K bP "bars" "Frame.bars" B_) (afR:HXy K bP "place" "Frame.place" CA) (afV:HXy K bP "ways" "Frame.ways" CB) (afZ:HXy K bP "ends" "Frame.ends" CC) (XA:PySem.W.plainGet K mI Str.empty=true) (XB:PySem.W.hasDictIn K mI=true) (XC:PySem.W.plainOver K mI=true) (XD:PySem.W.findIn K (.ref mI) "__setattr__"=some (some (.builtin "object.__setattr__"))) (XE:PySem.W.makesIn K mI=true) (XF:keepIn K (.ref mI)=true) (XG:PySem.W.findIn K (.ref mI) "__init__"=some (some (.builtin "object.__init__"))) (af3:HXy K mI "ways" "Hold.ways" K9) (XJ:PySem.W.plainGet K iP Str.empty=true) (XM:PySem.W.hasDictIn K iP=true) (XN:PySem.W.plainOver K iP=true) (XO:PySem.W.findIn K (.ref iP) "__setattr__"=some (some (.builtin "object.__setattr__"))) (XQ:PySem.W.makesIn K iP=true) (XR:keepIn K (.ref iP)=true) (XS:HXy K iP "__init__" "Roller.__init__" CD) (af9:HXy K iP "ways" "Roller.ways" CG) (XZ:PySem.W.plainGet K k_ Str.empty=true) (X0:PySem.W.hasDictIn K k_=true) (X1:PySem.W.plainOver K k_=true) (X2:PySem.W.findIn K (.ref k_) "__setattr__"=some (some (.builtin "object.__setattr__"))) (X3:PySem.W.makesIn K k_=true) (X4:keepIn K (.ref k_)=true) (X5:PySem.W.findIn K (.ref k_) "__init__"=some (some (.builtin "object.__init__"))) (agc:HXy K k_ "ways" "Fixed.ways" CH) (JB:PySem.W.findIn K (.ref bP) "pin_places"=some none) (QN:PySem.W.findIn K (.ref bP) "pin_ways"=some none) (QO:PySem.W.findIn K (.ref bP) "bar_ends"=some none) (N5:PySem.W.findIn K (.ref iP) "way"=some none) (ht:l.prog.given.tree=none):
  ∃fd:FuncData,(∀(s:Shared) (v:Value),BindsTo s fd ⟨[v],[]⟩ [("_law_script",v)])/\∀base:Heap,K.In base->base.Ns mainGlobals mg->cI l.prog w K mg base (bg l.prog w) 42 fa fd ["_law_script"] (FI K):=by
 have e:=hfa.symm.trans (mg_of X G WL)
 cases e
 obtain ⟨Xc,Xd,afl,afm,Xf⟩:=Xc
 obtain ⟨aft,afu,afv,afw,Xj⟩:=aft
 obtain ⟨afx,afy,afz,afA,Xl⟩:=afx
 obtain ⟨afB,afC,afD,afE,Xn⟩:=afB
 obtain ⟨afF,afG,afH,afI,Xp⟩:=afF
 obtain ⟨lh,lj,lD,lE,gB⟩:=lh
 obtain ⟨afJ,afK,afL,afM,Xr⟩:=afJ
 obtain ⟨afN,afO,afP,afQ,Xt⟩:=afN
 obtain ⟨afR,afS,afT,afU,Xv⟩:=afR
 obtain ⟨afV,afW,afX,afY,Xx⟩:=afV
 obtain ⟨afZ,af0,af1,af2,Xz⟩:=afZ
 obtain ⟨af3,af4,af5,af6,XI⟩:=af3
 obtain ⟨XS,XT,af7,af8,XW⟩:=XS
 obtain ⟨af9,af',aga,agb,XY⟩:=af9
 obtain ⟨agc,agd,age,agf,X7⟩:=agc
 have agg:Def K mg _ _ ["one","other"]:=fX X G acr
 have agh:Def K mg _ _ ["top","bottom"]:=fX X G acw
 have agi:Def K mg _ _ ["one","other"]:=fX X G acA
 have agj:Def K mg _ _ ["F","one","other"]:=fX X G acE
 have agk:Def K mg _ _ ["one","other"]:=fX X G acI
 have agl:Def K mg _ _ ["F","draws"]:=fX X G acM
 have agm:Def K mg _ _ ["F","one","other"]:=fX X G acQ
 have agn:Def K mg _ _ ["F"]:=fX X G acU
 have ago:Def K mg _ _ ["F","numbers"]:=fX X G acY
 have mJ:Def K mg _ _ ["rows","many"]:=fX X G mE
 have tY:Def K mg _ _ ["needed","column","many"]:=fX X G tI
 have agp:Def K mg _ _ ["rows","many"]:=fX X G ac2
 have agq:Def K mg _ _ ["row"]:=fX X G ac6
 have agr:Def K mg _ _ ["lines","many"]:=fX X G ac'
 have ags:Def K mg _ _ ["lines","column"]:=fX X G adf
 have agt:Def K mg _ _ ["line","lead","column"]:=fX X G adj
 have agu:Def K mg _ _ ["line"]:=fX X G adn
 have vY:Def K mg _ _ ["F"]:=fX X G vO
 have agv:Def K mg _ _ ["_law_script","_law_k"]:=fX X G ads
 have agw:Def K mg _ _ ["_law_cell","_law_prime","_law_many"]:=fX X G adw
 have agx:Def K mg _ _ ["_law_top","_law_bottom"]:=fX X G adA
 have agy:Def K mg _ _ ["_law_one_here","_law_other"]:=fX X G adE
 have agz:Def K mg _ _ ["_law_one_here","_law_other"]:=fX X G adI
 have agA:Def K mg _ _ ["_law_one_here"]:=fX X G adM
 have agB:Def K mg _ _ ["_law_cell","_law_k"]:=fX X G adQ
 have agC:Def K mg _ _ ["_law_cell","_law_kind"]:=fX X G adU
 have agD:Def K mg _ _ ["_law_cell"]:=fX X G adY
 have agE:Def K mg _ _ ["_law_script"]:=fX X G ad2
 have agF:Def K mg _ _ ["_law_script","_law_pins_here"]:=fX X G ad6
 have vZ:Def K mg _ _ ["_law_script","_law_pins_here","_law_bars_here"]:=fX X G vS
 have agG:Def K mg _ _ ["_law_pins_here","_law_bars_here"]:=fX X G ad'
 have agH:Def K mg _ _ ["_law_pins_here","_law_bar","_law_axis"]:=fX X G aed
 have agI:Def K mg _ _ ["_law_found","_law_k","_law_axis","_law_draw"]:=fX X G aeh
 have agJ:Def K mg _ _ ["_law_pins_here","_law_bars_here","_law_pulls","_law_pushes"]:=fX X G ael
 have agK:Def K mg _ _ ["_law_x"]:=fX X G aep
 have agL:Def K mg _ _ ["_law_pins_here","_law_bars_here","_law_pulls","_law_pushes"]:=fX X G aet
 have agM:Def K mg _ _ ["_law_pins_here","_law_bars_here","_law_pulls","_law_pushes","_law_load"]:=fX X G aex
 have DQ:Def K mg _ _ ["_law_pins_here","_law_bars_here","_law_names","_law_name_here","_law_pair"]:=fX X G DK
 have agN:Def K mg _ _ ["_law_pins_here","_law_bars_here","_law_told"]:=fX X G aeB
 have x9:Def K mg _ _ ["_law_told"]:=fX X G x3
 have qC:Def K mg _ _ ["_law_frame_here","_law_pins_here","_law_name_here","_law_spot_here","_law_ways_here"]:=fX X G qm
 have qD:Def K mg _ _ ["_law_frame_here","_law_pins_here","_law_bars_here","_law_cell"]:=fX X G qv
 have tZ:Def K mg _ _ ["_law_frame_here","_law_pins_here","_law_gone","_law_cell"]:=fX X G tO
 have eK:uq K bP:=⟨W7,W8,W9,W_⟩
 have P7:Mk K bP _:=⟨Xa,Xc,Xd,Xb⟩
 have X8:=cV (st:=BU) afl afm Xf
 have P9:=X8.xi (ps:=["self"])
 have atv:Meth K bP "__init__" _:=⟨Xc,Xd,Xf⟩
 have agO:=KY (st:=my) afp afs Xh
 have agP:Binds K (fnOf "put_pin" "Frame.put_pin" (ay my) (aw my) (ag my) (.ref Jy) N0 N1 N2 N3 Jz N4) ["self","name","x","y","hold"] []:=fun s us X hl=>match us,hl with | [_,_,_,_,_],_=>BindsTo.of_defaults rfl (X _ _ Xg) rfl rfl rfl
 have X9:Binds K (fnOf "put_pin" "Frame.put_pin" (ay my) (aw my) (ag my) (.ref Jy) N0 N1 N2 N3 Jz N4) ["self","name","x","y","hold"] [.none]:=fun s us X hl=>match us,(show us.length=4 by simpa using hl) with | [_,_,_,_],_=>BindsTo.of_defaults rfl (X _ _ Xg) rfl rfl rfl
 have X_:Meth K bP "put_pin" Mm:=⟨afn,afo,Xh⟩
 have X':=cV (st:=BV) afv afw Xj
 have agQ:=X'.xi (ps:=["self","name","one","other"])
 have agR:Meth K bP "put_bar" _:=⟨aft,afu,Xj⟩
 have Ya:=cV (st:=BW) afz afA Xl
 have agS:=Ya.xi (ps:=["self","name","one","other"])
 have agT:Meth K bP "check_bar" _:=⟨afx,afy,Xl⟩
 have Yb:=cV (st:=BX) afD afE Xn
 have agU:=Yb.xi (ps:=["self","pin"])
 have agV:Meth K bP "check_pin" _:=⟨afB,afC,Xn⟩
 have Yc:=cV (st:=BY) afH afI Xp
 have agW:=Yc.xi (ps:=["self","name"])
 have agX:Meth K bP "take_bar" _:=⟨afF,afG,Xp⟩
 have gC:=cV (st:=b_) lD lE gB
 have lH:=gC.xi (ps:=["self","name"])
 have lI:Meth K bP "take_pin" _:=⟨lh,lj,gB⟩
 have Yd:=cV (st:=BZ) afL afM Xr
 have agY:=Yd.xi (ps:=["self"])
 have agZ:Meth K bP "pins" _:=⟨afJ,afK,Xr⟩
 have Ye:=cV (st:=B_) afP afQ Xt
 have ag0:=Ye.xi (ps:=["self"])
 have ag1:Meth K bP "bars" _:=⟨afN,afO,Xt⟩
 have Yf:=cV (st:=CA) afT afU Xv
 have ag2:=Yf.xi (ps:=["self","pin"])
 have ag3:Meth K bP "place" _:=⟨afR,afS,Xv⟩
 have Yg:=cV (st:=CB) afX afY Xx
 have ag4:=Yg.xi (ps:=["self","pin"])
 have ag5:Meth K bP "ways" _:=⟨afV,afW,Xx⟩
 have Yh:=cV (st:=CC) af1 af2 Xz
 have ag6:=Yh.xi (ps:=["self","bar"])
 have ag7:Meth K bP "ends" _:=⟨afZ,af0,Xz⟩
 have cls_cm:uq K mI:=⟨XA,XB,XC,XD⟩
 have atw:QY K mI:=⟨XE,XG,XF⟩
 have ag8:=cV (st:=K9) af5 af6 XI
 have atx:=ag8.xi (ps:=["self"])
 have aty:Meth K mI "ways" _:=⟨af3,af4,XI⟩
 have x_:uq K iP:=⟨XJ,XM,XN,XO⟩
 have CW:Mk K iP _:=⟨XQ,XS,XT,XR⟩
 have Yi:=cV (st:=CD) af7 af8 XW
 have CY:=Yi.xi (ps:=["self","x","y"])
 have atz:Meth K iP "__init__" _:=⟨XS,XT,XW⟩
 have Yj:=cV (st:=CG) aga agb XY
 have ag9:=Yj.xi (ps:=["self"])
 have ag':Meth K iP "ways" _:=⟨af9,af',XY⟩
 have QP:uq K k_:=⟨XZ,X0,X1,X2⟩
 have CV:QY K k_:=⟨X3,X5,X4⟩
 have Yk:=cV (st:=CH) age agf X7
 have aha:=Yk.xi (ps:=["self"])
 have ahb:Meth K k_ "ways" _:=⟨agc,agd,X7⟩
 have Pw:=mg_of X G aeI
 have Py:=mg_of X G aeJ
 have PR:mg "NOUGHT"=some (.ref QH):=mg_of X G aeK
 have PU:mg "ONE"=some (.ref QI):=mg_of X G aeO
 have Pz:mg "NO_MOVE"=some (.ref QJ):=mg_of X G aeS
 have atA:mg "YardError"=some (.ref ae1):=mg_of X G ae0
 have atB:mg "NoWay"=some (.ref ae3):=mg_of X G ae2
 have atD:mg "PinThere"=some (.ref ae5):=mg_of X G ae4
 have atE:mg "SpotTaken"=some (.ref ae7):=mg_of X G ae6
 have atF:mg "NoPin"=some (.ref ae9):=mg_of X G ae8
 have RB:mg "PinBusy"=some (.ref DP):=mg_of X G DO
 have atG:mg "BarThere"=some (.ref afa):=mg_of X G ae'
 have atH:mg "NoBar"=some (.ref afc):=mg_of X G afb
 have atJ:mg "NoLength"=some (.ref afe):=mg_of X G afd
 have atL:mg "TooMany"=some (.ref afg):=mg_of X G aff
 have P8:mg "Frame"=some (.ref bP):=mg_of X G afh
 have atM:mg "Hold"=some (.ref mI):=mg_of X G afi
 have CT:mg "Roller"=some (.ref iP):=mg_of X G afj
 have CU:mg "Fixed"=some (.ref k_):=mg_of X G afk
 have Mz:mg "ValueError"=none:=mg_none_of X G tW
 have rl:mg "abs"=none:=mg_none_of X G WT
 have o_:mg "all"=none:=mg_none_of X G WU
 have IW:mg "any"=none:=mg_none_of X G WV
 have xJ:mg "bool"=none:=mg_none_of X G QK
 have f7:mg "dict"=none:=mg_none_of X G QL
 have iq:mg "enumerate"=none:=mg_none_of X G vX
 have oX:mg "int"=none:=mg_none_of X G WW
 have bC:mg "isinstance"=none:=mg_none_of X G tX
 have a_:mg "len"=none:=mg_none_of X G WX
 have bO:mg "list"=none:=mg_none_of X G QM
 have IL:mg "min"=none:=mg_none_of X G WY
 have bB:mg "range"=none:=mg_none_of X G Mj
 have rG:mg "str"=none:=mg_none_of X G WZ
 have iJ:mg "tuple"=none:=mg_none_of X G Ml
 have rm:mg "zip"=none:=mg_none_of X G W5
 have F:=cV (st:=jF) WM WN WO
 refine ⟨fnOf "law" "law" (ay jF) (aw jF) (ag jF) .none QC QD QE QF Jw QG,fun s v=>.of_eq rfl,fun base _ _=>?_⟩
 have hM:uI (bg l.prog w):=bg.rZ
 have hN:∀H:Hp,bU K H QH [.int 0,.int 1]:=fun H=>.inr ⟨_,_,_,aeL,rfl,rfl,(by show 2<=sizeLine;decide),.cons ⟨_,rfl⟩ (.cons ⟨_,rfl⟩ .nil)⟩
 have hO:∀H:Hp,bU K H QI [.int 1,.int 1]:=fun H=>.inr ⟨_,_,_,aeP,rfl,rfl,(by show 2<=sizeLine;decide),.cons ⟨_,rfl⟩ (.cons ⟨_,rfl⟩ .nil)⟩
 have nm:∀{c:Addr} {o:Θ} {k0 k1:Tok} {n:Nat} {sl:Κ},K.lookup c=some ⟨.type "tuple",o,.seq #[.int 0 k0,.int 1 k1] n,sl⟩->∀H:Hp,fW K H (.ref c) 0:=fun t H=>⟨_,rfl,by rw [cu];exact .inr ⟨_,_,_,t,rfl,rfl,(by show 2<=sizeLine;decide),.cons ⟨_,rfl⟩ (.cons ⟨_,rfl⟩ .nil)⟩⟩
 have hMo:∀H:Hp,fe K H (.ref QJ) (0,0):=fun H=>⟨_,.ref WQ,.ref WR,rfl,.inr ⟨_,_,_,aeT,rfl,rfl,(by show 2<=sizeLine;decide),.cons rfl (.cons rfl .nil)⟩,nm aeU H,nm aeX H⟩
 have fc:AD K bP:=⟨eK,JB,QN,QO⟩
 have G1:=Te (P:=l.prog) (w:=w) (base:=base) (CX:=bg l.prog w) agi rl
 have G2:=Tf ht agh G1
 have GW:=Th agq G1
 have GDv:=Ti ht agu G1
 have GCl:=Tj ht agt rm G1 GDv
 have GF:=To (P:=l.prog) (w:=w) (base:=base) ags iq
 have GR:=Tq agr bB bO GF GCl
 have GD:=Pq (Tx hM agg G2)
 have GPD:=TB hM agk GD
 have GI:=TH (P:=l.prog) (w:=w) (mg:=mg) (base:=base) X8 fc
 have MBs:bI l.prog w K mg base (bg l.prog w) 1 bP "bars" ["self"] (kH K bP):=⟨_,_,eK,ag1,TK Ye fc bO,ag0⟩
 have Zi:bI l.prog w K mg base (bg l.prog w) 1 bP "pins" ["self"] (i_ K bP):=⟨_,_,eK,agZ,TM Yd fc bO,agY⟩
 have Zj:bI l.prog w K mg base (bg l.prog w) 1 bP "check_pin" ["self","pin"] (dI K bP):=⟨_,_,eK,agV,TQ Yb fc,agU⟩
 have MCb:bI l.prog w K mg base (bg l.prog w) 2 bP "check_bar" ["self","name","one","other"] (gN K bP):=⟨_,_,eK,agT,Ub Ya fc Py a_ Zj,agS⟩
 have Rq:bI l.prog w K mg base (bg l.prog w) 3 bP "put_bar" ["self","name","one","other"] (iu K bP):=⟨_,_,eK,agR,Ud X' fc MCb,agQ⟩
 have okP:=T9 (P:=l.prog) (w:=w) (mg:=mg) (base:=base) agO fc Pw a_ bO
 have NH:bI l.prog w K mg base (bg l.prog w) 3 bP "put_pin" ["self","name","x","y","hold"] (cT l.prog w K mg base bP):=⟨_,_,eK,X_,okP,agP⟩
 have Rr:sj l.prog w K mg base (bg l.prog w) 3 bP "put_pin" ["self","name","x","y","hold"] [.none] (cT l.prog w K mg base bP):=⟨_,_,eK,X_,okP,X9⟩
 have MPl:bI l.prog w K mg base (bg l.prog w) 2 bP "place" ["self","pin"] (mY K bP):=⟨_,_,eK,ag3,TU Yf fc Zj,ag2⟩
 have ME:bI l.prog w K mg base (bg l.prog w) 1 bP "ends" ["self","bar"] (sI K bP):=⟨_,_,eK,ag7,TX Yh fc,ag6⟩
 have MW:bI l.prog w K mg base (bg l.prog w) 2 bP "ways" ["self","pin"] (oI K bP):=⟨_,_,eK,ag5,TZ Yg fc bO Zj,ag4⟩
 have wR:bI l.prog w K mg base (bg l.prog w) 1 iP "ways" ["self"] (gL K iP):=⟨_,_,x_,ag',T4 Yj x_ N5,ag9⟩
 have wF:bI l.prog w K mg base (bg l.prog w) 1 k_ "ways" ["self"] (gM K):=⟨_,_,QP,ahb,T6 Yk,aha⟩
 have GRI:=T2 (P:=l.prog) (w:=w) (mg:=mg) (base:=base) Yi x_ N5
 have GA:=Uj agj MPl GPD
 have GPR:=Uk hMo Pz agl Zi
 have GBR:=Uo agm GA GPR
 have GDR:=Uq agn Zi MW MBs ME GPR GBR
 have GC:=UE (P:=l.prog) (w:=w) (base:=base) (CX:=bg l.prog w) agv a_
 have MA:=UH (P:=l.prog) (w:=w) (base:=base) (CX:=bg l.prog w) agw
 have GLo:=UI (w:=w) (base:=base) ht agx rl
 have Yl:=UK (P:=l.prog) (w:=w) (base:=base) agy
 have GTi:=UM (P:=l.prog) (w:=w) (base:=base) agz
 have GTu:=UO (P:=l.prog) (w:=w) (base:=base) agA
 have GNa:=UP hM agB rG MA
 have GSp:=UQ agC MA GLo
 have GWy:=UR agD MA GLo
 have GPi:=UW agE bB IL GC MA GSp GWy GNa Yl
 have GBa:=UZ agF bB a_ GC MA GNa
 have GFr:=U3 agG a_ P7 P8 GI P9 CT CU CV CW GRI CY (wR.mono (by decide)) (wF.mono (by decide)) Rq NH Rr
 have MTk:bI l.prog w K mg base (bg l.prog w) 2 bP "take_pin" ["self","name"] (gO K bP):=⟨_,_,eK,lI,jK gC fc Zj,lH⟩
 have GAr:=U9 agH Yl GTu
 have GAd:=Va (P:=l.prog) (w:=w) (base:=base) agI Yl
 have GFo:=Vb agJ a_ bB GTi GTu GAr GAd
 have GNu:=Vd agK a_ bC oX xJ iJ GLo
 have GAF:=Ve agL bC f7 bO a_ o_ GNu
 have GSL:=qf hN PR hO PU tY G2
 have GSC:=kL mJ bB GW GR GSL
 have GPt:=ph qC a_ CT CU CV CW GRI CY (wR.mono (by decide)) (wF.mono (by decide)) NH Rr
 have GPo:=pC qD a_ bB IW oX MA MTk
 have GPn:=qi tZ MA GWy Yl GPt
 have GPP:=Ur ago a_ f7 rm Zi MW MBs
 have MTb:bI l.prog w K mg base (bg l.prog w) 1 bP "take_bar" ["self","name"] (iF K bP):=⟨_,_,eK,agX,Ug Yc fc,agW⟩
 have GAt:=Vg agM a_ bB GFo Yl
 have GOn:=xS DQ bC iJ a_ GAF GAt
 have GRi:=Vj agN bC f7 bO o_ GOn
 have GCp:=vJ (P:=l.prog) (w:=w) (base:=base) x9 bO
 have GTd:=Tv (P:=l.prog) (w:=w) (base:=base) agp bB
 have GSo:=sX vY a_ Zi MBs GDR GTd GSC GPP
 have GTh:=tE vZ bB a_ rG GC MA
 exact Ql F bO a_ GC MA GPi GBa GTh GFr GSo GRi GCp MTb Rq GPo GPn
end T_k41
open PySem PySem.W PyProof.Rows
set_option maxRecDepth 100000 in
set_option maxHeartbeats 0 in
theorem PySem.Challenge.cw_trussyard_k41_spare_bars_holds : PySem.Challenge.rw_trussyard_k41_spare_bars.Holds := by
 w_on;o_law;k_head;(case hw=>w_witness2)
 k_fill
 refine Ty.walk (l:=PySem.Challenge.rw_trussyard_k41_spare_bars) (x:="_law_script") (k:=42) (CX:=fun w=>Ty.bg (PySem.Challenge.rw_trussyard_k41_spare_bars).prog w) rfl rfl (by first | rfl | decide+kernel) ⟨rfl,by decide,by decide⟩ (fun w h Y=>PySem.W.kIn_of Y) (fun w=>Ty.bg.rZ) ?F
 case F=>
  intro w mg fa h KX G Sl
  refine' T_k41.all_mk KX G Sl ⟨?A0,?A1,?A2,?A3⟩ ⟨?A4,?A5,?A6,?A7⟩ ⟨?A8,?A9,?Aa,?Ab⟩ ⟨?Ac,?Ad,?Ae,?Af⟩ ⟨?Ag,?Ah,?Ai,?Aj⟩ ⟨?Ak,?Al,?Am,?An⟩ ⟨?Ao,?Ap,?Aq,?Ar⟩ ⟨?As,?At,?Au,?Av⟩ ⟨?Aw,?Ax,?Ay,?Az⟩ ⟨?B0,?B1,?B2,?B3⟩ ⟨?B4,?B5,?B6,?B7⟩ ⟨?B8,?B9,?Ba,?Bb⟩ ⟨?Bc,?Bd,?Be,?Bf⟩ ⟨?Bg,?Bh,?Bi,?Bj⟩ ⟨?Bk,?Bl,?Bm,?Bn⟩ ⟨?Bo,?Bp,?Bq,?Br⟩ ⟨?Bs,?Bt,?Bu,?Bv⟩ ⟨?Bw,?Bx,?By,?Bz⟩ ⟨?C0,?C1,?C2,?C3⟩ ⟨?C4,?C5,?C6,?C7⟩ ⟨?C8,?C9,?Ca,?Cb⟩ ⟨?Cc,?Cd,?Ce,?Cf⟩ ⟨?Cg,?Ch,?Ci,?Cj⟩ ⟨?Ck,?Cl,?Cm,?Cn⟩ ⟨?Co,?Cp,?Cq,?Cr⟩ ⟨?Cs,?Ct,?Cu,?Cv⟩ ⟨?Cw,?Cx,?Cy,?Cz⟩ ⟨?D0,?D1,?D2,?D3⟩ ⟨?D4,?D5,?D6,?D7⟩ ⟨?D8,?D9,?Da,?Db⟩ ⟨?Dc,?Dd,?De,?Df⟩ ⟨?Dg,?Dh,?Di,?Dj⟩ ⟨?Dk,?Dl,?Dm,?Dn⟩ ⟨?Do,?Dp,?Dq,?Dr⟩ ⟨?Ds,?Dt,?Du,?Dv⟩ ⟨?Dw,?Dx,?Dy,?Dz⟩ ⟨?E0,?E1,?E2,?E3⟩ ⟨?E4,?E5,?E6,?E7⟩ ⟨?E8,?E9,?Ea,?Eb⟩ ⟨?Ec,?Ed,?Ee,?Ef⟩ ⟨?Eg,?Eh,?Ei,?Ej⟩ ⟨?Ek,?El,?Em,?En⟩ ⟨?Eo,?Ep,?Eq,?Er⟩ ?Es ?Et ?Eu ?Ev ?Ew ?Ex ?Ey ?Ez ?F0 ?F1 ?F2 ?F3 ?F4 ?F5 ?F6 ?F7 ?F8 ?F9 ?Fa ?Fb ?Fc ?Fd ?Fe ?Ff ?Fg ?Fh ?Fi ?Fj ?Fk ?Fl ?Fm ?Fn ?Fo ?Fp ?Fq ?Fr ?Fs ?Ft ?Fu ?Fv ?Fw ?Fx ?Fy ?Fz ?G0 ?G1 ?G2 ?G3 ?G4 ?G5 ⟨?G6,?G7,?G8,?G9,?Ga⟩ ?Gb ?Gc ?Gd ?Ge ?Gf ?Gg ⟨?Gh,?Gi,?Gj,?Gk,?Gl⟩ ⟨?Gm,?Gn,?Go,?Gp,?Gq⟩ ⟨?Gr,?Gs,?Gt,?Gu,?Gv⟩ ⟨?Gw,?Gx,?Gy,?Gz,?H0⟩ ⟨?H1,?H2,?H3,?H4,?H5⟩ ⟨?H6,?H7,?H8,?H9,?Ha⟩ ⟨?Hb,?Hc,?Hd,?He,?Hf⟩ ⟨?Hg,?Hh,?Hi,?Hj,?Hk⟩ ⟨?Hl,?Hm,?Hn,?Ho,?Hp⟩ ⟨?Hq,?Hr,?Hs,?Ht,?Hu⟩ ?Hv ?Hw ?Hx ?Hy ?Hz ?I0 ?I1 ⟨?I2,?I3,?I4,?I5,?I6⟩ ?I7 ?I8 ?I9 ?Ia ?Ib ?Ic ⟨?Id,?Ie,?If,?Ig,?Ih⟩ ⟨?Ii,?Ij,?Ik,?Il,?Im⟩ ?In ?Io ?Ip ?Iq ?Ir ?Is ?It ⟨?Iu,?Iv,?Iw,?Ix,?Iy⟩ ?Iz ?J0 ?J1 ?J2 ?J3
  (case A0|A1|A2|A3|A4|A5|A6|A7|A8|A9|Aa|Ab|Ac|Ad|Ae|Af|Ag|Ah|Ai|Aj|Ak|Al|Am|An|Ao|Ap|Aq|Ar|As|At|Au|Av|Aw|Ax|Ay|Az|B0|B1|B2|B3|B4|B5|B6|B7|B8|B9|Ba|Bb|Bc|Bd|Be|Bf|Bg|Bh|Bi|Bj|Bk|Bl|Bm|Bn|Bo|Bp|Bq|Br|Bs|Bt|Bu|Bv|Bw|Bx|By|Bz|C0|C1|C2|C3|C4|C5|C6|C7|C8|C9|Ca|Cb|Cc|Cd|Ce|Cf|Cg|Ch|Ci|Cj|Ck|Cl|Cm|Cn|Co|Cp|Cq|Cr|Cs|Ct|Cu|Cv|Cw|Cx|Cy|Cz|D0|D1|D2|D3|D4|D5|D6|D7|D8|D9|Da|Db|Dc|Dd|De|Df|Dg|Dh|Di|Dj|Dk|Dl|Dm|Dn|Do|Dp|Dq|Dr|Ds|Dt|Du|Dv|Dw|Dx|Dy|Dz|E0|E1|E2|E3|E4|E5|E6|E7|E8|E9|Ea|Eb|Ec|Ed|Ee|Ef|Eg|Eh|Ei|Ej|Ek|El|Em|En|Eo|Ep|Eq|Er|Es|Et|Eu|Ev|Ew|Ex|Ey|Ez|F0|F1|F2|F3|F4|F5|F6|F7|F8|F9|Fa|Fb|Fc|Fd|Fe|Ff|Fg|Fh|Fi|Fj|Fk|Fl|Fm|Fn|Fo|Fp|Fq|Fr|Fs|Ft|Fu|Fv|Fw|Fx|Fy|Fz|G0|G1|G2|G3|G4|G5|G6|G7|G8|G9|Ga|Gb|Gc|Gd|Ge|Gf|Gg|Gh|Gi|Gj|Gk|Gl|Gm|Gn|Go|Gp|Gq|Gr|Gs|Gt|Gu|Gv|Gw|Gx|Gy|Gz|H0|H1|H2|H3|H4|H5|H6|H7|H8|H9|Ha|Hb|Hc|Hd|He|Hf|Hg|Hh|Hi|Hj|Hk|Hl|Hm|Hn|Ho|Hp|Hq|Hr|Hs|Ht|Hu|Hv|Hw|Hx|Hy|Hz|I0|I1|I2|I3|I4|I5|I6|I7|I8|I9|Ia|Ib|Ic|Id|Ie|If|Ig|Ih|Ii|Ij|Ik|Il|Im|In|Io|Ip|Iq|Ir|Is|It|Iu|Iv|Iw|Ix|Iy|Iz|J0|J1|J2=>k_is);(case J3=>rfl)
#print axioms PySem.Challenge.cw_trussyard_k41_spare_bars_holds
