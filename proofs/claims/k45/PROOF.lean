import PyProof.Rows.All
import Wide.All
import OpenK.AllK
import Wide.FinOn
import Lean
import PyProof.EqAt
import PyProof.EqKinds
import PyProof.TupleCall
import PyProof.ZipIter
import PyProof.SumWalkG
import PyProof.ListCopy
import PyProof.ListStr
import PyProof.DictItems
import PyProof.DictWalks
import PyProof.DictTruth
import PyProof.EnumMake
import PyProof.InstStoreFacts
import PyProof.Rows.SortWalk
import PyProof.ListRange
import PyProof.DictValues
import KE.KRevSl
import KE.KDictOf
import PyProof.DictIter
import PyProof.FactsAll.dict_1
import PyProof.AttrMissHeap
import KE.KEqDict
import KE.KDictList
import KE.KItemsList
import PySem.Challenge.RW_trussyard_k45_whole_counts
set_option Elab.async false
set_option linter.all false
set_option maxRecDepth 100000
theorem gE.{u}{α:Type u}{l:List α}{i:Nat}(h:i < l.length):l[i]? =some l[i]:=List.getElem?_eq_getElem h
namespace PySem.W.Fast
def tw5244861038139209055:=()
def tw10659635771687164050:=()
def tw3438049022999103171:=()
def tw15627064762917174842:=()
def tw17271933033913512696:=()
def tw8782846759495974650:=()
def tw9129087164207175830:=()
def tw10729935063829132421:=()
def tw10213415911221459175:=()
def tw16103269415149591948:=()
def tw13113372926188724291:=()
def tw2872689080304268451:=()
def tw4304078971912798917:=()
def tw6749485195939321284:=()
def tw13686193479622474581:=()
def tw15500204564199641821:=()
def tw7046063764297931415:=()
def tw2203422869525295489:=()
def tw16938774659443851614:=()
def tw9875816842624604442:=()
def tw15366937673810323552:=()
def tw492856884319371728:=()
def tw16843127925729837246:=()
def tw13312625217499380398:=()
def tw1534316098093063890:=()
def tw5402256675445390915:=()
def tw9717540344014164863:=()
def tw10226826642213572229:=()
def tw11562899914579218160:=()
def tw17494851418598531176:=()
def tw18006754014298401842:=()
def tw2012719107873630659:=()
def tw9347052850731169885:=()
def tw6076159988296014853:=()
def tw12646870782662179516:=()
def tw13535970469460711563:=()
def tw4610062465298397514:=()
def tw4645776366512141693:=()
def tw15962441292646797595:=()
def tw16112989539628381403:=()
def tw16434958937932682113:=()
def tw5116273109717294858:=()
def tw12426048805084254680:=()
def tw4295128242883171244:=()
def tw2430721919529809319:=()
def tw17745516041761471510:=()
def tw8144545987860388286:=()
def tw11428396974275139439:=()
def tw12098555233005021881:=()
def tw7388655496654898556:=()
def tw10637450399794392053:=()
def tw7602808857811937933:=()
def tw3820947215964816691:=()
def tw15256376001763696704:=()
def tw3504909639796242737:=()
def tw2095566282397046493:=()
def tw1787417980569964692:=()
def tw14209835868734989572:=()
def tw14175486456590452840:=()
def tw10918067907893840743:=()
def tw15412575569794491695:=()
def tw10322942951727012793:=()
def tw2915941065469938697:=()
def tw1701386846848510967:=()
def tw12830338338009128203:=()
def tw5342846516235698469:=()
def tw13399415442433096805:=()
def tw15290791701312505279:=()
def tw18206234167286970225:=()
def tw14200254093499429052:=()
def tw16296834051569321519:=()
def tw15249018459885773123:=()
def tw14964372069654705841:=()
def tw13302629603811279401:=()
def tw13290784165536363151:=()
def tw13403760477254525808:=()
def tw13074536531499157058:=()
def tw16555195489790389652:=()
def tw15948068966140051085:=()
def tw770444019137314503:=()
def tw11532649511844335992:=()
def tw3228647919989037593:=()
def tw15761184650923219834:=()
def tw16183403809240477167:=()
def tw446567039620911997:=()
def tw9614698096947121028:=()
def tw14872751385913631122:=()
def tw14133907910661605444:=()
def tw14378470481128119862:=()
def tw1443688844366614370:=()
def tw557699847287362771:=()
def tw17863520466117896703:=()
def tw9704506020786366842:=()
def tw6197379650408595394:=()
def tw18321325390030127458:=()
def tw13745171054314721110:=()
def tw10261619172370689090:=()
def tw1938550594193675623:=()
def tw9153973953135165271:=()
def tw18310858253735675519:=()
def tw570984365995297676:=()
def tw15051937507661366785:=()
def tw8304688365395623445:=()
def tw12337793486243481494:=()
def tw3559269795939082353:=()
def tw13297084999315994903:=()
def tw14935072976858186945:=()
def tw13269651700350947205:=()
def tw6564905283285951224:=()
def tw10480227470051699481:=()
def tw9186865185922845258:=()
def tw13763282991347127852:=()
def tw16345656788698850324:=()
def tw17416270961201237486:=()
def tw10748479748707798884:=()
def tw4473990987394826643:=()
def tw2022839801301306197:=()
def tw5962609134658074820:=()
def tw5466047479320002385:=()
def tw800237414785677306:=()
def tw17397200113307429008:=()
def tw9487442354668350300:=()
def tw10402996839971281002:=()
def tw8390666307895838641:=()
def tw14243376473205450251:=()
def tw10105133663889048868:=()
def tw14454577954362262141:=()
def tw8068965651231915223:=()
def tw5024399955421200063:=()
def tw7607883149386721968:=()
def tw11377232920398387380:=()
def tw15876990999856581798:=()
def tw12838759535823990483:=()
def tw10651160205518781404:=()
def tw7366323744600379583:=()
def tw8181775458315811923:=()
def tw15170818456271956840:=()
def tw10996711748866853380:=()
def tw11260094612113670742:=()
def tw16398991827063484214:=()
def tw13080570179666490544:=()
def tw13742112202905892201:=()
def tw10344059405570332856:=()
def tw1756003720925935885:=()
def tw11939852550953848369:=()
def tw11922137984890919123:=()
def tw1041294511999982850:=()
def tw8730406982233095124:=()
def tw320240923850436786:=()
def tw9792600276185674457:=()
def tw12681025097750401155:=()
def tw4260660362534240141:=()
def tw16199599626350640004:=()
def tw12011988699952533701:=()
def tw4466677353564883419:=()
def tw9708763419554367126:=()
def tw4824876695529365960:=()
def tw16270278590929631203:=()
def tw16905545307998467209:=()
def tw5321242786942373906:=()
def tw8570994342373926677:=()
def tw2013951668519551450:=()
def tw15813864850564575675:=()
def tw14882542549577580182:=()
def tw14193723606362046688:=()
def tw2570227914666567623:=()
def tw6566975641167610698:=()
def tw4214736143150785823:=()
def tw9046132563363455440:=()
def tw11149122489674216929:=()
def tw10138476972127241674:=()
def tw12586679426966645573:=()
def tw10306495682108226095:=()
def tw6226422347040850578:=()
def tw8516000910284530045:=()
def tw12066347454970086049:=()
def tw9137192626501108367:=()
def tw8239608879914800281:=()
def tw8079079940207677121:=()
def tw13625439583093491916:=()
def tw11618146958233453047:=()
def tw6337991126936064718:=()
def tw1163399700151357900:=()
def tw4567008433741723618:=()
def tw8584874264711506911:=()
def tw13685441775061504253:=()
def tw17882308505428519636:=()
def tw5364577564267545165:=()
def tw8337781981243592870:=()
def tw4471909027605935362:=()
def tw10889487453421492811:=()
def tw1193372048243152500:=()
def tw8740789373918847433:=()
def tw4278887489379163536:=()
def tw18344862509012570416:=()
def tw8171703467478272175:=()
def tw14192781789506391874:=()
def tw17016106651042095500:=()
def tw4186076740694685639:=()
def tw6722128799017992571:=()
def tw1910243581619910696:=()
def tw16618888315848895955:=()
def tw1403119053028223763:=()
def tw3147476236102180499:=()
def tw1366989759934689280:=()
def tw11587797171173294218:=()
def tw7386993042434613283:=()
def tw14355366461769436586:=()
def tw18368177323568363760:=()
def tw14117147384064833570:=()
def tw10953014785059354462:=()
def tw3242565546037542494:=()
def tw3252990747671728926:=()
def tw7650593709439588445:=()
def tw1663730379937254778:=()
def tw7053657833338269802:=()
def tw4470891795172681959:=()
def tw6224910765956010:=()
def tw1653355648862088429:=()
def tw3106161124315397723:=()
def tw17634400945530683610:=()
def tw12879072601080158002:=()
def tw6384105274778557564:=()
def tw15491353287158070574:=()
def tw10160587049058341952:=()
def tw14818167780527950582:=()
end PySem.W.Fast
open Array renaming length_toList->ahE, toList->aoY
open Bool renaming false_ne_true->aaX, and_eq_true->abM, eq_iff_iff->ab5, false_eq_true->ahi, and_false->ahn, eq_false_iff->ahq, or_false->aim, and_true->aio
open Classical renaming byContradiction->abc, propDecidable->abN, not_imp->ahX, not_forall->aii
open Int renaming gcd->abx, zero_add->abH, natAbs_mul->ab0, gcd_dvd_right->acr, mul_comm->acs, emod_eq_of_lt->acv, gcd_dvd_left->acx, fmod_nonneg_of_pos->acy, natAbs_dvd_natAbs->acF, fdiv_eq_of_eq_mul_right->acI, fmod_eq_emod_of_nonneg->ac_, ne_of_gt->af_, mul_zero->aho, natAbs_add_le->ahp, mul_assoc->ahx, mul_pos->ahA, fmod_lt_of_pos->ahL, sub_emod_right->ahP, mul_neg_of_pos_of_neg->ahQ, toNat_natCast->ahS, lt_trichotomy->ahT, mul_eq_zero->aia, gcd_zero_right->ais, fmod_def->aiu, gcd_mul_left->aiJ, gcd_pos_iff->aiN, mul_ne_zero->aiO, dvd_coe_gcd->aiT, natAbs_neg->am_
open List renaming getElem?_eq_some_iff->be, length_map->ir, getElem?_map->Wp, mem_of_getElem?->aaa, mem_map->aaj, getElem?_eq_none->aan, length_append->aat, mem_cons_of_mem->aaE, getElem?_of_mem->aaF, mem_cons_self->aaK, mem_append->aaQ, map_cons->aaR, getElem?_append_left->aaS, mem_singleton->aaT, getD_eq_getElem?_getD->aaU, size_toArray->aaW, map_append->aa1, replicate->aa2, getElem?_append_right->aa3, map_map->aa5, mem_cons->aa8, flatMap_cons->aa_, length_take->abd, nodup_cons->abe, length_cons->abf, range->abk, mem_range->abl, mem_append_left->abm, mem_append_right->abn, mem_filter->abr, ext_getElem?->abt, nodup_iff_pairwise_ne->abw, getElem_mem->aby, length_filter_le->abz, filter_cons_of_pos->abB, filter_cons_of_neg->abC, length_drop->abG, map_congr_left->abI, length_range->abJ, getElem?_take_of_lt->abK, mem_iff_getElem->abO, getElem?_zipWith->abP, eraseIdx_sublist->abQ, filter_cons->abR, take_length->abS, lookup->abW, length->abX, length_eraseIdx->ab2, length_eq_zero_iff->ab4, replicate_succ->ab7, flatMap_append->ab9, take_of_length_le->ab_, zipWith->ab', getElem?_eraseIdx->aca, filter_append->aci, length_singleton->acj, mem_of_mem_eraseIdx->acw, find?_cons->acC, range_succ->acD, length_replicate->acE, take_append_drop->acG, append_assoc->acH, getElem?_inj->acK, nodup_append->acL, getElem?_set_ne->acV, map_nil->ad_, lookup_cons->ae_, mem_flatMap->ag_, filterMap_cons->ahe, length_zipWith->ahf, any_cons->ahg, length_eraseIdx_le->ahk, getElem?_set_self->ahl, flatten_cons->ahm, getElem?_set->ahr, pairwise_lt_range->ahs, any_eq_true->aht, nodup_range->ahu, cons_append->ahv, append_nil->ahB, nil_append->ahC, mem_filterMap->ahK, lookup_append->ahM, pairwise_cons->ahO, pairwise_map->ahW, sum_cons->ahY, getElem?_replicate->ahZ, range_succ_eq_map->ah2, zipWith_cons_cons->ah4, getElem_cons_drop->ah5, Sublist->ah7, of_mem_zip->ah8, length_set->ah9, length_nil->ah', eq_nil_or_concat->aib, concat_eq_append->aic, mem_of_mem_erase->aid, forIn_nil->aie, nodup_nil->aif, mem_of_mem_drop->aij, getElem?_range->aik, filter_eq_self->ail, all_cons->ain, forIn_toArray->air, getElem_take->aiz, take_add_one->aiA, drop_sublist->aiC, getElem_inj->aiG, cons_ne_nil->aiK, forIn_cons->aiP, foldl->ak_
open List.Sublist renaming refl->acP
open Nat renaming le_trans->aam, le_refl->aas, lt_of_le_of_lt->aaz, lt_of_lt_of_le->aa6, ne_of_lt->aa', zero_le->abj, pow_le_pow_right->abo, lt_succ_self->abv, mul_le_mul->abF, lt_succ_iff_lt_or_eq->abU, mul_le_mul_right->ab1, not_lt_zero->ab6, lt_irrefl->ach, le_of_lt->acq, lt_succ_of_lt->acu, min_eq_left->ahh, log2_le_self->ahw, pow_add->ahz, pow_le_pow_left->ahF, ne_of_gt->ahH, mul_comm->ahI, pow_succ->ahJ, one_le_two_pow->ahN, le_succ->ahR, add_mul->ahV, le_of_not_lt->ah0, le_of_eq->ah1, lt_trans->ah3, one_mul->aih, add_comm->ait, min_self->aiv, le_succ_of_le->aiy, succ_le_succ->aiI, two_pow_pos->aiR
open Ne renaming symm->abb
open Option renaming map_eq_some_iff->aaM, isSome_map->ahU, map_some->ah_, isSome_some->aip, getD_none->aiH, none->ao8
open Option.some renaming inj->aaZ
open Or renaming inl->aav, inr->abu
open Prod renaming ext->ahy, fst->anX, snd->an_
open Rat renaming intCast_mul->abL, intCast_le_intCast->acB, intCast_inj->ahD, intCast_lt_intCast->ah6, num_divInt_den->aiq, divInt_eq_div->aix, intCast_add->aiQ, intCast_sub->aiS
open Sum renaming inr->acp, inl->ahG
open Sum.inl renaming inj->ahj
open Sum.inr renaming inj->abV
open PySem.W (Frag nsIn codeIn keepIn fnOf mg_of mg_none_of)
namespace L2
open PySem PySem.Spec PyProof.Rows
abbrev _root_.γ:=Value->Shared->Prop
abbrev _root_.ε:=List (Addr×Obj)
abbrev _root_.ζ:=List (List Int)
abbrev _root_.θ:=List (Nat×List Int)
abbrev _root_.ι:=Str->Option Value
abbrev _root_.ν:=List Int
abbrev _root_.ξ:=List (List (Int×Int))
abbrev _root_.ο:=List Value
abbrev _root_.ρ:=List Str
abbrev _root_.τ:=List (Int×Int)
abbrev _root_.υ:=List (Str×Str×Str)
abbrev _root_.χ:=List Expr
abbrev _root_.ω:=Str->Option (Rat×Rat)
abbrev _root_.Α:=List Addr
abbrev _root_.Δ:=List Nat
abbrev _root_.Ζ:=List (Rat×Rat)
abbrev _root_.Θ:=List (Str×List (Rat×Rat))
abbrev _root_.Ι:=Option Addr
abbrev _root_.Κ:=Array (Option Value)
abbrev _root_.Λ:=Array Value
abbrev _root_.Μ:=List (Nat×List (Int×Int))
abbrev _root_.Ν:=Option Int
abbrev _root_.Ξ:=Result->Shared->Prop
abbrev _root_.Ρ:=Str->List Rat
abbrev _root_.Τ:=Option Value->Shared->Prop
abbrev _root_.Υ:=List (Str×Value)
abbrev Key:=Sum Int Str
abbrev _root_.Ο:=List (List Key×Addr×Value)
def qU:Key->Value->Bool
 | .inl k,v=>Value.isInt k v
 | .inr x,v=>Value.isStrOf x v
def Z5 (w:World):Key->Int
 | .inl k=>hashInt k
 | .inr x=>hashStr w x
theorem bU:∀{k:Key} {v:Value},qU k v=true->(∃i t,k=ahG i/\v=Value.int i t)\/(∃x t,k=acp x/\v=Value.str x t)
 | .inl i,v,h=>by
  obtain ⟨t,e⟩:=Value.isInt_shape (k:=i) (v:=v) h
  exact .inl ⟨i,t,rfl,e⟩
 | .inr x,v,h=>by
  obtain ⟨t,e⟩:=Value.isStrOf_shape (x:=x) (v:=v) h
  exact .inr ⟨x,t,rfl,e⟩
theorem AO (i:Int)(t:Tok):qU (.inl i) (.int i t)=true:=by simp [qU,Value.isInt]
theorem AQ (x:Str)(t:Tok):qU (.inr x) (.str x t)=true:=by simp [qU,Value.isStrOf]
theorem Pq (a b:Int):decide ((ahG a:Key)=ahG b)=(a==b):=by
 by_cases e:a=b
 ·subst e;simp
 ·have h:¬ (ahG a:Key)=ahG b:=fun q=>e (ahj q)
  rw [decide_eq_false h]
  exact (beq_eq_false_iff_ne.mpr e).symm
theorem Pu (a b:Str):decide ((acp a:Key)=acp b)=decide (a=b):=by
 by_cases e:a=b
 ·subst e;simp
 ·have h:¬ (acp a:Key)=acp b:=fun q=>e (abV q)
  rw [decide_eq_false h,decide_eq_false e]
theorem Pw (a:Int)(b:Str):decide ((ahG a:Key)=acp b)=false:=decide_eq_false (fun q=>nomatch q)
theorem Px (a:Str)(b:Int):decide ((acp a:Key)=ahG b)=false:=decide_eq_false (fun q=>nomatch q)
def bC (prog:Program)(w:World):PySem.KeyKind prog w Key where
 is:=qU
 hash:=Z5 w
 inj:=fun v a b ha hb=>by
  rcases bU ha with ⟨i,t,rfl,rfl⟩ | ⟨x,t,rfl,rfl⟩
  ·rcases bU hb with ⟨j,u,rfl,e⟩ | ⟨y,u,rfl,e⟩
   ·injection e with e1 _;rw [e1]
   ·exact nomatch e
  ·rcases bU hb with ⟨j,u,rfl,e⟩ | ⟨y,u,rfl,e⟩
   ·exact nomatch e
   ·injection e with e1 _;rw [e1]
 byValue:=fun k v h=>by
  rcases bU h with ⟨i,t,rfl,rfl⟩ | ⟨x,t,rfl,rfl⟩ <;> rfl
 pyHash:=fun hv h=>by
  rcases bU hv with ⟨i,t,rfl,rfl⟩ | ⟨x,t,rfl,rfl⟩
  ·exact wpAny_pyHash_int h
  ·exact wpAny_pyHash_str h
 eqBool:=fun hu hv h=>by
  rcases bU hu with ⟨i,t,rfl,rfl⟩ | ⟨x,t,rfl,rfl⟩
  ·rcases bU hv with ⟨j,u,rfl,rfl⟩ | ⟨y,u,rfl,rfl⟩
   ·rw [Pq] at h;exact wpAny_eqBool_int h
   ·rw [Pw] at h;exact SeqAt.EqAt.int_str i t y u _ _ _ _ h
  ·rcases bU hv with ⟨j,u,rfl,rfl⟩ | ⟨y,u,rfl,rfl⟩
   ·rw [Px] at h;exact SeqAt.EqAt.str_int x t j u _ _ _ _ h
   ·rw [Pu] at h;exact wpAny_eqBool_str h
 «strs»:=fun k x t v h=>by
  rcases bU h with ⟨i,u,rfl,e⟩ | ⟨y,u,rfl,e⟩
  ·exact nomatch e
  ·injection e with e1 _
   subst e1
   cases v <;> rfl
theorem uD (prog:Program)(w:World)(i:Int)(t:Tok):(bC prog w).is (.inl i) (.int i t)=true:=AO i t
theorem uE (prog:Program)(w:World)(x:Str)(t:Tok):(bC prog w).is (.inr x) (.str x t)=true:=AQ x t
end L2
namespace L2
open PySem PySem.Spec PyProof.Rows
inductive V where
 | cI | bl (b:Bool) | int (i:Int) | str (x:Str) | byt (b:Array UInt8) | Py (b:UInt64) | ref (a:Addr) | ty (n:String)
 deriving DecidableEq
abbrev _root_.δ:=List (Key×V)
abbrev _root_.η:=List V
abbrev _root_.ψ:=List (List Key×V)
abbrev _root_.Β:=Option V
abbrev _root_.Ε:=List (List V)
def RelV:V->Value->Prop
 | .cI,u=>u=Value.none
 | .bl b,u=>u=Value.bool b
 | .int i,u=>∃t,u=Value.int i t
 | .str x,u=>∃t,u=Value.str x t
 | .byt b,u=>∃t,u=Value.bytes b t
 | .Py b,u=>∃t,u=Value.float b t
 | .ref a,u=>u=Value.ref a
 | .ty n,u=>u=Value.type n
abbrev Vals:List V->List Value->Prop:=Paired RelV
theorem Vals.length {xs:η}{us:ο}(r:Vals xs us):xs.length=us.length:=Paired.length r
theorem Vals.get:∀{xs:η} {us:ο} {i:Nat} {x:V},Vals xs us->xs[i]? =some x->∃u,us[i]? =some u/\RelV x u
 | _,_,_,_,.nil,e=>by simp at e
 | _,_,0,_,.cons r _,e=>by simp at e;subst e;exact ⟨_,rfl,r⟩
 | _,_,i+1,x,.cons _ t,e=>by
  obtain ⟨u,h1,h2⟩:=Vals.get (i:=i) (x:=x) t (by simpa using e)
  exact ⟨u,by simpa using h1,h2⟩
theorem Vals.set {x:V}{u:Value}(r:RelV x u):∀{xs:η} {us:ο} (i:Nat),Vals xs us->Vals (xs.set i x) (us.set i u)
 | _,_,_,.nil=>.nil
 | _,_,0,.cons _ t=>.cons r t
 | _,_,i+1,.cons q t=>.cons q (Vals.set r i t)
theorem Vals.append:∀{xs ys:η} {us ws:ο},Vals xs us->Vals ys ws->Vals (xs++ys) (us++ws)
 | _,_,_,_,.nil,s=>s
 | _,_,_,_,.cons r t,s=>.cons r (Vals.append t s)
theorem Vals.take:∀{xs:η} {us:ο} (n:Nat),Vals xs us->Vals (xs.take n) (us.take n)
 | _,_,0,_=>.nil
 | _,_,_+1,.nil=>.nil
 | _,_,n+1,.cons r t=>.cons r (Vals.take n t)
theorem Vals.drop:∀{xs:η} {us:ο} (n:Nat),Vals xs us->Vals (xs.drop n) (us.drop n)
 | _,_,0,r=>r
 | _,_,_+1,.nil=>.nil
 | _,_,n+1,.cons _ t=>Vals.drop n t
def gT:Option V->Option Value->Prop
 | some v,some u=>RelV v u
 | none,none=>True
 | _,_=>False
def KV {κ:Type}:List (κ×V)->List (κ×Value)->Prop:=Paired fun (p:κ×V) (q:κ×Value)=>p.1=q.1/\RelV p.2 q.2
def kV:Key->V
 | .inl i=>.int i
 | .inr x=>.str x
inductive HO where
 | lst (xs:η)
 | tup (xs:η)
 | dK (kvs:δ) | dT (kvs:ψ)
 | set (S:Int->Bool) (n:Nat)
 | ins (C dx:Addr) (fs:List (Str×V))
 | own (x:Addr)
 | xd (fs:List (Str×V))
 | met (f x:Addr)
 | Z6 (lo hi:Int)
 | fj (o:Obj) (u:HO)
 | Pz (ps:Λ)
 | ext (φ:Heap->Prop)
abbrev Hp:=Addr->Option HO
def upd (H:Hp)(a:Addr)(o:HO):Hp:=fun b=>if b=a then some o else H b
theorem aj {H:Hp}{a:Addr}{o:HO}:upd H a o a=some o:=by unfold upd;rw [if_pos rfl]
theorem aq {H:Hp}{a b:Addr}{o:HO}(h:b≠a):upd H a o b=H b:=by unfold upd;rw [if_neg h]
theorem S7 {H:Hp}{a b:Addr}{o u:HO}(h:H a=some o)(h' :H b=some u)(d:o≠u):a≠b:=by
 intro e;subst e;rw [h] at h';exact d (aaZ h')
theorem ao {H:Hp}{a b:Addr}{o:HO}(h:H a=some o)(h' :H b=none):a≠b:=by
 intro e;subst e;rw [h] at h';cases h'
section
variable (P:Program)(w:World)
def cy (H:Hp)(h:Heap)(a:Addr):HO->Prop
 | .lst xs=>xs.length<=sizeLine/\∃(its:ο) (n:Nat),Vals xs its/\h.get? a=some {cls:=.type "list",data:=.seq its.toArray n}
 | .tup xs=>xs.length<=sizeLine/\∃its:List Value,Vals xs its/\IsTup h a its.toArray
 | .dK kvs=>kvs.length<=sizeLine/\(a==sysModules)=false/\∃vs,KV kvs vs/\h.DictOf (bC P w) a vs
 | .dT kvs=>kvs.length<=sizeLine/\(a==sysModules)=false/\∃xs:List (List Key×Addr×Value),
   Paired (fun (p:List Key×V) (q:List Key×Addr×Value)=>p.1=q.1/\H q.2.1=some (.tup (p.1.map kV))/\RelV p.2 q.2.2) kvs xs/\
   ∃o es ep,h.get? a=some o/\o.ExactDict/\o.data=.dict es ep/\es.toList=xs.map (entryOfKey (tupleKind (bC P w)))/\(xs.map (·.1)).Nodup
 | .set S n=>h.SetOf (intKind P w) a S n
 | .ins C dx fs=>H dx=some (.own a)/\fs.length<=1000/\dx≠a/\h.get? a=some (PySem.W.instObj C dx)/\
   ∃mA,h.Ns1 dx mA/\(∀f,gT (fs.lookup f) (mA f))/\PySem.Within mA (fs.map (·.1))
 | .own _=>∃o,h.get? a=some o
 | .xd fs=>∃mA,h.Ns1 a mA/\∀f,gT (fs.lookup f) (mA f)
 | .Z6 lo hi=>∃t u v,h.get? a=some {cls:=.type "range",data:=.fields #[.int lo t,.int hi u,.int 1 v]}
 | .fj o u=>h.get? a=some o/\cy H h a u
 | .Pz ps=>h.get? a=some {cls:=.none,data:=.fields ps}
 | .met f x=>h.get? a=some (PySem.W.methodObj (.ref f) (.ref x))
 | .ext φ=>φ h/\(∃o,h.get? a=some o)/\∀h1 h2:Heap,φ h1->(∀o,h1.get? a=some o->h2.get? a=some o)->φ h2
def ji (H:Hp)(h:Heap):Prop:=∀a o,H a=some o->cy P w H h a o
end
section
variable {P:Program}{w:World}{H H' :Hp}{h h' :Heap}{a:Addr}{o:HO}
theorem cy.lt (x:cy P w H h a o):a < h.objs.size:=by
 cases o with
 | lst xs=>obtain ⟨_,_,_,_,e⟩:=x;exact Heap.lt_size e
 | tup xs=>obtain ⟨_,_,_,p⟩:=x;exact p.lt
 | dK kvs=>obtain ⟨_,_,_,_,o,_,_,e,_⟩:=x;exact Heap.lt_size e
 | dT kvs=>obtain ⟨_,_,_,_,o,_,_,e,_⟩:=x;exact Heap.lt_size e
 | set S n=>obtain ⟨o,_,_,_,e,_⟩:=x;exact Heap.lt_size e
 | ins C dx fs=>obtain ⟨_,_,_,e,_⟩:=x;exact Heap.lt_size e
 | own y=>obtain ⟨_,e⟩:=x;exact Heap.lt_size e
 | xd fs=>obtain ⟨_,⟨_,_,_,e,_⟩,_⟩:=x;exact Heap.lt_size e
 | Z6 lo hi=>obtain ⟨_,_,_,e⟩:=x;exact Heap.lt_size e
 | fj ob u=>obtain ⟨e,_⟩:=x;exact Heap.lt_size e
 | Pz ps=>exact Heap.lt_size (show h.get? a=some _ from x)
 | met f y=>exact Heap.lt_size (show h.get? a=some _ from x)
 | ext φ=>obtain ⟨_,⟨_,e⟩,_⟩:=x;exact Heap.lt_size e
theorem Paired.bP {α β:Type}{F G:α->β->Prop}:∀{l₁:List α} {l₂:List β},Paired F l₁ l₂->(∀a b,F a b->G a b)->Paired G l₁ l₂
 | _,_,.nil,_=>.nil
 | _,_,.cons r t,f=>.cons (f _ _ r) (Paired.bP t f)
theorem cy.rX (x:cy P w H h a o)(k:∀b u,(b=a\/H b=some (.own a))->h.get? b=some u->h'.get? b=some u)
  (ho:∀b,H b=some (.own a)->H' b=some (.own a)) (ht:∀b xs,H b=some (.tup xs)->H' b=some (.tup xs)):cy P w H' h' a o:=by
 induction o with
 | lst xs=>obtain ⟨z,its,n,r,e⟩:=x;exact ⟨z,its,n,r,k _ _ (.inl rfl) e⟩
 | tup xs=>obtain ⟨z,its,r,ob,e,c⟩:=x;exact ⟨z,its,r,ob,k _ _ (.inl rfl) e,c⟩
 | dK kvs=>obtain ⟨z,y,vs,r,ob,es,ep,e,c⟩:=x;exact ⟨z,y,vs,r,ob,es,ep,k _ _ (.inl rfl) e,c⟩
 | dT kvs=>
  obtain ⟨z,y,xs,r,ob,es,ep,e,c⟩:=x
  exact ⟨z,y,xs,Paired.bP r fun p q z=>⟨z.1,ht _ _ z.2.1,z.2.2⟩,ob,es,ep,k _ _ (.inl rfl) e,c⟩
 | set S n=>obtain ⟨ob,es,ep,t,e,c⟩:=x;exact ⟨ob,es,ep,t,k _ _ (.inl rfl) e,c⟩
 | ins C dx fs=>
  obtain ⟨d,z,ne,e,mA,⟨od,es,ep,e2,c⟩,r⟩:=x
  exact ⟨ho _ d,z,ne,k _ _ (.inl rfl) e,mA,⟨od,es,ep,k _ _ (.inr d) e2,c⟩,r⟩
 | own y=>obtain ⟨ob,e⟩:=x;exact ⟨ob,k _ _ (.inl rfl) e⟩
 | xd fs=>obtain ⟨mA,⟨od,es,ep,e,c⟩,r⟩:=x;exact ⟨mA,⟨od,es,ep,k _ _ (.inl rfl) e,c⟩,r⟩
 | Z6 lo hi=>obtain ⟨t,u,v,e⟩:=x;exact ⟨t,u,v,k _ _ (.inl rfl) e⟩
 | fj ob u ih=>obtain ⟨e,q⟩:=x;exact ⟨k _ _ (.inl rfl) e,ih q⟩
 | Pz ps=>
  have e:h.get? a=some {cls:=.none,data:=.fields ps}:=x
  show h'.get? a=some {cls:=.none,data:=.fields ps}
  exact k a _ (.inl rfl) e
 | met f y=>
  have e:h.get? a=some (PySem.W.methodObj (.ref f) (.ref y)):=x
  show h'.get? a=some (PySem.W.methodObj (.ref f) (.ref y))
  exact k a _ (.inl rfl) e
 | ext φ=>obtain ⟨p,⟨o,e⟩,st⟩:=x;exact ⟨st _ _ p fun o q=>k _ _ (.inl rfl) q,⟨o,k _ _ (.inl rfl) e⟩,st⟩
theorem ji.lt (x:ji P w H h)(e:H a=some o):a < h.objs.size:=(x a o e).lt
theorem ji.fresh (x:ji P w H h)(e:h.objs.size<=a):H a=none:=by
 cases q:H a with
 | none=>rfl
 | some u=>exact absurd (aa6 (x.lt q) e) (ach _)
theorem ji.kept (x:ji P w H h)(k:∀b u,h.get? b=some u->h'.get? b=some u):ji P w H h' :=fun a o e=>
 (x a o e).rX (fun b u _ q=>k b u q) (fun _ q=>q) fun _ _ q=>q
theorem ji.laid (x:ji P w H h)(k:∀b u,h.get? b=some u->h'.get? b=some u)(hp:h.objs.size<=a)(new:cy P w (upd H a o) h' a o):ji P w (upd H a o) h' :=fun b u e=>by
 have hn:=x.fresh hp
 by_cases hb:b=a
 ·subst hb;rw [aj] at e;cases e;exact new
 ·rw [aq hb] at e
  exact (x b u e).rX (fun c v _ q=>k c v q) (fun c q=>by rw [aq (ao q hn)];exact q) fun c xs q=>by rw [aq (ao q hn)];exact q
end
def Rd (H:Hp)(a:Addr)(u:HO):Prop:=H a=some u\/∃o,H a=some (.fj o u)
theorem Rd.of {H:Hp}{a:Addr}{u:HO}(h:H a=some u):Rd H a u:=.inl h
theorem Rd.ok {P:Program}{w:World}{H:Hp}{h:Heap}{a:Addr}{u:HO}(r:Rd H a u)(x:ji P w H h):cy P w H h a u:=by
 rcases r with r | ⟨o,r⟩
 ·exact x a u r
 ·obtain ⟨_,q⟩:=x a _ r
  exact q
def S8:Option HO->Prop
 | some (.lst _)=>True
 | some (.dK _)=>True
 | some (.dT _)=>True
 | some (.set _ _)=>True
 | some (.ins _ _ _)=>True
 | some (.ext _)=>True
 | _=>False
section
variable {P:Program}{w:World}{H:Hp}{h h' :Heap}{x e:Addr}{o' :HO}
theorem ji.write (ok:ji P w H h)(mu:S8 (H x))(he:e=x\/H e=some (.own x))(k:∀b u,b≠e->h.get? b=some u->h'.get? b=some u)(Sr:∃u,h'.get? e=some u)
  (new:cy P w (upd H x o') h' x o'):ji P w (upd H x o') h' :=fun b u q=>by
 have S9:∀c y,H c=some (.own y)->c≠x:=fun c y r z=>by subst z;rw [r] at mu;exact mu
 have Z7:∀c xs,H c=some (.tup xs)->c≠x:=fun c xs r z=>by subst z;rw [r] at mu;exact mu
 by_cases hb:b=x
 ·subst hb;rw [aj] at q;cases q;exact new
 ·rw [aq hb] at q
  by_cases PD:b=e
  ·have q' :H b=some (.own x):=by
    rcases he with z | z
    ·exact absurd (PD.trans z) hb
    ·rw [PD];exact z
   rw [q] at q';cases q'
   obtain ⟨v,hv⟩:=Sr
   exact ⟨v,by rw [PD];exact hv⟩
  ·refine (ok b u q).rX (fun c v hc r=>k c v ?_ r) (fun c r=>by rw [aq (S9 c b r)];exact r) fun c xs r=>by rw [aq (Z7 c xs r)];exact r
   rcases hc with rfl | hc
   ·exact PD
   ·rintro rfl
    rcases he with z | z
    ·exact S9 c b hc z
    ·rw [hc] at z;cases z;exact hb rfl
end
structure Un (fs ex:Α)(H H' :Hp)(h h' :Heap):Prop where
 keep:∀b o,h.get? b=some o->H b=none->b∉fs->b∉ex->h'.get? b=some o
 slot:∀b o,h.get? b=some o->H b=none->b∈fs->b∉ex->∃sl,h'.get? b=some {o with slots:=sl}
 free:∀b o,h.get? b=some o->H b=none->b∉ex->H' b=none
 there:∀b o,h.get? b=some o->b∉ex->∃o',h'.get? b=some o'
 rY:∀b xs,H b=some (.tup xs)->H' b=some (.tup xs)
 qd:∀b o u,H b=some (.fj o u)->H' b=some (.fj o u)
 rZ:∀b ps,H b=some (.Pz ps)->∃more,H' b=some (.Pz (ps++more))
section
variable {fs fs' ex AR :Α}{H H1 H2:Hp}{h h1 h2 h' :Heap}{a x e:Addr}{o:HO}
theorem Un.any (u:Un fs ex H H1 h h1){b:Addr}{ob:Obj}(q:h.get? b=some ob)(n:H b=none)(hx:b∉ex):∃sl,h1.get? b=some {ob with slots:=sl}:=by
 by_cases hb:b∈fs
 ·exact u.slot b ob q n hb hx
 ·exact ⟨ob.slots,u.keep b ob q n hb hx⟩
theorem Un.kept (k:∀b u,h.get? b=some u->h'.get? b=some u):Un fs ex H H h h' :=
 ⟨fun b ob q _ _ _=>k b ob q,fun b ob q _ _ _=>⟨ob.slots,k b ob q⟩,fun _ _ _ n _=>n,fun b ob q _=>⟨ob,k b ob q⟩,fun _ _ q=>q,fun _ _ _ q=>q,fun _ ps q=>⟨#[],by rw [q];simp⟩⟩
theorem Un.refl:Un fs ex H H h h:=Un.kept fun _ _ q=>q
theorem Un.laid (k:∀b u,h.get? b=some u->h'.get? b=some u)(hp:h.objs.size<=a)(hn:H a=none):Un fs ex H (upd H a o) h h' where
 keep:=fun b u q _ _ _=>k b u q
 slot:=fun b u q _ _ _=>⟨u.slots,k b u q⟩
 free:=fun b u q n _=>by rw [aq (aa' (aa6 (Heap.lt_size q) hp))];exact n
 there:=fun b u q _=>⟨u,k b u q⟩
 rY:=fun b xs q=>by rw [aq (ao q hn)];exact q
 qd:=fun b u xs q=>by rw [aq (ao q hn)];exact q
 rZ:=fun b ps q=>⟨#[],by rw [aq (ao q hn),q];simp⟩
theorem Un.write (mu:S8 (H x))(he:e=x\/H e=some (.own x))(k:∀b u,b≠e->h.get? b=some u->h'.get? b=some u)(Sr:∃u,h'.get? e=some u):Un fs ex H (upd H x o) h h' :=by
 have hx:∀b,H b=none->b≠x:=fun b n z=>by subst z;rw [n] at mu;exact mu
 have hb:∀b,H b=none->b≠e:=fun b n z=>by
  subst z
  rcases he with r | r
  ·exact hx b n r
  ·rw [n] at r;cases r
 have hm:∀b u,H b=some u->¬ S8 (some u)->b≠x:=fun b u q nm z=>by subst z;rw [q] at mu;exact nm mu
 refine ⟨fun b u q n _ _=>k b u (hb b n) q,fun b u q n _ _=>⟨u.slots,k b u (hb b n) q⟩,fun b u q n _=>by rw [aq (hx b n)];exact n,fun b u q _=>?_,
  fun b xs q=>by rw [aq (hm b _ q fun z=>z)];exact q,fun b u xs q=>by rw [aq (hm b _ q fun z=>z)];exact q,fun b ps q=>⟨#[],by rw [aq (hm b _ q fun z=>z),q];simp⟩⟩
 by_cases PD:b=e
 ·subst PD;exact Sr
 ·exact ⟨u,k b u PD q⟩
end
def Zi (h:Heap)(H:Hp):List Addr:=(abk h.objs.size).filter fun a=>(H a).isSome
def r6 (h:Heap)(H:Hp):Heap:=PySem.W.hideAll h (Zi h H)
theorem AS (h:Heap)(H:Hp):(r6 h H).objs.size=h.objs.size:=PySem.W.hideAll_size _ _
theorem FO {h:Heap}{H:Hp}{b:Addr}{o:Obj}(e:h.get? b=some o)(n:H b=none):(r6 h H).get? b=some o:=
 PySem.W.hideAll_get _ e fun hm=>by
  have q:(H b).isSome=true:=(abr.mp hm).2
  rw [n] at q;simp at q
theorem K_ {h:Heap}{H:Hp}{b:Addr}{o:Obj}(e:(r6 h H).get? b=some o):h.get? b=some o/\H b=none:=by
 have e' :h.get? b=some o:=PySem.W.of_hideAll (Zi h H) e
 refine ⟨e',?_⟩
 cases q:H b with
 | none=>rfl
 | some x=>
  have hm:b∈Zi h H:=abr.mpr ⟨abl.mpr (Heap.lt_size e'),by simp [q]⟩
  have z:(r6 h H).get? b=none:=PySem.W.hideAll_none (Zi h H) hm
  rw [z] at e;cases e
def K' (g h:Heap)(L:Addr):List (Addr×Obj):=(abk h.objs.size).filterMap fun a=>if a=L\/(g.get? a).isSome=true then none else (h.get? a).map fun o=>(a,o)
def rest (g h:Heap)(L d:Addr):List (Addr×Obj):=(K' g h L).filter fun p=>decide (p.1≠d)
end L2
namespace L2
open PySem PySem.Spec PyProof.Rows
structure Mod (K:Frag)(mg:ι)(base:Heap):Prop where
 Ss:K.In base
 glob:base.Ns mainGlobals mg
 blt:∃mb,base.Ns builtinsNs mb/\∀x:Str,x≠ "__name__"->mb x=bootBuiltins x
 nolimit:base.NoLimit
 seer:base.NoSeer
structure Cx where
 prog:Program
 w:World
 K:Frag
 mg:Str->Option Value
 base:Heap
 A:Around
 N:List Str
 s₀:Shared
 H₀:Hp
 env:Env
 outer:List Env
 stack:List Env
 ex:List Addr
 fn:Str->Bool
 calm:Bool
 pn:List (Addr×Obj)
 xe:Value->Shared->Prop
def yU (l:List Env):List Addr:=l.filterMap (·.frame)
abbrev Cx.fs (X:Cx):List Addr:=yU X.outer
def Z8 (sc:Scope)(x:Str):Prop:=sc.names.lookup x=some .local\/sc.names.lookup x=some .cell\/sc.names.lookup x=some .free
def Loc (sc:Scope)(x:Str):Prop:=sc.names.lookup x=some .local\/sc.names.lookup x=some .cell
def Look (env:Env)(h:Heap)(m:ι)(x:Str)(u:Value):Prop:=
 (env.kindOf x=some .local/\m x=some u)\/((env.kindOf x=some .cell\/env.kindOf x=some .free)/\∃c,env.cells.lookup x=some c/\h.IsCell c (some u))
structure Cx.Ok (X:Cx):Prop where
 mod:Mod X.K X.mg X.base
 kind:X.env.scope.kind=.function
 glob:X.env.globals=mainGlobals
 blt:X.env.builtins=builtinsNs
 above:X.s₀.heap.objs.size<=X.env.locals
 inj:∀x y c,X.env.cells.lookup x=some c->X.env.cells.lookup y=some c->x=y
 has:∀x,(X.env.kindOf x=some .cell\/X.env.kindOf x=some .free)->∃c,X.env.cells.lookup x=some c
 S_:∀x c,X.fn x=true->X.env.cells.lookup x=some c->X.s₀.heap.objs.size<=c
 hd:X.calm=true->X.A.handled=none
 frames:X.A.frames=some X.stack
 Zj:X.stack=X.outer\/(X.stack=X.env::X.outer/\X.env.frame=some X.env.locals)
 exf:∀b∈X.ex,b≠X.env.locals/\∀x c,X.env.cells.lookup x=some c->c≠b
 bs:∀b o,X.base.get? b=some o->X.s₀.heap.get? b=some o/\X.H₀ b=none
 La:X.base.objs.size<=X.s₀.heap.objs.size
 FP:∀b o,X.base.get? b=some o->b∉X.ex
 Lb:∀b∈X.ex,b∉X.fs
 mE:X.s₀.heap.FunFrames X.base X.outer
 PH:∀b∈X.fs,X.H₀ b=none
structure Inv (X:Cx)(pins:ε)(σ:List (Option V))(H:Hp)(s:Shared):Prop where
 ok:X.Ok
 os:s.os=X.s₀.os
 bare:AllBare s.gens
 base:Un X.fs X.ex X.H₀ H X.s₀.heap s.heap
 loc:∃m,s.heap.Ns X.env.locals m/\∀(i:Nat) (x:Str) (v:V),X.N[i]? =some x->σ[i]? =some (some v)->Z8 X.env.scope x->∃u,RelV v u/\Look X.env s.heap m x u
 cell:∀x c,X.env.cells.lookup x=some c->∃v,s.heap.IsCell c v
 free:H X.env.locals=none
 iy:∀x c,X.env.cells.lookup x=some c->H c=none
 pin:∀p∈X.pn++pins,s.heap.get? p.1=some p.2/\H p.1=none/\p.1≠X.env.locals/\p.1∉X.fs/\∀v,p.2.data≠.cell v
 bL:ji X.prog X.w H s.heap
 len:σ.length=X.N.length
section
variable {X:Cx}{pins:ε}{σ:List (Option V)}{H H' :Hp}{s:Shared}{h' :Heap}
theorem Cx.Ok.Z9 (ok:X.Ok){b:Addr}{o:Obj}(e:X.base.get? b=some o):b∉X.fs:=fun hb=>by
 have:=(ok.mE.mem hb).1
 rw [e] at this;cases this
theorem Inv.bs (I:Inv X pins σ H s):∀b o,X.base.get? b=some o->s.heap.get? b=some o/\H b=none:=fun b o e=>
 ⟨I.base.keep b o (I.ok.bs b o e).1 (I.ok.bs b o e).2 (I.ok.Z9 e) (I.ok.FP b o e),I.base.free b o (I.ok.bs b o e).1 (I.ok.bs b o e).2 (I.ok.FP b o e)⟩
theorem Inv.bk (I:Inv X pins σ H s):∀b o,X.base.get? b=some o->s.heap.get? b=some o:=fun b o e=>(I.bs b o e).1
theorem Inv.mod (I:Inv X pins σ H s):Mod X.K X.mg X.base:=I.ok.mod
theorem Inv.ju (I:Inv X pins σ H s):X.K.In s.heap:=I.ok.mod.Ss.keeps I.bk
theorem Inv.nolimit (I:Inv X pins σ H s):s.heap.NoLimit:=I.ok.mod.nolimit.keeps I.bk
theorem Inv.lt (I:Inv X pins σ H s):X.env.locals < s.heap.objs.size:=let ⟨_,hn,_⟩:=I.loc;hn.lt
theorem Inv.sz (I:Inv X pins σ H s):X.s₀.heap.objs.size<=s.heap.objs.size:=aam I.ok.above (acq I.lt)
theorem Inv.Z_ (I:Inv X pins σ H s){a:Addr}(h:s.heap.objs.size<=a):a∉X.fs:=fun hb=>by
 obtain ⟨_,o,ho,_⟩:=I.ok.mE.mem hb
 exact absurd (aa6 (Heap.lt_size ho) (aam I.sz h)) (ach _)
theorem Inv.PJ (I:Inv X pins σ H s):∀x c,X.env.cells.lookup x=some c->c≠X.env.locals:=fun x c e z=>by
 obtain ⟨v,o,ho,hd⟩:=I.cell x c e
 obtain ⟨m,⟨o',es,ep,Lc,NK,_⟩,_⟩:=I.loc
 rw [z,Lc] at ho;cases ho;rw [NK] at hd;cases hd
theorem Inv.mE (I:Inv X pins σ H s):s.heap.FunFrames X.base X.outer:=by
 have all:∀(l:List Env),(∀b∈yU l,b∈X.fs)->X.s₀.heap.FunFrames X.base l->s.heap.FunFrames X.base l:=by
  intro l
  induction l with
  | nil=>intro _ _;trivial
  | cons env r ih=>
   intro hs hl
   obtain ⟨hk,⟨L,o,hf,hn,ho,hd⟩,hr⟩:=hl
   have hL:L∈X.fs:=hs L (by unfold yU;rw [ahe,hf];exact aaK)
   obtain ⟨sl,e⟩:=I.base.slot L o ho (I.ok.PH L hL) hL fun z=>I.ok.Lb L z hL
   exact ⟨hk,⟨L,_,hf,hn,e,hd⟩,ih (fun b hb=>hs b (by unfold yU;rw [ahe,hf];exact aaE _ hb)) hr⟩
 exact all X.outer (fun _ hb=>hb) I.ok.mE
theorem Inv.stack (I:Inv X pins σ H s):s.heap.FunFrames X.base X.stack:=by
 rcases I.ok.Zj with e | ⟨e,hf⟩
 ·rw [e];exact I.mE
 ·rw [e]
  obtain ⟨m,hn,_⟩:=I.loc
  refine .cons (by rw [I.ok.kind];decide) hf hn ?_ I.mE
  exact Heap.get?_none_of_le (aam I.ok.La I.ok.above)
theorem Inv.xj (I:Inv X pins σ H s):∀b∈yU X.stack,b∈X.env.locals::X.fs:=fun b hb=>by
 rcases I.ok.Zj with e | ⟨e,hf⟩
 ·rw [e] at hb;exact aaE _ hb
 ·rw [e] at hb
  unfold yU at hb
  rw [ahe,hf] at hb
  exact hb
theorem Inv.yV (I:Inv X pins σ H s):∀b∈yU X.stack,H b=none:=fun b hb=>by
 rcases aa8.mp (I.xj b hb) with e | hb
 ·rw [e];exact I.free
 ·obtain ⟨_,o,ho,_⟩:=I.ok.mE.mem hb
  exact I.base.free b o ho (I.ok.PH b hb) fun z=>I.ok.Lb b z hb
theorem Inv.step {g' :Array GenState}{t' :Nat}{d' :Drawn}{ch:Α}(I:Inv X pins σ H s)
  (Ky:∀b∈ch,(b∈X.ex\/X.s₀.heap.objs.size<=b)/\b≠X.env.locals/\(∀x c,X.env.cells.lookup x=some c->c≠b)/\∀p∈X.pn++pins,p.1≠b)
  (keep:∀b o,b≠X.env.locals->b∉X.fs->b∉ch->s.heap.get? b=some o->H b=none->h'.get? b=some o)
  (slot:∀b o,b≠X.env.locals->b∈X.fs->b∉ch->s.heap.get? b=some o->H b=none->∃sl,h'.get? b=some {o with slots:=sl}) (free:∀b o,b∉ch->s.heap.get? b=some o->H b=none->H' b=none)
  (there:∀b o,b∉ch->s.heap.get? b=some o->∃o',h'.get? b=some o')
  (rY:∀b xs,H b=some (.tup xs)->H' b=some (.tup xs)) (qd:∀b o u,H b=some (.fj o u)->H' b=some (.fj o u)) (rZ:∀b ps,H b=some (.Pz ps)->∃more,H' b=some (.Pz (ps++more)))
  (ns:∀m,s.heap.Ns X.env.locals m->h'.Ns X.env.locals m) (bL:ji X.prog X.w H' h') (hg:AllBare g'):
  Inv X pins σ H' {s with heap:=h',gens:=g',drawn:=d',toks:=t' }:=by
 have Zk:∀b o,X.s₀.heap.get? b=some o->b≠X.env.locals:=fun b o e=>aa' (aa6 (Heap.lt_size e) I.ok.above)
 have Zl:∀b o,X.s₀.heap.get? b=some o->b∉X.ex->b∉ch:=fun b o e hx hb=>by
  rcases (Ky b hb).1 with z | z
  ·exact hx z
  ·exact absurd (aa6 (Heap.lt_size e) z) (ach _)
 have cellK:∀x c,X.env.cells.lookup x=some c->∀v,s.heap.IsCell c v->h'.IsCell c v:=fun x c e v ⟨o,ho,hd⟩=>by
  have S':c∉ch:=fun z=>(Ky c z).2.2.1 x c e rfl
  by_cases hc:c∈X.fs
  ·obtain ⟨sl,q⟩:=slot c o (I.PJ x c e) hc S' ho (I.iy x c e)
   exact ⟨_,q,hd⟩
  ·exact ⟨o,keep c o (I.PJ x c e) hc S' ho (I.iy x c e),hd⟩
 refine ⟨I.ok,I.os,hg,⟨fun b o e n hb hx=>?_,fun b o e n hb hx=>?_,fun b o e n hx=>?_,fun b o e hx=>?_,fun b xs e=>rY b xs (I.base.rY b xs e),fun b o xs e=>qd b o xs (I.base.qd b o xs e),fun b ps e=>?_⟩,?_,fun x c e=>?_,?_,fun x c e=>?_,fun p hp=>?_,bL,I.len⟩
 ·exact keep b o (Zk b o e) hb (Zl b o e hx) (I.base.keep b o e n hb hx) (I.base.free b o e n hx)
 ·obtain ⟨sl,e1⟩:=I.base.slot b o e n hb hx
  obtain ⟨sl',e2⟩:=slot b _ (Zk b o e) hb (Zl b o e hx) e1 (I.base.free b o e n hx)
  exact ⟨sl',e2⟩
 ·obtain ⟨o',e1⟩:=I.base.there b o e hx
  exact free b o' (Zl b o e hx) e1 (I.base.free b o e n hx)
 ·obtain ⟨o',e1⟩:=I.base.there b o e hx
  exact there b o' (Zl b o e hx) e1
 ·obtain ⟨m1,e1⟩:=I.base.rZ b ps e
  obtain ⟨m2,e2⟩:=rZ b _ e1
  exact ⟨m1++m2,by rw [e2,Array.append_assoc]⟩
 ·obtain ⟨m,hn,hl⟩:=I.loc
  refine ⟨m,ns m hn,fun i x v e1 e2 e3=>?_⟩
  obtain ⟨u,r,l⟩:=hl i x v e1 e2 e3
  refine ⟨u,r,?_⟩
  rcases l with l | ⟨k,c,e,z⟩
  ·exact .inl l
  ·exact .inr ⟨k,c,e,cellK x c e _ z⟩
 ·obtain ⟨v,z⟩:=I.cell x c e
  exact ⟨v,cellK x c e v z⟩
 ·obtain ⟨m,⟨o,_,_,ho,_⟩,_⟩:=I.loc
  exact free _ o (fun z=>(Ky _ z).2.1 rfl) ho I.free
 ·obtain ⟨v,o,ho,hd⟩:=I.cell x c e
  exact free c o (fun z=>(Ky c z).2.2.1 x c e rfl) ho (I.iy x c e)
 ·obtain ⟨e,n,ne,nf,d⟩:=I.pin p hp
  have S':p.1∉ch:=fun z=>(Ky p.1 z).2.2.2 p hp rfl
  exact ⟨keep p.1 p.2 ne nf S' e n,free p.1 p.2 S' e n,ne,nf,d⟩
theorem Inv.un {t' :Nat}(I:Inv X pins σ H s)(u:Un X.fs [] H H' s.heap h')(bL:ji X.prog X.w H' h'):Inv X pins σ H' {s with heap:=h',toks:=t' }:=by
 obtain ⟨m,⟨o,es,ep,ho,r⟩,_⟩:=id I.loc
 obtain ⟨sl,hL⟩:=u.any ho I.free (by simp)
 exact I.step (g' :=s.gens) (d' :=s.drawn) (ch:=[]) (fun _ z=>nomatch z) (fun b o _ hb _ e n=>u.keep b o e n hb (by simp)) (fun b o _ hb _ e n=>u.slot b o e n hb (by simp)) (fun b o _ e n=>u.free b o e n (by simp)) (fun b o _ e=>u.there b o e (by simp)) u.rY u.qd u.rZ (fun m' hm=>by
  obtain ⟨o',FQ,uw,Lc,r'⟩:=hm
  rw [ho] at Lc;cases Lc
  exact ⟨_,FQ,uw,hL,r'⟩) bL I.bare
theorem Inv.call {g' :Array GenState}{t' :Nat}{d' :Drawn}{ch:Α}(I:Inv X pins σ H s)(u:Un (yU X.stack) ch H H' s.heap h')(bL:ji X.prog X.w H' h')(hg:AllBare g')
  (Ky:∀b∈ch,(b∈X.ex\/X.s₀.heap.objs.size<=b)/\b≠X.env.locals/\(∀x c,X.env.cells.lookup x=some c->c≠b)/\∀p∈X.pn++pins,p.1≠b):
  Inv X pins σ H' {s with heap:=h',gens:=g',drawn:=d',toks:=t' }:=by
 obtain ⟨m,⟨o,es,ep,ho,r⟩,_⟩:=id I.loc
 obtain ⟨sl,hL⟩:=u.any ho I.free fun z=>(Ky _ z).2.1 rfl
 exact I.step (ch:=ch) Ky (fun b o hL hb hc e n=>u.keep b o e n (fun z=>(aa8.mp (I.xj b z)).elim hL hb) hc) (fun b o _ _ hc e n=>u.any e n hc) (fun b o hc e n=>u.free b o e n hc) (fun b o hc e=>u.there b o e hc) u.rY u.qd u.rZ (fun m' hm=>by
  obtain ⟨o',FQ,uw,Lc,r'⟩:=hm
  rw [ho] at Lc;cases Lc
  exact ⟨_,FQ,uw,hL,r'⟩) bL hg
theorem Inv.turned {t' :Nat}{it:Addr}(I:Inv X pins σ H s)(k:∀b o,b≠it->s.heap.get? b=some o->h'.get? b=some o)(hn:H it=none)(hL:it≠X.env.locals)
  (h1:it∈X.ex\/X.s₀.heap.objs.size<=it) (h2:∀x c,X.env.cells.lookup x=some c->c≠it) (h3:∀p∈X.pn++pins,p.1≠it):Inv X pins σ H {s with heap:=h',toks:=t' }:=by
 have NL:∀b u,H b=some u->b≠it:=fun b u e z=>by rw [z,hn] at e;cases e
 refine I.step (g' :=s.gens) (d' :=s.drawn) (ch:=[it]) (fun b hb=>?_) (fun b o _ _ hc e _=>k b o (fun z=>hc (by simp [z])) e) (fun b o _ _ hc e _=>⟨o.slots,k b o (fun z=>hc (by simp [z])) e⟩) (fun _ _ _ _ n=>n)
  (fun b o hc e=>⟨o,k b o (fun z=>hc (by simp [z])) e⟩) (fun _ _ e=>e) (fun _ _ _ e=>e) (fun b ps e=>⟨#[],by rw [e];simp⟩) (fun m hm=>?_) (fun b u e=>?_) I.bare
 ·have e:b=it:=by simpa using hb
  subst e
  exact ⟨h1,hL,h2,h3⟩
 ·obtain ⟨o,es,ep,ho,r⟩:=hm
  exact ⟨o,es,ep,k _ o (abb hL) ho,r⟩
 ·refine (I.bL b u e).rX (fun c v hc q=>k c v ?_ q) (fun _ q=>q) fun _ _ q=>q
  rcases hc with z | z
  ·rw [z];exact NL b u e
  ·exact NL c _ z
theorem Inv.tok (I:Inv X pins σ H s)(t:Nat):Inv X pins σ H {s with toks:=t}:=I.un (h' :=s.heap) (t' :=t) Un.refl I.bL
theorem Inv.kept {t' :Nat}(I:Inv X pins σ H s)(k:∀b u,s.heap.get? b=some u->h'.get? b=some u):Inv X pins σ H {s with heap:=h',toks:=t' }:=I.un (Un.kept k) (I.bL.kept k)
theorem Inv.laid {a:Addr}{o:HO}{t' :Nat}(I:Inv X pins σ H s)(k:∀b u,s.heap.get? b=some u->h'.get? b=some u)(hp:s.heap.objs.size<=a)(new:cy X.prog X.w (upd H a o) h' a o):
  Inv X pins σ (upd H a o) {s with heap:=h',toks:=t' }:=I.un (Un.laid k hp (I.bL.fresh hp)) (I.bL.laid k hp new)
theorem Inv.write {x e:Addr}{o:HO}{t' :Nat}(I:Inv X pins σ H s)(mu:S8 (H x))(he:e=x\/H e=some (.own x))(k:∀b u,b≠e->s.heap.get? b=some u->h'.get? b=some u)(Sr:∃u,h'.get? e=some u)
  (new:cy X.prog X.w (upd H x o) h' x o):Inv X pins σ (upd H x o) {s with heap:=h',toks:=t' }:=I.un (Un.write mu he k Sr) (I.bL.write mu he k Sr new)
theorem Inv.yW {uF :ε}(I:Inv X pins σ H s)(h:∀p∈uF,s.heap.get? p.1=some p.2/\H p.1=none/\p.1≠X.env.locals/\p.1∉X.fs/\∀v,p.2.data≠.cell v):Inv X uF σ H s:=
 ⟨I.ok,I.os,I.bare,I.base,I.loc,I.cell,I.free,I.iy,fun p hp=>(aaQ.mp hp).elim (fun z=>I.pin p (abm _ z)) (h p),I.bL,I.len⟩
theorem cB {N:ρ}(hN:N.Nodup){i j:Nat}{x:Str}(a:N[i]? =some x)(b:N[j]? =some x):i=j:=by
 obtain ⟨h1,e1⟩:=be.mp a
 obtain ⟨h2,e2⟩:=be.mp b
 exact (aiG hN).mp (e1.trans e2.symm)
theorem qV {M:Model}{A:Around}{E:γ}{i:Nat}{x:Str}{v:V}{u:Value}{Q:Unit->Shared->Prop}(I:Inv X pins σ H s)(hN:X.N.Nodup)(hi:X.N[i]? =some x)(hx:Loc X.env.scope x)(r:RelV v u)
  (h:∀s',Inv X pins (σ.set i (some v)) H s' ->(∃a,Heap.SameBut a s.heap s'.heap/\(a=X.env.locals\/X.env.cells.lookup x=some a))->Q () s') (hf:X.fn x=true\/X.env.scope.names.lookup x=some .local:=by first | exact .inl rfl | exact .inr rfl | assumption):wpAny M A (storeName X.env x u) Q E s:=by
 obtain ⟨m,hn,hl⟩:=id I.loc
 have Z':(X.env.scope.kind==.class || (X.env.scope.kind==.module && X.env.locals !=X.env.globals))=false:=by rw [I.ok.kind];rfl
 have hiσ:i < σ.length:=by rw [I.len];exact (be.mp hi).1
 have PJ:=I.PJ
 have tracked:∀{a:Addr} {h' :Heap},(∃o,s.heap.get? a=some o/\H a=none)->Heap.SameBut a s.heap h' ->ji X.prog X.w H h' :=fun {a h'} ha hs b ob e=>by
  obtain ⟨_,_,NM⟩:=ha
  refine (I.bL b ob e).rX (fun c w' hc q=>(hs.2 c ?_).trans q) (fun _ q=>q) fun _ _ q=>q
  rintro rfl
  rcases hc with rfl | hc
  ·rw [NM] at e;cases e
  ·rw [NM] at hc;cases hc
 rcases hx with hk | hk
 ·refine wpAny_storeName_local hk hn (fun h' hn' hs=>?_) Z'
  obtain ⟨oL,_,_,hoL,_⟩:=id hn
  refine h _ ⟨I.ok,I.os,I.bare,⟨fun b o e n hb hx=>?_,fun b o e n hb hx=>?_,I.base.free,fun b o e hx=>?_,I.base.rY,I.base.qd,I.base.rZ⟩,⟨_,hn',fun j y v' e1 e2 e3=>?_⟩,fun y c e=>?_,I.free,I.iy,fun p hp=>?_,tracked ⟨oL,hoL,I.free⟩ hs,by simpa using I.len⟩ ⟨_,hs,.inl rfl⟩
  ·exact (hs.2 b (aa' (aa6 (Heap.lt_size e) I.ok.above))).trans (I.base.keep b o e n hb hx)
  ·obtain ⟨sl,e1⟩:=I.base.slot b o e n hb hx
   exact ⟨sl,(hs.2 b (aa' (aa6 (Heap.lt_size e) I.ok.above))).trans e1⟩
  ·obtain ⟨o',e1⟩:=I.base.there b o e hx
   exact ⟨o',(hs.2 b (aa' (aa6 (Heap.lt_size e) I.ok.above))).trans e1⟩
  ·by_cases hj:j=i
   ·subst hj
    rw [hi] at e1;cases e1
    rw [ahl hiσ] at e2
    cases e2
    exact ⟨u,r,.inl ⟨hk,by simp⟩⟩
   ·rw [acV (abb hj)] at e2
    obtain ⟨u',r',q⟩:=hl j y v' e1 e2 e3
    refine ⟨u',r',?_⟩
    rcases q with ⟨k,e⟩ | ⟨k,c,e,z⟩
    ·refine .inl ⟨k,?_⟩
     have:y≠x:=fun e=>hj (cB hN e1 (e▸hi))
     simp [this,e]
    ·exact .inr ⟨k,c,e,z.sameBut hs (PJ y c e)⟩
  ·obtain ⟨w',z⟩:=I.cell y c e
   exact ⟨w',z.sameBut hs (PJ y c e)⟩
  ·obtain ⟨e,n,ne,nf,d⟩:=I.pin p hp
   exact ⟨(hs.2 p.1 ne).trans e,n,ne,nf,d⟩
 ·have Ta:X.fn x=true:=by
   rcases hf with z | z
   ·exact z
   ·rw [z] at hk;cases hk
  obtain ⟨c,hc⟩:=I.ok.has x (.inl hk)
  obtain ⟨w',z⟩:=I.cell x c hc
  refine wpAny_storeName_cell I.ok.kind hk hc z (fun h' uA hs=>?_)
  obtain ⟨oc,hoc,aab⟩:=id z
  refine h {s with heap:=h' } ⟨I.ok,I.os,I.bare,⟨fun b o e n hb hx=>?_,fun b o e n hb hx=>?_,I.base.free,fun b o e hx=>?_,I.base.rY,I.base.qd,I.base.rZ⟩,⟨m,hn.sameBut hs (abb (PJ x c hc)),fun j y v' e1 e2 e3=>?_⟩,fun y c' e=>?_,I.free,I.iy,fun p hp=>?_,tracked ⟨oc,hoc,I.iy x c hc⟩ hs,by simpa using I.len⟩ ⟨c,hs,.inr hc⟩
  ·exact (hs.2 b (aa' (aa6 (Heap.lt_size e) (I.ok.S_ x c Ta hc)))).trans (I.base.keep b o e n hb hx)
  ·obtain ⟨sl,e1⟩:=I.base.slot b o e n hb hx
   exact ⟨sl,(hs.2 b (aa' (aa6 (Heap.lt_size e) (I.ok.S_ x c Ta hc)))).trans e1⟩
  ·obtain ⟨o',e1⟩:=I.base.there b o e hx
   exact ⟨o',(hs.2 b (aa' (aa6 (Heap.lt_size e) (I.ok.S_ x c Ta hc)))).trans e1⟩
  ·by_cases hj:j=i
   ·subst hj
    rw [hi] at e1;cases e1
    rw [ahl hiσ] at e2
    cases e2
    exact ⟨u,r,.inr ⟨.inl hk,c,hc,uA⟩⟩
   ·rw [acV (abb hj)] at e2
    obtain ⟨u',r',q⟩:=hl j y v' e1 e2 e3
    refine ⟨u',r',?_⟩
    rcases q with q | ⟨k,c',e,z'⟩
    ·exact .inl q
    ·refine .inr ⟨k,c',e,z'.sameBut hs ?_⟩
     rintro rfl
     exact hj (cB hN e1 (I.ok.inj _ _ _ e hc▸hi))
  ·by_cases hcc:c' =c
   ·subst hcc;exact ⟨_,uA⟩
   ·obtain ⟨w2,z2⟩:=I.cell y c' e
    exact ⟨w2,z2.sameBut hs hcc⟩
  ·obtain ⟨e,n,ne,nf,d⟩:=I.pin p hp
   refine ⟨(hs.2 p.1 ?_).trans e,n,ne,nf,d⟩
   intro q
   rw [q,hoc] at e
   have q' :oc=p.2:=aaZ e
   exact d w' (by rw [<- q'];exact aab)
theorem jM {M:Model}{A:Around}{E:γ}{i:Nat}{x:Str}{v:V}{u:Value}{Q:Unit->Shared->Prop}(I:Inv X pins σ H s)(hN:X.N.Nodup)(hi:X.N[i]? =some x)(hx:Loc X.env.scope x)(r:RelV v u)
  (h:∀s',Inv X pins (σ.set i (some v)) H s' ->Q () s') (hf:X.fn x=true\/X.env.scope.names.lookup x=some .local:=by first | exact .inl rfl | exact .inr rfl | assumption):wpAny M A (storeName X.env x u) Q E s:=
 qV I hN hi hx r (fun s' I' _=>h s' I') hf
theorem Inv.Tb {s' :Shared}{ch:Α}(I:Inv X pins σ H s)(ho:s'.os=s.os)(u:Un (yU X.stack) ch H H' s.heap s'.heap)(bL:ji X.prog X.w H' s'.heap)(hg:AllBare s'.gens)
  (Ky:∀b∈ch,(b∈X.ex\/X.s₀.heap.objs.size<=b)/\b≠X.env.locals/\(∀x c,X.env.cells.lookup x=some c->c≠b)/\∀p∈X.pn++pins,p.1≠b):Inv X pins σ H' s' :=by
 obtain ⟨h',g',d',t',o'⟩:=s'
 have e:o' =s.os:=ho
 subst e
 exact I.call (g' :=g') (t' :=t') (d' :=d') u bL hg Ky
end
abbrev XK:=Value->Option Addr->Hp->Prop
abbrev St:=List (Option V)
abbrev VK:=V->Hp->Prop
abbrev _root_.Φ:=V->List V->Hp->VK->Prop
abbrev TE:=St->Hp->VK->Prop
abbrev TT:=St->Hp->(Bool->Hp->Prop)->Prop
abbrev TA:=St->Hp->(List V->Hp->Prop)->Prop
structure Ends where
 nx:St->Hp->Prop
 rt:VK
 bk:St->Hp->Prop:=fun _ _=>False
 ct:St->Hp->Prop:=fun _ _=>False
abbrev TS:=Ends->St->Hp->Prop
def EP (X:Cx)(pins:ε)(σ:St)(Q:VK)(u:Value)(s' :Shared):Prop:=∃v H',Inv X pins σ H' s' /\RelV v u/\Q v H'
def TP (X:Cx)(pins:ε)(σ:St)(Q:Bool->Hp->Prop)(b:Bool)(s' :Shared):Prop:=∃H',Inv X pins σ H' s' /\Q b H'
def AP (X:Cx)(pins:ε)(σ:St)(Q:List V->Hp->Prop)(us:ο)(s' :Shared):Prop:=∃vs H',Inv X pins σ H' s' /\Vals vs us/\Q vs H'
def SP (X:Cx)(pins:ε)(D:Ends)(f:Flow)(s' :Shared):Prop:=
 match f with
 | .next=>∃σ' H',Inv X pins σ' H' s' /\D.nx σ' H'
 | .brk=>∃σ' H',Inv X pins σ' H' s' /\D.bk σ' H'
 | .cont=>∃σ' H',Inv X pins σ' H' s' /\D.ct σ' H'
 | .ret u=>∃v σ' H',Inv X pins σ' H' s' /\RelV v u/\D.rt v H'
def PE (X:Cx)(e:Expr)(t:TE):Prop:=
 ∀(pins:ε) (s:Shared) (σ:St) (H:Hp) (Q:VK),Inv X pins σ H s->t σ H Q->wpAny (model X.prog X.w) X.A (eval e X.env) (EP X pins σ Q) X.xe s
def PT (X:Cx)(e:Expr)(t:TT):Prop:=
 ∀(pins:ε) (s:Shared) (σ:St) (H:Hp) (Q:Bool->Hp->Prop),Inv X pins σ H s->t σ H Q->wpAny (model X.prog X.w) X.A (isTrue e X.env (eval e X.env)) (TP X pins σ Q) X.xe s
def PW (X:Cx)(e:Expr)(t:TT):Prop:=
 ∀(whole:Sem Value) (pins:ε) (s:Shared) (σ:St) (H:Hp) (Q:Bool->Hp->Prop),Inv X pins σ H s->t σ H Q->wpAny (model X.prog X.w) X.A (isTrue e X.env whole) (TP X pins σ Q) X.xe s
theorem PW.pt {X:Cx}{e:Expr}{t:TT}(h:PW X e t):PT X e t:=h _
def PA (X:Cx)(es:χ)(t:TA):Prop:=
 ∀(pos:Pos) (pins:ε) (s:Shared) (σ:St) (H:Hp) (Q:List V->Hp->Prop),Inv X pins σ H s->t σ H Q->wpAny (model X.prog X.w) X.A (spliced (backTo pos (starEach es X.env))) (AP X pins σ Q) X.xe s
def PS (X:Cx)(st:Stmt)(t:TS):Prop:=
 ∀(pins:ε) (s:Shared) (σ:St) (H:Hp) (D:Ends),Inv X pins σ H s->t D σ H->wpAny (model X.prog X.w) X.A (exec st X.env) (SP X pins D) X.xe s
def PSs (X:Cx)(st:List Stmt)(t:TS):Prop:=
 ∀(pins:ε) (s:Shared) (σ:St) (H:Hp) (D:Ends),Inv X pins σ H s->t D σ H->wpAny (model X.prog X.w) X.A (execs st X.env) (SP X pins D) X.xe s
theorem bX {α:Type}{t:Sem α}{Q Q' :α->Shared->Prop}{M:Model}{A:Around}{E:γ}{s:Shared}(h:wpAny M A t Q E s)(hQ:∀a s,Q a s->Q' a s):wpAny M A t Q' E s:=wpAny_mono h hQ fun _ _ x=>x
end L2
namespace L2
open PySem PySem.Spec PyProof.Rows
section
variable {X:Cx}
inductive PK (i:Nat)(σ:St)(H:Hp)(Q:VK):Prop where
 | mk (v:_) (_:σ[i]? =some (some v)) (_:Q v H):PK i σ H Q
def tC (v:V):TE:=fun _ H Q=>Q v H
theorem PM {i:Nat}{x:Str}{pos:Pos}(hN:X.N[i]? =some x)(hv:Z8 X.env.scope x)(hd:(x==("__debug__":Str))=false:=by decide)(qe:(x==("__classdict__":Str))=false:=by decide):PE X (.Name x pos) (PK i):=by
 intro pins s σ H Q I h
 obtain ⟨v,e,h⟩:=h
 obtain ⟨m,hn,hl⟩:=I.loc
 obtain ⟨u,r,l⟩:=hl i x v hN e hv
 have fin:EP X pins σ Q u s:=⟨v,H,I,r,h⟩
 rcases l with ⟨hk,hm⟩ | ⟨hk,c,hc,hcell⟩
 ·exact wpAny_Name (wpAny_loadName_local I.ok.kind hk hn hm fin) hd
 ·rcases hk with hk | hk
  ·exact wpAny_Name (wpAny_loadName_cell I.ok.kind hk hc hcell fin) hd
  ·exact wpAny_Name (wpAny_loadName_free I.ok.kind hk hc hcell fin qe) hd
theorem ah {i j pos}:PE X (.Constant (.int i) j pos) (tC (.int i)):=fun _ _ _ H _ I h=>wpAny_Constant_int ⟨.int i,H,I.tok _,⟨_,rfl⟩,h⟩
theorem ie {b j pos}:PE X (.Constant (.bool b) j pos) (tC (.bl b)):=fun _ _ _ H _ I h=>Constant_bool ⟨.bl b,H,I,rfl,h⟩
theorem nO {j pos}:PE X (.Constant .none j pos) (tC .cI):=fun _ _ _ H _ I h=>Constant_none ⟨.cI,H,I,rfl,h⟩
theorem fG {x j pos}:PE X (.Constant (.str x) j pos) (tC (.str x)):=fun _ _ _ H _ I h=>Calls.Constant_str ⟨.str x,H,I.tok _,⟨_,rfl⟩,h⟩
def Gl (X:Cx)(x:Str):Prop:=X.env.kindOf x=some .globalImplicit
theorem jN {E:γ}{pins:ε}{s:Shared}{σ:St}{H:Hp}{x:Str}{u:Value}{pos:Pos}{Q:γ}(I:Inv X pins σ H s)(hg:Gl X x)(hm:X.mg x=some u)(h:Q u s)
  (hd:(x==("__debug__":Str))=false:=by decide):wpAny (model X.prog X.w) X.A (eval (.Name x pos) X.env) Q E s:=
 Calls.Name_function_global I.ok.kind hg (Calls.loadGlobal_global (by rw [I.ok.glob];exact I.mod.glob.keeps I.bk) hm h) hd
theorem iz {E:γ}{pins:ε}{s:Shared}{σ:St}{H:Hp}{x:Str}{u:Value}{pos:Pos}{Q:γ}(I:Inv X pins σ H s)(hg:Gl X x)(hm:X.mg x=none)(hv:bootBuiltins x=some u)(h:Q u s)
  (hn:x≠ "__name__":=by decide) (hd:(x==("__debug__":Str))=false:=by decide):wpAny (model X.prog X.w) X.A (eval (.Name x pos) X.env) Q E s:=by
 obtain ⟨mb,h1,h2⟩:=I.mod.blt
 exact Calls.Name_function_global I.ok.kind hg (Calls.loadGlobal_builtin (by rw [I.ok.glob];exact I.mod.glob.keeps I.bk) hm (by rw [I.ok.blt];exact h1.keeps I.bk) ((h2 x hn).trans hv) h) hd
theorem jO {x:Str}{v:V}{u:Value}{pos:Pos}(hg:Gl X x)(hm:X.mg x=some u)(r:RelV v u)(hd:(x==("__debug__":Str))=false:=by decide):PE X (.Name x pos) (tC v):=
 fun _ _ _ H _ I h=>jN I hg hm ⟨v,H,I,r,h⟩ hd
theorem Ld {x:Str}{v:V}{u:Value}{pos:Pos}(hg:Gl X x)(hm:X.mg x=none)(hv:bootBuiltins x=some u)(r:RelV v u)(hn:x≠ "__name__":=by decide)(hd:(x==("__debug__":Str))=false:=by decide):PE X (.Name x pos) (tC v):=
 fun _ _ _ H _ I h=>iz I hg hm hv ⟨v,H,I,r,h⟩ hn hd
variable {a b:Expr}{ta tb:TE}{pos:Pos}
def PC (X:Cx)(op:CmpOp)(a b:Expr)(t:TE):Prop:=
 ∀(pins:ε) (s:Shared) (σ:St) (H:Hp) (Q:VK),Inv X pins σ H s->t σ H Q->
  wpAny (model X.prog X.w) X.A (eval a X.env) (fun v s₁=>wpAny (model X.prog X.w) X.A (eval b X.env) (fun u s₂=>wpAny (model X.prog X.w) X.A (compareOp op v u) (EP X pins σ Q) X.xe s₂) X.xe s₁) X.xe s
inductive tB_ (Q:(Bool->Hp->Prop))(x:V)(H1:Hp):Prop where
 | mk (c:_) (_:x=.bl c) (_:Q c H1):tB_ Q x H1
def tB (t:TE):TT:=fun σ H Q=>t σ H fun x H1=>tB_ Q x H1
theorem kG {op:CmpOp}{t:TE}(h:PC X op a b t)(h1:behindInMarks op b=false:=by first | exact nobehind _ (by decide) (by decide) | rfl):PT X (.Compare a [op] [b] pos) (tB t):=by
 intro pins s σ H Q I hw
 refine wpAny_isTrue_Compare1 (bX (h pins s σ H _ I hw) fun v s1 h1=>bX h1 fun u s2 h2=>bX h2 fun c s3 ⟨x,H1,I1,r1,q1⟩=>?_) h1
 obtain ⟨d,rfl,q⟩:=q1
 cases r1
 exact wpAny_truthy_bool ⟨H1,I1,q⟩
theorem jv {e:Expr}{t:TE}(h:PE X e t)(he:∀whole,isTrue e X.env whole=(do let v <- whole;standAt e.pos;holding [v] (truthy v)):=by intro _;rfl):PT X e (tB t):=by
 intro pins s σ H Q I hw
 refine isTrue_plain (bX (h pins s σ H _ I hw) fun v s1 ⟨x,H1,I1,r1,q1⟩=>?_) (he _)
 obtain ⟨d,rfl,q⟩:=q1
 cases r1
 exact wpAny_truthy_bool ⟨H1,I1,q⟩
variable {tA Zm :TT}{rest:χ}
def aac (t u:TT):TT:=fun σ H Q=>t σ H fun c H1=>if c=true then u σ H1 Q else Q false H1
def tOr (t u:TT):TT:=fun σ H Q=>t σ H fun c H1=>if c=true then Q true H1 else u σ H1 Q
def aad (t:TT):TT:=fun σ H Q=>t σ H fun c H1=>Q (!c) H1
theorem mW (ha:PT X a tA):PW X (.BoolOp .And [a] pos) tA:=by
 intro wh pins s σ H Q I h
 refine isTrue_and (bX (ha pins s σ H Q I h) fun c s1 e=>?_)
 cases c with
 | true=>exact isTrue_and_nil e
 | false=>exact e
theorem kH (ha:PT X a tA):PW X (.BoolOp .Or [a] pos) tA:=by
 intro wh pins s σ H Q I h
 refine isTrue_or (bX (ha pins s σ H Q I h) fun c s1 e=>?_)
 cases c with
 | false=>exact isTrue_or_nil e
 | true=>exact e
theorem r8 (ha:PT X a tA)(hb:PW X (.BoolOp .And (b::rest) pos) Zm):PW X (.BoolOp .And (a::b::rest) pos) (aac tA Zm):=by
 intro wh pins s σ H Q I h
 refine isTrue_and (bX (ha pins s σ H _ I h) fun c s1 ⟨H1,I1,q1⟩=>?_)
 cases c with
 | true=>exact hb wh pins s1 σ H1 Q I1 q1
 | false=>exact ⟨H1,I1,q1⟩
theorem qW (ha:PT X a tA)(hb:PW X (.BoolOp .Or (b::rest) pos) Zm):PW X (.BoolOp .Or (a::b::rest) pos) (tOr tA Zm):=by
 intro wh pins s σ H Q I h
 refine isTrue_or (bX (ha pins s σ H _ I h) fun c s1 ⟨H1,I1,q1⟩=>?_)
 cases c with
 | true=>exact ⟨H1,I1,q1⟩
 | false=>exact hb wh pins s1 σ H1 Q I1 q1
theorem jw (ha:PT X a tA):PT X (.UnaryOp .Not a pos) (aad tA):=by
 intro pins s σ H Q I h
 exact isTrue_not (ha pins s σ H (fun c H1=>Q (!c) H1) I h)
def Tc (ta tb:TE):TE:=fun σ H Q=>ta σ H fun x H1=>∃c,x=.bl c/\if c=true then tb σ H1 Q else Q (.bl false) H1
theorem FR {op}{t:TE}(h:PE X a t):PE X (.BoolOp op [a] pos) t:=fun pins s σ H Q I hw=>BoolOp_one (h pins s σ H Q I hw)
theorem xk (ha:PE X a ta)(hb:PE X (.BoolOp .And (b::rest) pos) tb):PE X (.BoolOp .And (a::b::rest) pos) (Tc ta tb):=by
 intro pins s σ H Q I h
 refine BoolOp_and (bX (ha pins s σ H _ I h) fun v s1 ⟨x,H1,I1,r1,q1⟩=>?_)
 obtain ⟨c,rfl,q1⟩:=q1
 cases r1
 refine wpAny_truthy_bool ?_
 cases c with
 | true=>exact hb pins s1 σ H1 Q I1 q1
 | false=>exact ⟨.bl false,H1,I1,rfl,q1⟩
def tIf (t:TT)(ta tb:TE):TE:=fun σ H Q=>t σ H fun c H1=>if c=true then ta σ H1 Q else tb σ H1 Q
theorem uG {c:Expr}(hc:PT X c tA)(ha:PE X a ta)(hb:PE X b tb):PE X (.IfExp c a b pos) (tIf tA ta tb):=by
 intro pins s σ H Q I h
 refine wpAny_IfExp (bX (hc pins s σ H _ I h) fun d s1 ⟨H1,I1,q1⟩=>?_)
 cases d with
 | true=>exact ha pins s1 σ H1 Q I1 q1
 | false=>exact hb pins s1 σ H1 Q I1 q1
end
end L2
namespace L2
open PySem PySem.Spec PyProof.Rows
def aZ (K:Frag)(H:Hp)(a:Addr)(xs:η):Prop:=
 Rd H a (.lst xs)\/
  ∃(o:Obj) (its:Λ) (n:Nat),K.lookup a=some o/\o.cls=.type "list"/\o.dict=none/\o.data=.seq its n/\its.size<=sizeLine/\Vals xs its.toList
def bQ (K:Frag)(H:Hp)(a:Addr)(xs:η):Prop:=
 Rd H a (.tup xs)\/
  ∃(o:Obj) (its:Λ) (n:Nat),K.lookup a=some o/\o.cls=.type "tuple"/\o.data=.seq its n/\its.size<=sizeLine/\Vals xs its.toList
def aae:Value->Option V
 | .none=>some .cI
 | .bool b=>some (.bl b)
 | .int i _=>some (.int i)
 | .str x _=>some (.str x)
 | .bytes b _=>some (.byt b)
 | .float b _=>some (.Py b)
 | .ref a=>some (.ref a)
 | .type n=>some (.ty n)
 | _=>none
theorem RelV.abs {x:V}{u:Value}(r:RelV x u):aae u=some x:=by
 cases x with
 | cI=>cases r;rfl
 | bl _=>cases r;rfl
 | int _=>obtain ⟨t,rfl⟩:=r;rfl
 | str _=>obtain ⟨t,rfl⟩:=r;rfl
 | byt _=>obtain ⟨t,rfl⟩:=r;rfl
 | Py _=>obtain ⟨t,rfl⟩:=r;rfl
 | ref _=>cases r;rfl
 | ty _=>cases r;rfl
theorem RelV.inj {x y:V}{u:Value}(r:RelV x u)(q:RelV y u):x=y:=aaZ (r.abs.symm.trans q.abs)
theorem Vals.inj:∀{xs ys:η} {us:ο},Vals xs us->Vals ys us->xs=ys
 | _,_,_,.nil,.nil=>rfl
 | _,_,_,.cons r t,.cons r' t' =>by rw [r.inj r',Vals.inj t t']
section
variable {X:Cx}{pins:ε}{σ:St}{H:Hp}{s:Shared}{a:Addr}{xs ys:η}
theorem aZ.of {K:Frag}(h:H a=some (.lst xs)):aZ K H a xs:=.inl (.inl h)
theorem bQ.of {K:Frag}(h:H a=some (.tup xs)):bQ K H a xs:=.inl (.inl h)
theorem Inv.list (I:Inv X pins σ H s)(h:aZ X.K H a xs):∃its:List Value,Vals xs its/\PlainL s.heap a its.toArray/\xs.length<=sizeLine:=by
 rcases h with h | ⟨o,its,n,hk,hc,hd,hs,hz,r⟩
 ·obtain ⟨z,its,n,r,e⟩:=h.ok I.bL
  exact ⟨its,r,⟨_,n,e,rfl,rfl,rfl⟩,z⟩
 ·refine ⟨its.toList,r,⟨o,n,I.ju a o hk,hc,hd,by simpa using hs⟩,?_⟩
  have e:=r.length
  simp only [ahE] at e
  omega
theorem Inv.tuple (I:Inv X pins σ H s)(h:bQ X.K H a xs):∃its:List Value,Vals xs its/\IsTup s.heap a its.toArray/\xs.length<=sizeLine:=by
 rcases h with h | ⟨o,its,n,hk,hc,hs,hz,r⟩
 ·obtain ⟨z,its,r,p⟩:=h.ok I.bL
  exact ⟨its,r,p,z⟩
 ·refine ⟨its.toList,r,⟨o,I.ju a o hk,hc,n,by simpa using hs⟩,?_⟩
  have e:=r.length
  simp only [ahE] at e
  omega
theorem Inv.iA (I:Inv X pins σ H s)(h:aZ X.K H a xs)(h' :aZ X.K H a ys):xs=ys:=by
 obtain ⟨its,r,⟨o,n,e,_,_,d⟩,_⟩:=I.list h
 obtain ⟨its',r',⟨o',n',e',_,_,d'⟩,_⟩:=I.list h'
 rw [e] at e';cases e'
 rw [d] at d'
 injection d' with d1 _
 have:its=its' :=by simpa using congrArg aoY d1
 subst this
 exact r.inj r'
theorem Inv.gD (I:Inv X pins σ H s)(h:bQ X.K H a xs)(h' :bQ X.K H a ys):xs=ys:=by
 obtain ⟨its,r,⟨o,e,_,n,d⟩,_⟩:=I.tuple h
 obtain ⟨its',r',⟨o',e',_,n',d'⟩,_⟩:=I.tuple h'
 rw [e] at e';cases e'
 rw [d] at d'
 injection d' with d1 _
 have:its=its' :=by simpa using congrArg aoY d1
 subst this
 exact r.inj r'
end
abbrev Cx.qf (X:Cx)(E:γ):Cx:={X with xe:=E}
abbrev Cx.yX (X:Cx):Cx:=X.qf fun _ _=>False
theorem Cx.Ok.qf {X:Cx}(ok:X.Ok)(E:γ):(X.qf E).Ok:=
 ⟨ok.mod,ok.kind,ok.glob,ok.blt,ok.above,ok.inj,ok.has,ok.S_,ok.hd,ok.frames,ok.Zj,ok.exf,ok.bs,ok.La,ok.FP,ok.Lb,ok.mE,ok.PH⟩
theorem Cx.Ok.iB {X:Cx}{E:γ}(ok:(X.qf E).Ok):X.Ok:=
 ⟨ok.mod,ok.kind,ok.glob,ok.blt,ok.above,ok.inj,ok.has,ok.S_,ok.hd,ok.frames,ok.Zj,ok.exf,ok.bs,ok.La,ok.FP,ok.Lb,ok.mE,ok.PH⟩
section
variable {X:Cx}{pins:ε}{σ:St}{H:Hp}{s:Shared}{E:γ}
theorem Inv.qf (I:Inv X pins σ H s)(E:γ):Inv (X.qf E) pins σ H s:=⟨I.ok.qf E,I.os,I.bare,I.base,I.loc,I.cell,I.free,I.iy,I.pin,I.bL,I.len⟩
theorem Inv.iB (I:Inv (X.qf E) pins σ H s):Inv X pins σ H s:=⟨I.ok.iB,I.os,I.bare,I.base,I.loc,I.cell,I.free,I.iy,I.pin,I.bL,I.len⟩
theorem SP.iB {D:Ends}{f:Flow}{s' :Shared}(h:SP (X.qf E) pins D f s'):SP X pins D f s' :=by
 cases f with
 | next=>obtain ⟨σ',H',I,q⟩:=h;exact ⟨σ',H',I.iB,q⟩
 | brk=>obtain ⟨σ',H',I,q⟩:=h;exact ⟨σ',H',I.iB,q⟩
 | cont=>obtain ⟨σ',H',I,q⟩:=h;exact ⟨σ',H',I.iB,q⟩
 | ret u=>obtain ⟨v,σ',H',I,r,q⟩:=h;exact ⟨v,σ',H',I.iB,r,q⟩
theorem PSs.yX {st:List Stmt}{t:TS}(h:PSs X.yX st t):PSs X st t:=fun pins s σ H D I hw=>
 wpAny_mono (h pins s σ H D (I.qf _) hw) (fun _ _ q=>q.iB) fun _ _ z=>False.elim z
end
section
variable {X:Cx}{st:Stmt}{rest:List Stmt}{t u:TS}{e:Expr}{te:TE}{pos:Pos}
def FT:TS:=fun D σ H=>D.nx σ H
def Td (t u:TS):TS:=fun D σ H=>t {D with nx:=u D} σ H
theorem aU:PSs X [] FT:=fun _ _ σ H _ I h=>wpAny_execs_nil ⟨σ,H,I,h⟩
theorem ae (h1:PS X st t)(h2:PSs X rest u):PSs X (st::rest) (Td t u):=by
 intro pins s σ H D I h
 refine wpAny_execs_cons (bX (h1 pins s σ H {D with nx:=u D} I h) fun f s1 q=>?_)
 cases f with
 | next=>
  obtain ⟨σ',H',I',q⟩:=q
  exact h2 pins s1 σ' H' D I' q
 | ret v=>exact q
 | brk=>exact q
 | cont=>exact q
theorem ak (h1:PS X st t):PSs X [st] t:=by
 intro pins s σ H D I h
 refine wpAny_execs_cons (bX (h1 pins s σ H D I h) fun f s1 q=>?_)
 cases f with
 | next=>exact wpAny_execs_nil q
 | ret v=>exact q
 | brk=>exact q
 | cont=>exact q
def Te:TS:=fun D σ H=>D.ct σ H
theorem uH:PS X (.Continue pos) Te:=fun _ _ σ H _ I h=>wpAny_Continue ⟨σ,H,I,h⟩
theorem Inv.quiet {pins:ε}{σ:St}{H:Hp}{s:Shared}(I:Inv X pins σ H s):interactive X.env=false:=by simp [interactive,I.ok.kind]
def Tf (te:TE):TS:=fun D σ H=>te σ H fun _ H1=>D.nx σ H1
theorem bq (he:PE X e te)(hs:swapsWith e none pos.line X.env=pure false:=by rfl):PS X (.Expr e pos) (Tf te):=by
 intro pins s σ H D I h
 exact wpAny_Expr_any (bX (he pins s σ H _ I h) fun v s1 ⟨x,H1,I1,r1,q1⟩=>⟨σ,H1,I1,q1⟩) I.quiet hs
def aaf (te:TE):TS:=fun D σ H=>te σ H D.rt
theorem aK (he:PE X e te):PS X (.Return (some e) pos) (aaf te):=by
 intro pins s σ H D I h
 exact wpAny_Return_some (bX (he pins s σ H _ I h) fun v s1 ⟨x,H1,I1,r1,q1⟩=>⟨x,σ,H1,I1,r1,q1⟩)
def aag (c:TT)(t u:TS):TS:=fun D σ H=>c σ H fun b H1=>if b=true then t D σ H1 else u D σ H1
theorem bw {c:Expr}{a b:List Stmt}{tc:TT}(hc:PT X c tc)(ha:PSs X a t)(hb:PSs X b u):PS X (.If c a b pos) (aag tc t u):=by
 intro pins s σ H D I h
 refine wpAny_If (bX (hc pins s σ H _ I h) fun d s1 ⟨H1,I1,q1⟩=>?_)
 cases d with
 | true=>exact ha pins s1 σ H1 D I1 q1
 | false=>exact hb pins s1 σ H1 D I1 q1
def PQ:TS:=fun _ _ _=>False
theorem c8:PS X st PQ:=fun _ _ _ _ _ _ h=>h.elim
end
abbrev TG:=V->St->Hp->(St->Hp->Prop)->Prop
abbrev NO:=List V->St->Hp->(St->Hp->Prop)->Prop
def PG (X:Cx)(target:Expr)(t:TG):Prop:=
 ∀(pins:ε) (s:Shared) (σ:St) (H:Hp) (v:V) (u:Value) (Q:St->Hp->Prop),Inv X pins σ H s->RelV v u->t v σ H Q->
  wpAny (model X.prog X.w) X.A (assign target X.env u) (fun _ s' =>∃σ' H',Inv X pins σ' H' s' /\Q σ' H') X.xe s
def Tg (X:Cx)(ts:χ)(t:NO):Prop:=
 ∀(pins:ε) (s:Shared) (σ:St) (H:Hp) (vs:η) (us:ο) (Q:St->Hp->Prop),Inv X pins σ H s->Vals vs us->t vs σ H Q->
  wpAny (model X.prog X.w) X.A (assignInOrder ((assignEach ts X.env).map (·.2)) us) (fun _ s' =>∃σ' H',Inv X pins σ' H' s' /\Q σ' H') X.xe s
abbrev PR:=V->V->V->Hp->(Hp->Prop)->Prop
def Th (X:Cx)(t:PR):Prop:=
 ∀(pins:ε) (s:Shared) (σ:St) (H:Hp) (o i v:V) (ov iv u:Value) (Q:Hp->Prop),Inv X pins σ H s->RelV o ov->RelV i iv->RelV v u->t o i v H Q->
  wpAny (model X.prog X.w) X.A (setItem ov iv u) (fun _ s' =>∃H',Inv X pins σ H' s' /\Q H') X.xe s
section
variable {X:Cx}{pos:Pos}
def eh (i:Nat):TG:=fun v σ H Q=>Q (σ.set i (some v)) H
theorem aD {i:Nat}{x:Str}(hN:X.N.Nodup)(hi:X.N[i]? =some x)(hx:Loc X.env.scope x)(hf:X.fn x=true\/X.env.scope.names.lookup x=some .local:=by first | exact .inl rfl | exact .inr rfl | assumption):PG X (.Name x pos) (eh i):=by
 intro pins s σ H v u Q I r h
 exact wpAny_assign_Name (jM I hN hi hx r (fun s' I' =>⟨_,H,I',h⟩) hf)
def PU:NO:=fun vs σ H Q=>vs=[]/\Q σ H
def uI (t:TG)(u:NO):NO:=fun vs σ H Q=>∃v r,vs=v::r/\t v σ H fun σ' H' =>u r σ' H' Q
theorem b7:Tg X [] PU:=by
 intro pins s σ H vs us Q I r h
 obtain ⟨e,h⟩:=h
 subst e
 cases r
 exact assignInOrder_nil ⟨σ,H,I,h⟩
theorem aS {e:Expr}{es:χ}{t:TG}{u:NO}(h1:PG X e t)(h2:Tg X es u)
  (hs:(assignEach (e::es) X.env).map (·.2)=assign e X.env::(assignEach es X.env).map (·.2):=by rfl):Tg X (e::es) (uI t u):=by
 intro pins s σ H vs us Q I r h
 obtain ⟨v,vr,e1,h⟩:=h
 subst e1
 cases r with
 | cons r rr=>
  rw [hs]
  refine assignInOrder_cons (bX (h1 pins s σ H _ _ _ I r h) fun _ s1 ⟨σ1,H1,I1,q1⟩=>?_)
  exact h2 pins s1 σ1 H1 _ _ Q I1 rr q1
inductive FU (K:Frag)(n:Nat)(t:NO)(v:V)(σ:St)(H:Hp)(Q:(St->Hp->Prop)):Prop where
 | mk (a xs:_) (_:v=.ref a) (_:bQ K H a xs) (_:xs.length=n) (_:t xs σ H Q):FU K n t v σ H Q
theorem dy {es:χ}{k:Nat}{t:NO}{n:Nat}(hc:X.calm=true)(h:Tg X es t)
  (hn:(assignEach es X.env).length=n:=by rfl) (FV:(assignEach es X.env).findIdx? (·.1)=none:=by rfl):PG X (.Tuple es k pos) (FU X.K n t):=by
 intro pins s σ H v u Q I r hw
 obtain ⟨a,xs,e1,hq,hl,hw⟩:=hw
 subst e1
 cases r
 obtain ⟨its,rv,ht,hz⟩:=I.tuple hq
 refine assign_Tuple_tuple (I.ok.hd hc) ht (by simp [hn, <- hl,rv.length]) FV fun h' hx=>?_
 have I1:Inv X pins σ H {s with heap:=h' }:=I.kept (t' :=s.toks) fun b o e=>hx b o (aa' (Heap.lt_size e)) e
 exact h pins _ σ H xs _ Q I1 (by simpa using rv) hw
def aah (to ti:TE)(t:PR):TG:=fun v σ H Q=>to σ H fun o H1=>ti σ H1 fun i H2=>t o i v H2 fun H3=>Q σ H3
theorem r9 {o i:Expr}{to ti:TE}{t:PR}(ho:PE X o to)(hi:PE X i ti)(hs:Th X t)
  (ha:∀v,assign (.Subscript o i pos) X.env v=(do
   let ov <- holding [v] (eval o X.env)
   let iv <- holding [v,ov] (eval i X.env)
   standAt pos
   holding [v,ov,iv] (setItem ov iv v)
   release [v,ov,iv] []):=by intro _;rfl):PG X (.Subscript o i pos) (aah to ti t):=by
 intro pins s σ H v u Q I r h
 rw [ha]
 refine wpAny_bind (wpAny_holding (bX (ho pins s σ H _ I h) fun ov s1 ⟨x,H1,I1,r1,q1⟩=>?_))
 refine wpAny_bind (wpAny_holding (bX (hi pins s1 σ H1 _ I1 q1) fun iv s2 ⟨y,H2,I2,r2,q2⟩=>?_))
 refine wpAny_bind (wpAny_standAt (wpAny_bind (wpAny_holding (bX (hs pins s2 σ H2 x y v ov iv u _ I2 r1 r2 r q2) fun _ s3 ⟨H3,I3,q3⟩=>?_))))
 exact wpAny_release ⟨σ,H3,I3,q3⟩
def FW (te:TE)(g:TG):TS:=fun D σ H=>te σ H fun x H1=>g x σ H1 D.nx
theorem nQ {tg e:Expr}{te:TE}{g:TG}(he:PE X e te)(hg:PG X tg g)(hs:swapsWithSole [tg] e pos.line X.env=pure false:=by rfl)(hw:swappedStores [tg] e X.env=pure none:=by rfl)
  (h1:(assignEach [tg] X.env).map (·.2)=[assign tg X.env]:=by rfl):PS X (.Assign [tg] e pos) (FW te g):=by
 intro pins s σ H D I h
 refine wpAny_Assign_stores (bX (he pins s σ H _ I h) fun v s1 ⟨x,H1,I1,r1,q1⟩=>?_) hs hw
 rw [h1]
 exact bX (hg pins s1 σ H1 x v _ I1 r1 q1) fun _ s2 q=>q
theorem aA {i:Nat}{x:Str}{e:Expr}{te:TE}{pos' :Pos}(hN:X.N.Nodup)(hi:X.N[i]? =some x)(hx:Loc X.env.scope x)(he:PE X e te)(hs:swapsWith e (some (.Name x pos')) pos.line X.env=pure false:=by rfl)(hf:X.fn x=true\/X.env.scope.names.lookup x=some .local:=by first | exact .inl rfl | exact .inr rfl | assumption):
  PS X (.Assign [.Name x pos'] e pos) (FW te (eh i)):=by
 intro pins s σ H D I h
 refine wpAny_Assign_Name (bX (he pins s σ H _ I h) fun v s1 ⟨y,H1,I1,r1,q1⟩=>?_) hs
 exact jM I1 hN hi hx r1 (fun s2 I2=>⟨_,H1,I2,q1⟩) hf
inductive NP (i:Nat)(j:Nat)(D:Ends)(σ:St)(vs:η)(H1:Hp):Prop where
 | mk (v w:_) (_:vs=[v,w]) (_:D.nx ((σ.set i (some v)).set j (some w)) H1):NP i j D σ vs H1
def aai (i j:Nat)(ta:TA):TS:=fun D σ H=>ta σ H fun vs H1=>NP i j D σ vs H1
theorem PV {i j:Nat}{x y:Str}{a b:Expr}{ta:TA}{px py pt:Pos}{kt k2 pt2}(hc:X.calm=true)(hN:X.N.Nodup)(hi:X.N[i]? =some x)(hj:X.N[j]? =some y)(hij:i≠j)
  (hx:X.env.scope.names.lookup x=some .local) (hy:X.env.scope.names.lookup y=some .local) (ha:PA X [a,b] ta)
  (hw:swappedStores [.Tuple [.Name x px,.Name y py] kt pt] (.Tuple [a,b] k2 pt2) X.env=pure (some [x,y]))
  (hs:swapsWithSole [.Tuple [.Name x px,.Name y py] kt pt] (.Tuple [a,b] k2 pt2) pos.line X.env=pure false:=by rfl):
  PS X (.Assign [.Tuple [.Name x px,.Name y py] kt pt] (.Tuple [a,b] k2 pt2) pos) (aai i j ta):=by
 intro pins s σ H D I h
 rw [exec_Assign_arm]
 refine wpAny_bind (wpAny_standAt ?_)
 rw [hs]
 refine wpAny_bind (wpAny_pure ?_)
 rw [if_neg (by decide)]
 refine wpAny_bind (Tuple_ (bX (ha _ pins s σ H _ I h) fun us s1 ⟨vs,H1,I1,r1,q1⟩=>?_))
 obtain ⟨v,w,e1,q1⟩:=q1
 subst e1
 obtain ⟨u1,u2,rfl,rv,mX⟩:∃u1 u2,us=[u1,u2]/\RelV v u1/\RelV w u2:=by
  cases r1 with
  | cons p q=>
   cases q with
   | cons p' q' =>
    cases q'
    exact ⟨_,_,rfl,p,p'⟩
 refine wpAny_newObj_type ?_ (by show 2<=sizeLine;decide)
 have I2:Inv X pins σ H1 {s1 with heap:=s1.heap.push {cls:=.type "tuple",data:=.seq [u1,u2].toArray}}:=I1.kept (t' :=s1.toks) fun b o e=>Heap.get?_push_of_some _ e
 rw [hw]
 refine wpAny_bind (wpAny_pure ?_)
 show wpAny (model X.prog X.w) X.A (do rule "assign.swapped-stores";let items <- unpackItems (.ref s1.heap.objs.size) 2 none;assignInOrder [fun v=>bindName X.env y v,fun v=>bindName X.env x v] items.reverse;pure Flow.next) _ _ _
 refine wpAny_bind (wpAny_rule (wpAny_bind (unpackItems_tuple (items:= #[u1,u2]) (I.ok.hd hc) (IsTup.new s1.heap _) fun h' yY =>?_)))
 have I3:=I2.kept (h' :=h') (t' :=s1.toks) fun b o e=>yY b o (aa' (Heap.lt_size e)) e
 show wpAny _ _ (assignInOrder [fun v=>bindName X.env y v,fun v=>bindName X.env x v] [u2,u1] >>=fun _=>pure Flow.next) _ _ _
 refine wpAny_bind (assignInOrder_cons (wpAny_bindName (jM I3 hN hj (.inl hy) mX (fun s2 I4=>?_) (.inr hy))))
 refine assignInOrder_cons (wpAny_bindName (jM I4 hN hi (.inl hx) rv (fun s3 I5=>assignInOrder_nil (wpAny_pure ?_)) (.inr hx)))
 rw [List.set_comm _ _ (abb hij)] at I5
 exact ⟨_,H1,I5,q1⟩
def FX (c:TT)(tb:TS):TS:=fun D σ H=>∃W:Nat->St->Hp->Prop,(∃m,W m σ H)/\∀m σ H,W m σ H->
 c σ H fun b H1=>if b=true then ∃N:St->Hp->Prop,(∀σ' H',N σ' H' ->∃m',m' < m/\W m' σ' H')/\tb {D with nx:=N,ct:=N,bk:=D.nx} σ H1 else D.nx σ H1
theorem nR {c:Expr}{body:List Stmt}{tc:TT}{tb:TS}(hp:PassesOwn (model X.prog X.w) X.A X.env X.xe)(hc:PT X c tc)(hb:PSs X body tb):PS X (.While c body [] pos) (FX tc tb):=by
 intro pins s σ H D I h
 obtain ⟨W,⟨m0,w0⟩,turn⟩:=h
 refine wpAny_While (codeAny_whileLoop (fun n s' =>∃σ' H',Inv X pins σ' H' s' /\W n σ' H') ?_ m0 ⟨σ,H,I,w0⟩)
 rintro n s1 ⟨σ1,H1,I1,w1⟩
 refine wpAny_passesOwn hp (bX (hc pins s1 σ1 H1 _ I1 (turn n σ1 H1 w1)) fun b s2 ⟨H2,I2,q2⟩=>?_)
 cases b with
 | true=>
  obtain ⟨N,hN,q2⟩:=q2
  rw [if_pos rfl]
  refine wpAny_passesOwn hp (bX (hb pins s2 σ1 H2 _ I2 q2) fun f s3 q3=>?_)
  cases f with
  | next=>
   obtain ⟨σ3,H3,I3,n3⟩:=q3
   obtain ⟨m',hm,w3⟩:=hN σ3 H3 n3
   exact ⟨m',hm,σ3,H3,I3,w3⟩
  | cont=>
   obtain ⟨σ3,H3,I3,n3⟩:=q3
   obtain ⟨m',hm,w3⟩:=hN σ3 H3 n3
   exact ⟨m',hm,σ3,H3,I3,w3⟩
  | brk=>exact q3
  | ret v=>exact q3
 | false=>
  rw [if_neg aaX]
  exact wpAny_execs_nil ⟨σ1,H2,I2,q2⟩
end
structure It where
 go:Nat->Hp->Prop
 FY:Nat->Hp->V->Hp->Prop
 stop:Nat->Hp->Prop
def kI (X:Cx)(pins:ε)(H:Hp)(b:Addr):Prop:=
 H b=none/\b≠X.env.locals/\b∉X.fs/\(b∈X.ex\/X.s₀.heap.objs.size<=b)/\(∀x c,X.env.cells.lookup x=some c->c≠b)/\∀p∈X.pn++pins,p.1≠b
theorem Inv.qg {X:Cx}{pins:ε}{σ:St}{H H' :Hp}{s:Shared}{b:Addr}(I:Inv X pins σ H s)(hb:s.heap.objs.size<=b)(hn:H' b=none):kI X pins H' b:=by
 refine ⟨hn,ahH (aa6 I.lt hb),I.Z_ hb,.inr (aam I.sz hb),fun x c e z=>?_,fun p hp z=>?_⟩
 ·obtain ⟨v,q⟩:=I.cell x c e
  exact absurd (aa6 q.lt (by rw [z];exact hb)) (ach _)
 ·exact absurd (aa6 (Heap.lt_size (I.pin p hp).1) (by rw [z];exact hb)) (ach _)
structure Turn (P:Program)(w:World)(K:Frag)(tg:Expr)(J:It)(fp:Α)(it:Addr)(tn:Nat->Heap->Prop):Prop where
 mem:it∈fp
 obj:∀i h,tn i h->∀b∈fp,∃o,h.get? b=some o/\∀v,o.data≠.cell v
 keep:∀i h h',tn i h->(∀b∈fp,∀o,h.get? b=some o->h'.get? b=some o)->tn i h'
 item:∀(X:Cx),X.prog=P->X.w=w->X.K=K->X.calm=true->∀(i:Nat) (pins:ε) (s:Shared) (σ:St) (H:Hp) (E:γ),Inv X pins σ H s->(∀b∈fp,kI X pins H b)->tn i s.heap->J.go i H->
  wpAny (model P w) X.A (pyNext (.ref it)) (fun r s1=>∃u,r=some u/\
   wpAny (model P w) X.A (letOwnedTupleGo tg (.ref it) u) (fun _ s2=>∃x H',Inv X pins σ H' s2/\RelV x u/\J.FY i H x H' /\tn (i+1) s2.heap/\∀b∈fp,H' b=none) E s1) E s
 done:∀(X:Cx),X.prog=P->X.w=w->X.K=K->X.calm=true->∀(i:Nat) (pins:ε) (s:Shared) (σ:St) (H:Hp) (E:γ),Inv X pins σ H s->(∀b∈fp,kI X pins H b)->tn i s.heap->J.stop i H->
  wpAny (model P w) X.A (pyNext (.ref it)) (fun r s1=>r=none/\Inv X pins σ H s1) E s
 self:∀(A:Around) (i:Nat) (s:Shared) (Q:γ) (E:γ),tn i s.heap->Q (.ref it) s->wpAny (model P w) A (pyIter (.ref it)) Q E s
abbrev TI:=St->Hp->(It->Hp->Prop)->Prop
def PIE (X:Cx)(pins:ε)(σ:St)(tg:Expr)(R:It->Hp->Prop)(Zn:Value)(s2:Shared):Prop:=
 ∃(it:Addr) (fp:Α) (tn:Nat->Heap->Prop) (J:It) (H' :Hp),Zn=.ref it/\Inv X pins σ H' s2/\Turn X.prog X.w X.K tg J fp it tn/\tn 0 s2.heap/\(∀b∈fp,kI X pins H' b)/\R J H'
def PI (X:Cx)(tg iter:Expr)(wi:TI):Prop:=
 ∀(pins:ε) (s:Shared) (σ:St) (H:Hp) (R:It->Hp->Prop),Inv X pins σ H s->wi σ H R->
  wpAny (model X.prog X.w) X.A (eval iter X.env) (fun v s1=>wpAny (model X.prog X.w) X.A (pyIter v) (PIE X pins σ tg R) X.xe s1) X.xe s
theorem FZ {M : Model} {A : Around} {E : Value -> Shared -> Prop} {s : Shared} {tg : Expr} {it : Addr} {u : Value} {o : Obj} {n : String} {vs : Array Value} {Q : Unit -> Shared -> Prop} (ho : s.heap.get? it = some o) (hc : o.cls = .type n) (hd : o.data = .fields vs)
    (hn : ["enumerate", "zip", "dict_itemiterator", "dict_reverseitemiterator", "odict_iterator", "itertools.zip_longest", "itertools.pairwise"].contains n = false) (hQ : Q () s) : wpAny M A (letOwnedTupleGo tg (.ref it) u) Q E s := by
  unfold letOwnedTupleGo
  cases tg <;> first
    | exact wpAny_pure hQ
    | (cases u <;> first
        | exact wpAny_pure hQ
        | (refine wpAny_bind (wpAny_load ho ?_)
           rw [hc, hd]
           show wpAny M A (if (["enumerate", "zip", "dict_itemiterator", "dict_reverseitemiterator", "odict_iterator", "itertools.zip_longest", "itertools.pairwise"].contains n && vs[0]? == some (rawInt _)) = true then _ else _) Q E s
           rw [if_neg (by intro h; rw [hn, Bool.false_and] at h; cases h)]
           exact wpAny_pure hQ))
def PX (K:Frag)(a:Addr):It:=
 ⟨fun i H=>∃xs x,aZ K H a xs/\xs[i]? =some x,fun i H x H' =>H' =H/\∀xs,aZ K H a xs->xs[i]? =some x,fun i H=>∃xs,aZ K H a xs/\xs.length<=i⟩
def Ti (K:Frag)(a:Addr):It:=
 ⟨fun i H=>∃xs x,bQ K H a xs/\xs[i]? =some x,fun i H x H' =>H' =H/\∀xs,bQ K H a xs->xs[i]? =some x,fun i H=>∃xs,bQ K H a xs/\xs.length<=i⟩
def PY (lo:Int)(n:Nat):It:=⟨fun i _=>i < n,fun i H x H' =>H' =H/\x=.int (lo+i),fun i _=>n<=i⟩
theorem AU {P:Program}{w:World}{K:Frag}{tg:Expr}(a it:Addr):Turn P w K tg (PX K a) [it] it (fun i h=>h.IsListIter it a i) where
 mem:=by simp
 obj:=fun i h st b hb=>by
  have e:b=it:=by simpa using hb
  subst e
  obtain ⟨o,e,c,d⟩:=st
  exact ⟨o,e,fun v z=>by rw [d] at z;cases z⟩
 keep:=fun i h h' st k=>st.at fun o e=>k it (by simp) o e
 item:=by
  intro X hP hw hK hc i pins s σ H E I hf st hg
  subst hP hw hK
  obtain ⟨xs,x,hq,hx⟩:=hg
  obtain ⟨its,rv,p,hz⟩:=I.list hq
  obtain ⟨u,hu,ru⟩:=rv.get hx
  obtain ⟨f0,f1,f2,f3,f4,f5⟩:=hf it (by simp)
  refine wpAny_pyNext_list_item st p.isList (x:=u) (by simpa using hu) fun h' jL sb=>?_
  have I1:Inv X pins σ H {s with heap:=h' }:=I.turned (t' :=s.toks) (fun b o hb e=>(sb.2 b hb).trans e) f0 f1 f3 f4 f5
  obtain ⟨o,e,c,d⟩:=id jL
  exact ⟨u,rfl,FZ (s:={s with heap:=h' }) e c d (by decide) ⟨x,H,I1,ru,⟨rfl,fun ys hy=>by rw [I.iA hy hq];exact hx⟩,jL,fun b hb=>(hf b hb).1⟩⟩
 done:=by
  intro X hP hw hK hc i pins s σ H E I hf st hg
  subst hP hw hK
  obtain ⟨xs,hq,hx⟩:=hg
  obtain ⟨its,rv,p,hz⟩:=I.list hq
  obtain ⟨f0,f1,f2,f3,f4,f5⟩:=hf it (by simp)
  have hl:=rv.length
  exact wpAny_pyNext_list_end (I.ok.hd hc) st p.isList (by simp;omega) fun h' eb=>⟨rfl,I.turned (t' :=s.toks) (fun b o hb e=>eb b o hb e) f0 f1 f3 f4 f5⟩
 self:=fun _ _ _ _ _ st h=>wpAny_pyIter_listiter st h
theorem xl {P:Program}{w:World}{K:Frag}{tg:Expr}(a it:Addr):Turn P w K tg (Ti K a) [it] it (fun i h=>h.IsTupleIter it a i) where
 mem:=by simp
 obj:=fun i h st b hb=>by
  have e:b=it:=by simpa using hb
  subst e
  obtain ⟨o,e,c,d⟩:=st
  exact ⟨o,e,fun v z=>by rw [d] at z;cases z⟩
 keep:=fun i h h' st k=>st.at fun o e=>k it (by simp) o e
 item:=by
  intro X hP hw hK hc i pins s σ H E I hf st hg
  subst hP hw hK
  obtain ⟨xs,x,hq,hx⟩:=hg
  obtain ⟨its,rv,p,hz⟩:=I.tuple hq
  obtain ⟨u,hu,ru⟩:=rv.get hx
  obtain ⟨f0,f1,f2,f3,f4,f5⟩:=hf it (by simp)
  refine wpAny_pyNext_tuple_item st (show s.heap.IsTuple a its.toArray from p) (x:=u) (by simpa using hu) fun h' jL sb=>?_
  have I1:Inv X pins σ H {s with heap:=h' }:=I.turned (t' :=s.toks) (fun b o hb e=>(sb.2 b hb).trans e) f0 f1 f3 f4 f5
  obtain ⟨o,e,c,d⟩:=id jL
  exact ⟨u,rfl,FZ (s:={s with heap:=h' }) e c d (by decide) ⟨x,H,I1,ru,⟨rfl,fun ys hy=>by rw [I.gD hy hq];exact hx⟩,jL,fun b hb=>(hf b hb).1⟩⟩
 done:=by
  intro X hP hw hK hc i pins s σ H E I hf st hg
  subst hP hw hK
  obtain ⟨xs,hq,hx⟩:=hg
  obtain ⟨its,rv,p,hz⟩:=I.tuple hq
  obtain ⟨f0,f1,f2,f3,f4,f5⟩:=hf it (by simp)
  have hl:=rv.length
  exact wpAny_pyNext_tuple_end (I.ok.hd hc) st (show s.heap.IsTuple a its.toArray from p) (by simp;omega) fun h' eb=>⟨rfl,I.turned (t' :=s.toks) (fun b o hb e=>eb b o hb e) f0 f1 f3 f4 f5⟩
 self:=fun _ _ _ _ _ st h=>wpAny_pyIter_tupleiter st h
theorem xm {P:Program}{w:World}{K:Frag}{tg:Expr}(it:Addr)(lo:Int)(n:Nat):Turn P w K tg (PY lo n) [it] it (fun i h=>IsRangeIter h it (lo+(i:Nat)*1) ((n:Int) - (i:Nat)) 1) where
 mem:=by simp
 obj:=fun i h st b hb=>by
  have e:b=it:=by simpa using hb
  subst e
  exact ⟨_,st,fun v z=>by
   have z' :Data.fields _=Data.cell v:=z
   cases z'⟩
 keep:=fun i h h' st k=>k it (by simp) _ st
 item:=by
  intro X hP hw hK hc i pins s σ H E I hf st hg
  subst hP hw hK
  obtain ⟨f0,f1,f2,f3,f4,f5⟩:=hf it (by simp)
  have W:=Walks.range (prog:=X.prog) (w:=X.w) (I.ok.hd hc) it lo 1 n
  refine W.item i s _ _ hg st fun v h' tk hv jL kk=>?_
  obtain ⟨t,rfl⟩:=hv
  have I1:Inv X pins σ H {s with heap:=h',toks:=tk}:=I.turned (fun b o hb e=>kk b o (by simpa using hb) e) f0 f1 f3 f4 f5
  refine ⟨_,rfl,FZ (s:={s with heap:=h',toks:=tk}) (n:="range_iterator") jL rfl rfl (by decide) ⟨.int (lo+i),H,I1,⟨t,?_⟩,⟨rfl,rfl⟩,jL,fun b hb=>(hf b hb).1⟩⟩
  rw [Int.mul_one]
 done:=by
  intro X hP hw hK hc i pins s σ H E I hf st hg
  subst hP hw hK
  obtain ⟨f0,f1,f2,f3,f4,f5⟩:=hf it (by simp)
  exact wpAny_pyNext_range_end (I.ok.hd hc) st (by have:n<=i:=hg;omega) fun h' eb=>⟨rfl,I.turned (t' :=s.toks) (fun b o hb e=>eb b o hb e) f0 f1 f3 f4 f5⟩
 self:=fun _ _ _ _ _ st h=>wpAny_pyIter_rangeiter st h
end L2
namespace L2
open PySem PySem.Spec PyProof.Rows
section
variable {X:Cx}{tg:Expr}
inductive F_ (K:Frag)(R:(It->Hp->Prop))(x:V)(H1:Hp):Prop where
 | mk (a:_) (_:x=.ref a) (_:(∃xs,aZ K H1 a xs)) (_:R (PX K a) H1):F_ K R x H1
def NQ (K:Frag)(tl:TE):TI:=fun σ H R=>tl σ H fun x H1=>F_ K R x H1
inductive NR (K:Frag)(R:(It->Hp->Prop))(x:V)(H1:Hp):Prop where
 | mk (a:_) (_:x=.ref a) (_:(∃xs,bQ K H1 a xs)) (_:R (Ti K a) H1):NR K R x H1
def aak (K:Frag)(tl:TE):TI:=fun σ H R=>tl σ H fun x H1=>NR K R x H1
theorem bD {l:Expr}{tl:TE}(hl:PE X l tl):PI X tg l (NQ X.K tl):=by
 intro pins s σ H R I h
 refine bX (hl pins s σ H _ I h) fun v s1 ⟨x,H1,I1,r1,q1⟩=>?_
 obtain ⟨a,e,⟨xs,hq⟩,q⟩:=q1
 subst e
 cases r1
 obtain ⟨its,rv,p,hz⟩:=I1.list hq
 refine wpAny_pyIter_list p.isList ?_
 refine ⟨s1.heap.objs.size,[s1.heap.objs.size],_,_,H1,rfl,I1.kept (t' :=s1.toks) fun b o e=>Heap.get?_push_of_some _ e,AU a _,⟨_,Heap.get?_push_size _ rfl,rfl,rfl⟩,fun b hb=>?_,q⟩
 have e:b=s1.heap.objs.size:=by simpa using hb
 subst e
 exact I1.qg (aas _) (I1.bL.fresh (aas _))
theorem PZ {l:Expr}{tl:TE}(hl:PE X l tl):PI X tg l (aak X.K tl):=by
 intro pins s σ H R I h
 refine bX (hl pins s σ H _ I h) fun v s1 ⟨x,H1,I1,r1,q1⟩=>?_
 obtain ⟨a,e,⟨xs,hq⟩,q⟩:=q1
 subst e
 cases r1
 obtain ⟨its,rv,p,hz⟩:=I1.tuple hq
 refine wpAny_pyIter_tuple (show s1.heap.IsTuple a its.toArray from p) ?_
 refine ⟨s1.heap.objs.size,[s1.heap.objs.size],_,_,H1,rfl,I1.kept (t' :=s1.toks) fun b o e=>Heap.get?_push_of_some _ e,xl a _,⟨_,Heap.get?_push_size _ rfl,rfl,rfl⟩,fun b hb=>?_,q⟩
 have e:b=s1.heap.objs.size:=by simpa using hb
 subst e
 exact I1.qg (aas _) (I1.bL.fresh (aas _))
theorem F' {pins:ε}{σ:St}{H:Hp}{s:Shared}{R:It->Hp->Prop}{E:γ}{lo hi:Int}{t u v:Tok}{tk:Nat}(I:Inv X pins σ H s)(h1: -(2^62)<=lo)(h2:lo < 2^62)(h3: -(2^62)<=hi)(h4:hi < 2^62)
  (q:R (PY lo (hi - lo).toNat) H):wpAny (model X.prog X.w) X.A (pyIter (.ref s.heap.objs.size)) (PIE X pins σ tg R) E {s with heap:=s.heap.push {cls:=.type "range",data:=.fields #[.int lo t,.int hi u,.int 1 v]},toks:=tk}:=by
 refine wpAny_pyIter_range (IsRange.new ..) (small_one h1 h2 h3 h4) ?_
 have I1:Inv X pins σ H {s with heap:=s.heap.push {cls:=.type "range",data:=.fields #[.int lo t,.int hi u,.int 1 v]},toks:=tk}:=I.kept fun b o e=>Heap.get?_push_of_some _ e
 refine ⟨(s.heap.push {cls:=.type "range",data:=.fields #[.int lo t,.int hi u,.int 1 v]}).objs.size,[(s.heap.push {cls:=.type "range",data:=.fields #[.int lo t,.int hi u,.int 1 v]}).objs.size],_,_,H,rfl,
  I1.kept (t' :=tk) fun b o e=>Heap.get?_push_of_some _ e,xm _ lo (hi - lo).toNat,?_,fun b hb=>?_,q⟩
 ·have e1:lo+((0:Nat):Int)*1=lo:=by simp
  have e2:(((hi - lo).toNat:Nat):Int) - ((0:Nat):Int)=Builtin.Range.rangeSize lo hi 1:=by rw [rangeSize_one];split <;> omega
  show IsRangeIter _ _ (lo+((0:Nat):Int)*1) ((((hi - lo).toNat:Nat):Int) - ((0:Nat):Int)) 1
  rw [e1,e2]
  exact Heap.get?_push_size _ rfl
 ·have e:b=(s.heap.push {cls:=.type "range",data:=.fields #[.int lo t,.int hi u,.int 1 v]}).objs.size:=by simpa using hb
  subst e
  exact I1.qg (aas _) (I1.bL.fresh (aas _))
inductive GB (R:(It->Hp->Prop))(vs:η)(H1:Hp):Prop where
 | mk (j:Int) (_:vs=[.int j]) (_: -(2^62)<=j) (_:j < 2^62) (_:R (PY 0 j.toNat) H1):GB R vs H1
def Tj (ta:TA):TI:=fun σ H R=>ta σ H fun vs H1=>GB R vs H1
theorem df {a:Expr}{ta:TA}{p pos:Pos}(hg:Gl X "range")(hm:X.mg "range"=none)(ha:PA X [a] ta)(hs:starEach [a] X.env=[(false,eval a X.env)]:=by rfl):PI X tg (.Call (.Name "range" p) [a] [] pos) (Tj ta):=by
 intro pins s σ H R I h
 refine Call_ (iz I hg hm boot_range (PyProof.Rows.callWith_type1 (bX (ha pos pins s σ H _ I h) fun us s1 ⟨vs,H1,I1,r1,q1⟩=>?_) hs rfl))
 obtain ⟨j,e,q1,q2,q⟩:=q1
 subst e
 cases r1 with
 | cons r rr=>
  cases rr
  obtain ⟨t,rfl⟩:=r
  exact call_range_1 (F' I1 (by omega) (by omega) q1 q2 (by simpa using q))
def aal (wi:TI)(g:TG)(tb:TS):TS:=fun D σ H=>wi σ H fun J H1=>∃W:Nat->Nat->St->Hp->Prop,(∃m,W 0 m σ H1)/\∀i m σ H,W i m σ H->
 (J.stop i H/\D.nx σ H)\/(J.go i H/\∃N:St->Hp->Prop,(∀σ' H',N σ' H' ->∃m',m' < m/\W (i+1) m' σ' H')/\∀x H',J.FY i H x H' ->g x σ H' fun σ2 H2=>tb {D with nx:=N,ct:=N,bk:=D.nx} σ2 H2)
def nS (fp:Α)(h:Heap):List (Addr×Obj):=fp.filterMap fun b=>(h.get? b).map fun o=>(b,o)
theorem gU {fp:Α}{h:Heap}{b:Addr}{o:Obj}(hb:b∈fp)(e:h.get? b=some o):(b,o)∈nS fp h:=ahK.mpr ⟨b,hb,by rw [e];rfl⟩
theorem AV {fp:Α}{h:Heap}{p:Addr×Obj}(hp:p∈nS fp h):p.1∈fp/\h.get? p.1=some p.2:=by
 obtain ⟨b,hb,e⟩:=ahK.mp hp
 cases q:h.get? b with
 | none=>rw [q] at e;cases e
 | some o=>
  rw [q] at e
  have e' :(b,o)=p:=aaZ e
  subst e'
  exact ⟨hb,q⟩
theorem Inv.pinned {pins:ε}{σ:St}{H:Hp}{s:Shared}{fp:Α}(I:Inv X pins σ H s)(hf:∀b∈fp,kI X pins H b)(ho:∀b∈fp,∃o,s.heap.get? b=some o/\∀v,o.data≠.cell v):Inv X (pins++nS fp s.heap) σ H s:=
 I.yW fun p hp=>(aaQ.mp hp).elim (fun z=>I.pin p (abn _ z)) fun z=>by
  obtain ⟨hb,e⟩:=AV z
  obtain ⟨f0,f1,f2,_⟩:=hf p.1 hb
  obtain ⟨o,e',d⟩:=ho p.1 hb
  rw [e] at e';cases e'
  exact ⟨e,f0,f1,f2,d⟩
theorem Inv.iC {pins pl:ε}{σ:St}{H:Hp}{s:Shared}(I:Inv X (pins++pl) σ H s):Inv X pins σ H s:=I.yW fun p hp=>I.pin p (abn _ (abm _ hp))
theorem bF {iter:Expr}{body:List Stmt}{wi:TI}{g:TG}{tb:TS}{pos:Pos}(hp:PassesOwn (model X.prog X.w) X.A X.env X.xe)(hc:X.calm=true)(hi:PI X tg iter wi)(hg:PG X tg g)(hb:PSs X body tb)
  (hs:∀x,foldedSetIterable iter X.env x=pure x:=by intro _;rfl):PS X (.For tg iter body [] pos) (aal wi g tb):=by
 intro pins s σ H D I h
 refine wpAny_For (bX (hi pins s σ H _ I h) fun v s1 h1=>bX h1 fun Zn s2 h2=>?_) hs
 obtain ⟨it,fp,tn,J,H2,e,I2,T,ig,f2,W,⟨m0,w0⟩,turn⟩:=h2
 subst e
 have stat:∀{H' :Hp},(∀b∈fp,H' b=none)->∀b∈fp,kI X pins H' b:=fun hn b hb=>⟨hn b hb,(f2 b hb).2⟩
 refine codeAny_forLoop_any (fun n s' =>∃i σ' H',Inv X pins σ' H' s' /\tn i s'.heap/\(∀b∈fp,H' b=none)/\W i n σ' H') ?_ m0 ⟨0,σ,H2,I2,ig,fun b hb=>(f2 b hb).1,w0⟩
 rintro n s3 ⟨i,σ3,H3,I3,GG,fr3,w3⟩
 rcases turn i n σ3 H3 w3 with ⟨stop,qn⟩ | ⟨go,N,hN,step⟩
 ·refine wpAny_passesOwn hp (bX (T.done X rfl rfl rfl hc i pins s3 σ3 H3 X.xe I3 (stat fr3) GG stop) fun r s4 ⟨hr,I4⟩=>?_)
  subst hr
  exact wpAny_execs_nil ⟨σ3,H3,I4,qn⟩
 ·refine wpAny_passesOwn hp (bX (T.item X rfl rfl rfl hc i pins s3 σ3 H3 X.xe I3 (stat fr3) GG go) fun r s4 ⟨u,hr,h4⟩=>?_)
  subst hr
  refine wpAny_passesOwn hp (bX h4 fun _ s5 ⟨x,H5,I5,r5,y5,mF,Zo⟩=>?_)
  have I5' :=I5.pinned (stat Zo) (T.obj _ _ mF)
  refine wpAny_passesOwn hp (bX (hg _ s5 σ3 H5 x u _ I5' r5 (step x H5 y5)) fun _ s6 ⟨σ6,H6,I6,q6⟩=>?_)
  refine wpAny_passesOwn hp (bX (hb _ s6 σ6 H6 _ I6 q6) fun f s7 q7=>?_)
  have again:∀{σ7:St} {H7:Hp},Inv X (pins++nS fp s5.heap) σ7 H7 s7->N σ7 H7->∃m,m < n/\∃i σ' H',Inv X pins σ' H' s7/\tn i s7.heap/\(∀b∈fp,H' b=none)/\W i m σ' H' :=fun {σ7 H7} I7 n7=>by
   obtain ⟨m',hm,w7⟩:=hN σ7 H7 n7
   refine ⟨m',hm,i+1,σ7,H7,I7.iC,T.keep _ _ _ mF fun b hb o e=>(I7.pin (b,o) (abn _ (abn _ (gU hb e)))).1,fun b hb=>?_,w7⟩
   obtain ⟨o,e,d⟩:=T.obj _ _ mF b hb
   exact (I7.pin (b,o) (abn _ (abn _ (gU hb e)))).2.1
  cases f with
  | next=>obtain ⟨σ7,H7,I7,n7⟩:=q7;exact again I7 n7
  | cont=>obtain ⟨σ7,H7,I7,n7⟩:=q7;exact again I7 n7
  | brk=>obtain ⟨σ7,H7,I7,q7⟩:=q7;exact ⟨σ7,H7,I7.iC,q7⟩
  | ret v=>obtain ⟨x7,σ7,H7,I7,r7,q7⟩:=q7;exact ⟨x7,σ7,H7,I7.iC,r7,q7⟩
end
theorem cC {K:Frag}{a:Addr}{xs:η}{g:TG}{tb:TS}{D:Ends}{σ:St}{H:Hp}(Pv:Nat->St->Hp->Prop)(h0:Pv 0 σ H)(hl:∀i σ H,i<=xs.length->Pv i σ H->aZ K H a xs)
  (hs:∀i x σ H,xs[i]? =some x->Pv i σ H->g x σ H fun σ2 H2=>tb {D with nx:=Pv (i+1),ct:=Pv (i+1),bk:=D.nx} σ2 H2) (hd:∀σ H,Pv xs.length σ H->D.nx σ H):
  ∃W:Nat->Nat->St->Hp->Prop,(∃m,W 0 m σ H)/\∀i m σ H,W i m σ H->
   ((PX K a).stop i H/\D.nx σ H)\/((PX K a).go i H/\∃N:St->Hp->Prop,(∀σ' H',N σ' H' ->∃m',m' < m/\W (i+1) m' σ' H')/\∀x H',(PX K a).FY i H x H' ->g x σ H' fun σ2 H2=>tb {D with nx:=N,ct:=N,bk:=D.nx} σ2 H2):=by
 refine ⟨fun i m σ H=>m=xs.length - i/\i<=xs.length/\Pv i σ H,⟨xs.length,by simp,abj _,h0⟩,?_⟩
 rintro i m σ H ⟨rfl,hi,p⟩
 have q:=hl i σ H hi p
 by_cases lU:i < xs.length
 ·refine .inr ⟨⟨xs,xs[i],q,by simp [lU]⟩,Pv (i+1),fun σ' H' p' =>⟨xs.length - (i+1),by omega,rfl,lU,p'⟩,fun x H' y=>?_⟩
  obtain ⟨e,y⟩:=y
  subst e
  exact hs i x σ _ (y xs q) p
 ·have e:i=xs.length:=by omega
  subst e
  exact .inl ⟨⟨xs,q,aas _⟩,hd σ H p⟩
theorem Le {K:Frag}{a:Addr}{xs:η}{g:TG}{tb:TS}{D:Ends}{σ:St}{H:Hp}(Pv:Nat->St->Hp->Prop)(h0:Pv 0 σ H)(hl:∀i σ H,i<=xs.length->Pv i σ H->bQ K H a xs)
  (hs:∀i x σ H,xs[i]? =some x->Pv i σ H->g x σ H fun σ2 H2=>tb {D with nx:=Pv (i+1),ct:=Pv (i+1),bk:=D.nx} σ2 H2) (hd:∀σ H,Pv xs.length σ H->D.nx σ H):
  ∃W:Nat->Nat->St->Hp->Prop,(∃m,W 0 m σ H)/\∀i m σ H,W i m σ H->
   ((Ti K a).stop i H/\D.nx σ H)\/((Ti K a).go i H/\∃N:St->Hp->Prop,(∀σ' H',N σ' H' ->∃m',m' < m/\W (i+1) m' σ' H')/\∀x H',(Ti K a).FY i H x H' ->g x σ H' fun σ2 H2=>tb {D with nx:=N,ct:=N,bk:=D.nx} σ2 H2):=by
 refine ⟨fun i m σ H=>m=xs.length - i/\i<=xs.length/\Pv i σ H,⟨xs.length,by simp,abj _,h0⟩,?_⟩
 rintro i m σ H ⟨rfl,hi,p⟩
 have q:=hl i σ H hi p
 by_cases lU:i < xs.length
 ·refine .inr ⟨⟨xs,xs[i],q,by simp [lU]⟩,Pv (i+1),fun σ' H' p' =>⟨xs.length - (i+1),by omega,rfl,lU,p'⟩,fun x H' y=>?_⟩
  obtain ⟨e,y⟩:=y
  subst e
  exact hs i x σ _ (y xs q) p
 ·have e:i=xs.length:=by omega
  subst e
  exact .inl ⟨⟨xs,q,aas _⟩,hd σ H p⟩
theorem dP {lo:Int}{n:Nat}{g:TG}{tb:TS}{D:Ends}{σ:St}{H:Hp}(Pv:Nat->St->Hp->Prop)(h0:Pv 0 σ H)
  (hs:∀i σ H,i < n->Pv i σ H->g (.int (lo+i)) σ H fun σ2 H2=>tb {D with nx:=Pv (i+1),ct:=Pv (i+1),bk:=D.nx} σ2 H2) (hd:∀σ H,Pv n σ H->D.nx σ H):
  ∃W:Nat->Nat->St->Hp->Prop,(∃m,W 0 m σ H)/\∀i m σ H,W i m σ H->
   ((PY lo n).stop i H/\D.nx σ H)\/((PY lo n).go i H/\∃N:St->Hp->Prop,(∀σ' H',N σ' H' ->∃m',m' < m/\W (i+1) m' σ' H')/\∀x H',(PY lo n).FY i H x H' ->g x σ H' fun σ2 H2=>tb {D with nx:=N,ct:=N,bk:=D.nx} σ2 H2):=by
 refine ⟨fun i m σ H=>m=n - i/\i<=n/\Pv i σ H,⟨n,by simp,abj _,h0⟩,?_⟩
 rintro i m σ H ⟨rfl,hi,p⟩
 by_cases lU:i < n
 ·refine .inr ⟨lU,Pv (i+1),fun σ' H' p' =>⟨n - (i+1),by omega,rfl,lU,p'⟩,fun x H' y=>?_⟩
  obtain ⟨e,y⟩:=y
  subst e y
  exact hs i σ _ lU p
 ·have e:i=n:=by omega
  subst e
  exact .inl ⟨aas _,hd σ H p⟩
theorem uJ {c:TT}{tb:TS}{D:Ends}{σ:St}{H:Hp}(Pv:St->Hp->Prop)(μ:St->Hp->Nat)(h0:Pv σ H)
  (hs:∀σ H,Pv σ H->c σ H fun b H1=>if b=true then tb {D with nx:=fun σ' H' =>Pv σ' H' /\μ σ' H' < μ σ H,ct:=fun σ' H' =>Pv σ' H' /\μ σ' H' < μ σ H,bk:=D.nx} σ H1 else D.nx σ H1)
  (mono:∀σ H Q Q',(∀b H1,Q b H1->Q' b H1)->c σ H Q->c σ H Q'):FX c tb D σ H:=by
 refine ⟨fun m σ H=>m=μ σ H/\Pv σ H,⟨_,rfl,h0⟩,?_⟩
 rintro m σ H ⟨rfl,p⟩
 refine mono σ H _ _ (fun b H1 q=>?_) (hs σ H p)
 cases b with
 | true=>exact ⟨_,fun σ' H' ⟨p',l⟩=>⟨_,l,rfl,p'⟩,q⟩
 | false=>exact q
end L2
namespace L2
open PySem PySem.Spec PyProof.Rows
abbrev R2:=V->V->Hp->VK->Prop
def jk (X:Cx)(f:Value->Value->Sem Value)(r:R2):Prop:=
 ∀(pins:ε) (s:Shared) (σ:St) (H:Hp) (x y:V) (v u:Value) (Q:VK),Inv X pins σ H s->RelV x v->RelV y u->r x y H Q->
  wpAny (model X.prog X.w) X.A (f v u) (EP X pins σ Q) X.xe s
def UnR (X:Cx)(f:Value->Sem Value)(r:V->Hp->VK->Prop):Prop:=
 ∀(pins:ε) (s:Shared) (σ:St) (H:Hp) (x:V) (v:Value) (Q:VK),Inv X pins σ H s->RelV x v->r x H Q->
  wpAny (model X.prog X.w) X.A (f v) (EP X pins σ Q) X.xe s
def ft (X:Cx)(f:Value)(r:List V->Hp->VK->Prop):Prop:=
 ∀(pins:ε) (s:Shared) (σ:St) (H:Hp) (xs:η) (us:ο) (Q:VK),Inv X pins σ H s->Vals xs us->r xs H Q->
  wpAny (model X.prog X.w) X.A (call f us) (EP X pins σ Q) X.xe s
def Su (r:R2)(ta tb:TE):TE:=fun σ H Q=>ta σ H fun x H1=>tb σ H1 fun y H2=>r x y H2 Q
def tUn (r:V->Hp->VK->Prop)(ta:TE):TE:=fun σ H Q=>ta σ H fun x H1=>r x H1 Q
inductive rI (C:Int->Int->Prop)(g:Int->Int->V)(x:V)(y:V)(H:Hp)(Q:VK):Prop where
 | mk (i j:_) (_:x=.int i) (_:y=.int j) (_:C i j) (_:Q (g i j) H):rI C g x y H Q
inductive NS (g:Int->Int->V)(x:V)(y:V)(H:Hp)(Q:VK):Prop where
 | mk (i j:_) (_:x=.int i) (_:y=.int j) (_:Q (g i j) H):NS g x y H Q
inductive rU (g:Int->V)(x:V)(H:Hp)(Q:VK):Prop where
 | mk (i:_) (_:x=.int i) (_:Q (g i) H):rU g x H Q
section
variable {X:Cx}{a b c:Expr}{ta tb tc:TE}{pos:Pos}
theorem P0 (ha:PE X a ta)(hb:PE X b tb){pins:ε}{s:Shared}{σ:St}{H:Hp}{R:V->V->Hp->Prop}(I:Inv X pins σ H s)
  (h:ta σ H fun x H1=>tb σ H1 fun y H2=>R x y H2) {Q:γ} {f:Value->Value->Sem Value}
  (hf:∀v u s2 x y H2,Inv X pins σ H2 s2->RelV x v->RelV y u->R x y H2->wpAny (model X.prog X.w) X.A (f v u) Q X.xe s2):
  wpAny (model X.prog X.w) X.A (eval a X.env) (fun v s₁=>wpAny (model X.prog X.w) X.A (eval b X.env) (fun u s₂=>wpAny (model X.prog X.w) X.A (f v u) Q X.xe s₂) X.xe s₁) X.xe s:=by
 refine bX (ha pins s σ H _ I h) fun v s1 ⟨x,H1,I1,r1,q1⟩=>?_
 refine bX (hb pins s1 σ H1 _ I1 q1) fun u s2 ⟨y,H2,I2,r2,q2⟩=>?_
 exact hf v u s2 x y H2 I2 r1 r2 q2
theorem aF {op:Operator}{r:R2}(ho:jk X (binaryOp op) r)(ha:PE X a ta)(hb:PE X b tb):PE X (.BinOp a op b pos) (Su r ta tb):=by
 intro pins s σ H Q I h
 exact wpAny_BinOp (P0 ha hb I h fun v u s2 x y H2 I2 rx ry q=>ho pins s2 σ H2 x y v u Q I2 rx ry q)
theorem jP {op:UnaryOp}{r:V->Hp->VK->Prop}(ho:UnR X (unaryOp op) r)(ha:PE X a ta):PE X (.UnaryOp op a pos) (tUn r ta):=by
 intro pins s σ H Q I h
 exact UnaryOp_ (bX (ha pins s σ H _ I h) fun v s1 ⟨x,H1,I1,r1,q1⟩=>ho pins s1 σ H1 x v Q I1 r1 q1)
theorem Zp {f:Value->Value->Sem Value}{C:Int->Int->Prop}{g:Int->Int->Int}
  (rule:∀(i j:Int) (t u:Tok) (s:Shared) (Q:γ) (E:γ),C i j->Q (.int (g i j) s.toks) {s with toks:=s.toks+1}->wpAny (model X.prog X.w) X.A (f (.int i t) (.int j u)) Q E s):
  jk X f (rI C fun i j=>.int (g i j)):=by
 intro pins s σ H x y v u Q I rx ry h
 obtain ⟨i,j,rfl,rfl,hc,q⟩:=h
 obtain ⟨t,rfl⟩:=rx
 obtain ⟨t',rfl⟩:=ry
 exact rule i j t t' s _ _ hc ⟨.int (g i j),H,I.tok _,⟨_,rfl⟩,q⟩
theorem Tn {f:Value->Value->Sem Value}{g:Int->Int->Int}
  (rule:∀(i j:Int) (t u:Tok) (s:Shared) (Q:γ) (E:γ),Q (.int (g i j) s.toks) {s with toks:=s.toks+1}->wpAny (model X.prog X.w) X.A (f (.int i t) (.int j u)) Q E s):
  jk X f (NS fun i j=>.int (g i j)):=by
 intro pins s σ H x y v u Q I rx ry h
 obtain ⟨i,j,rfl,rfl,q⟩:=h
 obtain ⟨t,rfl⟩:=rx
 obtain ⟨t',rfl⟩:=ry
 exact rule i j t t' s _ _ ⟨.int (g i j),H,I.tok _,⟨_,rfl⟩,q⟩
theorem P1 {f:Value->Value->Sem Value}{g:Int->Int->Bool}
  (rule:∀(i j:Int) (t u:Tok) (s:Shared) (Q:γ) (E:γ),Q (.bool (g i j)) s->wpAny (model X.prog X.w) X.A (f (.int i t) (.int j u)) Q E s):
  jk X f (NS fun i j=>.bl (g i j)):=by
 intro pins s σ H x y v u Q I rx ry h
 obtain ⟨i,j,rfl,rfl,q⟩:=h
 obtain ⟨t,rfl⟩:=rx
 obtain ⟨t',rfl⟩:=ry
 exact rule i j t t' s _ _ ⟨.bl (g i j),H,I,rfl,q⟩
theorem bI:jk X (binaryOp .Add) (NS fun i j=>.int (i+j)):=Tn fun _ _ _ _ _ _ _ q=>add_int q
theorem b9:jk X (binaryOp .Sub) (NS fun i j=>.int (i - j)):=Tn fun _ _ _ _ _ _ _ q=>sub_int q
theorem Lf:jk X (binaryOp .Mod) (rI (fun _ j=>j≠0) fun i j=>.int (i.fmod j)):=Zp fun _ _ _ _ _ _ _ hc q=>mod_int' hc q
theorem unI {f:Value->Sem Value}{g:Int->Int}
  (rule:∀(i:Int) (t:Tok) (s:Shared) (Q:γ) (E:γ),Q (.int (g i) s.toks) {s with toks:=s.toks+1}->wpAny (model X.prog X.w) X.A (f (.int i t)) Q E s):
  UnR X f (rU fun i=>.int (g i)):=by
 intro pins s σ H x v Q I rx h
 obtain ⟨i,rfl,q⟩:=h
 obtain ⟨t,rfl⟩:=rx
 exact rule i t s _ _ ⟨.int (g i),H,I.tok _,⟨_,rfl⟩,q⟩
theorem gW:UnR X (unaryOp .USub) (rU fun i=>.int (-i)):=unI fun _ _ _ _ _ q=>neg_int q
end
def To:V->V->Bool
 | .cI,.cI=>true | .cI,.int _=>true | .int _,.cI=>true | .cI,.bl _=>true | .bl _,.cI=>true | .cI,.str _=>true | .str _,.cI=>true
 | .int _,.int _=>true | .bl _,.bl _=>true | .str _,.str _=>true | .byt _,.byt _=>true
 | .int _,.str _=>true | .str _,.int _=>true | .bl _,.str _=>true | .str _,.bl _=>true
 | _,_=>false
def rEq:R2:=fun x y H Q=>To x y=true/\Q (.bl (decide (x=y))) H
def rNe:R2:=fun x y H Q=>To x y=true/\Q (.bl (!decide (x=y))) H
theorem yZ {i j:Int}:decide (V.int i=V.int j)=(i==j):=by
 rw [ab5]
 simp
theorem GH {i j:Bool}:decide (V.bl i=V.bl j)=(i==j):=by
 rw [ab5]
 simp
theorem y4 {i j:Str}:decide (V.str i=V.str j)=(i==j):=by
 rw [ab5]
 simp
theorem y6 {i j:Array UInt8}:decide (V.byt i=V.byt j)=(i.toList==j.toList):=by
 rw [ab5]
 cases i
 cases j
 simp
section
variable {X:Cx}{a b c:Expr}{ta tb tc:TE}{pos:Pos}
theorem bJ {pins:ε}{σ:St}{H:Hp}{s:Shared}{Q:VK}{k k' :Bool}(I:Inv X pins σ H s)(q:Q (.bl k) H)(e:k=k'):EP X pins σ Q (.bool k') s:=by
 subst e
 exact ⟨.bl k,H,I,rfl,q⟩
theorem du:jk X (compareOp .Eq) rEq:=by
 intro pins s σ H x y v u Q I rx ry h
 obtain ⟨hs,q⟩:=h
 cases x with
 | cI=>
  cases rx
  cases y with
  | cI=>cases ry;exact PySem.EqNone.eq_none_none (bJ I q (by simp))
  | bl j=>cases ry;exact PySem.EqNone.eq_none_bool (bJ I q (by simp))
  | int j=>obtain ⟨t',rfl⟩:=ry;exact PySem.EqNone.eq_none_int (bJ I q (by simp))
  | str j=>obtain ⟨t',rfl⟩:=ry;exact PySem.EqNone.eq_none_str (bJ I q (by simp))
  | _=>exact absurd (show false=true from hs) aaX
 | bl i=>
  cases rx
  cases y with
  | cI=>cases ry;exact PySem.EqNone.eq_bool_none (bJ I q (by simp))
  | bl j=>cases ry;exact eq_bool (bJ I q GH)
  | str j=>obtain ⟨t',rfl⟩:=ry;exact PySem.EqMixed.eq_bool_str (bJ I q (by simp))
  | _=>exact absurd (show false=true from hs) aaX
 | int i=>
  obtain ⟨t,rfl⟩:=rx
  cases y with
  | cI=>cases ry;exact PySem.EqNone.eq_int_none (bJ I q (by simp))
  | int j=>obtain ⟨t',rfl⟩:=ry;exact eq_int (bJ I q yZ)
  | str j=>obtain ⟨t',rfl⟩:=ry;exact PySem.EqMixed.eq_int_str (bJ I q (by simp))
  | _=>exact absurd (show false=true from hs) aaX
 | str i=>
  obtain ⟨t,rfl⟩:=rx
  cases y with
  | cI=>cases ry;exact PySem.EqNone.eq_str_none (bJ I q (by simp))
  | bl j=>cases ry;exact PySem.EqMixed.eq_str_bool (bJ I q (by simp))
  | int j=>obtain ⟨t',rfl⟩:=ry;exact PySem.EqMixed.eq_str_int (bJ I q (by simp))
  | str j=>obtain ⟨t',rfl⟩:=ry;exact eq_str (bJ I q y4)
  | _=>exact absurd (show false=true from hs) aaX
 | byt i=>
  obtain ⟨t,rfl⟩:=rx
  cases y with
  | byt j=>obtain ⟨t',rfl⟩:=ry;exact PySem.W.eq_bytes (bJ I q y6)
  | _=>exact absurd (show false=true from hs) aaX
 | _=>cases y <;> exact absurd (show false=true from hs) aaX
theorem y8:jk X (compareOp .NotEq) rNe:=by
 intro pins s σ H x y v u Q I rx ry h
 obtain ⟨hs,q⟩:=h
 cases x with
 | cI=>
  cases rx
  cases y with
  | cI=>cases ry;exact PySem.EqNone.ne_none_none (bJ I q (by simp))
  | bl j=>cases ry;exact PySem.EqNone.ne_none_bool (bJ I q (by simp))
  | int j=>obtain ⟨t',rfl⟩:=ry;exact PySem.EqNone.ne_none_int (bJ I q (by simp))
  | str j=>obtain ⟨t',rfl⟩:=ry;exact PySem.EqNone.ne_none_str (bJ I q (by simp))
  | _=>exact absurd (show false=true from hs) aaX
 | bl i=>
  cases rx
  cases y with
  | cI=>cases ry;exact PySem.EqNone.ne_bool_none (bJ I q (by simp))
  | bl j=>cases ry;exact ne_bool (bJ I q (congrArg not GH))
  | str j=>obtain ⟨t',rfl⟩:=ry;exact PySem.EqMixed.ne_bool_str (bJ I q (by simp))
  | _=>exact absurd (show false=true from hs) aaX
 | int i=>
  obtain ⟨t,rfl⟩:=rx
  cases y with
  | cI=>cases ry;exact PySem.EqNone.ne_int_none (bJ I q (by simp))
  | int j=>obtain ⟨t',rfl⟩:=ry;exact ne_int (bJ I q (congrArg not yZ))
  | str j=>obtain ⟨t',rfl⟩:=ry;exact PySem.EqMixed.ne_int_str (bJ I q (by simp))
  | _=>exact absurd (show false=true from hs) aaX
 | str i=>
  obtain ⟨t,rfl⟩:=rx
  cases y with
  | cI=>cases ry;exact PySem.EqNone.ne_str_none (bJ I q (by simp))
  | bl j=>cases ry;exact PySem.EqMixed.ne_str_bool (bJ I q (by simp))
  | int j=>obtain ⟨t',rfl⟩:=ry;exact PySem.EqMixed.ne_str_int (bJ I q (by simp))
  | str j=>obtain ⟨t',rfl⟩:=ry;exact ne_str (bJ I q (congrArg not y4))
  | _=>exact absurd (show false=true from hs) aaX
 | byt i=>
  obtain ⟨t,rfl⟩:=rx
  cases y with
  | byt j=>obtain ⟨t',rfl⟩:=ry;exact PySem.W.ne_bytes (bJ I q (congrArg not y6))
  | _=>exact absurd (show false=true from hs) aaX
 | _=>cases y <;> exact absurd (show false=true from hs) aaX
theorem lV:jk X (compareOp .Lt) (NS fun i j=>.bl (decide (i < j))):=P1 fun _ _ _ _ _ _ _ q=>lt_int q
theorem qX:jk X (compareOp .Gt) (NS fun i j=>.bl (decide (j < i))):=P1 fun _ _ _ _ _ _ _ q=>gt_int q
theorem uK:jk X (compareOp .GtE) (NS fun i j=>.bl (decide (j<=i))):=P1 fun _ _ _ _ _ _ _ q=>ge_int q
theorem xn:jk X (compareOp .Is) (fun x y H Q=>y=.cI/\Q (.bl (decide (x=.cI))) H):=by
 intro pins s σ H x y v u Q I rx ry h
 obtain ⟨rfl,q⟩:=h
 cases ry
 refine is_none_gen (bJ I q ?_)
 cases x <;> first
  | (cases rx;rfl)
  | (obtain ⟨t,rfl⟩:=rx;rfl)
theorem aX (b:Expr){op:CmpOp}(h:op≠.In:=by decide)(h2:op≠.NotIn:=by decide):behindInMarks op b=false:=by
 have e1:(op==CmpOp.In)=false:=by cases op <;> first | rfl | exact absurd rfl h
 have e2:(op==CmpOp.NotIn)=false:=by cases op <;> first | rfl | exact absurd rfl h2
 cases b <;> simp [behindInMarks,e1,e2]
theorem gX {op:CmpOp}{r:R2}(ho:jk X (compareOp op) r)(ha:PE X a ta)(hb:PE X b tb)(hm:behindInMarks op b=false):PE X (.Compare a [op] [b] pos) (Su r ta tb):=by
 intro pins s σ H Q I h
 exact wpAny_Compare1 (P0 ha hb I h fun v u s2 x y H2 I2 rx ry q=>ho pins s2 σ H2 x y v u Q I2 rx ry q) hm
inductive GJ (Q:(Bool->Hp->Prop))(x:V)(H' :Hp):Prop where
 | mk (k:_) (_:x=.bl k) (_:Q k H'):GJ Q x H'
def NT (t:TE):TT:=fun σ H Q=>t σ H fun x H' =>GJ Q x H'
theorem aR {op:CmpOp}{r:R2}(ho:jk X (compareOp op) r)(ha:PE X a ta)(hb:PE X b tb)(hm:behindInMarks op b=false):PT X (.Compare a [op] [b] pos) (NT (Su r ta tb)):=by
 intro pins s σ H Q I h
 refine wpAny_isTrue_Compare1 (bX (ha pins s σ H _ I h) fun v s1 ⟨x,H1,I1,r1,q1⟩=>bX (hb pins s1 σ H1 _ I1 q1) fun u s2 ⟨y,H2,I2,r2,q2⟩=>
  bX (ho pins s2 σ H2 x y v u _ I2 r1 r2 q2) fun c s3 ⟨z,H3,I3,r3,k,e,q3⟩=>?_) hm
 subst e
 cases r3
 exact wpAny_truthy_bool ⟨H3,I3,q3⟩
def P2 (r r' :R2)(ta tb tc:TE):TE:=fun σ H Q=>ta σ H fun x H1=>tb σ H1 fun y H2=>r x y H2 fun z H3=>∃k,z=.bl k/\
 (if k=true then tc σ H3 fun w' H4=>r' y w' H4 Q else Q (.bl false) H3)
theorem GK {op op' :CmpOp}{r r' :R2}(ho:jk X (compareOp op) r)(Lc :jk X (compareOp op') r')(ha:PE X a ta)(hb:PE X b tb)(hc:PE X c tc)
  (hm:lastMarks [op,op'] [b,c]=false:=by with_unfolding_all rfl):PT X (.Compare a [op,op'] [b,c] pos) (NT (P2 r r' ta tb tc)):=by
 intro pins s σ H Q I h
 refine isTrue_chain (bX (ha pins s σ H _ I h) fun v s1 ⟨x,H1,I1,r1,q1⟩=>test_link (bX (hb pins s1 σ H1 _ I1 q1) fun u s2 ⟨y,H2,I2,r2,q2⟩=>
  bX (ho pins s2 σ H2 x y v u _ I2 r1 r2 q2) fun d s3 ⟨z,H3,I3,r3,k,e,q3⟩=>?_)) hm
 subst e
 cases r3
 refine wpAny_truthy_bool ?_
 cases k with
 | false=>
  obtain ⟨k',e',q'⟩:=q3
  cases e'
  exact ite_ff ⟨H3,I3,q'⟩
 | true=>
  refine ite_tt (test_last (bX (hc pins s3 σ H3 _ I3 q3) fun w' s4 ⟨z',H4,I4,r4,q4⟩=>bX (Lc pins s4 σ H4 y z' u w' _ I4 r2 r4 q4) fun d' s5 ⟨z2,H5,I5,r5,k2,e2,q5⟩=>?_))
  subst e2
  cases r5
  exact wpAny_truthy_bool ⟨H5,I5,q5⟩
theorem nT:(sizeLine:Nat) < 2^63:=by rw [sizeLine_eq];decide
theorem cu:jk X (binaryOp .Add) (fun x y H Q=>∃i j,x=.str i/\y=.str j/\i.length+j.length<=sizeLine/\Q (.str (i++j)) H):=by
 intro pins s σ H x y v u Q I rx ry h
 obtain ⟨i,j,rfl,rfl,hz,q⟩:=h
 obtain ⟨t,rfl⟩:=rx
 obtain ⟨t',rfl⟩:=ry
 exact add_str (fun t' tk=>⟨.str (i++j),H,I.tok _,⟨_,rfl⟩,q⟩) hz
theorem vals1 {x:V}{us:ο}(r:Vals [x] us):∃u,us=[u]/\RelV x u:=by
 cases r with
 | cons r1 r2=>cases r2;exact ⟨_,rfl,r1⟩
theorem vals2 {x y:V}{us:ο}(r:Vals [x,y] us):∃u w',us=[u,w']/\RelV x u/\RelV y w' :=by
 cases r with
 | cons r1 r2=>
  cases r2 with
  | cons r3 r4=>cases r4;exact ⟨_,_,rfl,r1,r3⟩
theorem uL:ft X (.builtin "abs") (fun xs H Q=>∃i,xs=[.int i]/\Q (.int (if i < 0 then -i else i)) H):=by
 intro pins s σ H xs us Q I r h
 obtain ⟨i,rfl,q⟩:=h
 obtain ⟨u,rfl,t,rfl⟩:=vals1 r
 exact call_abs_int fun u tk=>⟨.int (if i < 0 then -i else i),H,I.tok _,⟨_,rfl⟩,q⟩
theorem AW (hc:X.calm=true):ft X (.builtin "min") (fun xs H Q=>∃i j,xs=[.int i,.int j]/\Q (.int (if j < i then j else i)) H):=by
 intro pins s σ H xs us Q I r h
 obtain ⟨i,j,rfl,q⟩:=h
 obtain ⟨u,w',rfl,⟨t,rfl⟩,⟨t',rfl⟩⟩:=vals2 r
 refine min_two_ints (I.ok.hd hc) fun h' tk k=>⟨_,H,I.kept k,?_,q⟩
 by_cases hj:j < i
 ·rw [if_pos hj,if_pos hj];exact ⟨_,rfl⟩
 ·rw [if_neg hj,if_neg hj];exact ⟨_,rfl⟩
theorem qY:ft X (.type "int") (fun xs H Q=>(∃i,xs=[.int i]/\Q (.int i) H)\/∃k,xs=[.bl k]/\Q (.int (if k then 1 else 0)) H):=by
 intro pins s σ H xs us Q I r h
 rcases h with ⟨i,rfl,q⟩ | ⟨k,rfl,q⟩
 ·obtain ⟨u,rfl,t,rfl⟩:=vals1 r
  exact call_int_int ⟨.int i,H,I,⟨_,rfl⟩,q⟩
 ·obtain ⟨u,rfl,r1⟩:=vals1 r
  cases r1
  exact call_int_bool ⟨.int (if k then 1 else 0),H,I.tok _,⟨_,rfl⟩,q⟩
theorem cf:ft X (.type "str") (fun xs H Q=>∃i,xs=[.int i]/\i.natAbs.log2 < 1920/\Q (.str (toString i)) H):=by
 intro pins s σ H xs us Q I r h
 obtain ⟨i,rfl,hz,q⟩:=h
 obtain ⟨u,rfl,t,rfl⟩:=vals1 r
 exact PySem.P.str_of_int hz ⟨.str _,H,I.tok _,⟨_,rfl⟩,q⟩
end
end L2
namespace L2
open PySem PySem.Spec PyProof.Rows
structure xo (h:Heap)(x dx C:Addr)(mA:ι):Prop where
 obj:h.get? x=some (PySem.W.instObj C dx)
 ns:h.Ns1 dx mA
 ne:dx≠x
theorem AX {h:Heap}{dx:Addr}{mA:ι}(n:h.Ns1 dx mA):∃od,h.get? dx=some od/\∀name,PySem.W.lookIn name od=some (mA name):=by
 obtain ⟨o,es,ep,ho,hd,hk,_,hm⟩:=n
 refine ⟨o,ho,fun name=>?_⟩
 have e:=hm name
 unfold nsFind findBy at e
 rw [<- Array.find?_toList] at e
 unfold PySem.W.lookIn
 rw [hd]
 dsimp only
 split
 ·rename_i y q
  rw [q] at e
  exact congrArg some e
 ·rename_i q
  rw [q] at e
  have a:es.toList.any (·.refKey)=false:=by
   rw [List.any_eq_false]
   intro y hy
   obtain ⟨z,t,P4⟩:=hk y (Array.mem_toList_iff.mp hy)
   simp [DictEntry.refKey,P4]
  have a' :¬ es.toList.any (·.refKey)=true:=by rw [a];exact aaX
  rw [if_neg a']
  exact congrArg some e
theorem xo.look {h:Heap}{x dx C:Addr}{mA:ι}(I:xo h x dx C mA):∃od,PySem.W.InstAt h x (PySem.W.instObj C dx) C (some od)/\∀name,PySem.W.lookIn name od=some (mA name):=
 let ⟨od,ho,hl⟩:=AX I.ns
 ⟨od,⟨I.obj,rfl,rfl,ho⟩,hl⟩
section
variable {prog:Program}{w:World}{A:Around}{E:γ}{s:Shared}{K:Frag}{x dx C f:Addr}{mA:ι}{name:Str}{v:Value}
theorem get_map {expr:Bool}{Q:γ}(X:K.In s.heap)(I:xo s.heap x dx C mA)(hg:PySem.W.plainGet K C name=true)(hh:PySem.W.hasDictIn K C=true)
  (ha:PySem.W.findIn K (.ref C) name=some none) (hv:mA name=some v) (P5 :PySem.W.handedIn v=true) (h:Q v {s with toks:=s.toks+1}):
  wpAny (model prog w) A (getAttr (.ref x) name expr) Q E s:=by
 obtain ⟨od,J,hl⟩:=I.look
 exact PySem.W.get_value X J (PySem.W.plainGet_of hg).1 (PySem.W.findObj_own hh ha rfl (by rw [hl,hv])) P5 h
theorem GL {pl:Sem Bool}{Q:Value×List Value->Shared->Prop}(X:K.In s.heap)(I:xo s.heap x dx C mA)(hg:PySem.W.plainGet K C name=true)
  (hf:PySem.W.findIn K (.ref C) name=some (some (.ref f))) (ht:PySem.W.isFn K (.ref f)=true) (hv:mA name=none) (h:Q (.ref f,[.ref x]) s):
  wpAny (model prog w) A (getMethod (.ref x) name pl) Q E s:=by
 obtain ⟨od,J,hl⟩:=I.look
 exact PySem.W.method_fn X J (PySem.W.plainGet_of hg).1 (PySem.W.plainGet_of hg).2 hf (beq_iff_eq.mp ht) (by show (PySem.W.lookIn name od).map (·.isSome)=some false;rw [hl,hv];rfl) h
theorem Lg {ns:ρ}{Q:Unit->Shared->Prop}(X:K.In s.heap)(I:xo s.heap x dx C mA)
  (hs:PySem.W.findIn K (.ref C) "__setattr__"=some (some (.builtin "object.__setattr__"))) (hp:PySem.W.plainOver K C=true) (ht:PySem.W.takerIn K C name=some none) (hh:PySem.W.hasDictIn K C=true)
  (hw:PySem.Within mA ns) (hsz:ns.length<=sizeLine)
  (h:∀h',xo h' x dx C (fun y=>if y=name then some v else mA y)->Heap.SameBut dx s.heap h' ->Q () {s with heap:=h',toks:=s.toks+2}):
  wpAny (model prog w) A (setAttr (.ref x) name v) Q E s:=by
 obtain ⟨od,J,hl⟩:=I.look
 refine PySem.W.set_plain X J hs (PySem.W.osa_open (s:={s with toks:=s.toks+1}) (r:=none) X J hp ht fun b=>?_)
 obtain ⟨cd,hc,NK⟩:=PySem.W.any_some hh
 have hx:s.heap.get? x=some ⟨.ref C,some dx,.plain, #[]⟩:=I.obj
 refine wpAny_bind (wpAny_pure (wpAny_bind (wpAny_bind (wpAny_loadPart hx (wpAny_bind (PySem.W.Looks.here (s:={s with toks:=s.toks+1}) (PySem.W.looks_clsIn X hc) ?_))))))
 rw [NK]
 refine wpAny_pure (a:=some dx) (wpAny_bind (wpAny_pure (wpAny_bind ?_)))
 refine wpAny_nsSet1 (s:={s with toks:=s.toks+1}) I.ns fun h' NU Kz=>?_
 obtain ⟨oD,esD,epD,hoD,hdD,hcD⟩:=NU.count (PySem.Within.cons name v hw)
 refine wpAny_bind (wpAny_lookBehind hoD (by rw [hdD];exact pastItsLine_dict (aam hcD (by rw [abf];omega))) ?_)
 exact wpAny_pure (h _ ⟨(Kz.2 _ (abb I.ne)).trans I.obj,NU,I.ne⟩ Kz)
theorem GN {R:Ξ}{vs:ο}{kw:Υ}(X:K.In s.heap)(hm:PySem.W.makesIn K C=true)
  (hi:PySem.W.findIn K (.ref C) "__init__"=some (some (.ref f))) (hf:PySem.W.typeIn K (.ref f)=some (.type "function"))
  (h:codeAny (model prog w) (A.under (.builtin "type.__call__" ⟨.ref C::vs,kw⟩)) (.call (.ref f) ⟨.ref (s.heap.objs.size+1)::vs,kw⟩) (PySem.W.InitBack (s.heap.objs.size+1) R)
   {s with heap:=(s.heap.push PySem.W.emptyDict).push (PySem.W.instObj C s.heap.objs.size)}):
  codeAny (model prog w) A (.call (.ref C) ⟨vs,kw⟩) R s:=by
 obtain ⟨hh,g,d,t,os⟩:=s
 exact PySem.W.make_core (PySem.W.makes_of X hm) (PySem.W.looks_findIn X hi) (fun self=>PySem.W.bind_fn X self hf) (.inl rfl) h
theorem AY {R:Ξ}(X:K.In s.heap)(hm:PySem.W.makesIn K C=true)
  (hi:PySem.W.findIn K (.ref C) "__init__"=some (some (.builtin "object.__init__")))
  (hb:∀self,PySem.W.Looks (model prog w) s.heap (bindSpecial (.builtin "object.__init__") self) (.builtin "object.__init__",[self]))
  (h:codeAny (model prog w) (A.under (.builtin "type.__call__" ⟨[.ref C],[]⟩)) (.call (.builtin "object.__init__") ⟨[.ref (s.heap.objs.size+1)],[]⟩) (PySem.W.InitBack (s.heap.objs.size+1) R)
   {s with heap:=(s.heap.push PySem.W.emptyDict).push (PySem.W.instObj C s.heap.objs.size)}):
  codeAny (model prog w) A (.call (.ref C) ⟨[],[]⟩) R s:=by
 obtain ⟨hh,g,d,t,os⟩:=s
 exact PySem.W.make_core (PySem.W.makes_of X hm) (PySem.W.looks_findIn X hi) hb (.inr ⟨rfl,rfl⟩) h
end
def gw (f:Str)(v:V):List (Str×V)->List (Str×V)
 | []=>[(f,v)]
 | (g,x)::r=>if g=f then (g,v)::r else (g,x)::gw f v r
theorem lW (f g:Str)(v:V):∀fs:List (Str×V),(gw f v fs).lookup g=if g=f then some v else fs.lookup g
 | []=>by
  show abW g [(f,v)]=_
  by_cases h:g=f
  ·have hb:(g==f)=true:=beq_iff_eq.mpr h
   simp only [abW,hb,if_pos h]
  ·have hb:(g==f)=false:=beq_eq_false_iff_ne.mpr h
   simp only [abW,hb,if_neg h]
 | (k,x)::r=>by
  have ih:=lW f g v r
  rw [show gw f v ((k,x)::r)=(if k=f then (k,v)::r else (k,x)::gw f v r) from rfl]
  by_cases hk:k=f
  ·rw [if_pos hk]
   by_cases h:g=k
   ·have hb:(g==k)=true:=beq_iff_eq.mpr h
    simp only [abW,hb,if_pos (h.trans hk)]
   ·have hb:(g==k)=false:=beq_eq_false_iff_ne.mpr h
    simp only [abW,hb,if_neg (fun e:g=f=>h (e.trans hk.symm))]
  ·rw [if_neg hk]
   by_cases h:g=k
   ·have hb:(g==k)=true:=beq_iff_eq.mpr h
    simp only [abW,hb,if_neg (fun e:g=f=>hk (h.symm.trans e))]
   ·have hb:(g==k)=false:=beq_eq_false_iff_ne.mpr h
    simp only [abW,hb]
    exact ih
theorem kJ (f:Str)(v:V):∀fs:List (Str×V),f∈(gw f v fs).map (·.1)/\∀g,g∈fs.map (·.1)->g∈(gw f v fs).map (·.1)
 | []=>⟨by simp [gw],fun g h=>by simp at h⟩
 | (k,x)::r=>by
  obtain ⟨i1,i2⟩:=kJ f v r
  rw [show gw f v ((k,x)::r)=(if k=f then (k,v)::r else (k,x)::gw f v r) from rfl]
  by_cases hk:k=f
  ·rw [if_pos hk]
   subst hk
   exact ⟨by simp,fun g h=>by simpa using h⟩
  ·rw [if_neg hk]
   refine ⟨?_,fun g h=>?_⟩
   ·rw [aaR]
    exact aaE _ i1
   ·rw [aaR] at h ⊢
    rcases aa8.mp h with e | e
    ·exact aa8.mpr (.inl e)
    ·exact aaE _ (i2 g e)
theorem lX (f:Str)(v:V):∀fs:List (Str×V),(gw f v fs).length<=fs.length+1
 | []=>by simp [gw]
 | (k,x)::r=>by
  have ih:=lX f v r
  rw [show gw f v ((k,x)::r)=(if k=f then (k,v)::r else (k,x)::gw f v r) from rfl]
  by_cases hk:k=f
  ·rw [if_pos hk,abf,abf];omega
  ·rw [if_neg hk,abf,abf];omega
theorem gT.some_of {v:V}{o:Option Value}(r:gT (some v) o):∃u,o=some u/\RelV v u:=by
 cases o with
 | none=>exact (show False from r).elim
 | some u=>exact ⟨u,rfl,r⟩
theorem gT.none_of {o:Option Value}(r:gT none o):o=none:=by
 cases o with
 | none=>rfl
 | some u=>exact (show False from r).elim
theorem AZ {v:V}{u:Value}(r:RelV v u):PySem.W.handedIn u=true:=by
 cases v with
 | cI=>cases (show u=Value.none from r);rfl
 | bl b=>cases (show u=Value.bool b from r);rfl
 | int i=>obtain ⟨t,e⟩:=(show ∃t,u=Value.int i t from r);cases e;rfl
 | str x=>obtain ⟨t,e⟩:=(show ∃t,u=Value.str x t from r);cases e;rfl
 | byt b=>obtain ⟨t,e⟩:=(show ∃t,u=Value.bytes b t from r);cases e;rfl
 | Py b=>obtain ⟨t,e⟩:=(show ∃t,u=Value.float b t from r);cases e;rfl
 | ref a=>cases (show u=Value.ref a from r);rfl
 | ty n=>cases (show u=Value.type n from r);rfl
section
variable {P:Program}{w:World}{H H' :Hp}{h h' :Heap}{a C dx:Addr}{fs fs' :List (Str×V)}
theorem mY (bL:ji P w H h)(e:H a=some (.ins C dx fs)):∃mA,xo h a dx C mA/\(∀f,gT (fs.lookup f) (mA f))/\PySem.Within mA (fs.map (·.1))/\fs.length<=1000/\H dx=some (.own a):=by
 obtain ⟨d,z,ne,ob,mA,n,r,q⟩:=(show cy P w H h a (.ins C dx fs) from bL a _ e)
 exact ⟨mA,⟨ob,n,ne⟩,r,q,z,d⟩
end
structure uM (K:Frag)(C:Addr):Prop where
 pg:PySem.W.plainGet K C Str.empty=true
 hd:PySem.W.hasDictIn K C=true
 po:PySem.W.plainOver K C=true
 sa:PySem.W.findIn K (.ref C) "__setattr__"=some (some (.builtin "object.__setattr__"))
theorem uM.get {K:Frag}{C:Addr}(c:uM K C)(f:Str):PySem.W.plainGet K C f=true:=c.pg
def fV (K:Frag)(C:Addr)(f:Str):Prop:=PySem.W.findIn K (.ref C) f=some none
theorem fV.Tp {K:Frag}{C:Addr}{f:Str}(n:fV K C f):PySem.W.takerIn K C f=some none:=by
 unfold PySem.W.takerIn
 rw [show PySem.W.findIn K (.ref C) f=some none from n]
 rfl
structure Meth (K:Frag)(C:Addr)(m:Str)(f:Addr):Prop where
 at_:PySem.W.findIn K (.ref C) m=some (some (.ref f))
 fn:PySem.W.isFn K (.ref f)=true
 kp:keepIn K (.ref f)=true
section
variable {X:Cx}{pins:ε}{σ:St}{H:Hp}{s:Shared}{a C dx:Addr}{fs:List (Str×V)}{f:Str}{v:V}{A:Around}{E:γ}
theorem xp {b:Bool}{Q:γ}(I:Inv X pins σ H s)(e:H a=some (.ins C dx fs))(c:uM X.K C)(n:fV X.K C f)(l:fs.lookup f=some v)
  (h:∀u s',Inv X pins σ H s' ->RelV v u->Q u s'):wpAny (model X.prog X.w) A (getAttr (.ref a) f b) Q E s:=by
 obtain ⟨mA,O,r,_,_,_⟩:=mY I.bL e
 obtain ⟨u,hu,ru⟩:=gT.some_of (v:=v) (o:=mA f) (by rw [<- l];exact r f)
 exact get_map I.ju O (c.get f) c.hd n hu (AZ ru) (h u _ (I.tok _) ru)
theorem jx {m:Str}{g:Addr}{pl:Sem Bool}{Q:Value×List Value->Shared->Prop}(I:Inv X pins σ H s)(e:H a=some (.ins C dx fs))(c:uM X.K C)(k:Meth X.K C m g)(l:fs.lookup m=none)
  (h:Q (.ref g,[.ref a]) s):wpAny (model X.prog X.w) A (getMethod (.ref a) m pl) Q E s:=by
 obtain ⟨mA,O,r,_,_,_⟩:=mY I.bL e
 have hn:mA m=none:=gT.none_of (by rw [<- l];exact r m)
 exact GL I.ju O (c.get m) k.at_ k.fn hn h
theorem xq {y:V}{u:Value}{Q:Unit->Shared->Prop}(I:Inv X pins σ H s)(e:H a=some (.ins C dx fs))(c:uM X.K C)(n:fV X.K C f)(hl:fs.length < 1000)(ry:RelV y u)
  (h:∀s',Inv X pins σ (upd H a (.ins C dx (gw f y fs))) s' ->Q () s'):wpAny (model X.prog X.w) A (setAttr (.ref a) f u) Q E s:=by
 obtain ⟨mA,O,r,wi,_,ho⟩:=mY I.bL e
 have hz:(fs.map (·.1)).length<=sizeLine:=by rw [ir,sizeLine_eq];omega
 refine Lg I.ju O c.sa c.po n.Tp c.hd wi hz fun h' O' sb=>h _ ?_
 have hd:∃o,h'.get? dx=some o:=let ⟨o,_,_,e',_⟩:=O'.ns;⟨o,e'⟩
 refine I.write (x:=a) (e:=dx) (by rw [e];exact True.intro) (.inr ho) (fun b q hb z=>(sb.2 b hb).trans z) hd ?_
 refine ⟨by rw [aq O.ne];exact ho,?_,O.ne,O'.obj,_,O'.ns,fun g=>?_,fun g hg=>?_⟩
 ·have:=lX f y fs;omega
 ·show gT ((gw f y fs).lookup g) (if g=f then some u else mA g)
  rw [lW]
  by_cases q:g=f
  ·rw [if_pos q,if_pos q];exact ry
  ·rw [if_neg q,if_neg q];exact r g
 ·by_cases q:g=f
  ·rw [q];exact (kJ f y fs).1
  ·refine (kJ f y fs).2 g (wi g fun z=>hg ?_)
   show (if g=f then some u else mA g)=none
   rw [if_neg q];exact z
theorem Inv.made (I:Inv X pins σ H s):Inv X pins σ (upd (upd H s.heap.objs.size (.own (s.heap.objs.size+1))) (s.heap.objs.size+1) (.ins C s.heap.objs.size []))
  {s with heap:=(s.heap.push PySem.W.emptyDict).push (PySem.W.instObj C s.heap.objs.size)}:=by
 have e1:(s.heap.push PySem.W.emptyDict).get? s.heap.objs.size=some PySem.W.emptyDict:=Heap.get?_push_size s.heap rfl
 have e2:((s.heap.push PySem.W.emptyDict).push (PySem.W.instObj C s.heap.objs.size)).get? (s.heap.objs.size+1)=some (PySem.W.instObj C s.heap.objs.size):=by
  have:=Heap.get?_push_size (s.heap.push PySem.W.emptyDict) (o:=PySem.W.instObj C s.heap.objs.size) rfl
  rwa [Heap.size_push] at this
 have e3:(s.heap.push PySem.W.emptyDict).Ns s.heap.objs.size (fun _=>none):=⟨PySem.W.emptyDict, #[],_,e1,rfl,(fun e he=>absurd he (by simp)),fun _=>rfl⟩
 have I1:=I.laid (a:=s.heap.objs.size) (o:=.own (s.heap.objs.size+1)) (h' :=s.heap.push PySem.W.emptyDict) (t' :=s.toks) (fun b u q=>Heap.get?_push_of_some _ q) (aas _) ⟨_,e1⟩
 refine I1.laid (a:=s.heap.objs.size+1) (o:=.ins C s.heap.objs.size []) (t' :=s.toks) (fun b u q=>Heap.get?_push_of_some _ q) (ah1 (Heap.size_push _ _)) ?_
 have ne:s.heap.objs.size≠s.heap.objs.size+1:=aa' (abv _)
 refine ⟨by rw [aq ne,aj],abj _,ne,e2,fun _=>none,(Heap.Ns1.of_empty e3).at fun o q=>Heap.get?_push_of_some _ q,fun _=>True.intro,fun y hy=>absurd rfl hy⟩
theorem Lh {prog:Program}{w:World}{env:Env}{e:Expr}{f:Str}{pos:Pos}{s:Shared}{Q:γ}(hb:attributeBase e f env (eval e env)=eval e env)
  (h:wpAny (model prog w) A (eval e env) (fun o s₁=>wpAny (model prog w) A (getAttr o f true) Q E s₁) E s):wpAny (model prog w) A (eval (.Attribute e f pos) env) Q E s:=
 Attribute_any_ h (by rw [arm_eval_Attribute,hb])
end
inductive NV (K:Frag)(f:Str)(Q:VK)(x:V)(H1:Hp):Prop where
 | mk (a C dx fs v:_) (_:x=.ref a) (_:H1 a=some (.ins C dx fs)) (_:uM K C) (_:fV K C f) (_:fs.lookup f=some v) (_:Q v H1):NV K f Q x H1
def aao (K:Frag)(ta:TE)(f:Str):TE:=fun σ H Q=>ta σ H fun x H1=>NV K f Q x H1
inductive NW (K:Frag)(f:Str)(D:Ends)(σ:St)(y:V)(x:V)(H2:Hp):Prop where
 | mk (a C dx fs:_) (_:x=.ref a) (_:H2 a=some (.ins C dx fs)) (_:uM K C) (_:fV K C f) (_:fs.length < 1000) (_:D.nx σ (upd H2 a (.ins C dx (gw f y fs)))):NW K f D σ y x H2
def aap (K:Frag)(ta tv:TE)(f:Str):TS:=fun D σ H=>tv σ H fun y H1=>ta σ H1 fun x H2=>NW K f D σ y x H2
section
variable {X:Cx}{o e value:Expr}{f:Str}{pos pos' r_:Pos}{ta tv:TE}
theorem cv (he:PE X e ta)(hb:attributeBase e f X.env (eval e X.env)=eval e X.env):PE X (.Attribute e f pos) (aao X.K ta f):=by
 intro pins s σ H Q I h
 refine Lh hb (bX (he pins s σ H _ I h) fun u s1 ⟨x,H1,I1,rx,a,C,dx,fs,v,ex,ea,c,n,l,q⟩=>?_)
 subst ex
 obtain rfl:u=Value.ref a:=rx
 exact xp I1 ea c n l fun u' s2 I2 ru=>⟨v,H1,I2,ru,q⟩
theorem se (ha:PE X o ta)(hv:PE X value tv)(hs:swapsWith value (some (.Attribute o f pos')) pos.line X.env=pure false):PS X (.Assign [.Attribute o f pos'] value pos) (aap X.K ta tv f):=by
 intro pins s σ H D I h
 refine plainObj_wpAny_Assign_Attribute (bX (hv pins s σ H _ I h) fun u s1 ⟨y,H1,I1,ry,q⟩=>bX (ha pins s1 σ H1 _ I1 q) fun ov s2 ⟨x,H2,I2,rx,a,C,dx,fs,ex,ea,c,n,l,q2⟩=>?_) hs
 subst ex
 obtain rfl:ov=Value.ref a:=rx
 exact xq I2 ea c n l ry fun s3 I3=>⟨σ,_,I3,q2⟩
end
section
variable {X:Cx}{pins:ε}{σ:St}{H:Hp}{s:Shared}{A:Around}{E:γ}{Q:γ}{c:Value}{b:Bool}
inductive kK (K:Frag)(H:Hp):V->Value->Prop where
 | cI:kK K H .cI (.type "NoneType")
 | bl (x:Bool):kK K H (.bl x) (.type "bool")
 | int (i:Int):kK K H (.int i) (.type "int")
 | str (x:Str):kK K H (.str x) (.type "str")
 | Py (x:UInt64):kK K H (.Py x) (.type "float")
 | lst {a:Addr} {xs:η} (e:H a=some (.lst xs)):kK K H (.ref a) (.type "list")
 | fj {a:Addr} {o:Obj} {xs:η} (e:H a=some (.fj o (.lst xs))):kK K H (.ref a) (.type "list")
 | tup {a:Addr} {xs:η} (e:H a=some (.tup xs)):kK K H (.ref a) (.type "tuple")
 | dK {a:Addr} {kvs:δ} (e:H a=some (.dK kvs)):kK K H (.ref a) (.type "dict")
 | dT {a:Addr} {kvs:ψ} (e:H a=some (.dT kvs)):kK K H (.ref a) (.type "dict")
 | ins {a C dx:Addr} {fs:List (Str×V)} (e:H a=some (.ins C dx fs)) (cl:uM K C) (ha:PySem.W.findIn K (.ref C) "__class__"=some (some (.builtin "object.__class__")))
   (hn:PySem.W.specialIn K (.builtin "object.__class__") "__get__"=some (some (.builtin "getset_descriptor.__get__"))) (htk:PySem.W.takesIn K (.builtin "object.__class__")=some true)
   (hm:PySem.W.mroIn K C (.type "object")=some true):kK K H (.ref a) (.ref C)
theorem A_ {x:V}{u t:Value}(I:Inv X pins σ H s)(rx:RelV x u)(ty:kK X.K H x t)(e:PySem.W.kitOne X.K t c=some b)(h:∀tk,Q (.bool b) {s with toks:=tk}):
  wpAny (model X.prog X.w) A (call (.builtin "isinstance") [u,c]) Q E s:=by
 cases ty with
 | cI=>cases (show u=Value.none from rx);exact PySem.W.kia_one PySem.W.kitx_none I.ju True.intro e (fun z=>nomatch z) h
 | bl y=>cases (show u=Value.bool y from rx);exact PySem.W.kia_one PySem.W.kitx_bool I.ju True.intro e (fun z=>nomatch z) h
 | int i=>obtain ⟨t,q⟩:=(show ∃t,u=Value.int i t from rx);cases q;exact PySem.W.kia_one PySem.W.kitx_int I.ju True.intro e (fun z=>nomatch z) h
 | str y=>obtain ⟨t,q⟩:=(show ∃t,u=Value.str y t from rx);cases q;exact PySem.W.kia_one PySem.W.kitx_str I.ju True.intro e (fun z=>nomatch z) h
 | Py y=>obtain ⟨t,q⟩:=(show ∃t,u=Value.float y t from rx);cases q;exact PySem.W.kia_one PySem.W.kitx_float I.ju True.intro e (fun z=>nomatch z) h
 | @lst a xs ea=>
  cases (show u=Value.ref a from rx)
  obtain ⟨_,_,n,_,h1⟩:=(show cy X.prog X.w H s.heap a (.lst xs) from I.bL a _ ea)
  exact PySem.W.kia_one PySem.W.kitx_list I.ju ⟨_,h1,rfl⟩ e (fun z=>nomatch z) h
 | @fj a ob xs ea=>
  cases (show u=Value.ref a from rx)
  obtain ⟨_,_,_,n,_,h1⟩:=(show cy X.prog X.w H s.heap a (.fj ob (.lst xs)) from I.bL a _ ea)
  exact PySem.W.kia_one PySem.W.kitx_list I.ju ⟨_,h1,rfl⟩ e (fun z=>nomatch z) h
 | @tup a xs ea=>
  cases (show u=Value.ref a from rx)
  obtain ⟨_,_,_,p⟩:=(show cy X.prog X.w H s.heap a (.tup xs) from I.bL a _ ea)
  obtain ⟨o,h1,h2,_⟩:=p
  exact PySem.W.kia_one PySem.W.kitx_tuple I.ju ⟨o,h1,h2⟩ e (fun z=>nomatch z) h
 | @dK a kvs ea=>
  cases (show u=Value.ref a from rx)
  obtain ⟨_,_,vs,_,p⟩:=(show cy X.prog X.w H s.heap a (.dK kvs) from I.bL a _ ea)
  obtain ⟨o,es,ep,h1,h2,_⟩:=p
  exact PySem.W.kia_one PySem.W.kitx_dict I.ju ⟨o,h1,h2.1⟩ e (fun z=>nomatch z) h
 | @dT a kvs ea=>
  cases (show u=Value.ref a from rx)
  obtain ⟨_,_,xs,_,o,es,ep,h1,h2,_⟩:=(show cy X.prog X.w H s.heap a (.dT kvs) from I.bL a _ ea)
  exact PySem.W.kia_one PySem.W.kitx_dict I.ju ⟨o,h1,h2.1⟩ e (fun z=>nomatch z) h
 | @ins a C dx fs ea cl ha hn htk hm=>
  cases (show u=Value.ref a from rx)
  obtain ⟨mA,O,_⟩:=mY I.bL ea
  obtain ⟨od,J,_⟩:=O.look
  exact PySem.W.kia_one (PySem.W.kitx_own (cl.get _) cl.hd ha hn htk hm) I.ju J e (fun z=>nomatch z) h
end
end L2
namespace L2
open PySem PySem.Spec PyProof.Rows
structure cg (k:Nat)(A:Around):Prop where
 hd:A.handled=none
 dp:A.depth+3*k+5 < recursionLimit
 un:A.units+16*k+200 < cLine
theorem cg.mono {j k:Nat}{A:Around}(r:cg k A)(h:j<=k):cg j A:=⟨r.hd,by have:=r.dp;omega,by have:=r.un;omega⟩
theorem cg.deeper {k:Nat}{A:Around}(r:cg (k+1) A)(env:Env):cg k (A.deeper env):=
 ⟨r.hd,by have:=r.dp;show A.depth+1+3*k+5 < _;omega,by have:=r.un;show A.units+3+16*k+200 < _;omega⟩
theorem xr {A:Around}{C:Addr}{us:ο}{kw:Υ}:(A.under (.builtin "type.__call__" ⟨.ref C::us,kw⟩)).depth=A.depth+1:=by
 first | rfl | simp [Around.under,Code.weight,Code.isCreation,Code.isGuard,Code.isCaller,Code.frames,Code.isFrame,guardIds]
theorem xt {A:Around}{C:Addr}{us:ο}{kw:Υ}:(A.under (.builtin "type.__call__" ⟨.ref C::us,kw⟩)).units=A.units+1:=by
 first | rfl | simp [Around.under,Code.cUnits,Code.frames,Code.isFrame]
theorem cg.make {k:Nat}{A:Around}(r:cg (k+1) A)(C:Addr)(us:ο)(kw:Υ):cg k (A.under (.builtin "type.__call__" ⟨.ref C::us,kw⟩)):=
 ⟨r.hd,by have:=r.dp;rw [xr];omega,by have:=r.un;rw [xt];omega⟩
theorem cg.depth {k:Nat}{A:Around}(r:cg k A):A.depth < recursionLimit:=by have:=r.dp;omega
theorem cg.units {k:Nat}{A:Around}(r:cg k A):A.units+64 < cLine:=by have:=r.un;omega
def ed:TA:=fun _ H Q=>Q [] H
def NX (ta:TE)(tr:TA):TA:=fun σ H Q=>ta σ H fun x H1=>tr σ H1 fun xs H2=>Q (x::xs) H2
section
variable {X:Cx}{e:Expr}{es:χ}{te:TE}{t:TA}{pos:Pos}
theorem aa:PA X [] ed:=fun _ _ _ _ H Q I h=>Calls.spliced_nil ⟨[],H,I,.nil,h⟩
theorem Li (ha:PE X e te)(hr:PA X es t)(hs:starEach (e::es) X.env=(false,eval e X.env)::starEach es X.env:=by rfl):PA X (e::es) (NX te t):=by
 intro pos pins s σ H Q I h
 rw [hs]
 show wpAny _ _ (spliced ((false,eval e X.env)::backTo pos (starEach es X.env))) _ _ s
 refine Calls.spliced_cons (bX (ha pins s σ H _ I h) fun u s1 ⟨x,H1,I1,r1,q1⟩=>?_)
 exact bX (hr pos pins s1 σ H1 _ I1 q1) fun us s2 ⟨xs,H2,I2,r2,q2⟩=>⟨x::xs,H2,I2,.cons r1 r2,q2⟩
def aaq (t:TA):TE:=fun σ H Q=>t σ H fun xs H1=>xs.length<=sizeLine/\∀p,H1 p=none->Q (.ref p) (upd H1 p (.tup xs))
def aar (t:TA):TE:=fun σ H Q=>t σ H fun xs H1=>xs.length<=sizeLine/\∀p,H1 p=none->Q (.ref p) (upd H1 p (.lst xs))
theorem a_ {x1}(h:PA X es t):PE X (.Tuple es x1 pos) (aaq t):=by
 intro pins s σ H Q I hq
 refine wpAny_Tuple_spliced (bX (h pos pins s σ H _ I hq) fun us s1 ⟨xs,H1,I1,r,z,q⟩=>⟨by rw [<- r.length];exact z,?_⟩)
 have hf:H1 s1.heap.objs.size=none:=I1.bL.fresh (aas _)
 refine ⟨.ref s1.heap.objs.size,upd H1 s1.heap.objs.size (.tup xs),I1.laid (t' :=s1.toks) (fun b u e=>Heap.get?_push_of_some _ e) (aas _) ?_,rfl,q _ hf⟩
 exact ⟨z,us,r,⟨_,Heap.get?_push_size _ rfl,rfl,_,rfl⟩⟩
theorem cD (h:PA X es t):PE X (.List es pos) (aar t):=by
 intro pins s σ H Q I hq
 refine wpAny_List_spliced (bX (h pos pins s σ H _ I hq) fun us s1 ⟨xs,H1,I1,r,z,q⟩=>⟨by rw [<- r.length];exact z,?_⟩)
 have hf:H1 s1.heap.objs.size=none:=I1.bL.fresh (aas _)
 refine ⟨.ref s1.heap.objs.size,upd H1 s1.heap.objs.size (.lst xs),I1.laid (t' :=s1.toks) (fun b u e=>Heap.get?_push_of_some _ e) (aas _) ?_,rfl,q _ hf⟩
 exact ⟨z,us,0,r,Heap.get?_push_size _ rfl⟩
end
abbrev Sp:=List V->Hp->VK->XK->Prop
abbrev jQ:=List Env->Hp->Shared->XK->Value->Shared->Prop
structure xu (P:Program)(w:World)(K:Frag)(mg:ι)(base:Heap)(A:Around)(outer:List Env)(s:Shared)(H:Hp):Prop where
 frames:A.frames=some outer
 mod:Mod K mg base
 bs:∀b o,base.get? b=some o->s.heap.get? b=some o/\H b=none
 La:base.objs.size<=s.heap.objs.size
 mE:s.heap.FunFrames base outer
 PH:∀b∈yU outer,H b=none
 bL:ji P w H s.heap
 bare:AllBare s.gens
def CE (outer:List Env)(P:Program)(w:World)(H:Hp)(s:Shared)(Q:VK)(u:Value)(s' :Shared):Prop:=
 ∃v H',s'.os=s.os/\AllBare s'.gens/\Un (yU outer) [] H H' s.heap s'.heap/\ji P w H' s'.heap/\RelV v u/\Q v H'
def CR (CX:jQ)(outer:List Env)(P:Program)(w:World)(H:Hp)(s:Shared)(Q:VK)(E:XK)(r:Result)(s' :Shared):Prop:=
 match r with
 | .ok (.ret u)=>CE outer P w H s Q u s'
 | .ok _=>False
 | .error e=>CX outer H s E e s'
structure cJ (P:Program)(w:World)(K:Frag)(mg:ι)(base:Heap)(CX:jQ)(k:Nat)(f:Addr)(fd:FuncData)(ps:ρ)(sp:Sp):Prop where
 len:∀vs H Q E,sp vs H Q E->vs.length=ps.length
 run:∀(A:Around) (outer:List Env) (s:Shared) (H:Hp) (args:Args) (us:ο) (vs:η) (Q:VK) (E:XK),cg k A->xu P w K mg base A outer s H->BindsTo s fd args (ps.zip us)->Vals vs us->sp vs H Q E->
  codeAny (model P w) A (.call (.ref f) args) (CR CX outer P w H s Q E) s
theorem cJ.mono {P:Program}{w:World}{K:Frag}{mg:ι}{base:Heap}{CX:jQ}{j k:Nat}{f:Addr}{fd:FuncData}{ps:ρ}{sp:Sp}(F:cJ P w K mg base CX j f fd ps sp)(h:j<=k):
  cJ P w K mg base CX k f fd ps sp:=⟨F.len,fun A outer s H args us vs Q E hr=>F.run A outer s H args us vs Q E (hr.mono h)⟩
theorem cJ.imp {P:Program}{w:World}{K:Frag}{mg:ι}{base:Heap}{CX:jQ}{k:Nat}{f:Addr}{fd:FuncData}{ps:ρ}{sp sp' :Sp}(F:cJ P w K mg base CX k f fd ps sp)
  (h:∀vs H Q E,sp' vs H Q E->sp vs H Q E):cJ P w K mg base CX k f fd ps sp' :=
 ⟨fun vs H Q E q=>F.len vs H Q E (h _ _ _ _ q),fun A outer s H args us vs Q E hr he hb hv hs=>F.run A outer s H args us vs Q E hr he hb hv (h _ _ _ _ hs)⟩
theorem xu.make {P:Program}{w:World}{K:Frag}{mg:ι}{base:Heap}{A:Around}{outer:List Env}{s:Shared}{H:Hp}(e:xu P w K mg base A outer s H)(C:Addr)(us:ο)(kw:Υ):
  xu P w K mg base (A.under (.builtin "type.__call__" ⟨.ref C::us,kw⟩)) outer s H:=⟨by first | exact e.frames | (simpa [Around.under,Code.envs,Code.isFrame,pushEnvs] using e.frames),e.mod,e.bs,e.La,e.mE,e.PH,e.bL,e.bare⟩
section
variable {X:Cx}{pins:ε}{σ:St}{H:Hp}{s s' :Shared}
theorem Inv.Tq (I:Inv X pins σ H s):xu X.prog X.w X.K X.mg X.base X.A X.stack s H:=
 ⟨I.ok.frames,I.ok.mod,I.bs,aam I.ok.La I.sz,I.stack,I.yV,I.bL,I.bare⟩
theorem Inv.after {Q:VK}{u:Value}(I:Inv X pins σ H s)(h:CE X.stack X.prog X.w H s Q u s'):EP X pins σ Q u s' :=by
 obtain ⟨v,H',os,bare,un,bL,r,q⟩:=h
 obtain ⟨hh,g,d,t,os'⟩:=s'
 obtain rfl:os' =s.os:=os
 exact ⟨v,H',I.call (h' :=hh) (g' :=g) (d' :=d) (t' :=t) (ch:=[]) un bL bare (fun b z=>absurd z (by simp)),r,q⟩
end
def NY (sp:Sp)(dvs:η)(E:XK)(t:TA):TE:=fun σ H Q=>t σ H fun vs H1=>sp (vs++dvs) H1 Q E
def NZ (C:Addr)(sp:Sp)(dvs:η)(E:XK)(t:TA):TE:=fun σ H Q=>t σ H fun vs H1=>∀x dx,H1 x=none->H1 dx=none->dx≠x->
 sp (.ref x::(vs++dvs)) (upd (upd H1 dx (.own x)) x (.ins C dx [])) (fun v H2=>v=.cI/\Q (.ref x) H2) E
def Binds (K:Frag)(fd:FuncData)(ps:ρ)(ds:ο):Prop:=
 ∀(s:Shared) (us:ο),K.In s.heap->(us++ds).length=ps.length->BindsTo s fd ⟨us,[]⟩ (ps.zip (us++ds))
theorem Binds.all {K:Frag}{fd:FuncData}{ps:ρ}(h:∀us:List Value,us.length=ps.length->bindArgs fd ⟨us,[]⟩=pure (ps.zip us)):Binds K fd ps []:=fun s us _ hl=>by
 rw [ahB] at hl ⊢
 exact .of_eq (h us hl)
def Passes (CX:jQ)(X:Cx)(E:XK):Prop:=∀(pins:ε) (σ:St) (H:Hp) (s:Shared) (e:Value) (s' :Shared),Inv X pins σ H s->CX X.stack H s E e s' ->X.xe e s'
section
variable {X:Cx}{CX:jQ}{k:Nat}{f C:Addr}{fd:FuncData}{ps:ρ}{sp:Sp}{dvs:η}{ds:ο}{E:XK}{x m:Str}{p pos apos:Pos}{e o:Expr}{es:χ}{ta:TE}{t:TA}
theorem sf {pins:ε}{σ:St}{H:Hp}{s:Shared}{Q:VK}{us:ο}{vs:η}(F:cJ X.prog X.w X.K X.mg X.base CX k f fd ps sp)(hr:cg k X.A)(hb:Binds X.K fd ps ds)(hd:Vals dvs ds)(hx:Passes CX X E)
  (I:Inv X pins σ H s) (r:Vals vs us) (h:sp (vs++dvs) H Q E):wpAny (model X.prog X.w) X.A (call (.ref f) us) (EP X pins σ Q) X.xe s:=by
 have r2:Vals (vs++dvs) (us++ds):=r.append hd
 have hl:(us++ds).length=ps.length:=by rw [<- r2.length];exact F.len _ _ _ _ h
 refine wpAny_call (codeAny_mono (F.run X.A X.stack s H ⟨us,[]⟩ (us++ds) (vs++dvs) Q E hr I.Tq (hb s us I.ju hl) r2 h) fun r s' hq=>?_)
 cases r with
 | error e=>exact hx pins σ H s e s' I hq
 | ok fl=>
  cases fl with
  | ret u=>exact I.after hq
  | next=>exact False.elim hq
  | brk=>exact False.elim hq
  | cont=>exact False.elim hq
theorem Lj (F:cJ X.prog X.w X.K X.mg X.base CX k f fd ps sp)(hr:cg k X.A)(hg:Gl X x)(hm:X.mg x=some (.ref f))(hk:keepIn X.K (.ref f)=true)(hb:Binds X.K fd ps ds)(hd:Vals dvs ds)(hx:Passes CX X E)
  (ha:PA X (e::es) t) (BA:(x==("__debug__":Str))=false:=by decide) (he:starEach (e::es) X.env=(false,eval e X.env)::starEach es X.env:=by rfl) (w_:(backTo pos (starEach es X.env)).any (·.1)=false:=by rfl):
  PE X (.Call (.Name x p) (e::es) [] pos) (NY sp dvs E t):=by
 intro pins s σ H Q I h
 refine wpAny_Call_Name_kw (jN I hg hm ?_ BA)
 refine PySem.W.callWith_K (h₀:=X.base) I.ok.mod.Ss hk (bX (ha pos pins s σ H _ I h) fun us s1 ⟨vs,H1,I1,r,q⟩=>⟨I1.ju,?_⟩) he w_
 exact sf F hr hb hd hx I1 r q
structure Mk (K:Frag)(C f:Addr):Prop where
 makes:PySem.W.makesIn K C=true
 init:PySem.W.findIn K (.ref C) "__init__"=some (some (.ref f))
 fn:PySem.W.isFn K (.ref f)=true
 kp:keepIn K (.ref C)=true
theorem uN {pins:ε}{σ:St}{H:Hp}{s:Shared}{Q:VK}{us:ο}{vs:η}(M:Mk X.K C f)(F:cJ X.prog X.w X.K X.mg X.base CX k f fd ps sp)(hr:cg (k+1) X.A)(hb:Binds X.K fd ps ds)(hd:Vals dvs ds)
  (hx:Passes CX X E) (I:Inv X pins σ H s) (r:Vals vs us)
  (h:∀x dx,H x=none->H dx=none->dx≠x->sp (.ref x::(vs++dvs)) (upd (upd H dx (.own x)) x (.ins C dx [])) (fun v H2=>v=.cI/\Q (.ref x) H2) E):
  wpAny (model X.prog X.w) X.A (call (.ref C) us) (EP X pins σ Q) X.xe s:=by
 have hq:=h (s.heap.objs.size+1) s.heap.objs.size (I.bL.fresh (ahR _)) (I.bL.fresh (aas _)) (aa' (abv _))
 have I2:=Inv.made (C:=C) I
 have r2:Vals (V.ref (s.heap.objs.size+1)::(vs++dvs)) (Value.ref (s.heap.objs.size+1)::(us++ds)):=.cons rfl (r.append hd)
 have hl:(Value.ref (s.heap.objs.size+1)::us++ds).length=ps.length:=by
  have e:=r2.length
  rw [F.len _ _ _ _ hq] at e
  exact e.symm
 refine wpAny_call (GN (f:=f) I.ju M.makes M.init (beq_iff_eq.mp M.fn) (codeAny_mono (F.run _ X.stack _ _ ⟨Value.ref (s.heap.objs.size+1)::us,[]⟩ (Value.ref (s.heap.objs.size+1)::(us++ds)) _ _ E (hr.make C us [])
  (I2.Tq.make C us []) (hb _ (Value.ref (s.heap.objs.size+1)::us) I2.ju hl) r2 hq) fun r s' uO =>?_))
 cases r with
 | error e=>exact hx pins σ _ _ e s' I2 uO
 | ok fl=>
  cases fl with
  | ret u=>
   obtain ⟨v,H',I3,rv,ev,q3⟩:=I2.after uO
   subst ev
   exact ⟨rv,⟨V.ref (s.heap.objs.size+1),H',I3,rfl,q3⟩⟩
  | next=>exact False.elim uO
  | brk=>exact False.elim uO
  | cont=>exact False.elim uO
theorem y_ (M:Mk X.K C f)(F:cJ X.prog X.w X.K X.mg X.base CX k f fd ps sp)(hr:cg (k+1) X.A)(hg:Gl X x)(hm:X.mg x=some (.ref C))(hb:Binds X.K fd ps ds)(hd:Vals dvs ds)(hx:Passes CX X E)
  (ha:PA X (e::es) t) (BA:(x==("__debug__":Str))=false:=by decide) (he:starEach (e::es) X.env=(false,eval e X.env)::starEach es X.env:=by rfl) (w_:(backTo pos (starEach es X.env)).any (·.1)=false:=by rfl):
  PE X (.Call (.Name x p) (e::es) [] pos) (NZ C sp dvs E t):=by
 intro pins s σ H Q I h
 refine wpAny_Call_Name_kw (jN I hg hm ?_ BA)
 refine PySem.W.callWith_K (h₀:=X.base) I.ok.mod.Ss M.kp (bX (ha pos pins s σ H _ I h) fun us s1 ⟨vs,H1,I1,r,q⟩=>⟨I1.ju,?_⟩) he w_
 exact uN M F hr hb hd hx I1 r q
theorem GO (M:Mk X.K C f)(F:cJ X.prog X.w X.K X.mg X.base CX k f fd ps sp)(hr:cg (k+1) X.A)(hg:Gl X x)(hm:X.mg x=some (.ref C))(hb:Binds X.K fd ps ds)(hd:Vals dvs ds)(hx:Passes CX X E)
  (BA:(x==("__debug__":Str))=false:=by decide):PE X (.Call (.Name x p) [] [] pos) (NZ C sp dvs E ed):=by
 intro pins s σ H Q I h
 refine wpAny_Call_Name_kw (jN I hg hm ?_ BA)
 exact PySem.W.callWith_K0 I.ju M.kp (uN (us:=[]) M F hr hb hd hx I .nil h)
end
section
variable {X:Cx}{CX:jQ}{k:Nat}{f C:Addr}{fd:FuncData}{ps ks:ρ}{sp:Sp}{E:XK}{x m:Str}{p pos apos ao':Pos}{e o:Expr}{es:χ}{kws:List Keyword}{te ta:TE}{t tk:TA}{nm:Option Str}
variable {g:List Value->List Value->List Value}{gV:List V->List V->List V}
end
structure aG (N P:ρ)(sc:Scope):Prop where
 kind:sc.kind=.function
 co:sc.isCoroutine=false
 gen:sc.isGenerator=false
 nd:N.Nodup
 pre:N.take P.length=P
 par:∀x∈P,sc.names.lookup x=some .local\/sc.names.lookup x=some .cell
 P6:∀y∈sc.names,y.2≠.free
theorem qZ {kindOf:Str->Option NameKind}{x:Str}:∀{binds:Υ} {m:ι},(∀v,(x,v)∉binds)->bindL kindOf binds m x=m x
 | [],_,_=>rfl
 | (n,v)::r,m,h=>by
  unfold bindL
  rw [qZ fun w hw=>h w (aaE _ hw)]
  split
  ·have:x≠n:=by rintro rfl;exact h v aaK
   simp [this]
  ·rfl
theorem q_ {kindOf:Str->Option NameKind}{x:Str}:∀{binds:Υ} {m:ι},(∀v,(x,v)∉binds)->bindC kindOf binds m x=m x
 | [],_,_=>rfl
 | (n,v)::r,m,h=>by
  unfold bindC
  rw [q_ fun w hw=>h w (aaE _ hw)]
  split
  ·rfl
  ·have:x≠n:=by rintro rfl;exact h v aaK
   simp [this]
theorem ra {kindOf:Str->Option NameKind}{x:Str}{v:Value}:∀{P:ρ} {vs:ο} {i:Nat} {m:ι},P.Nodup->P[i]? =some x->vs[i]? =some v->kindOf x=some .local->
  bindL kindOf (P.zip vs) m x=some v
 | [],_,_,_,_,h,_,_=>by simp at h
 | _::_,[],_,_,_,_,h,_=>by simp at h
 | p::P,w::vs,0,m,nd,h1,h2,hk=>by
  simp at h1 h2;subst h1;subst h2
  show bindL kindOf ((p,w)::P.zip vs) m p=_
  unfold bindL
  rw [qZ fun v hv=>(abe.mp nd).1 (ah8 hv).1,if_pos hk]
  simp
 | p::P,w::vs,i+1,m,nd,h1,h2,hk=>by
  show bindL kindOf ((p,w)::P.zip vs) m x=_
  unfold bindL
  exact ra (i:=i) (abe.mp nd).2 (by simpa using h1) (by simpa using h2) hk
theorem rf {kindOf:Str->Option NameKind}{x:Str}{v:Value}:∀{P:ρ} {vs:ο} {i:Nat} {m:ι},P.Nodup->P[i]? =some x->vs[i]? =some v->kindOf x≠some .local->
  bindC kindOf (P.zip vs) m x=some v
 | [],_,_,_,_,h,_,_=>by simp at h
 | _::_,[],_,_,_,_,h,_=>by simp at h
 | p::P,w::vs,0,m,nd,h1,h2,hk=>by
  simp at h1 h2;subst h1;subst h2
  show bindC kindOf ((p,w)::P.zip vs) m p=_
  unfold bindC
  rw [q_ fun v hv=>(abe.mp nd).1 (ah8 hv).1,if_neg hk]
  simp
 | p::P,w::vs,i+1,m,nd,h1,h2,hk=>by
  show bindC kindOf ((p,w)::P.zip vs) m x=_
  unfold bindC
  exact rf (i:=i) (abe.mp nd).2 (by simpa using h1) (by simpa using h2) hk
def start (N:ρ)(vs:η):St:=vs.map some++aa2 (N.length - vs.length) none
def mG (CX:jQ)(P:Program)(w:World)(K:Frag)(mg:ι)(base:Heap)(N:ρ)(qual:Str)(scope:Scope)(f:Addr)(cd:Value)(A:Around)(outer:List Env)(s:Shared)(H:Hp)(E:XK):Cx where
 prog:=P
 w:=w
 K:=K
 mg:=mg
 base:=base
 A:=A.deeper (envOfC qual scope s.heap.objs.size f cd)
 N:=N
 s₀:=s
 H₀:=H
 env:=envOfC qual scope s.heap.objs.size f cd
 outer:=outer
 stack:=envOfC qual scope s.heap.objs.size f cd::outer
 ex:=[]
 calm:=true
 fn:=fun _=>true
 pn:=[]
 xe:=fun e s' =>wpAny (model P w) (A.deeper (envOfC qual scope s.heap.objs.size f cd)) (leaving (envOfC qual scope s.heap.objs.size f cd) e) (fun _ Tr =>CX outer H s E e Tr) (fun e' Tr =>CX outer H s E e' Tr) s'
theorem uP {sc:Scope}{n:Nat}{x:Str}(h:sc.names.lookup x=some .cell):∃c,(cellsFrom n sc.names []).lookup x=some c:=by
 have q:=PySem.W.cellsFrom_some sc.names n [] (.inl h)
 exact Option.isSome_iff_exists.mp q
theorem BC {CX:jQ}{P:Program}{w:World}{K:Frag}{mg:ι}{base:Heap}{N ps:ρ}{qual:Str}{scope:Scope}{f:Addr}{cd:Value}{A:Around}{outer:List Env}{s s1:Shared}{H:Hp}{E:XK}{us:ο}{vs:η}
  (S:aG N ps scope) (hd:A.handled=none) (e0:xu P w K mg base A outer s H) (hl:vs.length=ps.length) (r:Vals vs us)
  (x:InCallC s s.heap.objs.size (bindL (envOfC qual scope s.heap.objs.size f cd).kindOf (ps.zip us) fun _=>none) (cellsFrom (s.heap.objs.size+1) scope.names []) (bindC (envOfC qual scope s.heap.objs.size f cd).kindOf (ps.zip us) fun _=>none) s1):
  Inv (mG CX P w K mg base N qual scope f cd A outer s H E) [] (start N vs) H s1:=by
 have w_:ps.length<=N.length:=by have:=congrArg abX S.pre;rw [abd] at this;omega
 obtain ⟨h1,tk,rfl,hk⟩:=x.done
 have Ts:∀b:Addr,b∉(mG CX P w K mg base N qual scope f cd A outer s H E).ex:=fun b z=>absurd (show b∈([]:List Addr) from z) (by simp)
 refine ⟨⟨e0.mod,S.kind,rfl,rfl,aas _,fun y z c h1 h2=>?_,fun y hy=>?_,fun y c _ h=>?_,fun _=>hd,Around.frames_deeper e0.frames,.inr ⟨rfl,rfl⟩,fun b z=>absurd z (Ts b),e0.bs,e0.La,fun b _ _=>Ts b,fun b z=>absurd z (Ts b),e0.mE,e0.PH⟩,
  rfl,e0.bare,Un.kept hk,⟨_,x.toInCall.ns,fun i y v h1 h2 h3=>?_⟩,fun y c h=>⟨_,x.cell y c h⟩,e0.bL.fresh (aas _),fun y c h=>?_,fun p hp=>absurd (show p∈([]:List (Addr×Obj)) from hp) (by simp),e0.bL.kept hk,?_⟩
 ·exact name_of_addr x.apart (PySem.mem_of_lookup h1) (PySem.mem_of_lookup h2)
 ·have hy:scope.names.lookup y=some .cell\/scope.names.lookup y=some .free:=hy
  rcases hy with hy | hy
  ·exact uP hy
  ·exact absurd rfl (S.P6 _ (PySem.mem_of_lookup hy))
 ·exact acq (x.above y c (PySem.mem_of_lookup h))
 ·have hi:i < vs.length:=by
   unfold start at h2
   by_cases hi:i < vs.length
   ·exact hi
   ·rw [aa3 (by simpa using hi)] at h2
    rw [ahZ] at h2
    split at h2 <;> cases h2
  have ha:vs[i]? =some v:=by
   unfold start at h2
   rw [aaS (by simpa using hi),Wp] at h2
   cases e:vs[i]? with
   | none=>rw [e] at h2;cases h2
   | some a=>rw [e] at h2;cases h2;rfl
  obtain ⟨u,hu,rv⟩:=r.get ha
  have hp:ps[i]? =some y:=by
   rw [<- S.pre,abK (by omega)];exact h1
  have ndP:ps.Nodup:=by rw [<- S.pre];exact S.nd.sublist (List.take_sublist _ _)
  refine ⟨u,rv,?_⟩
  rcases S.par y (aaa hp) with k | k
  ·exact .inl ⟨k,ra ndP hp hu k⟩
  ·obtain ⟨c,e⟩:=uP (n:=s.heap.objs.size+1) k
   refine .inr ⟨.inl k,c,e,?_⟩
   have q:=x.cell y c e
   rw [rf ndP hp hu (by show scope.names.lookup y≠_;rw [k];decide)] at q
   exact q
 ·exact e0.bL.fresh (acq (x.above y c (PySem.mem_of_lookup h)))
 ·unfold start
  show _=N.length
  rw [aat,ir,acE]
  omega
theorem za {CX:jQ}{P:Program}{w:World}{K:Frag}{mg:ι}{base:Heap}{k:Nat}{f:Addr}{name qual:Str}{params:Arguments}{body:List Stmt}{scope:Scope}{dV kV doc pm bH ct oc:Value}{an od:Ι}
  {pZ:Κ} {N ps:ρ} {sp:Sp} (lk:K.lookup f=some ⟨oc,od,.func (fnOf name qual params body scope dV kV doc pm an bH ct),pZ⟩) (qe:codeIn K bH qual=true) (S:aG N ps scope)
  (len:∀vs H Q E,sp vs H Q E->vs.length=ps.length)
  (jR:∀(A:Around) (outer:List Env) (s:Shared) (H:Hp) (vs:η) (Q:VK) (E:XK),cg k (A.deeper (envOfC qual scope s.heap.objs.size f bH))->sp vs H Q E->
   ∃t,PSs (mG CX P w K mg base N qual scope f bH A outer s H E) body t/\t {nx:=fun _ H' =>Q .cI H',rt:=Q} (start N vs) H):
  cJ P w K mg base CX (k+1) f (fnOf name qual params body scope dV kV doc pm an bH ct) ps sp:=by
 refine ⟨len,fun A outer s H args us vs Q E hr e0 hb r si=>?_⟩
 have hl:=len _ _ _ _ si
 have KX:K.In s.heap:=e0.mod.Ss.keeps fun b o e=>(e0.bs b o e).1
 have lim:s.heap.NoLimit:=e0.mod.nolimit.keeps fun b o e=>(e0.bs b o e).1
 have Tt:∀y∈ps.zip us,scope.names.lookup y.1=some .local\/(scope.names.lookup y.1=some .cell/\((cellsFrom (s.heap.objs.size+1) scope.names []).lookup y.1).isSome=true):=fun ⟨n,v⟩ hy=>by
  rcases S.par n (ah8 hy).1 with q | q
  ·exact .inl q
  ·exact .inr ⟨q,PySem.W.cellsFrom_some _ _ _ (.inl q)⟩
 refine codeAny_call_function hr.depth (KX _ _ lk) rfl S.co S.gen rfl (PySem.W.codeRec_of KX qe) (hb _ _ _ _ ?_)
 refine wpAny_newFunctionEnv_cells S.kind Tt fun env he s1 x=>?_
 subst he
 refine ⟨lim.keeps x.toInCall.keep,codeAny_func ?_⟩
 obtain ⟨t,ht,hq⟩:=jR A outer s H vs Q E (hr.deeper _) si
 have I:Inv (mG CX P w K mg base N qual scope f bH A outer s H E) [] (start N vs) H s1:=BC S hr.hd e0 hl r x
 refine wpAny_mono (ht [] s1 (start N vs) H _ I hq) (fun fl s' hs=>?_) fun e s' hs=>hs
 have fin:∀{σ' :St} {H' :Hp} {v:V} {u:Value},Inv (mG CX P w K mg base N qual scope f bH A outer s H E) [] σ' H' s' ->RelV v u->Q v H' ->CE outer P w H s Q u s' :=
  fun {σ' H' v u} J rv q=>⟨v,H',J.os,J.bare,J.base,J.bL,rv,q⟩
 cases fl with
 | ret u=>
  obtain ⟨v,σ',H',J,rv,q⟩:=hs
  exact fin J rv q
 | next=>
  obtain ⟨σ',H',J,q⟩:=hs
  exact fin (v:=V.cI) (u:=Value.none) J rfl q
 | brk=>
  obtain ⟨_,_,_,q⟩:=hs
  exact False.elim q
 | cont=>
  obtain ⟨_,_,_,q⟩:=hs
  exact False.elim q
end L2
namespace L2
open PySem PySem.Spec PyProof.Rows
section
variable {X:Cx}{x:Str}{p pos:Pos}{e:Expr}{es:χ}{t:TA}{id T:String}{r:List V->Hp->VK->Prop}
def tCB (r:List V->Hp->VK->Prop)(t:TA):TE:=fun σ H Q=>t σ H fun vs H1=>r vs H1 Q
theorem aC (hc:ft X (.builtin id) r)(hg:Gl X x)(hm:X.mg x=none)(hv:bootBuiltins x=some (.builtin id))(ha:PA X (e::es) t)(hn:x≠ "__name__":=by decide)(BA:(x==("__debug__":Str))=false:=by decide)
  (he:starEach (e::es) X.env=(false,eval e X.env)::starEach es X.env:=by rfl) (w_:(backTo pos (starEach es X.env)).any (·.1)=false:=by rfl):PE X (.Call (.Name x p) (e::es) [] pos) (tCB r t):=by
 intro pins s σ H Q I h
 refine wpAny_Call_Name_kw (iz I hg hm hv ?_ hn BA)
 exact PyProof.Rows.callWith_builtin1 (bX (ha pos pins s σ H _ I h) fun us s1 ⟨vs,H1,I1,r1,q1⟩=>hc pins s1 σ H1 vs us Q I1 r1 q1) he w_
theorem bN (hc:ft X (.type T) r)(hg:Gl X x)(hm:X.mg x=none)(hv:bootBuiltins x=some (.type T))(ha:PA X (e::es) t)(hn:x≠ "__name__":=by decide)(BA:(x==("__debug__":Str))=false:=by decide)
  (he:starEach (e::es) X.env=(false,eval e X.env)::starEach es X.env:=by rfl) (w_:(backTo pos (starEach es X.env)).any (·.1)=false:=by rfl):PE X (.Call (.Name x p) (e::es) [] pos) (tCB r t):=by
 intro pins s σ H Q I h
 refine wpAny_Call_Name_kw (iz I hg hm hv ?_ hn BA)
 exact PyProof.Rows.callWith_type1 (bX (ha pos pins s σ H _ I h) fun us s1 ⟨vs,H1,I1,r1,q1⟩=>hc pins s1 σ H1 vs us Q I1 r1 q1) he w_
end
end L2
namespace HT
open PySem PyProof.Rows
section
open PySem.SeqAt
open PySem.AutoSeq1 (wpAny_loadPart')
open PySem.MeetsSeq PySem.MeetsSeq2 PySem.MeetsSeq3
end
section
variable {prog:Program}{w:World}{A:Around}{E:γ}{s:Shared}
theorem Lk {t b:Addr}{vs ws:ο}{Q:γ}(ht:IsTup s.heap t vs.toArray)(hb:IsTup s.heap b ws.toArray)(hv:vs≠[])
  (h1:ws=[]->Q (.ref t) s) (h2:ws≠[]->Q (.ref s.heap.objs.size) {s with heap:=s.heap.push {cls:=.type "tuple",data:=.seq (vs++ws).toArray}})
  (hsz:vs.length+ws.length<=sizeLine):wpAny (model prog w) A (binaryOp .Add (.ref t) (.ref b)) Q E s:=by
 obtain ⟨⟨cls,dd,data,sl⟩,ho,hc,n,hd⟩:=id ht
 obtain ⟨⟨apa,Tu,data2,sl2⟩,Zq,hc2,n2,hd2⟩:=id hb
 simp only at hc hd hc2 hd2
 subst hc hd hc2 hd2
 have e:vs.toArray++ws.toArray=(vs++ws).toArray:=by simp
 by_cases hw:ws=[]
 ·exact concat_meets ⟨_,ho,rfl⟩ ⟨_,Zq,rfl⟩ noFill_tuple_add seq_tuple_add PySem.F.slot_tuple_add PySem.F.entry_tuple_add (PySem.F.args_tuple_add_2 _ _)
   (tuple_addW1 t b vs.toArray ws.toArray n n2 dd Tu sl sl2 (by simpa using hv) (by simp [hw])) ⟨ho,Zq,h1 hw⟩
 ·refine concat_meets ⟨_,ho,rfl⟩ ⟨_,Zq,rfl⟩ noFill_tuple_add seq_tuple_add PySem.F.slot_tuple_add PySem.F.entry_tuple_add (PySem.F.args_tuple_add_2 _ _)
   (tuple_addW2 t b vs.toArray ws.toArray n n2 dd Tu sl sl2 (by simpa using hv) (by simpa using hw) (by rw [aaW,aaW];exact hsz)) ⟨ho,Zq,?_⟩
  rw [e]
  exact h2 hw
def dI (n d:Nat):Option Int->Nat
 | none=>d
 | some v=>if v < 0 then (v+(n:Int)).toNat else min v.toNat n
theorem uQ (n d:Nat):dI n d none=d:=rfl
theorem mZ (n d k:Nat):dI n d (some (k:Int))=min k n:=by
 show (if (k:Int) < 0 then ((k:Int)+(n:Int)).toNat else min (k:Int).toNat n)=min k n
 rw [if_neg (by omega),ahS]
theorem P7 (n d:Nat)(hd:d<=n)(o:Ν):dI n d o<=n:=by
 cases o with
 | none=>exact hd
 | some v=>
  show (if v < 0 then (v+(n:Int)).toNat else min v.toNat n)<=n
  by_cases hv:v < 0
  ·rw [if_pos hv];omega
  ·rw [if_neg hv];exact Nat.min_le_right _ _
theorem zc (v:Int)(n d:Nat):(if v < 0 then max (v+(n:Int)) 0 else min v (n:Int))=((dI n d (some v):Nat):Int):=by
 show (if v < 0 then max (v+(n:Int)) 0 else min v (n:Int))=(((if v < 0 then (v+(n:Int)).toNat else min v.toNat n):Nat):Int)
 by_cases hv:v < 0
 ·simp only [if_pos hv];omega
 ·simp only [if_neg hv];omega
theorem xv (lo hi:Ν)(n:Nat):Builtin.Slice.sliceAdjust lo hi 1 (n:Int)=(((dI n 0 lo:Nat):Int),((dI n n hi:Nat):Int)):=by
 have h1:¬ ((1:Int) < 0):=by omega
 unfold Builtin.Slice.sliceAdjust
 simp only [h1,if_false]
 refine ahy ?_ ?_
 ·cases lo with
  | none=>rfl
  | some v=>exact zc v n 0
 ·cases hi with
  | none=>rfl
  | some v=>exact zc v n n
theorem xw (i j:Nat):Builtin.Slice.slicePlaces (i:Int) (j:Int) 1=j - i:=by
 unfold Builtin.Slice.slicePlaces
 have h1:(1:Int) > 0:=by omega
 simp only [h1,if_true,Int.ediv_one]
 split <;> omega
theorem nV {v:Value}{o:Ν}{Q:Option Int->Shared->Prop}(p:IsPart v o)(h:Q o s):wpAny (model prog w) A (Builtin.Slice.slicePartIndex v) Q E s:=by
 cases p with
 | none=>exact slicePart_none h
 | int i t=>exact slicePart_int h
theorem kL {sl:Addr}{vl vu:Value}{lo hi:Ν}{n:Nat}{Q:Int×Int×Nat->Shared->Prop}(hs:s.heap.IsSliceOf sl vl vu .none)(pl:IsPart vl lo)(pu:IsPart vu hi)
  (h:Q (((dI n 0 lo:Nat):Int),1,dI n n hi - dI n 0 lo) s):wpAny (model prog w) A (Builtin.Slice.sliceApplied (.ref sl) (pure (n:Int))) Q E s:=by
 obtain ⟨os,Tv,hcs,Zr⟩:=id hs
 unfold Builtin.Slice.sliceApplied Builtin.Slice.sliceFields
 refine wpAny_bind (wpAny_bind (wpAny_field Tv Zr (x:=vl) rfl (wpAny_bind (wpAny_field Tv Zr (x:=vu) rfl (wpAny_bind (wpAny_field Tv Zr (x:=.none) rfl (wpAny_pure ?_)))))))
 refine wpAny_bind (slicePart_none ?_)
 show wpAny _ _ (if ((1:Int)==0)=true then _ else _) _ _ s
 rw [if_neg (by decide)]
 refine wpAny_bind (nV pl (wpAny_bind (nV pu (wpAny_bind (wpAny_pure ?_)))))
 show wpAny _ _ (match Builtin.Slice.sliceAdjust lo hi 1 (n:Int) with | (lo,hi)=>pure (lo,(1:Int),Builtin.Slice.slicePlaces lo hi 1)) _ _ s
 rw [xv lo hi n]
 show wpAny _ _ (pure (((dI n 0 lo:Nat):Int),(1:Int),Builtin.Slice.slicePlaces ((dI n 0 lo:Nat):Int) ((dI n n hi:Nat):Int) 1)) _ _ s
 rw [xw]
 exact wpAny_pure h
theorem GP (xs:Λ)(i k:Nat):((abk k).filterMap fun (m:Nat)=>xs[((i:Int)+(m:Int)*1).toNat]?).toArray=((xs.toList.drop i).take k).toArray:=by
 have e:(fun (m:Nat)=>xs[((i:Int)+(m:Int)*1).toNat]?)=fun m=>xs[i+m]? :=by
  funext m
  have:((i:Int)+(m:Int)*1).toNat=i+m:=by omega
  rw [this]
 rw [e]
 have:=pick_run xs i k
 rw [List.filterMap_map] at this
 have e2:((fun x=>xs[x]?) ∘ fun x=>i+x)=fun m=>xs[i+m]? :=rfl
 rw [e2] at this
 rw [this]
theorem jS {t sl:Addr}{items:Λ}{vl vu:Value}{lo hi:Ν}{Q:γ}(ht:IsTup s.heap t items)(hs:s.heap.IsSliceOf sl vl vu .none)(pl:IsPart vl lo)(pu:IsPart vu hi)
  (hw:¬ (dI items.size 0 lo=0/\dI items.size items.size hi=items.size))
  (h:Q (.ref s.heap.objs.size) {s with heap:=s.heap.push {cls:=.type "tuple",data:=.seq ((items.toList.drop (dI items.size 0 lo)).take (dI items.size items.size hi - dI items.size 0 lo)).toArray}})
  (hsz:items.size<=sizeLine):wpAny (model prog w) A (getItem (.ref t) (.ref sl)) Q E s:=by
 have zd:sizeOk (.seq ((items.toList.drop (dI items.size 0 lo)).take (dI items.size items.size hi - dI items.size 0 lo)).toArray):=by
  show ((items.toList.drop (dI items.size 0 lo)).take (dI items.size items.size hi - dI items.size 0 lo)).toArray.size<=sizeLine
  rw [aaW,abd,abG,ahE]
  omega
 have hj:dI items.size items.size hi<=items.size:=P7 _ _ (aas _) hi
 obtain ⟨os,Tv,hcs,Zr⟩:=id hs
 have hTs:s.TypeIs (.ref sl) "slice":=⟨os,Tv,hcs⟩
 unfold getItem
 try with_reducible refine wpAny_holding ?_
 first | refine wpAny_bind (wpAny_pure ?_) | skip
 refine wpAny_bind (wpAny_sequenceKey ht.typeIs (by decide) ?_)
 refine wpAny_bind (wpAny_callSpecial?_slot (name:=Str.ofString "__getitem__") ht.typeIs PyProof.Rows.slot_tuple_getitem
  (wpAny_call_entry PyProof.Rows.slot_tuple_getitem ht.typeIs entry_tuple_getitem ?_ (args_tuple_getitem _ _)))
 show wpAny _ _ (Builtin.Tuple.tupleItemsOf (.ref t) >>=_) _ _ s
 refine wpAny_bind (tupleItemsOf_ ht ?_)
 refine wpAny_bind (wpAny_typeOf hTs ?_)
 rw [if_pos (by decide)]
 refine wpAny_bind (kL hs pl pu ?_)
 have P8:¬ ((((dI items.size 0 lo:Nat):Int)==0 && (1:Int)==1 && (dI items.size items.size hi - dI items.size 0 lo)==items.size)=true):=by
  intro q
  rw [abM,abM] at q
  have q1:((dI items.size 0 lo:Nat):Int)=0:=eq_of_beq q.1.1
  have q2:dI items.size items.size hi - dI items.size 0 lo=items.size:=eq_of_beq q.2
  exact hw ⟨by omega,by omega⟩
 show wpAny _ _ (if (((dI items.size 0 lo:Nat):Int)==0 && (1:Int)==1 && (dI items.size items.size hi - dI items.size 0 lo)==items.size)=true then _ else _) _ _ s
 rw [if_neg P8,GP]
 first
  | exact wpAny_bind (m:=Builtin.Tuple.tupleExact _) (wpAny_newObj_type (wpAny_pure ⟨_,rfl,wpAny_pure h⟩) zd)
  | exact wpAny_bind (m:=Builtin.Tuple.tupleExact _) (wpAny_newObj_type (wpAny_bind (wpAny_pure (wpAny_pure ⟨_,rfl,wpAny_pure h⟩))) zd)
  | exact wpAny_bind (wpAny_bind (m:=Builtin.Tuple.tupleExact _) (wpAny_newObj_type (wpAny_pure (wpAny_pure ⟨_,rfl,wpAny_pure h⟩)) zd))
  | exact wpAny_bind (wpAny_bind (m:=Builtin.Tuple.tupleExact _) (wpAny_newObj_type (wpAny_pure ⟨_,rfl,wpAny_pure h⟩) zd))
end
end HT
namespace L2
open PySem PySem.Spec PyProof.Rows
abbrev TO:=St->Hp->(Option Int->Hp->Prop)->Prop
def PO (X:Cx)(e:Option Expr)(t:TO):Prop:=
 ∀(pins:ε) (s:Shared) (σ:St) (H:Hp) (Q:Option Int->Hp->Prop),Inv X pins σ H s->t σ H Q->
  wpAny (model X.prog X.w) X.A (evalPart e X.env) (fun u s' =>∃o H',Inv X pins σ H' s' /\IsPart u o/\Q o H') X.xe s
def Ll:TO:=fun _ H Q=>Q none H
inductive GQ (Q:(Option Int->Hp->Prop))(x:V)(H1:Hp):Prop where
 | mk (i:_) (_:x=.int i) (_:Q (some i) H1):GQ Q x H1
def Tw (t:TE):TO:=fun σ H Q=>t σ H fun x H1=>GQ Q x H1
section
variable {X:Cx}{e:Expr}{te:TE}{lo hi:Option Expr}{tl th:TO}{pos p2:Pos}
theorem fk:PO X none Ll:=by
 intro pins s σ H Q I h
 rw [evalPart_none]
 exact wpAny_pure ⟨none,H,I,.none,h⟩
theorem cA (h:PE X e te):PO X (some e) (Tw te):=by
 intro pins s σ H Q I hw
 rw [evalPart_some]
 refine bX (h pins s σ H _ I hw) fun u s1 ⟨x,H1,I1,r1,q1⟩=>?_
 obtain ⟨i,rfl,q⟩:=q1
 obtain ⟨t,rfl⟩:=r1
 exact ⟨some i,H1,I1,.int i t,q⟩
def Tx (X:Cx)(r:V->Option Int->Option Int->Hp->VK->Prop):Prop:=
 ∀(pins:ε) (s:Shared) (σ:St) (H:Hp) (x:V) (v vl vu:Value) (lo hi:Ν) (sl:Addr) (Q:VK),Inv X pins σ H s->RelV x v->s.heap.IsSliceOf sl vl vu .none->IsPart vl lo->IsPart vu hi->r x lo hi H Q->
  ∃T id,typeLookup (.type T) "__getitem__"=pure (some (.builtin id))/\s.TypeIs v T/\wpAny (model X.prog X.w) X.A (getItem v (.ref sl)) (EP X pins σ Q) X.xe s
def tSl (r:V->Option Int->Option Int->Hp->VK->Prop)(te:TE)(tl th:TO):TE:=fun σ H Q=>te σ H fun x H1=>tl σ H1 fun l H2=>th σ H2 fun u H3=>r x l u H3 Q
theorem cE {r:V->Option Int->Option Int->Hp->VK->Prop}(hr:Tx X r)(he:PE X e te)(hl:PO X lo tl)(hu:PO X hi th):PE X (.Subscript e (.Slice lo hi none p2) pos) (tSl r te tl th):=by
 intro pins s σ H Q I h
 refine Subscript_ (bX (he pins s σ H _ I h) fun v s1 ⟨x,H1,I1,r1,q1⟩=>?_)
 refine wpAny_Slice (bX (hl pins s1 σ H1 _ I1 q1) fun vl s2 ⟨l,H2,I2,pl,q2⟩=>bX (hu pins s2 σ H2 _ I2 q2) fun vu s3 ⟨u,H3,I3,pu,q3⟩=>?_)
 rw [evalPart_none]
 refine wpAny_pure ?_
 have I4:Inv X pins σ H3 {s3 with heap:=s3.heap.push {cls:=.type "slice",data:=.fields #[vl,vu,.none]}}:=I3.kept (t' :=s3.toks) fun b ob q=>Heap.get?_push_of_some _ q
 obtain ⟨T,id,hT,ht,hg⟩:=hr pins {s3 with heap:=s3.heap.push {cls:=.type "slice",data:=.fields #[vl,vu,.none]}} σ H3 x v vl vu l u s3.heap.objs.size Q I4 r1 (Heap.IsSliceOf.new ..) pl pu q3
 show wpAny (model X.prog X.w) X.A (subscriptTail e (.Slice lo hi none p2) v (.ref s3.heap.objs.size)) (EP X pins σ Q) X.xe {s3 with heap:=s3.heap.push {cls:=.type "slice",data:=.fields #[vl,vu,.none]}}
 exact tail_any (ops:=[.ref s3.heap.objs.size,v]) ht hT hg (by with_unfolding_all rfl)
def fu (xs:η)(lo hi:Ν):List V:=(xs.drop (HT.dI xs.length 0 lo)).take (HT.dI xs.length xs.length hi - HT.dI xs.length 0 lo)
theorem lY (xs:η)(lo hi:Ν):(fu xs lo hi).length<=xs.length:=by
 unfold fu
 rw [abd,abG]
 omega
inductive P9 (K:Frag)(x:V)(lo:Ν)(hi:Ν)(H:Hp)(Q:VK):Prop where
 | mk (a xs:_) (_:x=.ref a) (_:bQ K H a xs) (_:¬ (HT.dI xs.length 0 lo=0/\HT.dI xs.length xs.length hi=xs.length)) (_:∀p,H p=none->Q (.ref p) (upd H p (.tup (fu xs lo hi)))):P9 K x lo hi H Q
theorem nX:Tx X (P9 X.K):=by
 intro pins s σ H x v vl vu lo hi sl Q I rx hs pl pu h
 obtain ⟨a,xs,rfl,hx,hw,q⟩:=h
 cases rx
 obtain ⟨its,r,ht,hz⟩:=I.tuple hx
 have hlen:its.toArray.size=xs.length:=by rw [aaW];exact r.length.symm
 refine ⟨"tuple",_,PyProof.Rows.slot_tuple_getitem.lookup,ht.typeIs,?_⟩
 refine HT.jS ht hs pl pu (by rw [hlen];exact hw) ?_ (by rw [hlen];exact hz)
 rw [hlen]
 refine ⟨.ref s.heap.objs.size,_,I.laid (t' :=s.toks) (o:=.tup (fu xs lo hi)) (fun b ob q=>Heap.get?_push_of_some _ q) (aas _) ?_,rfl,q _ (I.bL.fresh (aas _))⟩
 exact ⟨aam (lY xs lo hi) hz,_,(r.drop (HT.dI xs.length 0 lo)).take (HT.dI xs.length xs.length hi - HT.dI xs.length 0 lo),IsTup.new _ _⟩
inductive N1 (K:Frag)(x:V)(y:V)(H:Hp)(Q:VK):Prop where
 | mk (a b xs ys:_) (_:x=.ref a) (_:y=.ref b) (_:bQ K H a xs) (_:bQ K H b ys) (_:xs≠[]) (_:xs.length+ys.length<=sizeLine) (_:(ys=[]->Q (.ref a) H)) (_:(ys≠[]->∀p,H p=none->Q (.ref p) (upd H p (.tup (xs++ys))))):N1 K x y H Q
theorem Vals.sj {xs:η}{us:ο}(r:Vals xs us):us=[] ↔ xs=[]:=by
 cases r with
 | nil=>simp
 | cons _ _=>simp
theorem Lm:jk X (binaryOp .Add) (N1 X.K):=by
 intro pins s σ H x y v u Q I rx ry h
 obtain ⟨a,b,xs,ys,rfl,rfl,ha,hb,hx,hz,q1,q2⟩:=h
 cases rx
 cases ry
 obtain ⟨its,r1,p1,_⟩:=I.tuple ha
 obtain ⟨dh,r2,p2,_⟩:=I.tuple hb
 refine HT.Lk p1 p2 (fun z=>hx (r1.sj.mp z)) (fun z=>⟨.ref a,H,I,rfl,q1 (r2.sj.mp z)⟩) (fun z=>?_) (by rw [<- r1.length, <- r2.length];exact hz)
 refine ⟨.ref s.heap.objs.size,_,I.laid (t' :=s.toks) (o:=.tup (xs++ys)) (fun b ob q=>Heap.get?_push_of_some _ q) (aas _) ?_,rfl,q2 (fun w=>z (r2.sj.mpr w)) _ (I.bL.fresh (aas _))⟩
 exact ⟨by rw [aat];exact hz,_,r1.append r2,IsTup.new _ _⟩
end
end L2
namespace L2
open PySem PySem.Spec PyProof.Rows
def FG (n:Nat)(i:Int):Option Nat:=if 0<=i then (if i < n then some i.toNat else none) else if -(n:Int)<=i then some (i+n).toNat else none
def je {α:Type}(xs:List α)(i:Int):Option α:=(FG xs.length i).bind fun j=>xs[j]?
theorem ze {n:Nat}{i:Int}{j:Nat}(h:FG n i=some j):seqIndex? i n=some j/\j < n/\ -(n:Int)<=i/\i < n:=by
 unfold FG at h
 by_cases h0:0<=i
 ·rw [if_pos h0] at h
  by_cases h1:i < n
  ·rw [if_pos h1] at h
   have e:i.toNat=j:=aaZ h
   exact ⟨by rw [seqIndex_of h0 h1,e],by omega,by omega,h1⟩
  ·rw [if_neg h1] at h;cases h
 ·rw [if_neg h0] at h
  by_cases h1: -(n:Int)<=i
  ·rw [if_pos h1] at h
   have e:(i+n).toNat=j:=aaZ h
   exact ⟨by rw [seqIndex_neg (by omega) h1,e],by omega,h1,by omega⟩
  ·rw [if_neg h1] at h;cases h
theorem sk {α:Type}{xs:List α}{i:Int}{v:α}(h:je xs i=some v):∃j,seqIndex? i xs.length=some j/\xs[j]? =some v/\j < xs.length/\ -(xs.length:Int)<=i/\i < xs.length:=by
 unfold je at h
 cases e:FG xs.length i with
 | none=>rw [e] at h;cases h
 | some j=>
  rw [e] at h
  obtain ⟨h1,h2,h3,h4⟩:=ze e
  exact ⟨j,h1,h,h2,h3,h4⟩
theorem b8 {α:Type}{xs:List α}{j:Nat}{v:α}(h:xs[j]? =some v):je xs (j:Int)=some v:=by
 have hj:j < xs.length:=(be.mp h).1
 have e:FG xs.length (j:Int)=some j:=by
  unfold FG
  rw [if_pos (by omega),if_pos (by omega)];simp
 unfold je;rw [e];exact h
theorem GS {α:Type}(xs:List α)(v:α):je (xs++[v]) (-1)=some v:=by
 have hl:(xs++[v]).length=xs.length+1:=by simp
 have e:FG (xs++[v]).length (-1)=some xs.length:=by
  unfold FG
  rw [hl,if_neg (by decide),if_pos (by omega)]
  congr 1
  omega
 unfold je
 rw [e]
 show (xs++[v])[xs.length]? =some v
 simp
def Lo (b:Expr):Prop:=∀o i,subscripted b false o i=operate [o,i] (getItem o i)
def Sv (X:Cx)(r:R2):Prop:=
 ∀(value slice:Expr) (pins:ε) (s:Shared) (σ:St) (H:Hp) (x y:V) (v u:Value) (Q:VK),Inv X pins σ H s->RelV x v->RelV y u->r x y H Q->
  subscripted slice false v u=operate [v,u] (getItem v u)->wpAny (model X.prog X.w) X.A (subscriptTail value slice v u) (EP X pins σ Q) X.xe s
def MtR (X:Cx)(id:String)(r:Φ):Prop:=
 ∀(pins:ε) (s:Shared) (σ:St) (H:Hp) (x:V) (xs:η) (v:Value) (us:ο) (Q:VK),Inv X pins σ H s->RelV x v->Vals xs us->r x xs H Q->
  wpAny (model X.prog X.w) X.A (call (.builtin id) (v::us)) (EP X pins σ Q) X.xe s
section
variable {X:Cx}{a b:Expr}{ta tb:TE}{pos:Pos}
theorem bB {r:R2}(hr:Sv X r)(ha:PE X a ta)(hb:PE X b tb)(hs:Lo b):PE X (.Subscript a b pos) (Su r ta tb):=by
 intro pins s σ H Q I h
 exact Subscript_ (P0 ha hb I h fun v u s2 x y H2 I2 rx ry q=>hr a b pins s2 σ H2 x y v u Q I2 rx ry q (hs _ _))
inductive Lp (K:Frag)(x:V)(y:V)(H:Hp)(Q:VK):Prop where
 | mk (p xs i v:_) (_:x=.ref p) (_:y=.int i) (_:aZ K H p xs) (_:je xs i=some v) (_:Q v H):Lp K x y H Q
inductive Lq (K:Frag)(x:V)(y:V)(H:Hp)(Q:VK):Prop where
 | mk (p xs i v:_) (_:x=.ref p) (_:y=.int i) (_:bQ K H p xs) (_:je xs i=some v) (_:Q v H):Lq K x y H Q
inductive Tz (x:V)(y:V)(H:Hp)(Q:VK):Prop where
 | mk (z i c:_) (_:x=.str z) (_:y=.int i) (_:z.length<=sizeLine) (_:je z.cps.toList i=some c) (_:Q (.str ⟨#[c]⟩) H):Tz x y H Q
theorem bc:Sv X (Lp X.K):=by
 intro value slice pins s σ H x y v u Q I rx ry h hs
 obtain ⟨p,xs,i,z,rfl,rfl,hq,he,q⟩:=h
 cases rx
 obtain ⟨t,rfl⟩:=ry
 obtain ⟨its,r,pl,hz⟩:=I.list hq
 obtain ⟨j,h1,h2,h3,h4,h5⟩:=sk he
 obtain ⟨w,ew,mX⟩:=r.get h2
 have hl:=r.length
 have hn:=nT
 have fin:EP X pins σ Q w s:=⟨z,H,I,mX,q⟩
 by_cases h0:0<=i
 ·have hj:i.toNat=j:=by
   rw [seqIndex_of h0 h5] at h1
   exact aaZ h1
  exact item_listR pl.isList h0 (by omega) (by rw [hj];simpa using ew) fin hs
 ·have hj:(i+(its.toArray.size:Int)).toNat=j:=by
   rw [seqIndex_neg (by omega) h4] at h1
   rw [aaW, <- hl]
   exact aaZ h1
  exact subscriptTail_builtinR (x:=w) pl.isList.typeIs slot_list_getitem.lookup
   (wpAny_getItem_list_neg (Q:=fun r s' =>r=w/\EP X pins σ Q r s') pl.isList (by omega) (by rw [aaW] <;> omega) (by omega) (by rw [hj];simpa using ew) ⟨rfl,fin⟩) hs
theorem GU:Sv X (Lq X.K):=by
 intro value slice pins s σ H x y v u Q I rx ry h hs
 obtain ⟨p,xs,i,z,rfl,rfl,hq,he,q⟩:=h
 cases rx
 obtain ⟨t,rfl⟩:=ry
 obtain ⟨its,r,pl,hz⟩:=I.tuple hq
 obtain ⟨j,h1,h2,h3,h4,h5⟩:=sk he
 obtain ⟨w,ew,mX⟩:=r.get h2
 have hl:=r.length
 have hn:=nT
 have fin:EP X pins σ Q w s:=⟨z,H,I,mX,q⟩
 exact subscriptTail_builtinR (x:=w) pl.typeIs slot_tuple_getitem.lookup
  (getItem_tuple (j:=j) (Q:=fun r s' =>r=w/\EP X pins σ Q r s') pl (by omega) (by omega) (by rw [aaW, <- hl];exact h1) (by simpa using ew) ⟨rfl,fin⟩) hs
theorem P_:Sv X Tz:=by
 intro value slice pins s σ H x y v u Q I rx ry h hs
 obtain ⟨z,i,c,rfl,rfl,hz,he,q⟩:=h
 obtain ⟨t,rfl⟩:=rx
 obtain ⟨t',rfl⟩:=ry
 obtain ⟨j,h1,h2,h3,h4,h5⟩:=sk he
 have hl:z.cps.toList.length=z.length:=by simp [Str.length]
 rw [hl] at h1 h4 h5
 have hn:=nT
 exact tail_any (typeIs_str s z t) slot_str_getitem.lookup (getItem_str (c:=c) (by
  have e1:decide (i < -(2^63:Int))=false:=decide_eq_false (by omega)
  have e2:decide (i≥2^63)=false:=decide_eq_false (by omega)
  rw [e1,e2,aim]) (by rw [h1];simpa using h2) ⟨.str ⟨#[c]⟩,H,I.tok _,⟨_,rfl⟩,q⟩) hs
theorem xx (its:ο)(n j:Nat)(u:Value):Obj.mapSeq (·.setIfInBounds j u) {cls:=.type "list",data:=.seq its.toArray n}={cls:=.type "list",data:=.seq (its.set j u).toArray n}:=by
 simp [Obj.mapSeq]
theorem Inv.lst {pins:ε}{σ:St}{H:Hp}{s:Shared}{p:Addr}{xs:η}(I:Inv X pins σ H s)(h:H p=some (.lst xs)):
  ∃(its:ο) (n:Nat),Vals xs its/\s.heap.get? p=some {cls:=.type "list",data:=.seq its.toArray n}/\xs.length<=sizeLine:=by
 obtain ⟨z,its,n,r,e⟩:=I.bL p _ h
 exact ⟨its,n,r,e,z⟩
theorem Inv.Qa {pins:ε}{σ:St}{H:Hp}{s:Shared}{p:Addr}{xs ys:η}{its its' :ο}{n n' :Nat}{f:Obj->Obj}(I:Inv X pins σ H s)(h:H p=some (.lst xs))
  (ho:s.heap.get? p=some {cls:=.type "list",data:=.seq its.toArray n}) (hf:f {cls:=.type "list",data:=.seq its.toArray n}={cls:=.type "list",data:=.seq its'.toArray n' }) (r:Vals ys its') (hz:ys.length<=sizeLine) (t:Nat):
  Inv X pins σ (upd H p (.lst ys)) {s with heap:=s.heap.update p f,toks:=t}:=by
 have e:(s.heap.update p f).get? p=some {cls:=.type "list",data:=.seq its'.toArray n' }:=by
  rw [Heap.get?_update_self f ho (by rw [hf] <;> rfl),hf]
 refine I.write (x:=p) (e:=p) (by rw [h];trivial) (.inl rfl) (fun b u hb q=>(Heap.get?_update_other _ _ (abb hb)).trans q) ⟨_,e⟩ ?_
 exact ⟨hz,its',n',r,e⟩
inductive N2 (o:V)(i:V)(v:V)(H:Hp)(Q:(Hp->Prop)):Prop where
 | mk (p xs k j:_) (_:o=.ref p) (_:i=.int k) (_:H p=some (.lst xs)) (_:FG xs.length k=some j) (_:Q (upd H p (.lst (xs.set j v)))):N2 o i v H Q
theorem set_list:Th X N2:=by
 intro pins s σ H o i v ov iv u Q I ro ri rv h
 obtain ⟨p,xs,k,j,rfl,rfl,hp,hj,q⟩:=h
 cases ro
 obtain ⟨t,rfl⟩:=ri
 obtain ⟨its,n,r,ho,hz⟩:=I.lst hp
 obtain ⟨h1,h2,h3,h4⟩:=ze hj
 have hl:=r.length
 have hn:=nT
 have I' :Inv X pins σ (upd H p (.lst (xs.set j v))) {s with heap:=s.heap.update p (Obj.mapSeq (·.setIfInBounds j u))}:=
  I.Qa hp ho (xx its n j u) (r.set rv j) (by rw [ah9];exact hz) s.toks
 by_cases h0:0<=k
 ·have hk:k.toNat=j:=by
   rw [seqIndex_of h0 h4] at h1
   exact aaZ h1
  exact PySem.W.ki_setAt ho h0 (by omega) (by rw [aaW, <- hl];exact h4) (by rw [hk];exact ⟨_,I',q⟩)
 ·have hk:(k+(its.toArray.size:Int)).toNat=j:=by
   rw [seqIndex_neg (by omega) h3] at h1
   rw [aaW, <- hl]
   exact aaZ h1
  exact PySem.W.ki_setBack ho (by omega) (by rw [aaW, <- hl];exact h3) (by omega) (by rw [hk];exact ⟨_,I',q⟩)
theorem so (lo hi:Ν)(n:Nat):(sliceBounds lo hi none n).1=((HT.dI n 0 lo:Nat):Int)/\(sliceBounds lo hi none n).2.1=((HT.dI n n hi:Nat):Int)/\(sliceBounds lo hi none n).2.2=1:=by
 refine ⟨?_,?_,rfl⟩
 ·cases lo with
  | none=>simp [sliceBounds,HT.dI]
  | some i=>
   simp only [sliceBounds,HT.dI,aiH,show (1:Int) > 0 by decide,if_true]
   by_cases h:i < 0
   ·simp only [h,if_true] <;> omega
   ·simp only [h,if_false] <;> omega
 ·cases hi with
  | none=>simp [sliceBounds,HT.dI]
  | some i=>
   simp only [sliceBounds,HT.dI,aiH,show (1:Int) > 0 by decide,if_true]
   by_cases h:i < 0
   ·simp only [h,if_true] <;> omega
   ·simp only [h,if_false] <;> omega
theorem qh (its:ο)(lo hi:Ν):slicePick its.toArray lo hi none=((its.drop (HT.dI its.length 0 lo)).take (HT.dI its.length its.length hi - HT.dI its.length 0 lo)).toArray:=by
 obtain ⟨h1,h2,h3⟩:=so lo hi its.toArray.size
 unfold slicePick
 rw [h1,h2,h3]
 simp only [sliceRange_one,pick_run,aaW] <;> rfl
inductive TB (K:Frag)(x:V)(lo:Ν)(hi:Ν)(H:Hp)(Q:VK):Prop where
 | mk (a xs:_) (_:x=.ref a) (_:aZ K H a xs) (_:∀p,H p=none->Q (.ref p) (upd H p (.lst (fu xs lo hi)))):TB K x lo hi H Q
theorem gY:Tx X (TB X.K):=by
 intro pins s σ H x v vl vu lo hi sl Q I rx hs pl pu h
 obtain ⟨a,xs,rfl,hx,q⟩:=h
 cases rx
 obtain ⟨its,r,ht,hz⟩:=I.list hx
 have hlen:=r.length
 refine ⟨"list",_,slot_list_getitem.lookup,ht.isList.typeIs,?_⟩
 refine wpAny_getItem_list_slice ht.isList hs pl pu .none (by simp) ?_ (by rw [aaW] <;> omega)
 rw [qh, <- hlen]
 refine ⟨.ref s.heap.objs.size,_,I.laid (t' :=s.toks) (o:=.lst (fu xs lo hi)) (fun b ob q=>Heap.get?_push_of_some _ q) (aas _) ?_,rfl,q _ (I.bL.fresh (aas _))⟩
 exact ⟨aam (lY xs lo hi) hz,_,0,(r.drop (HT.dI xs.length 0 lo)).take (HT.dI xs.length xs.length hi - HT.dI xs.length 0 lo),Heap.get?_push_size _ rfl⟩
def jm:V->Bool
 | .cI=>true
 | .bl _=>true
 | .int _=>true
 | .str _=>true
 | _=>false
def rg:V->V->Bool
 | .cI,.cI=>true
 | .bl a,.bl b=>a==b
 | .bl a,.int b=>(if a then 1 else 0)==b
 | .int a,.bl b=>a==(if b then 1 else 0)
 | .int a,.int b=>a==b
 | .str a,.str b=>a==b
 | _,_=>false
theorem GV {A:Around}{s:Shared}{y x:V}{u v:Value}(ry:RelV y u)(rx:RelV x v)(fy:jm y=true)(fx:jm x=true):SeqAt.EqAt A s u v (rg y x):=by
 cases y with
 | cI=>
  cases ry
  cases x with
  | cI=>cases rx;exact SeqAt.EqAt.same _
  | bl b=>cases rx;exact SeqAt.EqAt.none_bool b
  | int b=>obtain ⟨t,rfl⟩:=rx;exact SeqAt.EqAt.none_int b t
  | str b=>obtain ⟨t,rfl⟩:=rx;exact SeqAt.EqAt.none_str b t
  | _=>exact absurd (show false=true from fx) aaX
 | bl a=>
  cases ry
  cases x with
  | cI=>cases rx;exact SeqAt.EqAt.bool_none a
  | bl b=>cases rx;exact SeqAt.EqAt.bool_bool a b
  | int b=>obtain ⟨t,rfl⟩:=rx;exact SeqAt.EqAt.bool_int a b t
  | str b=>obtain ⟨t,rfl⟩:=rx;exact SeqAt.EqAt.bool_str a b t
  | _=>exact absurd (show false=true from fx) aaX
 | int a=>
  obtain ⟨t',rfl⟩:=ry
  cases x with
  | cI=>cases rx;exact SeqAt.EqAt.int_none a t'
  | bl b=>cases rx;exact SeqAt.EqAt.int_bool a t' b
  | int b=>obtain ⟨t,rfl⟩:=rx;exact SeqAt.EqAt.int_int a t' b t
  | str b=>obtain ⟨t,rfl⟩:=rx;exact SeqAt.EqAt.int_str a t' b t
  | _=>exact absurd (show false=true from fx) aaX
 | str a=>
  obtain ⟨t',rfl⟩:=ry
  cases x with
  | cI=>cases rx;exact SeqAt.EqAt.str_none a t'
  | bl b=>cases rx;exact SeqAt.EqAt.str_bool a t' b
  | int b=>obtain ⟨t,rfl⟩:=rx;exact SeqAt.EqAt.str_int a t' b t
  | str b=>obtain ⟨t,rfl⟩:=rx;exact SeqAt.EqAt.str_str a t' b t
  | _=>exact absurd (show false=true from fx) aaX
 | _=>exact absurd (show false=true from fy) aaX
def Lr (x:V)(u:Value):Bool:=match u with
 | .none=>rg .cI x
 | .bool b=>rg (.bl b) x
 | .int i _=>rg (.int i) x
 | .str z _=>rg (.str z) x
 | _=>false
theorem GX {x y:V}{u:Value}(r:RelV y u)(f:jm y=true):Lr x u=rg y x:=by
 cases y with
 | cI=>cases r;rfl
 | bl b=>cases r;rfl
 | int i=>obtain ⟨t,rfl⟩:=r;rfl
 | str z=>obtain ⟨t,rfl⟩:=r;rfl
 | _=>exact absurd (show false=true from f) aaX
theorem sr {x:V}:∀{xs:η} {us:ο},Vals xs us->xs.all jm=true->us.any (Lr x)=xs.any fun y=>rg y x
 | _,_,.nil,_=>rfl
 | y::xs,u::us,.cons r t,f=>by
  rw [ain,abM] at f
  rw [ahg,ahg,GX r f.1,sr t f.2]
theorem nY {A:Around}{s:Shared}{x:V}{v:Value}(rx:RelV x v)(fx:jm x=true):∀{xs:η} {us:ο},Vals xs us->xs.all jm=true->∀u∈us,SeqAt.EqAt A s u v (Lr x u)
 | _,_,.nil,_=>fun u hu=>by cases hu
 | y::xs,u::us,.cons r t,f=>fun u' hu=>by
  rw [ain,abM] at f
  rcases aa8.mp hu with rfl | hu
  ·rw [GX r f.1];exact GV r rx f.1 fx
  ·exact nY rx fx t f.2 u' hu
def Sw (x:V)(xs:η):Bool:=xs.any fun y=>rg y x
inductive rIn (K:Frag)(neg:Bool)(x:V)(y:V)(H:Hp)(Q:VK):Prop where
 | mk (p xs:_) (_:y=.ref p) (_:(aZ K H p xs\/bQ K H p xs)) (_:jm x=true) (_:xs.all jm=true) (_:Q (.bl (if neg then !Sw x xs else Sw x xs)) H):rIn K neg x y H Q
theorem rh:jk X (compareOp .In) (rIn X.K false):=by
 intro pins s σ H x y v u Q I rx ry h
 obtain ⟨p,xs,rfl,hq,fx,fs,q⟩:=h
 cases ry
 rcases hq with hq | hq
 ·obtain ⟨its,r,pl,hz⟩:=I.list hq
  refine SeqAt.in_listAt (Lr x) pl.isList (fun w hw=>nY rx fx r fs w (by simpa using hw)) ⟨.bl _,H,I,rfl,?_⟩
  rw [show its.toArray.any (Lr x)=its.any (Lr x) by simp,sr r fs]
  exact q
 ·obtain ⟨its,r,pl,hz⟩:=I.tuple hq
  refine SeqAt.in_tupleAt (Lr x) pl (fun w hw=>nY rx fx r fs w (by simpa using hw)) ⟨.bl _,H,I,rfl,?_⟩
  rw [show its.toArray.any (Lr x)=its.any (Lr x) by simp,sr r fs]
  exact q
theorem au:ft X (.builtin "len") (fun xs H Q=>∃p ys,xs=[.ref p]/\(aZ X.K H p ys\/bQ X.K H p ys)/\Q (.int ys.length) H):=by
 intro pins s σ H xs us Q I r h
 obtain ⟨p,ys,rfl,hq,q⟩:=h
 obtain ⟨u,rfl,rx⟩:=vals1 r
 cases rx
 have hn:=nT
 rcases hq with hq | hq
 ·obtain ⟨its,r',pl,hz⟩:=I.list hq
  have hlen:=r'.length
  exact Calls.call_len_list pl.isList (by simp only [aaW] <;> omega) ⟨.int ys.length,H,I.tok _,⟨s.toks+1,by rw [aaW,hlen]⟩,q⟩
 ·obtain ⟨its,r',pl,hz⟩:=I.tuple hq
  have hlen:=r'.length
  exact len_tuple pl (by simp only [aaW] <;> omega) ⟨.int ys.length,H,I.tok _,⟨s.toks+1,by rw [aaW,hlen]⟩,q⟩
def tyV (K:Frag)(T:String)(x:V)(H:Hp):Prop:=match x with
 | .str _=>T="str"
 | .int _=>T="int"
 | .ref p=>(T="list"/\∃xs,aZ K H p xs)\/(T="tuple"/\∃o,K.lookup p=some o/\o.cls=.type "tuple"/\o.dict=none)\/
   (T="dict"/\((∃kvs,H p=some (.dK kvs))\/∃kvs,H p=some (.dT kvs)))\/(T="set"/\∃S n,H p=some (.set S n))
 | _=>False
theorem GY {pins:ε}{σ:St}{H:Hp}{s:Shared}{T:String}{x:V}{v:Value}(I:Inv X pins σ H s)(r:RelV x v)(ty:tyV X.K T x H):
  s.TypeIs v T/\∀a,v=.ref a->∃ob,s.heap.get? a=some ob/\ob.dict=none:=by
 cases x with
 | str z=>
  obtain ⟨t,rfl⟩:=r
  cases (show T="str" from ty)
  exact ⟨typeIs_str s z t,fun _ e=>nomatch e⟩
 | int i=>
  obtain ⟨t,rfl⟩:=r
  cases (show T="int" from ty)
  exact ⟨typeIs_int s i t,fun _ e=>nomatch e⟩
 | ref p=>
  cases r
  rcases ty with ⟨rfl,xs,hq⟩ | ⟨rfl,o,hk,hc,hd⟩ | ⟨rfl,hk⟩ | ⟨rfl,S,n,hk⟩
  ·obtain ⟨its,_,pl,_⟩:=I.list hq
   refine ⟨pl.isList.typeIs,fun a e=>?_⟩
   cases e
   obtain ⟨o,n,e,c,hd,_⟩:=pl
   exact ⟨o,e,hd⟩
  ·refine ⟨⟨o,I.ju p o hk,hc⟩,fun a e=>?_⟩
   cases e
   exact ⟨o,I.ju _ o hk,hd⟩
  ·have z:∃o,s.heap.get? p=some o/\o.ExactDict:=by
    rcases hk with ⟨kvs,hk⟩ | ⟨kvs,hk⟩
    ·obtain ⟨_,_,_,_,o,_,_,e,ex,_⟩:=I.bL p _ hk
     exact ⟨o,e,ex⟩
    ·obtain ⟨_,_,_,_,o,_,_,e,ex,_⟩:=I.bL p _ hk
     exact ⟨o,e,ex⟩
   obtain ⟨o,e,ex⟩:=z
   refine ⟨⟨o,e,ex.1⟩,fun a e2=>?_⟩
   cases e2
   exact ⟨o,e,ex.2.1⟩
  ·obtain ⟨o,_,_,_,e,ex,_⟩:=I.bL p _ hk
   refine ⟨⟨o,e,ex.1⟩,fun a e2=>?_⟩
   cases e2
   exact ⟨o,e,ex.2.1⟩
 | _=>exact False.elim ty
def tBM (K:Frag)(T:String)(r:Φ)(to:TE)(t:TA):TE:=fun σ H Q=>to σ H fun x H1=>tyV K T x H1/\t σ H1 fun xs H2=>r x xs H2 Q
variable {o e:Expr}{es:χ}{to:TE}{t:TA}{name:Str}{apos eA:Pos}{T id:String}{r:Φ}
theorem ip (pa:PlainAttrs T)(slot:Slot T name id)(hty:typeOf (.builtin id)=pure (.type "method_descriptor"))(hm:MtR X id r)(ho:PE X o to)(ha:PA X (e::es) t)
  (uR:attributeBase o name X.env (eval o X.env)=eval o X.env:=by rfl)
  (aau:((backTo eA (starEach (e::es) X.env)).all (fun x=> !x.1) && (backToKw eA (keywordEach [] X.env)).all (fun x=>x.1.isSome)
   && decide ((e::es).length+([]:List Keyword).length+(if ([]:List Keyword).isEmpty then 0 else 1) < 30))=true:=by rfl)
  (uS:(apos.endLine==eA.line)=true:=by rfl) (hs:starEach (e::es) X.env=(false,eval e X.env)::starEach es X.env:=by rfl) (Qb:(backTo eA (starEach es X.env)).any (·.1)=false:=by rfl):
  PE X (.Call (.Attribute o name apos) (e::es) [] eA) (tBM X.K T r to t):=by
 intro pins s σ H Q I h
 refine wpAny_Call_method_late uR aau uS rfl (bX (ho pins s σ H _ I h) fun v s1 ⟨x,H1,I1,r1,ty,q1⟩=>?_)
 obtain ⟨h1,h2⟩:=GY I1 r1 ty
 refine ⟨T,id,pa,slot,hty,h1,h2,?_⟩
 have hA:=ha eA pins s1 σ H1 _ I1 q1
 rw [hs] at hA ⊢
 refine Calls.callWith_builtin (by show (false || (backTo eA (starEach es X.env)).any (·.1))=false;rw [Qb] <;> rfl) (Calls.evalArgs_plain ?_)
 exact bX hA fun us s2 ⟨vs,H2,I2,r2,q2⟩=>hm pins s2 σ H2 x vs v us Q I2 r1 r2 q2
end
end L2
namespace L2
open PySem PySem.Spec PyProof.Rows
def MtM (X:Cx)(id:String)(r:Φ):Prop:=
 ∀(pins:ε) (s:Shared) (σ:St) (H:Hp) (x:V) (xs:η) (v:Value) (us:ο) (Q:VK),Inv X pins σ H s->RelV x v->Vals xs us->r x xs H Q->
  wpAny (model X.prog X.w) X.A (call (.builtin id) (v::us)) (EP X pins σ Q) X.xe s
theorem Vals.one:∀{x:V} {us:ο},Vals [x] us->∃u,us=[u]/\RelV x u
 | _,_,.cons r .nil=>⟨_,rfl,r⟩
theorem Vals.eraseIdx:∀{xs:η} {us:ο} (i:Nat),Vals xs us->Vals (xs.eraseIdx i) (us.eraseIdx i)
 | _,_,_,.nil=>.nil
 | _,_,0,.cons _ t=>t
 | _,_,i+1,.cons r t=>.cons r (Vals.eraseIdx i t)
theorem Vals.rep {xs:η}{us:ο}(h:Vals xs us):∀k:Nat,Vals (aa2 k xs).flatten (aa2 k us).flatten
 | 0=>.nil
 | k+1=>by
  rw [ab7,ab7,ahm,ahm]
  exact Vals.append h (Vals.rep h k)
theorem rj {α:Type}:∀(l:List α) (i:Nat),(l.eraseIdx i).length<=l.length
 | [],_=>aas _
 | _::_,0=>ahR _
 | _::r,i+1=>aiI (rj r i)
theorem foldl_rep (its:ο):∀(k:Nat) (acc:ο),
  ak_ (fun x1 x2=>x1++x2) acc.toArray (aa2 k its.toArray)=(acc++(aa2 k its).flatten).toArray
 | 0,acc=>by simp
 | k+1,acc=>by
  have e:acc.toArray++its.toArray=(acc++its).toArray:=by simp
  have e2:(acc++its)++(aa2 k its).flatten=acc++(aa2 (k+1) its).flatten:=by
   rw [ab7,ahm,acH]
  rw [<- e2, <- foldl_rep its k (acc++its), <- e,ab7,List.foldl_cons]
section
variable {X:Cx}{pins:ε}{σ:St}{H:Hp}{s:Shared}{l b:Addr}{xs ys zs:η}
theorem Inv.Ls {its its' :ο}{n:Nat}{f:Array Value->Array Value}{t' :Nat}(I:Inv X pins σ H s)(hH:H l=some (.lst xs))
  (e:s.heap.get? l=some {cls:=.type "list",data:=.seq its.toArray n}) (hf:f its.toArray=its'.toArray) (hv:Vals ys its') (hz:ys.length<=sizeLine):
  Inv X pins σ (upd H l (.lst ys)) {s with heap:=s.heap.update l (Obj.mapSeq f),toks:=t' }:=by
 have q:=PySem.IsL.update e f
 rw [hf] at q
 refine I.write (x:=l) (e:=l) (by rw [hH];exact trivial) (.inl rfl) (fun b' u hb hu=>(Heap.get?_update_other s.heap (Obj.mapSeq f) (abb hb)).trans hu) ⟨_,q⟩ ?_
 exact ⟨hz,its',_,hv,q⟩
theorem Inv.Qc {its:ο}{t' :Nat}(I:Inv X pins σ H s)(hv:Vals ys its)(hz:ys.length<=sizeLine):
  Inv X pins σ (upd H s.heap.objs.size (.lst ys)) {s with heap:=s.heap.push {cls:=.type "list",data:=.seq its.toArray},toks:=t' }:=
 I.laid (fun _ _ q=>Heap.get?_push_of_some _ q) (aas _) ⟨hz,its,0,hv,Heap.get?_push_size _ rfl⟩
theorem Inv.fresh (I:Inv X pins σ H s):H s.heap.objs.size=none:=I.bL.fresh (aas _)
theorem Inv.jT (I:Inv X pins σ H s)(hH:H l=some (.lst xs)):xs.length<=sizeLine/\∃(its:ο) (n:Nat),Vals xs its/\xs.length=its.length/\s.heap.get? l=some {cls:=.type "list",data:=.seq its.toArray n}:=by
 obtain ⟨z,its,n,r,e⟩:=I.bL l _ hH
 exact ⟨z,its,n,r,r.length,e⟩
theorem nZ {n:Nat}(h:n<=sizeLine):Builtin.List.listTooLong n=false:=by
 unfold Builtin.List.listTooLong
 exact decide_eq_false (by omega)
end
section
variable {X:Cx}
inductive zf (x:V)(vs:η)(H:Hp)(Q:VK):Prop where
 | mk (l xs y:_) (_:x=.ref l) (_:vs=[y]) (_:H l=some (.lst xs)) (_:xs.length < sizeLine) (_:Q .cI (upd H l (.lst (xs++[y])))):zf x vs H Q
theorem di:MtM X "list.append" zf:=by
 intro pins s σ H x vs v us Q I rx rv h
 obtain ⟨l,xs,y,rfl,rfl,hH,hz,q⟩:=h
 cases rx
 obtain ⟨u,rfl,ru⟩:=rv.one
 obtain ⟨z,its,n,r,hl,e⟩:=I.jT hH
 refine call_meets F.slot_list_append ⟨_,e,rfl⟩ F.entry_list_append (F.args_list_append_2 _ _) (PySem.list_append l its.toArray n u (by rw [aaW];omega)) ⟨e,?_⟩
 refine ⟨.cI,_,I.Ls (its' :=its++[u]) hH e (by simp) (r.append (.cons ru .nil)) ?_,rfl,q⟩
 rw [aat,acj]
 omega
inductive zg (x:V)(vs:η)(H:Hp)(Q:VK):Prop where
 | mk (l b xs zs:_) (_:x=.ref l) (_:vs=[.ref b]) (_:H l=some (.lst xs)) (_:H b=some (.lst zs)) (_:xs.length+zs.length<=sizeLine) (_:Q .cI (upd H l (.lst (xs++zs)))):zg x vs H Q
theorem BD:MtM X "list.extend" zg:=by
 intro pins s σ H x vs v us Q I rx rv h
 obtain ⟨l,b,xs,zs,rfl,rfl,hH,hB,hz,q⟩:=h
 cases rx
 obtain ⟨u,rfl,ru⟩:=rv.one
 cases ru
 obtain ⟨z,its,n,r,hl,e⟩:=I.jT hH
 obtain ⟨z2,dh,n2,r2,xa,e2⟩:=I.jT hB
 have hsz:its.toArray.size+dh.toArray.size<=sizeLine:=by rw [aaW,aaW];omega
 have uT:¬ (!its.toArray.isEmpty && Builtin.List.listTooLong (its.toArray.size+dh.toArray.size))=true:=by
  rw [nZ hsz,ahn]
  exact aaX
 refine call_meets F.slot_list_extend ⟨_,e,rfl⟩ F.entry_list_extend (F.args_list_extend_2 _ _)
  (AutoSeq1.list_extend_list_list_0 l its.toArray n b dh.toArray n2 uT (by rw [aaW];omega) (by omega)) ⟨e,e2,?_⟩
 refine ⟨.cI,_,I.Ls (its' :=its++dh) hH e (by simp) (r.append r2) ?_,rfl,q⟩
 rw [aat]
 omega
def Qd:V->List V->Hp->VK->Prop:=fun x vs H Q=>∃l xs i k y,x=.ref l/\vs=[.int i]/\H l=some (.lst xs)/\ -(2^63)<=i/\i < 2^63/\seqIndex? i xs.length=some k/\xs[k]? =some y/\Q y (upd H l (.lst (xs.eraseIdx k)))
theorem uU:MtM X "list.pop" Qd:=by
 intro pins s σ H x vs v us Q I rx rv h
 obtain ⟨l,xs,i,k,y,rfl,rfl,hH,h1,h2,hk,hy,q⟩:=h
 cases rx
 obtain ⟨u,rfl,ru⟩:=rv.one
 obtain ⟨t,rfl⟩:=ru
 obtain ⟨z,its,n,r,hl,e⟩:=I.jT hH
 obtain ⟨w,hw,mX⟩:=r.get hy
 refine call_meets F.slot_list_pop ⟨_,e,rfl⟩ F.entry_list_pop (F.args_list_pop_2 _ _)
  (MeetsSeq.list_pop_at l its.toArray n i t k w (fitsIndex_both h1 h2) (by rw [aaW, <- hl];exact hk) (by rw [<- Array.getElem?_toList];exact hw) (by rw [aaW];omega)) ⟨e,?_⟩
 refine ⟨y,_,I.Ls (its' :=its.eraseIdx k) hH e ?_ (r.eraseIdx k) ?_,mX,q⟩
 ·show its.toArray.eraseIdxIfInBounds k=(its.eraseIdx k).toArray
  rw [List.eraseIdxIfInBounds_toArray]
 ·have:=rj xs k
  omega
inductive TC (x:V)(y:V)(H:Hp)(Q:VK):Prop where
 | mk (l b xs zs:_) (_:x=.ref l) (_:y=.ref b) (_:H l=some (.lst xs)) (_:H b=some (.lst zs)) (_:xs.length+zs.length<=sizeLine) (_:∀p,H p=none->Q (.ref p) (upd H p (.lst (xs++zs)))):TC x y H Q
theorem xy:jk X (binaryOp .Add) TC:=by
 intro pins s σ H x y v u Q I rx ry h
 obtain ⟨l,b,xs,zs,rfl,rfl,hH,hB,hz,q⟩:=h
 cases rx
 cases ry
 obtain ⟨z,its,n,r,hl,e⟩:=I.jT hH
 obtain ⟨z2,dh,n2,r2,xa,e2⟩:=I.jT hB
 refine PySem.P.add_list e e2 ?_ (by rw [aaW,aaW];omega)
 have ea:its.toArray++dh.toArray=(its++dh).toArray:=by simp
 rw [ea]
 exact ⟨.ref _,_,I.Qc (t' :=s.toks) (r.append r2) (by rw [aat];omega),rfl,q _ I.fresh⟩
inductive TF (x:V)(y:V)(H:Hp)(Q:VK):Prop where
 | mk (l k xs:_) (_:x=.ref l) (_:y=.int k) (_:H l=some (.lst xs)) (_: -(2^63)<=k) (_:k < 2^63) (_:xs.length*k.toNat<=sizeLine) (_:∀p,H p=none->Q (.ref p) (upd H p (.lst (aa2 k.toNat xs).flatten))):TF x y H Q
theorem len_rep {α:Type}(xs:List α)(k:Nat):(aa2 k xs).flatten.length=k*xs.length:=by
 induction k with
 | zero=>simp
 | succ k ih=>rw [ab7,ahm,aat,ih,Nat.succ_mul,ait]
theorem GZ:jk X (binaryOp .Mult) TF:=by
 intro pins s σ H x y v u Q I rx ry h
 obtain ⟨l,k,xs,rfl,rfl,hH,h1,h2,hz,q⟩:=h
 cases rx
 obtain ⟨t,rfl⟩:=ry
 obtain ⟨z,its,n,r,hl,e⟩:=I.jT hH
 have hlen:its.toArray.size*k.toNat<=sizeLine:=by rw [aaW, <- hl];exact hz
 have aaw:¬ its.toArray.size*k.toNat > (2^63 - 1) / 8:=by
  have:(sizeLine:Nat)<=(2^63 - 1) / 8:=by decide
  omega
 have aax:¬ (!Builtin.List.listFitsIndex k)=true:=by
  rw [fitsIndex_both h1 h2]
  exact aaX
 have uT:¬ Builtin.List.listTooLong (its.toArray.size*k.toNat)=true:=by
  rw [nZ hlen]
  exact aaX
 have aay:ak_ (fun x1 x2=>x1++x2) #[] (aa2 (if its.toArray.isEmpty=true then 0 else k.toNat) its.toArray)=(aa2 k.toNat its).flatten.toArray:=by
  have f0:∀m:Nat,ak_ (fun x1 x2=>x1++x2) #[] (aa2 m its.toArray)=(aa2 m its).flatten.toArray:=fun m=>by
   have:=foldl_rep its m []
   rw [ahC] at this
   exact this
  rw [f0]
  cases its with
  | nil=>simp
  | cons a r' =>rw [if_neg (by simp)]
 refine wpAny_binaryOp_repeat_ref (T:="list") (U:="int") (by decide) ⟨_,e,rfl⟩ (fun s' =>typeIs_int s' k t) noFill_list_mul F.fills_int_mul F.slot_int_rmul repeat_list F.slot_int_index.lookup
  (call_meets F.slot_int_rmul (typeIs_int s k t) F.entry_int_rmul (F.args_int_rmul_2 _ _) (int___rmul___int_list k t l its.toArray n)
   ⟨e,rfl,⟨_,e,rfl⟩,call_meets F.slot_list_mul ⟨_,e,rfl⟩ F.entry_list_mul (F.args_list_mul_2 _ _) (AutoListH.list___mul___list_int_3 l its.toArray n k t aax aaw uT) ⟨e,?_⟩⟩)
 rw [aay]
 exact ⟨.ref _,_,I.Qc (t' :=s.toks) (r.rep k.toNat) (by rw [len_rep,ahI];exact hz),rfl,q _ I.fresh⟩
end
section
variable {prog:Program}{w:World}{A:Around}{E:γ}{s:Shared}
set_option maxRecDepth 100000 in
end
section
variable {X:Cx}
end
end L2
namespace Att
open PySem PySem.W PySem.Calls PyProof.Rows
theorem mH {P:Params}{h:Heap}:∀(ns:ν) (vs:ο),WellAll P h vs (ns.map WData.int)->IntsAre vs ns:=by
 intro ns
 induction ns with
 | nil=>
  intro vs w
  rw [ad_] at w
  cases w
  exact .nil
 | cons n ns ih=>
  intro vs w
  rw [aaR] at w
  cases w with
  | cons a b=>
   cases a
   exact .cons _ _ (ih _ b)
theorem BE {l:OpenLaw}{n:Nat}(hn:l.most=some n){P:Params}{h:Heap}{args:List WData}{vals:ο}
  (Lu:l.row.toRowW.claim.pre args=true) (hwl:WellAll P h vals args):
  ∃a vs ns,vals=[Value.ref a]/\args=[WData.list (ns.map WData.int)]/\h.get? a=some {cls:=.type "list",data:=.seq vs.toArray}/\IntsAre vs ns/\ns.length<=n:=by
 have hsh:WShape.hasAll [] args [.list .int]=true:=(pre_splitW Lu).1
 have hc:l.pre.holds [] {args:=args}=true:=(pre_splitW Lu).2
 obtain ⟨d,r,rfl,h1,h2⟩:=hasAllW_cons hsh
 obtain rfl:=hasAllW_nil h2
 obtain ⟨xs,rfl,h3⟩:=hasW_list h1
 obtain ⟨ns,rfl⟩:=items_int h3
 have hlen:ns.length<=n:=by
  unfold OpenLaw.pre at hc
  have h4:(WTm.not (.lt (.lit (.int (n:Int))) (.len (.arg 0)))).holds [] {args:=[.list (ns.map .int)]}=true:=by
   have h4:=(holds_andW hc).1
   rw [hn] at h4
   exact h4
  have h5:=condW_of h4 (w_not (w_lt w_lit (w_len_list (w_arg rfl))))
  rw [ir] at h5
  refine ah0 fun q=>?_
  have q' :(n:Int) < ((ns.length:Nat):Int):=by omega
  first
   | (rw [decide_eq_true q'] at h5;exact absurd h5 (by decide))
   | (simp at h5;omega)
 cases hwl with
 | cons w1 w2=>
  cases w2
  cases w1 with
  | list ho G_=>exact ⟨_,_,ns,rfl,rfl,ho,mH ns _ G_,hlen⟩
theorem BF (l:OpenLaw)(args:List WData):l.row.toRowW.claim.post args (.bool true) args=true:=
 postW_of (r:=l.row.toRowW) (X:=(true==true))
  (show WShape.has [] (.bool true) .bool=true by first | rfl | decide | simp [WShape.has,WShape.arms,WShape.armsAll])
  (show (WTm.eq .res (.lit (.bool true))).value [] {args:=args,res:=some (.bool true),after:=args}=some (.bool (true==true)) from w_eq_bool (w_res rfl) w_lit) rfl
section
variable {prog:Program}{w:World}{A:Around}{E:γ}{s:Shared}{K:Frag}
end
end Att
namespace L2
open PySem PySem.Spec PyProof.Rows
theorem rl:∀{vs:ο} {ns:ν},IntsAre vs ns->Vals (ns.map V.int) vs
 | _,_,.nil=>.nil
 | _,_,.cons n t h=>.cons ⟨t,rfl⟩ (rl h)
def TH (H:Hp):Prop:=∀b,H b=none\/∃o xs,H b=some (.fj o (.lst xs))
theorem G' {P:Program}{w:World}{K:Frag}{mg mb:ι}{CX:jQ}{k:Nat}{fa a:Addr}{fd:FuncData}{x:Str}{sp:Sp}{s₁:Shared}{vs:ο}{ns:ν}
  (KX:K.In s₁.heap) (hns:s₁.heap.Ns mainGlobals mg) (hb:s₁.heap.Ns builtinsNs mb) (hbb:∀x:Str,x≠ "__name__"->mb x=bootBuiltins x) (aaA:s₁.heap.NoLimit) (Lv:s₁.heap.NoSeer) (hg:s₁.gens= #[])
  (ha:s₁.heap.get? a=some {cls:=.type "list",data:=.seq vs.toArray}) (hi:IntsAre vs ns) (hl:ns.length<=sizeLine) (hr:cg k callerA)
  (F:∀base:Heap,K.In base->base.Ns mainGlobals mg->cJ P w K mg base CX k fa fd [x] sp) (TJ:∀(s:Shared) (u:Value),BindsTo s fd ⟨[u],[]⟩ [(x,u)])
  (si:∀H:Hp,TH H->aZ K H a (ns.map V.int)->sp [.ref a] H (fun v _=>v=.bl true) fun _ _ _=>False)
  (hCX:∀H e s',CX [] H s₁ (fun _ _ _=>False) e s' ->False):
  codeAny (model P w) callerA (.call (.ref fa) ⟨[.ref a],[]⟩) (fun r s' =>r=.ok (.ret (.bool true))/\OldK s₁.heap s'.heap/\s'.os=s₁.os/\AllBare s'.gens) s₁:=by
 have rv:=rl hi
 have aaB:=hi.length
 have core:∀H:Hp,TH H->aZ K H a (ns.map V.int)->ji P w H s₁.heap->(∀b,H b≠none->b=a)->(H a≠none->K.lookup a=none)->
   codeAny (model P w) callerA (.call (.ref fa) ⟨[.ref a],[]⟩) (fun r s' =>r=.ok (.ret (.bool true))/\OldK s₁.heap s'.heap/\s'.os=s₁.os/\AllBare s'.gens) s₁:=by
  intro H hO hS bL hA hK
  have sx:∀{b:Addr} {o:Obj},s₁.heap.get? b=some o->H b=none->(r6 s₁.heap H).get? b=some o:=fun e n=>FO e n
  have Ts:∀{b:Addr} {o:Obj} {es:Array DictEntry} {ep:Nat},s₁.heap.get? b=some o->o.data=.dict es ep->H b=none:=fun {b o es ep} e d=>by
   cases q:H b with
   | none=>rfl
   | some u=>
    have e' :b=a:=hA b (by rw [q];simp)
    subst e'
    rw [ha] at e;cases e
    have d' :Data.seq vs.toArray _=Data.dict es ep:=d
    cases d'
  have N3:∀{b:Addr} {m:ι},s₁.heap.Ns b m->(r6 s₁.heap H).Ns b m:=fun {b m} ⟨o,es,ep,e,d,r⟩=>⟨o,es,ep,sx e (Ts e d),d,r⟩
  have hKb:K.In (r6 s₁.heap H):=fun b o e=>sx (KX b o e) (by
   cases q:H b with
   | none=>rfl
   | some u=>
    have e' :b=a:=hA b (by rw [q];simp)
    subst e'
    rw [hK (by rw [q];simp)] at e;cases e)
  have hM:Mod K mg (r6 s₁.heap H):=⟨hKb,N3 hns,⟨mb,N3 hb,hbb⟩,let ⟨mc,h1,h2⟩:=aaA;⟨mc,N3 h1,h2⟩,
   ⟨let ⟨mc,h1,h2⟩:=Lv.statics;⟨mc,N3 h1,h2⟩,let ⟨mc,h1,h2⟩:=Lv.mods;⟨mc,N3 h1,h2⟩,let ⟨mc,h1,h2⟩:=Lv.imp;⟨mc,N3 h1,h2⟩,
    let ⟨mg',bm,ob,h1,h2,h3,h4,h5⟩:=Lv.main;⟨mg',bm,ob,N3 h1,h2,sx h3 (by
     cases q:H bm with
     | none=>rfl
     | some u=>
      have e' :bm=a:=hA bm (by rw [q];simp)
      subst e'
      rw [ha] at h3
      cases h3
      have h4' :Value.type "list"=Value.type "module":=h4
      injection h4' with e9
      exact absurd e9 (by decide)),h4,h5⟩⟩⟩
  have e0:xu P w K mg (r6 s₁.heap H) callerA [] s₁ H:=⟨rfl,hM,fun b o e=>K_ e,ah1 (AS _ _),trivial,fun b hb=>absurd (show b∈([]:List Addr) from hb) (by simp),bL,.of_eq hg⟩
  refine codeAny_mono ((F _ hKb (N3 hns)).run callerA [] s₁ H ⟨[.ref a],[]⟩ [.ref a] [.ref a] _ _ hr e0 (TJ s₁ (.ref a)) (.cons rfl .nil) (si H hO hS)) fun r s' h=>?_
  cases r with
  | error e=>exact (hCX H e s' h).elim
  | ok fl=>
   cases fl with
   | next=>exact False.elim h
   | brk=>exact False.elim h
   | cont=>exact False.elim h
   | ret u=>
    obtain ⟨v,H',os,bare,un,aaC,r',q⟩:=h
    have q' :v=.bl true:=q
    subst q'
    obtain rfl:u=Value.bool true:=r'
    refine ⟨rfl,OldK.of_keep fun b o e=>?_,os,bare⟩
    cases q:H b with
    | none=>exact un.keep b o e q (by intro z;exact absurd (show b∈([]:List Addr) from z) (by simp)) (by simp)
    | some u=>
     rcases hO b with z | ⟨ob,xs,z⟩
     ·rw [q] at z;cases z
     ·have z2:=un.qd b ob _ z
      obtain ⟨e1,_⟩:=bL b _ z
      obtain ⟨e2,_⟩:=aaC b _ z2
      rw [e] at e1;cases e1
      exact e2
 cases hk:K.lookup a with
 | some o=>
  have e:=KX a o hk
  rw [ha] at e
  cases e
  refine core (fun _=>none) (fun _=>.inl rfl) (.inr ⟨_,vs.toArray,_,hk,rfl,rfl,rfl,by rw [aaW,aaB];exact hl,by simpa using rv⟩) (fun b u z=>by have z' :(none:Option HO)=some u:=z;cases z') (fun b z=>absurd rfl z) fun z=>absurd rfl z
 | none=>
  refine core (fun b=>if b=a then some (.fj {cls:=.type "list",data:=.seq vs.toArray} (.lst (ns.map V.int))) else none) (fun b=>?_) (.inl (.inr ⟨{cls:=.type "list",data:=.seq vs.toArray},if_pos rfl⟩)) (fun b u z=>?_) (fun b z=>?_) fun _=>hk
  ·by_cases hb:b=a
   ·exact .inr ⟨_,_,if_pos hb⟩
   ·exact .inl (if_neg hb)
  ·by_cases hb:b=a
   ·have z' :=(if_pos hb).symm.trans z
    cases z'
    subst hb
    exact ⟨ha,by rw [ir];exact hl,vs,_,rv,ha⟩
   ·have z' :=(if_neg hb).symm.trans z
    cases z'
  ·by_cases hb:b=a
   ·exact hb
   ·exact absurd (if_neg hb) z
end L2
namespace L2
open PySem PySem.Spec PyProof.Rows
abbrev KOf {K:Frag}{h:Heap}(_:K.In h):Frag:=K
end L2
namespace L2
open PySem PySem.Spec PyProof.Rows
def inClass (s:Stmt)(j:Nat):Stmt:=match s with
 | .ClassDef _ _ _ body _ _ _ _ _ _ _=>body.getD j (.Pass ⟨0,0,0,0⟩)
 | _=>.Pass ⟨0,0,0,0⟩
def ay (s:Stmt):Arguments:=match s with
 | .FunctionDef _ a _ _ _ _ _ _ _ _=>a
 | _=>{posonlyargs:=[],args:=[],vararg:=none,kwonlyargs:=[],kw_defaults:=[],kwarg:=none,defaults:=[]}
def aw (s:Stmt):List Stmt:=match s with
 | .FunctionDef _ _ b _ _ _ _ _ _ _=>b
 | _=>[]
def ag (s:Stmt):Scope:=match s with
 | .FunctionDef _ _ _ _ _ _ sc _ _ _=>sc
 | _=>{kind:=.function,names:=[],isGenerator:=false,isCoroutine:=false}
abbrev E0:XK:=fun _ _ _=>False
structure m6 (K:Frag)(x qual:Str)(st:Stmt)(f:Addr)(fd:FuncData):Prop where
 ex:∃(oc:Value) (od:Ι) (kV doc pm:Value) (an:Ι) (bH ct:Value) (pZ:Κ),
  fd=fnOf x qual (ay st) (aw st) (ag st) .none kV doc pm an bH ct/\K.lookup f=some ⟨oc,od,.func fd,pZ⟩/\codeIn K bH qual=true
 kp:keepIn K (.ref f)=true
section
variable {P:Program}{w:World}{K:Frag}{mg:ι}{base:Heap}
theorem m6.binds {x qual:Str}{st:Stmt}{f:Addr}{fd:FuncData}{ps:ρ}(F:m6 K x qual st f fd)
  (h:∀(kV doc pm:Value) (an:Ι) (bH ct:Value) (us:ο),us.length=ps.length->bindArgs (fnOf x qual (ay st) (aw st) (ag st) .none kV doc pm an bH ct) ⟨us,[]⟩=pure (ps.zip us)):Binds K fd ps []:=by
 obtain ⟨oc,od,kV,doc,pm,an,bH,ct,pZ,rfl,lk,qe⟩:=F.ex
 exact .all (h kV doc pm an bH ct)
theorem cW {x qual:Str}{st:Stmt}{f:Addr}{oc:Value}{od an:Ι}{pZ:Κ}{kV doc pm bH ct:Value}(l:K.lookup f=some ⟨oc,od,.func (fnOf x qual (ay st) (aw st) (ag st) .none kV doc pm an bH ct),pZ⟩)
  (c:codeIn K bH qual=true) (k:keepIn K (.ref f)=true):m6 K x qual st f (fnOf x qual (ay st) (aw st) (ag st) .none kV doc pm an bH ct):=⟨⟨oc,od,kV,doc,pm,an,bH,ct,pZ,rfl,l,c⟩,k⟩
end
theorem cX {A:Around}{k:Nat}(hr:cg k A):A.units+1 < cLine:=aaz (Nat.add_le_add_left (by decide:1<=64) _) hr.units
section
variable {X:Cx}
theorem pv (i:Nat){x:Str}{pos:Pos}(hN:X.N[i]? =some x:=by rfl)(hv:Z8 X.env.scope x:=by first | exact aav rfl | exact abu (aav rfl) | exact abu (abu rfl))(hd:(x==("__debug__":Str))=false:=by decide)
  (qe:(x==("__classdict__":Str))=false:=by decide):PE X (.Name x pos) (PK i):=PM hN hv hd qe
end
theorem Qe {A B:Prop}(h:B):if false=true then A else B:=by
 rw [if_neg aaX]
 exact h
theorem Qf {A B:Prop}(h:A):if true=true then A else B:=by
 rw [if_pos rfl]
 exact h
theorem bf {c A B:Prop}[Decidable c](h1:c->A)(h2:¬ c->B):if c then A else B:=by
 by_cases h:c
 ·rw [if_pos h]
  exact h1 h
 ·rw [if_neg h]
  exact h2 h
theorem TK {c A B:Prop}[Decidable c](hc:c)(h:B):if (!decide c)=true then A else B:=by
 rw [decide_eq_true hc]
 exact Qe h
def av (H H' :Hp):Prop:=∀b o,H b=some o->H' b=some o
theorem av.refl (H:Hp):av H H:=fun _ _ h=>h
theorem av.trans {H H1 H2:Hp}(a:av H H1)(b:av H1 H2):av H H2:=fun c o h=>b c o (a c o h)
theorem av.free {H H' :Hp}(e:av H H'){l:Addr}(h:H' l=ao8):H l=ao8:=by
 cases q:H l with
 | none=>rfl
 | some o=>
  rw [e l o q] at h
  cases h
theorem av.seq {K:Frag}{H H' :Hp}{a:Addr}{xs:η}(e:av H H')(h:aZ K H a xs):aZ K H' a xs:=by
 rcases h with (h | ⟨o,h⟩) | h
 ·exact .inl (.inl (e _ _ h))
 ·exact .inl (.inr ⟨o,e _ _ h⟩)
 ·exact .inr h
end L2
namespace Ty
def gz (t b:Int):Int:=(abx t b:Nat)
def sg (t b:Int):Int:=if b < 0 then -gz t b else gz t b
def low (t b:Int):Int×Int:=(t.fdiv (sg t b),b.fdiv (sg t b))
theorem uV (a b:Int):abx b (a.fmod b)=abx a b:=by
 rw [aiu,Int.gcd_sub_mul_left_right,Int.gcd_comm]
theorem rm {a b:Int}(h:b≠0):(a.fmod b).natAbs < b.natAbs:=by
 rcases ahT b 0 with q | q | q
 ·have h1:(-a).fmod (-b)= -(a.fmod b):=by
   rw [aiu,aiu,Int.neg_fdiv_neg,Int.neg_mul]
   omega
  have h2:=acy (-a) (show 0 < -b by omega)
  have h3:=ahL (-a) (show 0 < -b by omega)
  omega
 ·exact absurd q h
 ·have h2:=acy a q
  have h3:=ahL a q
  omega
theorem sy {t b:Int}(h:b≠0):0 < gz t b:=by
 have:=aiN.mpr (abu h:t≠0\/b≠0)
 show (0:Int) < ((abx t b:Nat):Int)
 omega
theorem TL {t b:Int}(h:b≠0):(gz t b).natAbs<=b.natAbs:=by
 have h1:abx t b ∣ b.natAbs:=acF.mpr (acr t b)
 have h2:=Nat.le_of_dvd (by omega) h1
 show ((abx t b:Nat):Int).natAbs<=_
 omega
theorem n_ {t b:Int}(h:b≠0):sg t b≠0:=by
 have:=sy (t:=t) h
 unfold sg
 split <;> omega
theorem Qg {t b:Int}:(sg t b).natAbs=(gz t b).natAbs:=by
 unfold sg
 split
 ·exact am_ _
 ·rfl
theorem uW (t b:Int):sg t b ∣ t:=by
 unfold sg gz
 split
 ·exact Int.neg_dvd.mpr (acx t b)
 ·exact acx t b
theorem sC (t b:Int):sg t b ∣ b:=by
 unfold sg gz
 split
 ·exact Int.neg_dvd.mpr (acr t b)
 ·exact acr t b
theorem ck {a g:Int}(h:g≠0)(d:g ∣ a):a=g*a.fdiv g:=by
 obtain ⟨c,hc⟩:=d
 have:=acI h hc
 rw [this]
 exact hc
theorem m7 {t b:Int}(h:b≠0):t=sg t b*(low t b).1:=ck (n_ h) (uW t b)
theorem jU {t b:Int}(h:b≠0):b=sg t b*(low t b).2:=ck (n_ h) (sC t b)
theorem jV {t b:Int}(h:b≠0):0 < (low t b).2:=by
 have e:=jU (t:=t) h
 have g:=sy (t:=t) h
 rcases ahT (low t b).2 0 with q | q | q
 ·exfalso
  by_cases c:b < 0
  ·have s:sg t b= -gz t b:=by unfold sg;rw [if_pos c]
   rw [s] at e
   have:=Int.mul_pos_of_neg_of_neg (show -gz t b < 0 by omega) q
   omega
  ·have s:sg t b=gz t b:=by unfold sg;rw [if_neg c]
   rw [s] at e
   have:=ahQ g q
   omega
 ·exfalso
  rw [q,aho] at e
  exact h e
 ·exact q
theorem BG {t b:Int}(h:b≠0):(low t b).1*b=t*(low t b).2:=by
 have e1:=m7 (t:=t) h
 have e2:=jU (t:=t) h
 calc (low t b).1*b=(low t b).1*(sg t b*(low t b).2):=by rw [<- e2]
  _=sg t b*(low t b).1*(low t b).2:=by rw [<- ahx,acs (low t b).1]
  _=t*(low t b).2:=by rw [<- e1]
theorem m9 {t b:Int}(h:b≠0):abx (low t b).1 (low t b).2=1:=by
 have e1:=m7 (t:=t) h
 have e2:=jU (t:=t) h
 have k:abx t b=(sg t b).natAbs*abx (low t b).1 (low t b).2:=by
  have q:=aiJ (sg t b) (low t b).1 (low t b).2
  rw [<- e1, <- e2] at q
  exact q
 have g:(sg t b).natAbs=abx t b:=by
  rw [Qg]
  rfl
 have p:=aiN.mpr (abu h:t≠0\/b≠0)
 rw [g] at k
 have k' :abx t b*1=abx t b*abx (low t b).1 (low t b).2:=by rw [Nat.mul_one];exact k
 exact (Nat.eq_of_mul_eq_mul_left p k').symm
theorem dC {g a:Int}(h:g≠0):a.natAbs<=(g*a).natAbs:=by
 rw [ab0]
 have:1<=g.natAbs:=by omega
 have:=ab1 a.natAbs this
 omega
theorem oa {t b:Int}(h:b≠0):(low t b).1.natAbs<=t.natAbs:=by
 have e:=m7 (t:=t) h
 have:=dC (g:=sg t b) (a:=(low t b).1) (n_ h)
 rw [<- e] at this
 exact this
theorem og {t b:Int}(h:b≠0):(low t b).2.natAbs<=b.natAbs:=by
 have e:=jU (t:=t) h
 have:=dC (g:=sg t b) (a:=(low t b).2) (n_ h)
 rw [<- e] at this
 exact this
theorem HA {t b g x y:Int}(hg:g≠0)(ht:t=g*x)(hb:b=g*y)(hy:0 < y)(h1:abx x y=1):low t b=(x,y):=by
 have hbn:b≠0:=by
  rw [hb]
  exact aiO hg (by omega)
 have gg:abx t b=g.natAbs:=by
  rw [ht,hb,aiJ,h1,Nat.mul_one]
 have s:sg t b=g:=by
  unfold sg gz
  rw [gg]
  by_cases c:g < 0
  ·have:b < 0:=by rw [hb];exact Int.mul_neg_of_neg_of_pos c hy
   rw [if_pos this]
   omega
  ·have:¬ b < 0:=by
    have:=Int.mul_nonneg (show 0<=g by omega) (show 0<=y by omega)
    omega
   rw [if_neg this]
   omega
 unfold low
 rw [s]
 rw [acI hg ht,acI hg hb]
theorem uX {x y:Int}(hy:0 < y)(h:abx x y=1):low x y=(x,y):=HA (g:=1) (by decide) (by omega) (by omega) hy h
theorem rn {t b k:Int}(hk:k≠0)(h:b≠0):low (k*t) (k*b)=low t b:=by
 refine HA (g:=k*sg t b) (aiO hk (n_ h)) ?_ ?_ (jV h) (m9 h)
 ·rw [ahx]
  exact congrArg (k*·) (m7 h)
 ·rw [ahx]
  exact congrArg (k*·) (jU h)
theorem qi {t b u c:Int}(hb:b≠0)(hc:c≠0)(h:t*c=u*b):low t b=low u c:=by
 rw [<- rn (t:=t) (b:=b) hc hb, <- rn (t:=u) (b:=c) hb hc]
 rw [acs c t,h,acs u b,acs c b]
end Ty
set_option maxHeartbeats 4000000
namespace Ty
open PySem PySem.Spec PyProof.Rows L2
open Builtin.Int (intBits)
section
variable {X:Cx}
def iD (i j:Int):Prop:=intBits i<=33554432/\intBits j<=33554432
theorem bS:jk X (binaryOp .Mult) (rI iD fun i j=>.int (i*j)):=
 Zp fun _ _ _ _ _ _ _ hc q=>mul_int q (IntMulOk.of_le hc.1 hc.2 (by decide))
def TM (i j:Int):Prop:=j≠0/\intBits j<=9000
theorem aaD {i j:Int}(h:intBits j<=9000):Builtin.divisionGoesByPylong i j=false:=by
 refine PyProof.noPylong_of_log2 ?_
 have h1:=intBits_le_iff.mp h
 by_cases h0:j.natAbs=0
 ·rw [h0]
  decide+kernel
 ·exact (Nat.log2_lt h0).mpr h1
theorem uY:jk X (binaryOp .FloorDiv) (rI TM fun i j=>.int (i.fdiv j)):=
 Zp fun _ _ _ _ _ _ _ hc q=>floordiv_int hc.1 q (.inl (aaD hc.2))
end
inductive Da where
 | v (x:V)
 | t (ds:List Da)
 | l (ds:List Da)
mutual
def Is (K:Frag)(H:Hp):Da->V->Prop
 | .v x,u=>u=x/\jm x=true
 | .t ds,u=>∃p xs,u=.ref p/\bQ K H p xs/\fN K H ds xs
 | .l ds,u=>∃p xs,u=.ref p/\aZ K H p xs/\fN K H ds xs
def fN (K:Frag)(H:Hp):List Da->List V->Prop
 | [],[]=>True
 | d::ds,x::xs=>Is K H d x/\fN K H ds xs
 | _,_=>False
end
mutual
def gZ:Da->Da->Bool
 | .v x,.v y=>rg x y
 | .t ds,.t es=>dw ds es
 | .l ds,.l es=>dw ds es
 | _,_=>false
def dw:List Da->List Da->Bool
 | [],[]=>true
 | d::ds,e::es=>gZ d e && dw ds es
 | _,_=>false
end
mutual
def alike:Da->Da->Bool
 | .v _,.v _=>true
 | .t ds,.t es=>c_ ds es
 | .l ds,.l es=>c_ ds es
 | _,_=>false
def c_:List Da->List Da->Bool
 | d::ds,e::es=>alike d e && c_ ds es
 | _,_=>true
end
mutual
def dep:Da->Nat
 | .v _=>0
 | .t ds=>gx ds+1
 | .l ds=>gx ds+1
def gx:List Da->Nat
 | []=>0
 | d::ds=>max (dep d) (gx ds)
end
theorem fN.length {K:Frag}{H:Hp}:∀{ds:List Da} {xs:η},fN K H ds xs->ds.length=xs.length
 | [],[],_=>rfl
 | _::_,_::_,h=>congrArg (·+1) (fN.length (by unfold fN at h;exact h.2))
 | [],_::_,h=>by unfold fN at h;exact h.elim
 | _::_,[],h=>by unfold fN at h;exact h.elim
def iE (ds es:List Da)(j:Nat):Bool:=match ds[j]?,es[j]? with
 | some d,some e=>gZ d e
 | _,_=>true
theorem dc:∀ds es:List Da,dw ds es=((abk (min ds.length es.length)).all (iE ds es) && ds.length==es.length)
 | [],[]=>rfl
 | [],_::_=>by simp [dw]
 | _::_,[]=>by simp [dw]
 | d::ds,e::es=>by
  have ih:=dc ds es
  have r:min (d::ds).length (e::es).length=min ds.length es.length+1:=by simp [Nat.succ_min_succ]
  rw [r,ah2,ain,List.all_map]
  have b0:iE (d::ds) (e::es) 0=gZ d e:=rfl
  have b1:(iE (d::ds) (e::es) ∘ Nat.succ)=iE ds es:=by
   funext j
   rfl
  have l1:((d::ds).length==(e::es).length)=(ds.length==es.length):=by simp
  rw [b0,b1,l1,Bool.and_assoc, <- ih]
  rfl
section
variable {X:Cx}{pins:ε}{σ:L2.St}{H:Hp}{s:Shared}
theorem uZ {x:V}(h:jm x=true):rg x x=true:=by
 cases x <;> first | rfl | (simp [rg];done) | (cases h;done)
mutual
theorem sD (I:Inv X pins σ H s):∀(d e:Da) (x:V),Is X.K H d x->Is X.K H e x->alike d e=true->gZ d e=true
 | .v a,.v b,x,h1,h2,_=>by
  unfold Is at h1 h2
  obtain ⟨rfl,f⟩:=h1
  obtain ⟨rfl,_⟩:=h2
  unfold gZ
  exact uZ f
 | .t ds,.t es,x,h1,h2,a=>by
  unfold Is at h1 h2
  obtain ⟨p,xs,rfl,q1,k1⟩:=h1
  obtain ⟨p',ys,e',q2,k2⟩:=h2
  cases e'
  cases I.gD q1 q2
  unfold gZ
  unfold alike at a
  exact oh I ds es xs k1 k2 a
 | .l ds,.l es,x,h1,h2,a=>by
  unfold Is at h1 h2
  obtain ⟨p,xs,rfl,q1,k1⟩:=h1
  obtain ⟨p',ys,e',q2,k2⟩:=h2
  cases e'
  cases I.iA q1 q2
  unfold gZ
  unfold alike at a
  exact oh I ds es xs k1 k2 a
 | .v _,.t _,_,_,_,a=>by unfold alike at a;cases a
 | .v _,.l _,_,_,_,a=>by unfold alike at a;cases a
 | .t _,.v _,_,_,_,a=>by unfold alike at a;cases a
 | .t _,.l _,_,_,_,a=>by unfold alike at a;cases a
 | .l _,.v _,_,_,_,a=>by unfold alike at a;cases a
 | .l _,.t _,_,_,_,a=>by unfold alike at a;cases a
theorem oh (I:Inv X pins σ H s):∀(ds es:List Da) (xs:η),fN X.K H ds xs->fN X.K H es xs->c_ ds es=true->dw ds es=true
 | [],[],_,_,_,_=>by unfold dw;rfl
 | d::ds,e::es,x::xs,h1,h2,a=>by
  unfold fN at h1 h2
  unfold c_ at a
  rw [abM] at a
  unfold dw
  rw [sD I d e x h1.1 h2.1 a.1,oh I ds es xs h1.2 h2.2 a.2]
  rfl
 | [],_::_,[],_,h2,_=>by unfold fN at h2;exact h2.elim
 | [],_::_,_::_,h1,_,_=>by unfold fN at h1;exact h1.elim
 | _::_,[],[],h1,_,_=>by unfold fN at h1;exact h1.elim
 | _::_,[],_::_,_,h2,_=>by unfold fN at h2;exact h2.elim
 | _::_,_::_,[],h1,_,_=>by unfold fN at h1;exact h1.elim
end
theorem in1_units (A:Around):A.in1.units=A.units+1:=rfl
mutual
theorem zh (I:Inv X pins σ H s):∀(d e:Da) (x y:V) (u w:Value) (A:Around),Is X.K H d x->Is X.K H e y->alike d e=true->RelV x u->RelV y w->A.units+dep d < cLine->SeqAt.EqAt A s u w (gZ d e)
 | .v a,.v b,x,y,u,w,A,h1,h2,_,r1,r2,_=>by
  unfold Is at h1 h2
  obtain ⟨rfl,f1⟩:=h1
  obtain ⟨rfl,f2⟩:=h2
  unfold gZ
  exact GV r1 r2 f1 f2
 | .t ds,.t es,x,y,u,w,A,h1,h2,a,r1,r2,hu=>by
  have dz :=h1
  have h2' :=h2
  unfold Is at h1 h2
  obtain ⟨p,xs,rfl,q1,k1⟩:=h1
  obtain ⟨p',ys,rfl,q2,k2⟩:=h2
  cases r1
  cases r2
  by_cases e:p=p'
  ·subst e
   rw [sD I _ _ _ dz h2' a]
   exact .same _
  ·refine .of_refs e ?_
   obtain ⟨its,v1,t1,_⟩:=I.tuple q1
   obtain ⟨dh,v2,t2,_⟩:=I.tuple q2
   unfold gZ
   rw [dc,k1.length,k2.length,v1.length,v2.length]
   have z:=SeqAt.RcAt.tuples (A:=A) (e:=iE ds es) t1 t2 (by unfold dep at hu;omega) fun j g1 g2=>by
    unfold dep at hu
    unfold alike at a
    exact fW I ds es xs ys its dh A.in1 k1 k2 a v1 v2 (by rw [in1_units];omega) j (by simpa using g1) (by simpa using g2)
   simpa using z
 | .l ds,.l es,x,y,u,w,A,h1,h2,a,r1,r2,hu=>by
  have dz :=h1
  have h2' :=h2
  unfold Is at h1 h2
  obtain ⟨p,xs,rfl,q1,k1⟩:=h1
  obtain ⟨p',ys,rfl,q2,k2⟩:=h2
  cases r1
  cases r2
  by_cases e:p=p'
  ·subst e
   rw [sD I _ _ _ dz h2' a]
   exact .same _
  ·refine .of_refs e ?_
   obtain ⟨its,v1,t1,_⟩:=I.list q1
   obtain ⟨dh,v2,t2,_⟩:=I.list q2
   unfold gZ
   unfold dep at hu
   unfold alike at a
   by_cases el:its.length=dh.length
   ·rw [dc,k1.length,k2.length,v1.length,v2.length]
    have z:=SeqAt.RcAt.lists (A:=A) (e:=iE ds es) t1.isList t2.isList (by simpa using el) (by omega) fun j g1 g2=>
     fW I ds es xs ys its dh A.in1 k1 k2 a v1 v2 (by rw [in1_units];omega) j (by simpa using g1) (by simpa using g2)
    rw [el,aiv,beq_self_eq_true,aio]
    rw [aaW,el] at z
    exact z
   ·have ne:dw ds es=false:=by
     rw [dc,k1.length,k2.length,v1.length,v2.length,beq_eq_false_iff_ne.mpr el,ahn]
    rw [ne]
    exact SeqAt.RcAt.lists_lengths t1.isList t2.isList (by simpa using el) (by omega)
 | .v _,.t _,_,_,_,_,_,_,_,a,_,_,_=>by unfold alike at a;cases a
 | .v _,.l _,_,_,_,_,_,_,_,a,_,_,_=>by unfold alike at a;cases a
 | .t _,.v _,_,_,_,_,_,_,_,a,_,_,_=>by unfold alike at a;cases a
 | .t _,.l _,_,_,_,_,_,_,_,a,_,_,_=>by unfold alike at a;cases a
 | .l _,.v _,_,_,_,_,_,_,_,a,_,_,_=>by unfold alike at a;cases a
 | .l _,.t _,_,_,_,_,_,_,_,a,_,_,_=>by unfold alike at a;cases a
theorem fW (I:Inv X pins σ H s):∀(ds es:List Da) (xs ys:η) (us ws:ο) (A:Around),fN X.K H ds xs->fN X.K H es ys->c_ ds es=true->Vals xs us->Vals ys ws->A.units+gx ds < cLine->
  ∀(j:Nat) (h1:j < us.length) (h2:j < ws.length),SeqAt.EqAt A s us[j] ws[j] (iE ds es j)
 | d::ds,e::es,x::xs,y::ys,u::us,w::ws,A,k1,k2,a,.cons r1 v1,.cons r2 v2,hu,0,_,_=>by
  unfold fN at k1 k2
  unfold c_ at a
  rw [abM] at a
  unfold gx at hu
  exact zh I d e x y u w A k1.1 k2.1 a.1 r1 r2 (by omega)
 | d::ds,e::es,x::xs,y::ys,u::us,w::ws,A,k1,k2,a,.cons r1 v1,.cons r2 v2,hu,j+1,h1,h2=>by
  unfold fN at k1 k2
  unfold c_ at a
  rw [abM] at a
  unfold gx at hu
  exact fW I ds es xs ys us ws A k1.2 k2.2 a.2 v1 v2 (by omega) j (by simpa using h1) (by simpa using h2)
 | [],_,[],_,_,_,_,_,_,_,.nil,_,_,_,h1,_=>absurd h1 (ab6 _)
 | _,[],_,[],_,_,_,_,_,_,_,.nil,_,_,_,h2=>absurd h2 (ab6 _)
 | [],_,_::_,_,_,_,_,k1,_,_,_,_,_,_,_,_=>by unfold fN at k1;exact k1.elim
 | _::_,_,[],_,_,_,_,k1,_,_,_,_,_,_,_,_=>by unfold fN at k1;exact k1.elim
 | _,[],_,_::_,_,_,_,_,k2,_,_,_,_,_,_,_=>by unfold fN at k2;exact k2.elim
 | _,_::_,_,[],_,_,_,_,k2,_,_,_,_,_,_,_=>by unfold fN at k2;exact k2.elim
end
end
section
variable {X:Cx}
inductive HB (K:Frag)(x:V)(y:V)(H:Hp)(Q:VK):Prop where
 | mk (ds es:_) (_:((Is K H (.t ds) x/\Is K H (.t es) y)\/(Is K H (.l ds) x/\Is K H (.l es) y))) (_:c_ ds es=true) (_:gx ds<=60) (_:Q (.bl (dw ds es)) H):HB K x y H Q
inductive rq (K:Frag)(x:V)(y:V)(H:Hp)(Q:VK):Prop where
 | mk (ds es:_) (_:((Is K H (.t ds) x/\Is K H (.t es) y)\/(Is K H (.l ds) x/\Is K H (.l es) y))) (_:c_ ds es=true) (_:gx ds<=60) (_:Q (.bl (!dw ds es)) H):rq K x y H Q
theorem sE (hu:X.A.units+64 < cLine):jk X (compareOp .Eq) (HB X.K):=by
 intro pins s σ H x y v u Q I rx ry h
 obtain ⟨ds,es,h,a,hd,q⟩:=h
 rcases h with ⟨h1,h2⟩ | ⟨h1,h2⟩
 ·unfold Is at h1 h2
  obtain ⟨p,xs,rfl,q1,k1⟩:=h1
  obtain ⟨p',ys,rfl,q2,k2⟩:=h2
  cases rx
  cases ry
  obtain ⟨its,v1,t1,_⟩:=I.tuple q1
  obtain ⟨dh,v2,t2,_⟩:=I.tuple q2
  have z:=SeqAt.RcAt.tuples (A:=X.A) (e:=iE ds es) t1 t2 (by omega) fun j g1 g2=>
   fW I ds es xs ys its dh X.A.in1 k1 k2 a v1 v2 (by rw [in1_units];omega) j (by simpa using g1) (by simpa using g2)
  refine z X.prog X.w X.xe _ ⟨.bl _,H,I,rfl,?_⟩
  have e:=dc ds es
  rw [k1.length,k2.length,v1.length,v2.length] at e
  simpa [e] using q
 ·unfold Is at h1 h2
  obtain ⟨p,xs,rfl,q1,k1⟩:=h1
  obtain ⟨p',ys,rfl,q2,k2⟩:=h2
  cases rx
  cases ry
  obtain ⟨its,v1,t1,_⟩:=I.list q1
  obtain ⟨dh,v2,t2,_⟩:=I.list q2
  have e:=dc ds es
  rw [k1.length,k2.length,v1.length,v2.length] at e
  by_cases el:its.length=dh.length
  ·have z:=SeqAt.RcAt.lists (A:=X.A) (e:=iE ds es) t1.isList t2.isList (by simpa using el) (by omega) fun j g1 g2=>
    fW I ds es xs ys its dh X.A.in1 k1 k2 a v1 v2 (by rw [in1_units];omega) j (by simpa using g1) (by simpa using g2)
   refine z X.prog X.w X.xe _ ⟨.bl _,H,I,rfl,?_⟩
   rw [el,aiv,beq_self_eq_true,aio] at e
   simpa [e,el] using q
  ·have ne:dw ds es=false:=by rw [e,beq_eq_false_iff_ne.mpr el,ahn]
   rw [ne] at q
   exact SeqAt.RcAt.lists_lengths t1.isList t2.isList (by simpa using el) (by omega) X.prog X.w X.xe _ ⟨.bl _,H,I,rfl,q⟩
theorem gi (hu:X.A.units+64 < cLine):jk X (compareOp .NotEq) (rq X.K):=by
 intro pins s σ H x y v u Q I rx ry h
 obtain ⟨ds,es,h,a,hd,q⟩:=h
 rcases h with ⟨h1,h2⟩ | ⟨h1,h2⟩
 ·unfold Is at h1 h2
  obtain ⟨p,xs,rfl,q1,k1⟩:=h1
  obtain ⟨p',ys,rfl,q2,k2⟩:=h2
  cases rx
  cases ry
  obtain ⟨its,v1,t1,_⟩:=I.tuple q1
  obtain ⟨dh,v2,t2,_⟩:=I.tuple q2
  have z:=SeqAt.RcNeAt.tuples (A:=X.A) (e:=iE ds es) t1 t2 (by omega) fun j g1 g2=>
   fW I ds es xs ys its dh X.A.in1 k1 k2 a v1 v2 (by rw [in1_units];omega) j (by simpa using g1) (by simpa using g2)
  refine z X.prog X.w X.xe _ ⟨.bl _,H,I,rfl,?_⟩
  have e:=dc ds es
  rw [k1.length,k2.length,v1.length,v2.length] at e
  simpa [e] using q
 ·unfold Is at h1 h2
  obtain ⟨p,xs,rfl,q1,k1⟩:=h1
  obtain ⟨p',ys,rfl,q2,k2⟩:=h2
  cases rx
  cases ry
  obtain ⟨its,v1,t1,_⟩:=I.list q1
  obtain ⟨dh,v2,t2,_⟩:=I.list q2
  have e:=dc ds es
  rw [k1.length,k2.length,v1.length,v2.length] at e
  by_cases el:its.length=dh.length
  ·have z:=SeqAt.RcNeAt.lists (A:=X.A) (e:=iE ds es) t1.isList t2.isList (by simpa using el) (by omega) fun j g1 g2=>
    fW I ds es xs ys its dh X.A.in1 k1 k2 a v1 v2 (by rw [in1_units];omega) j (by simpa using g1) (by simpa using g2)
   refine z X.prog X.w X.xe _ ⟨.bl _,H,I,rfl,?_⟩
   rw [el,aiv,beq_self_eq_true,aio] at e
   simpa [e,el] using q
  ·have ne:dw ds es=false:=by rw [e,beq_eq_false_iff_ne.mpr el,ahn]
   rw [ne] at q
   exact SeqAt.RcNeAt.lists_lengths t1.isList t2.isList (by simpa using el) (by omega) X.prog X.w X.xe _ ⟨.bl _,H,I,rfl,q⟩
def Qh:V->Value
 | .ty n=>.type n
 | .ref a=>.ref a
 | _=>.none
def N4:V->Bool
 | .ty _=>true
 | .ref _=>true
 | _=>false
theorem zi {c:V}{u:Value}(h:N4 c=true)(r:RelV c u):u=Qh c:=by
 cases c <;> first | exact r | (cases h;done)
inductive TN (K:Frag)(xs:η)(H:Hp)(Q:VK):Prop where
 | mk (x c t b:_) (_:xs=[x,c]) (_:N4 c=true) (_:kK K H x t) (_:PySem.W.kitOne K t (Qh c)=some b) (_:Q (.bl b) H):TN K xs H Q
theorem u0:ft X (.builtin "isinstance") (TN X.K):=by
 intro pins s σ H xs us Q I r h
 obtain ⟨x,c,t,b,rfl,hc,ty,e,q⟩:=h
 obtain ⟨u,w,rfl,r1,r2⟩:=vals2 r
 obtain rfl:=zi hc r2
 exact A_ I r1 ty e fun tk=>⟨.bl b,H,I.tok tk,rfl,q⟩
end
section
variable {K:Frag}
theorem HC {a b:String}{v:Bool}(h:((Value.type a==Value.type b)=true->v=true)/\((Value.type a==Value.type b)=false->PySem.W.kitMeta b=true/\(fastBuiltinMro a).map (·.contains (Value.type b))=some v)):PySem.W.kitOne K (.type a) (.type b)=some v:=by
 unfold PySem.W.kitOne
 by_cases e:(Value.type a==Value.type b)=true
 ·rw [if_pos e,h.1 e]
 ·rw [if_neg e]
  obtain ⟨h1,h2⟩:=h.2 (by simpa using e)
  unfold PySem.W.kitCls
  dsimp only
  rw [if_pos h1]
  exact h2
end
theorem bt:bootBuiltins "len"=some (.builtin "len"):=by decide+kernel
theorem N5:bootBuiltins "abs"=some (.builtin "abs"):=by decide+kernel
theorem g6:bootBuiltins "isinstance"=some (.builtin "isinstance"):=by decide+kernel
theorem HD:bootBuiltins "int"=some (.type "int"):=by decide+kernel
theorem Qi:bootBuiltins "bool"=some (.type "bool"):=by decide+kernel
theorem lZ:bootBuiltins "str"=some (.type "str"):=by decide+kernel
theorem oi:bootBuiltins "list"=some (.type "list"):=by decide+kernel
theorem Lw:bootBuiltins "tuple"=some (.type "tuple"):=by decide+kernel
theorem HE {X:Cx}{x:Str}{n:String}{pos:Pos}(hg:Gl X x)(hm:X.mg x=none)(hv:bootBuiltins x=some (.type n))(hn:x≠ "__name__":=by decide)(hd:(x==("__debug__":Str))=false:=by decide):PE X (.Name x pos) (tC (.ty n)):=Ld (v:=.ty n) hg hm hv rfl hn hd
def Qj (_ j:Int):Prop:=j≠0
theorem nz {i j:Int}(h:j≠0):Qj i j:=h
theorem dF {X:Cx}:jk X (binaryOp .Mod) (rI Qj fun i j=>.int (i.fmod j)):=Lf
end Ty
set_option maxHeartbeats 4000000
namespace TyAtt
open PySem PySem.W PySem.Calls PyProof.Rows
open Builtin.Int (intBits)
theorem BH {ns:ν}{n:Int}(h:(WData.list (ns.map WData.int)).layable=true)(hn:n∈ns):intBits n<=1048576:=by
 obtain ⟨_,_,hw⟩:=layableW_iff.mp h
 have a:∀(l:ν),n∈l->intBits n<=WData.weightAll (l.map WData.int):=by
  intro l
  induction l with
  | nil=>intro q;cases q
  | cons y r ih=>
   intro q
   rw [aaR]
   unfold WData.weightAll
   rcases aa8.mp q with z | z
   ·subst z
    have:intBits n<=WData.weight (.int n):=by
     unfold WData.weight
     exact aas _
    omega
   ·have:=ih z
    omega
 have b:=a ns hn
 unfold WData.weight at hw
 omega
theorem u3 {l:OpenLaw}{n:Nat}{q:Program}{loose:ρ}{XP:(Str->Option Value)->Heap->Prop}{YP:World->Heap->Prop}{d:DefRec}
  (hn:l.most=some n) (hdf:d.params.defaults=[])
  (call:∀(w:World) (s₀ s₁:Shared) (mg mb:ι) (fa:Addr) (o:Obj) (pm cd doc:Value) (a:Addr) (vs:ο) (ns:ν),
   Ground q loose [] XP w s₀ mg mb s₁.heap->YP w s₁.heap->
   s₁.heap.get? fa=some o->o.data=.func (docDef d.name d.params d.body d.scope pm cd doc)->s₁.heap.CodeRec cd d.name->mg d.name=some (.ref fa)->
   s₁.heap.get? a=some {cls:=.type "list",data:=.seq vs.toArray}->IntsAre vs ns->ns.length<=n->(∀i∈ns,intBits i<=1048576)->s₁.gens= #[]->
   codeAny (model l.prog w) callerA (.call (.ref fa) ⟨[.ref a],[]⟩) (fun r s' =>r=.ok (.ret (.bool true))/\OldK s₁.heap s'.heap/\s'.os=s₁.os/\AllBare s'.gens) s₁):
  WalkO q loose XP YP l.row.toRowW d [] (fun f vs=>PySem.call f vs):=by
 intro w s₀ s₁ mg mb G Y fa o pm cd doc dV kV ho hd qe hD TQ hg args vals as Lu hlay hrd hwl hlo
 obtain rfl:dV=.none:=Dflts.none hD hdf
 obtain rfl:kV=.none:=Dflts.noKw hD
 obtain ⟨a,vs,ns,rfl,rfl,Qk,hints,hlen⟩:=Att.BE hn Lu hwl
 have hb:∀i∈ns,intBits i<=1048576:=fun i hi=>BH (layW_cons hlay).1 hi
 refine enter_call (codeAny_mono (call w s₀ s₁ mg mb fa o pm cd doc a vs ns G Y ho (fd_plain hd) qe TQ Qk hints hlen hb hg) fun r s' hq=>?_)
 obtain ⟨rfl,h2,h3,h4⟩:=hq
 exact ⟨.inl ⟨.bool true,.bool true,[],rfl,fun _=>rfl,.bool true,Att.BF l _,fun _=>⟨List.Pairwise.nil,fun _ hm=>(nomatch hm)⟩⟩,h2,h3,h4⟩
end TyAtt
namespace Ty
open PySem PySem.Spec PyProof.Rows L2
open Builtin.Int (intBits)
structure Fn (P:Program)(w:World)(K:Frag)(mg:ι)(base:Heap)(CX:jQ)(k:Nat)(x:Str)(ps:ρ)(sp:Sp):Prop where
 ex:∃(f:Addr) (fd:FuncData),cJ P w K mg base CX k f fd ps sp/\Binds K fd ps []/\mg x=some (.ref f)/\keepIn K (.ref f)=true
structure Def (K:Frag)(mg:ι)(x:Str)(st:Stmt)(ps:ρ):Prop where
 ex:∃(f:Addr) (dV oc:Value) (od:Ι) (kV doc pm:Value) (an:Ι) (bH ct:Value) (pZ:Κ),
  K.lookup f=some ⟨oc,od,.func (fnOf x x (ay st) (aw st) (ag st) dV kV doc pm an bH ct),pZ⟩/\codeIn K bH x=true/\keepIn K (.ref f)=true/\
  Binds K (fnOf x x (ay st) (aw st) (ag st) dV kV doc pm an bH ct) ps []/\mg x=some (.ref f)
theorem Def.of {K:Frag}{mg:ι}{x:Str}{st:Stmt}{ps:ρ}{f:Addr}{fd:FuncData}(F:m6 K x x st f fd)(b:Binds K fd ps [])(m:mg x=some (.ref f)):Def K mg x st ps:=by
 obtain ⟨oc,od,kV,doc,pm,an,bH,ct,pZ,rfl,lk,qe⟩:=F.ex
 exact ⟨f,.none,oc,od,kV,doc,pm,an,bH,ct,pZ,lk,qe,F.kp,b,m⟩
section
variable {P:Program}{w:World}{K:Frag}{mg:ι}{base:Heap}{CX:jQ}
theorem Def.ok {x:Str}{st:Stmt}{N ps:ρ}{k:Nat}{sp:Sp}(D:Def K mg x st ps)(S:aG N ps (ag st))(len:∀vs H Q E,sp vs H Q E->vs.length=ps.length)
  (jR:∀(f:Addr) (bH:Value) (A:Around) (outer:List Env) (s:Shared) (H:Hp) (vs:η) (Q:VK) (E:XK),cg k (A.deeper (envOfC x (ag st) s.heap.objs.size f bH))->sp vs H Q E->
   ∃t,PSs (mG CX P w K mg base N x (ag st) f bH A outer s H E).yX (aw st) t/\t {nx:=fun _ H' =>Q .cI H',rt:=Q} (start N vs) H):Fn P w K mg base CX (k+1) x ps sp:=by
 obtain ⟨f,dV,oc,od,kV,doc,pm,an,bH,ct,pZ,lk,qe,kp,b,m⟩:=D.ex
 refine ⟨f,_,za lk qe S len fun A outer s H vs Q E hr si=>?_,b,m,kp⟩
 obtain ⟨t,h,q⟩:=jR f bH A outer s H vs Q E hr si
 exact ⟨t,h.yX,q⟩
theorem _root_.L2.m6.okG {x:Str}{st:Stmt}{f:Addr}{fd:FuncData}{N ps:ρ}{k:Nat}{sp:Sp}(F:m6 K x x st f fd)(S:aG N ps (ag st))(len:∀vs H Q E,sp vs H Q E->vs.length=ps.length)
  (jR:∀(bH:Value) (A:Around) (outer:List Env) (s:Shared) (H:Hp) (vs:η) (Q:VK) (E:XK),cg k (A.deeper (envOfC x (ag st) s.heap.objs.size f bH))->sp vs H Q E->
   ∃t,PSs (mG CX P w K mg base N x (ag st) f bH A outer s H E).yX (aw st) t/\t {nx:=fun _ H' =>Q .cI H',rt:=Q} (start N vs) H):cJ P w K mg base CX (k+1) f fd ps sp:=by
 obtain ⟨oc,od,kV,doc,pm,an,bH,ct,pZ,rfl,lk,qe⟩:=F.ex
 refine za lk qe S len fun A outer s H vs Q E hr si=>?_
 obtain ⟨t,h,q⟩:=jR bH A outer s H vs Q E hr si
 exact ⟨t,h.yX,q⟩
def u4 (CX:jQ):Prop:=∀outer H s e s',CX outer H s E0 e s' ->False
theorem u5 {X:Cx}(h:u4 CX):Passes CX X.yX E0:=fun _ _ _ _ _ _ _ q=>(h _ _ _ _ _ q).elim
section
variable {X:Cx}{k:Nat}{ps:ρ}{sp:Sp}{E:XK}{x:Str}{p pos:Pos}{e:Expr}{es:χ}{t:TA}
theorem aE (F:Fn X.prog X.w X.K X.mg X.base CX k x ps sp)(hr:cg k X.A)(hx:Passes CX X E)(ha:PA X (e::es) t)(hg:Gl X x:=by rfl)(BA:(x==("__debug__":Str))=false:=by decide)
  (he:starEach (e::es) X.env=(false,eval e X.env)::starEach es X.env:=by rfl) (w_:(backTo pos (starEach es X.env)).any (·.1)=false:=by rfl):PE X (.Call (.Name x p) (e::es) [] pos) (NY sp [] E t):=by
 obtain ⟨f,fd,G,b,m,kp⟩:=F.ex
 exact Lj G hr hg m kp b .nil hx ha BA he w_
end
end
def HF (K:Frag):Sp:=fun vs H Q _=>∃(a:Addr) (ns:ν),vs=[.ref a]/\aZ K H a (ns.map V.int)/\ns.length<=63/\(∀i∈ns,intBits i<=1048576)/\∀H',Q (.bl true) H'
theorem walk {l:PySem.W.OpenLaw}{q:Program}{loose:ρ}{XP:(Str->Option Value)->Heap->Prop}{YP:World->Heap->Prop}{d:DefRec}{K:Params->Frag}{CX:World->jQ}{x:Str}{k:Nat}
  (hn:l.most=some 63) (hdf:d.params.defaults=[]) (hi:importsNone q=true) (hr:cg k callerA)
  (hY:∀(w:World) (h:Heap),YP w h->(K w.params).In h) (hm:∀w,u4 (CX w))
  (F:∀(w:World) (mg:ι) (fa:Addr) (h:Heap),(K w.params).In h->h.Ns mainGlobals mg->mg d.name=some (.ref fa)->
   ∃fd:FuncData,(∀(s:Shared) (u:Value),BindsTo s fd ⟨[u],[]⟩ [(x,u)])/\
    ∀base:Heap,(K w.params).In base->base.Ns mainGlobals mg->cJ l.prog w (K w.params) mg base (CX w) k fa fd [x] (HF (K w.params))):
  PySem.W.WalkO q loose XP YP l.row.toRowW d [] (fun f vs=>PySem.call f vs):=by
 refine TyAtt.u3 hn hdf fun w s₀ s₁ mg mb fa o pm cd doc a vs ns G Y ho hd qe TQ Qk hints hlen hb hg=>?_
 have KX:=hY w _ Y
 obtain ⟨fd,hbd,hF⟩:=F w mg fa _ KX G.T.g TQ
 exact G' KX G.T.g G.T.b G.T.builtins G.T.nolimit (G.T.seer hi) hg Qk hints (aam hlen (by decide)) hr hF hbd (fun H hO hS=>⟨a,ns,rfl,hS,hlen,hb,fun _=>rfl⟩) fun H e s' =>hm w [] H s₁ e s'
end Ty
set_option maxHeartbeats 4000000
namespace Ty
open PySem PySem.Spec PyProof.Rows
end Ty
set_option maxHeartbeats 4000000
namespace Ty
open PySem PySem.Spec PyProof.Rows L2
def DictAt (h:Heap)(a:Addr)(dx:Ι):Prop:=∃o,h.get? a=some o/\o.dict=dx
def a8 (P:Program)(w:World):jQ:=fun outer H s E e s' =>∃(a:Addr) (cls a0:Value) (dx:Ι) (H' :Hp) (B:Heap),
 e=.ref a/\Heap.FlyingW B outer a cls a0 s'.heap/\DictAt s'.heap a dx/\Un (yU outer) [] H H' s.heap s'.heap/\ji P w H' s'.heap/\s'.os=s.os/\AllBare s'.gens/\
 (∀b o,s.heap.get? b=some o->b∉yU outer->∃o',B.get? b=some o')/\(∀b u,H' b=some u->∃o,B.get? b=some o)/\E cls dx H'
theorem a8.qj {P:Program}{w:World}:u4 (a8 P w):=fun _ _ _ _ _ ⟨_,_,_,_,_,_,_,_,_,_,_,_,_,_,_,z⟩=>z
section
variable {P:Program}{w:World}{K:Frag}{mg:ι}{base:Heap}{N:ρ}{qual:Str}{scope:Scope}{f:Addr}{bH:Value}{A:Around}{outer:List Env}{s0:Shared}{H0:Hp}{E:XK}
abbrev cxr (P:Program)(w:World)(K:Frag)(mg:ι)(base:Heap)(N:ρ)(qual:Str)(scope:Scope)(f:Addr)(bH:Value)(A:Around)(outer:List Env)(s0:Shared)(H0:Hp)(E:XK):Cx:=mG (a8 P w) P w K mg base N qual scope f bH A outer s0 H0 E
end
section
variable {X:Cx}{pins:ε}{σ:L2.St}{H H' :Hp}{s:Shared}
def XP (X:Cx)(pins:ε)(σ:L2.St)(E:XK)(e:Value)(s' :Shared):Prop:=∃H s,Inv X pins σ H s/\a8 X.prog X.w X.stack H s E e s'
end
end Ty
set_option maxHeartbeats 4000000
namespace TyExc
open PySem PySem.W PySem.Calls PyProof.Rows Builtin Builtin.ObjectAttr Builtin.Getset_descriptor
section
variable {prog:Program}{w:World}{A:Around}{E:γ}{K:Frag}{h:Heap}{g:Array GenState}{d:Drawn}{t:Nat}{os:OsState}{a C:Addr}{o:Obj}
end
end TyExc
set_option maxHeartbeats 4000000
namespace Ty
open PySem PySem.Spec PyProof.Rows L2
section
variable {X:Cx}
end
end Ty
set_option maxHeartbeats 4000000
namespace TyExc
open PySem PySem.W PySem.Calls PyProof.Rows Builtin Builtin.ObjectAttr Builtin.Getset_descriptor
section
variable {prog:Program}{w:World}{A:Around}{E:γ}{K:Frag}{h:Heap}{g:Array GenState}{d:Drawn}{t:Nat}{os:OsState}{a C:Addr}{o:Obj}{od:Option Obj}{name:Str}{v:Value}
end
end TyExc
set_option maxHeartbeats 4000000
namespace TyExc
open PySem PySem.W PySem.Calls PyProof.Rows Builtin Builtin.ObjectAttr
section
variable {prog:Program}{w:World}{A:Around}{E:γ}{K:Frag}{s:Shared}{x C:Addr}{ox:Obj}{od:Option Obj}{name:Str}{v:Value}{cd:ClassData}
end
end TyExc
set_option maxHeartbeats 400000
namespace TyExc
open PySem PySem.W PySem.Calls PyProof.Rows Builtin
section
variable {prog:Program}{w:World}{A:Around}{K:Frag}{h:Heap}{g:Array GenState}{d:Drawn}{t:Nat}{os:OsState}{e C:Addr}{oe:Obj}{vs:Λ}{args:ο}{E:γ}
end
end TyExc
set_option maxHeartbeats 400000
namespace TyExc
open PySem PySem.W PySem.Calls PyProof.Rows Builtin
section
variable {prog:Program}{w:World}{A:Around}{K:Frag}{h:Heap}{g:Array GenState}{d:Drawn}{t:Nat}{os:OsState}{nm q:Str}{C N f:Addr}{bs bm bmB:ο}{aaG:Bool}{sn:ρ}{sub:ο}{ab:Bool}{col:Option Bool}{dd:Ι}{k0 k1 k2 k3 k5:Option Value}{B newId aaH:String}{rest:ο}{E:γ}
end
end TyExc
set_option maxHeartbeats 400000
namespace TyExc
open PySem PySem.W PySem.Calls PyProof.Rows Builtin
section
variable {M:Model}{A:Around}{E:γ}{env:Env}{nm q:Str}{C N:Addr}{bs bm:ο}{aaG:Bool}{sn:ρ}{sub:ο}{ab:Bool}{col:Option Bool}{dd:Ι}{k0 k1 k2 k3 k5:Option Value}{newId:String}{s:Shared}{x:Sem Value}{Q:Flow->Shared->Prop}
end
end TyExc
set_option maxHeartbeats 400000
namespace TyExc
open PySem PySem.W
end TyExc
namespace Ty
open PySem PySem.Spec PyProof.Rows L2
section
variable {P:Program}{w:World}{H:Hp}{h:Heap}{C a:Addr}{dx:Ι}
end
section
variable {X:Cx}
end
end Ty
set_option maxHeartbeats 1000000
namespace Ty
open PySem PySem.Spec PyProof.Rows L2
section
variable {P:Program}{w:World}{K:Frag}{mg:ι}{base:Heap}{N:ρ}{qual:Str}{scope:Scope}{f:Addr}{bH:Value}{A:Around}{outer:List Env}{s0:Shared}{H0:Hp}{E:XK}
end
section
variable {prog:Program}{w:World}{A:Around}{R:Ξ}{s:Shared}
theorem sG {elt target iter:Expr}{ifs:χ}{scope:Scope}{pos:Pos}{it acc:Value}{env:Env}(I:Nat->Shared->Prop)
  (turn:∀n s,I n s->wpAny (model prog w) A (pyNext it) (fun r s₁=>match r with
   | none=>R (.ok .next) s₁
   | some v=>wpAny (model prog w) A (letOwnedTupleGo target it v) (fun _ s₁' =>wpAny (model prog w) A (assign target env v) (fun _ s₂=>
     wpAny (model prog w) A (forIn ifs true fun c r=>if r=true then do let ok <- isTrue c env (eval c env);pure (ForInStep.yield ok) else pure (ForInStep.yield r)) (fun ok s₃=>
      if ok=true then wpAny (model prog w) A (eval elt env) (fun x s₄=>
       wpAny (model prog w) A (call (.builtin "list.append") [acc,x]) (fun _ s₅=>∃m,m < n/\I m s₅) (fun _ _=>False) s₄) (fun _ _=>False) s₃
      else ∃m,m < n/\I m s₃) (fun _ _=>False) s₂) (fun _ _=>False) s₁') (fun _ _=>False) s₁) (fun _ _=>False) s)
  (n:Nat) (h:I n s):
  codeAny (model prog w) A (.compLoop (.ListComp elt [⟨target,iter,ifs,0⟩] scope pos) 0 it acc env) R s:=by
 refine codeAny_loop rfl I (fun n s hI=>?_) n h
 show wpAny _ A ((compTurn (.ListComp elt [⟨target,iter,ifs,0⟩] scope pos) 0 it acc env).onRaise (fun x=>do noteFrame x env;theTreesLotGoes x)) _ _ s
 refine wpAny_noted ?_
 rw [compTurn_list]
 refine wpAny_bind (wpAny_standAt (wpAny_bind (wpAny_mono (turn n s hI) (fun r s₁ h₁=>?_) fun _ _ h' =>h'.elim)))
 cases r with
 | none=>exact wpAny_pure h₁
 | some v=>
  refine wpAny_bind (wpAny_mono h₁ (fun _ s₁' h₁' =>?_) fun _ _ h' =>h'.elim)
  refine wpAny_bind (wpAny_mono h₁' (fun _ s₂ h₂=>wpAny_bind (wpAny_mono h₂ (fun ok s₃ h₃=>?_) fun _ _ h' =>h'.elim)) fun _ _ h' =>h'.elim)
  cases ok with
  | false=>exact wpAny_pure ⟨rfl,h₃⟩
  | true=>
   exact wpAny_bind (wpAny_bind (wpAny_mono h₃ (fun x s₄ h₄=>wpAny_bind (wpAny_mono h₄ (fun _ s₅ h₅=>wpAny_pure (wpAny_pure ⟨rfl,h₅⟩)) fun _ _ h' =>h'.elim)) fun _ _ h' =>h'.elim))
end
def bE (env:Env)(fr:ρ):List (Str×Addr):=fr.filterMap fun n=>(env.cells.lookup n).map fun c=>(n,c)
theorem lookup_mem {α:Type}{x:Str}{c:α}:∀{l:List (Str×α)},l.lookup x=some c->(x,c)∈l
 | [],h=>by simp at h
 | (y,d)::r,h=>by
  rw [ae_] at h
  cases e:x==y with
  | true=>
   rw [e] at h
   have e1:x=y:=by simpa using e
   cases h
   rw [e1]
   exact aaK
  | false=>
   rw [e] at h
   exact aaE _ (lookup_mem h)
theorem BI {env:Env}{fr:ρ}{x:Str}{c:Addr}(h:(x,c)∈bE env fr):env.cells.lookup x=some c:=by
 obtain ⟨n,_,e⟩:=ahK.mp h
 cases q:env.cells.lookup n with
 | none=>rw [q] at e;cases e
 | some d=>
  rw [q] at e
  have e' :(n,d)=(x,c):=aaZ e
  cases e'
  exact q
theorem fP {env:Env}{fr:ρ}{x:Str}{c:Addr}(h:(bE env fr).lookup x=some c):env.cells.lookup x=some c:=BI (lookup_mem h)
theorem kN {env:Env}{x:Str}{c:Addr}(q:env.cells.lookup x=some c):∀{fr:ρ},x∈fr->(bE env fr).lookup x=some c
 | [],h=>nomatch h
 | y::r,h=>by
  unfold bE
  rw [ahe]
  by_cases e:x=y
  ·subst e
   rw [q]
   simp
  ·have hr:x∈r:=by
    rcases aa8.mp h with z | z
    ·exact absurd z e
    ·exact z
   have ih:=kN q hr
   cases z:env.cells.lookup y with
   | none=>exact ih
   | some d=>
    show abW x ((y,d)::_)=_
    rw [ae_]
    have ne:(x==y)=false:=by simpa using e
    rw [ne]
    exact ih
def gy (env:Env):List Str->Prop
 | []=>True
 | y::r=>(env.kindOf y=some .cell\/env.kindOf y=some .free)/\gy env r
theorem gy.at {env:Env}{x:Str}:∀{fr:ρ},gy env fr->x∈fr->env.kindOf x=some .cell\/env.kindOf x=some .free
 | [],_,h=>nomatch h
 | y::r,a,h=>by
  rcases aa8.mp h with z | z
  ·rw [z]
   exact a.1
  ·exact gy.at a.2 z
section
variable {X:Cx}
def sH (X:Cx)(NB:ρ)(scope:Scope)(fn:Str->Bool)(cl:List (Str×Addr))(C:Addr)(s:Shared)(H:Hp)(fp:Α):Cx:=
 {prog:=X.prog,w:=X.w,K:=X.K,mg:=X.mg,base:=X.base,A:=X.A,N:=NB,s₀:=s,H₀:=H,env:=compEnvC scope cl C X.env,outer:=X.stack,stack:=X.stack,ex:=fp,fn:=fn,calm:=X.calm,pn:=[],xe:=fun _ _=>False}
abbrev Sx (X:Cx)(NB:ρ)(scope:Scope)(cl:List (Str×Addr))(C:Addr)(s:Shared)(H:Hp)(fp:Α):Cx:=sH X NB scope (fun _=>false) cl C s H fp
structure HG (X:Cx)(scope:Scope)(ow:Addr->List (Str×Addr))(fn:Str->Bool)(fr:ρ)(caps:Δ):Prop where
 BJ:closureFor scope X.env=pure (bE X.env fr)
 kind:scope.kind=.function
 names:∀y∈scope.names,y.2=.local->scope.names.lookup y.1=some .local
 free:∀y∈scope.names,y.2=.free->y.1∈fr
 caps:caps.map (fun i=>X.N[i]?)=fr.map some
 out:gy X.env fr
 TR:gy (compEnvC scope [] 0 X.env) fr
 new:∀{s:Shared} {Q:Env->Shared->Prop} {E:γ},(∀h',h'.Ns s.heap.objs.size (fun _=>none)->(∀b o,s.heap.get? b=some o->h'.get? b=some o)->(∀x c,(ow s.heap.objs.size).lookup x=some c->h'.IsCell c none)->
   Q (newEnv scope s.heap.objs.size X.env.globals (ow s.heap.objs.size++bE X.env fr) X.env.qual none .none (some X.env) builtinsNs) {s with heap:=h',toks:=s.toks+([]:List (Str×Value)).length})->
  wpAny (model X.prog X.w) X.A (newFunctionEnv scope X.env.globals (bE X.env fr) [] X.env.qual none .none (some X.env)) Q E s
 ge:∀C x c,(ow C).lookup x=some c->C < c
 one:∀C x z c,(ow C).lookup x=some c->(ow C).lookup z=some c->x=z
 fn1:∀C x,fn x=true->(ow C).lookup x≠none
 only:∀z∈scope.names,z.2=.cell->fn z.1=true
 ny:∀C,∀x∈fr,(ow C).lookup x=none
theorem rA {x:Str}{c:Addr}{o cl:List (Str×Addr)}(h:(o++cl).lookup x=some c):o.lookup x=some c\/(o.lookup x=none/\cl.lookup x=some c):=by
 rw [ahM] at h
 cases e:o.lookup x with
 | none=>rw [e] at h;exact .inr ⟨rfl,h⟩
 | some d=>rw [e] at h;exact .inl h
structure Lx (X:Cx)(scope:Scope)(fr:ρ)(caps:Δ):Prop where
 BJ:closureFor scope X.env=pure (bE X.env fr)
 cell:∀y∈scope.names,y.2≠.cell
 kind:scope.kind=.function
 names:∀y∈scope.names,y.2=.local->scope.names.lookup y.1=some .local
 free:∀y∈scope.names,y.2=.free->y.1∈fr
 caps:caps.map (fun i=>X.N[i]?)=fr.map some
 out:gy X.env fr
 TR:gy (compEnvC scope [] 0 X.env) fr
def PF (X:Cx)(ifs:χ)(t:TT):Prop:=
 ∀(pins:ε) (s:Shared) (σ:L2.St) (H:Hp) (Q:Bool->Hp->Prop),Inv X pins σ H s->t σ H Q->
  wpAny (model X.prog X.w) X.A (forIn ifs true fun c r=>if r=true then do let ok <- isTrue c X.env (eval c X.env);pure (ForInStep.yield ok) else pure (ForInStep.yield r)) (TP X pins σ Q) X.xe s
def oj:TT:=fun _ H Q=>Q true H
theorem dA:PF X [] oj:=fun _ _ _ H _ I h=>wpAny_tests_nil ⟨H,I,h⟩
theorem Ql {c:Expr}{t:TT}(h:PT X c t):PF X [c] t:=fun pins s σ H Q I q=>wpAny_tests_one (h pins s σ H Q I q)
def sB (k:Nat)(caps:Δ)(σ:L2.St):L2.St:=aa2 k none++caps.map fun i=>(σ[i]?).getD none
def qk (D:Addr)(g:TG)(tt:TT)(te:TE)(J:It)(σ0:L2.St)(H1:Hp)(Q:VK):Prop:=∃W:Nat->Nat->L2.St->List V->Hp->Prop,
 (∃m,W 0 m σ0 [] (upd H1 D (.lst [])))/\∀i m σ2 ys H2,W i m σ2 ys H2->(J.stop i H2/\Q (.ref D) H2)\/(J.go i H2/\∀x H3,J.FY i H2 x H3->g x σ2 H3 fun σ4 H4=>tt σ4 H4 fun b H5=>
  if b=true then te σ4 H5 fun v H6=>H6 D=some (.lst ys)/\ys.length < sizeLine/\∃m',m' < m/\W (i+1) m' σ4 (ys++[v]) (upd H6 D (.lst (ys++[v]))) else ∃m',m' < m/\W (i+1) m' σ4 ys H5)
def u6 (k:Nat)(caps:Δ)(wi:TI)(g:TG)(tt:TT)(te:TE):TE:=fun σ H Q=>wi σ H fun J H1=>∀D,H1 D=none->qk D g tt te J (sB k caps σ) H1 Q
theorem Qm {k:Nat}{caps:Δ}{σ:L2.St}{i:Nat}{v:V}(h:(sB k caps σ)[i]? =some (some v)):k<=i/\∃j,caps[i - k]? =some j/\σ[j]? =some (some v):=by
 unfold sB at h
 by_cases c:i < k
 ·rw [aaS (by simpa using c),ahZ,if_pos c] at h
  cases h
 ·rw [aa3 (by simpa using ah0 c),acE,Wp] at h
  refine ⟨ah0 c,?_⟩
  cases e:caps[i - k]? with
  | none=>rw [e] at h;cases h
  | some j=>
   rw [e] at h
   refine ⟨j,rfl,?_⟩
   have h' :(σ[j]?).getD none=some v:=aaZ h
   cases z:σ[j]? with
   | none=>rw [z] at h';cases h'
   | some o=>
    rw [z] at h'
    exact congrArg some h'
theorem om {ow:Addr->List (Str×Addr)}{fn:Str->Bool}{elt target iter:Expr}{ifs:χ}{scope:Scope}{pos:Pos}{tn fr:ρ}{caps:Δ}{g:TG}{tt:TT}{te:TE}{pins:ε}{σ:L2.St}{H2:Hp}{s2:Shared}{J:It}{fp:Α}{it:Addr}
  {N6:Nat->Heap->Prop} {Q:VK} {RR:Value->Addr->Result->Shared->Prop} {E:γ} (hc:X.calm=true) (B:HG X scope ow fn fr caps)
  (hg:∀C s H fp,PG (sH X (tn++fr) scope fn (ow C++bE X.env fr) C s H fp) target g) (ht:∀C s H fp,PF (sH X (tn++fr) scope fn (ow C++bE X.env fr) C s H fp) ifs tt) (he:∀C s H fp,PE (sH X (tn++fr) scope fn (ow C++bE X.env fr) C s H fp) elt te)
  (I2:Inv X pins σ H2 s2) (T:Turn X.prog X.w X.K target J fp it N6) (ig:N6 0 s2.heap) (f2:∀b∈fp,kI X pins H2 b) (q:∀D,H2 D=none->qk D g tt te J (sB tn.length caps σ) H2 Q)
  (fin:∀D C H' s' m,Inv X pins σ H' s' ->s'.heap.Ns C m->kI X pins H' C->Q (.ref D) H' ->RR (.ref D) C (.ok .next) s'):
  wpAny (model X.prog X.w) X.A (newList []) (fun acc s₃=>wpAny (model X.prog X.w) X.A (newFunctionEnv scope X.env.globals (bE X.env fr) [] X.env.qual none .none (some X.env)) (fun TU s₄=>
   codeAny (model X.prog X.w) X.A (.compStart (.ListComp elt [⟨target,iter,ifs,0⟩] scope pos) 0 (.ref it) acc {TU with scope:=relabel scope X.env}) (RR acc TU.locals) s₄) E s₃) E s2:=by
 refine wpAny_newObj_type (B.new (fun h₁ Qn hk₁ hc₁=>?_))
 have I3:Inv X pins σ (upd H2 s2.heap.objs.size (.lst [])) {s2 with heap:=s2.heap.push {cls:=.type "list",data:=.seq ([]:List Value).toArray}}:=I2.Qc (t' :=s2.toks) (its:=[]) .nil (abj _)
 obtain ⟨W,⟨m0,w0⟩,turn⟩:=q s2.heap.objs.size (I2.bL.fresh (aas _))
 generalize hH3:upd H2 s2.heap.objs.size (.lst [])=H3 at I3 w0
 have f3:∀b∈fp,kI X pins H3 b:=fun b hb=>by
  obtain ⟨a0,a1⟩:=f2 b hb
  refine ⟨?_,a1⟩
  obtain ⟨o,e,_⟩:=T.obj _ _ ig b hb
  rw [<- hH3,aq (aa' (Heap.lt_size e))]
  exact a0
 generalize hD:s2.heap.objs.size=D at*
 generalize Zs:({s2 with heap:=s2.heap.push {cls:=.type "list",data:=.seq ([]:List Value).toArray}}:Shared)=s3 at*
 have e3:s3.heap=s2.heap.push {cls:=.type "list",data:=.seq ([]:List Value).toArray}:=by rw [<- Zs]
 have GG:N6 0 s3.heap:=T.keep _ _ _ ig fun b _ o e=>by rw [e3];exact Heap.get?_push_of_some _ e
 have kept:∀b o,s3.heap.get? b=some o->h₁.get? b=some o:=fun b o e=>hk₁ b o e
 generalize hC:s3.heap.objs.size=C at*
 have TV:s3.heap.objs.size<=C:=ah1 hC
 have I4:Inv X pins σ H3 {s3 with heap:=h₁,toks:=s3.toks+([]:List (Str×Value)).length}:=I3.kept kept
 have fpC:∀b∈fp,b≠C:=fun b hb z=>by
  obtain ⟨o,e,_⟩:=T.obj _ _ GG b hb
  exact absurd z (aa' (aa6 (Heap.lt_size e) TV))
 have nst:∀b∈fp,b∉yU X.stack:=fun b hb z=>(aa8.mp (I3.xj b z)).elim (f3 b hb).2.1 (f3 b hb).2.2.1
 have old:∀x c,(bE X.env fr).lookup x=some c->c < C:=fun x c e=>by
  obtain ⟨v,ic⟩:=I3.cell x c (fP e)
  rw [<- hC]
  exact ic.lt
 have aaI:∀x z c,(ow C++bE X.env fr).lookup x=some c->(ow C++bE X.env fr).lookup z=some c->x=z:=fun x z c e1 e2=>by
  rcases rA e1 with b1 | ⟨_,b1⟩ <;> rcases rA e2 with b2 | ⟨_,b2⟩
  ·exact B.one _ _ _ _ b1 b2
  ·exact absurd (old z c b2) (Nat.lt_asymm (B.ge _ _ _ b1))
  ·exact absurd (old x c b1) (Nat.lt_asymm (B.ge _ _ _ b2))
  ·exact I3.ok.inj x z c (fP b1) (fP b2)
 have aaJ:∀x c,fn x=true->(ow C++bE X.env fr).lookup x=some c->s3.heap.objs.size<=c:=fun x c hx e=>by
  rcases rA e with b1 | ⟨a1,b1⟩
  ·exact aam (ah1 hC) (acq (B.ge _ _ _ b1))
  ·exact absurd a1 (B.fn1 C x hx)
 have nfp:∀b∈fp,∀x c,(ow C++bE X.env fr).lookup x=some c->c≠b:=fun b hb x c e=>by
  rcases rA e with b1 | ⟨a1,b1⟩
  ·obtain ⟨o,eo,_⟩:=T.obj _ _ GG b hb
   have:=Heap.lt_size eo
   rw [hC] at this
   exact abb (aa' (ah3 this (B.ge _ _ _ b1)))
  ·exact (f3 b hb).2.2.2.2.1 x c (fP b1)
 have TX:∀{x:Str} {c:Addr},x∈fr->(bE X.env fr).lookup x=some c->(ow C++bE X.env fr).lookup x=some c:=fun {x c} hx e=>by
  rw [ahM,B.ny C x hx]
  exact e
 have okB:(sH X (tn++fr) scope fn (ow C++bE X.env fr) C s3 H3 fp).Ok:=by
  refine ⟨I3.ok.mod,B.kind,I3.ok.glob,I3.ok.blt,TV,aaI,fun x hx=>?_,aaJ,I3.ok.hd,I3.ok.frames,.inl rfl,
   fun b hb=>⟨fpC b hb,fun x c e=>nfp b hb x c e⟩,I3.bs,aam I3.ok.La I3.sz,fun b o e hb=>?_,nst,I3.stack,I3.yV⟩
  ·have hm:∃k,(x,k)∈scope.names/\k≠.local/\(k=.cell\/k=.free):=by
    have:∃k',(relabel scope X.env).names.lookup x=some k' /\(k' =.cell\/k' =.free):=by
     rcases hx with z | z
     ·exact ⟨_,z,.inl rfl⟩
     ·exact ⟨_,z,.inr rfl⟩
    obtain ⟨k',e',h'⟩:=this
    obtain ⟨⟨n,k⟩,hn,en⟩:=aaj.mp (lookup_mem e')
    dsimp only at en
    by_cases cc:(k==NameKind.free && X.env.scope.kind==.function && X.env.kindOf n==some .cell)=true
    ·rw [if_pos cc] at en
     cases en
     have kf:k=.free:=by
      rw [abM,abM] at cc
      simpa using cc.1.1
     exact ⟨k,hn,(by intro z;rw [kf] at z;cases z),.inr kf⟩
    ·rw [if_neg cc] at en
     cases en
     exact ⟨k',hn,fun z' =>by rcases h' with y | y <;> (rw [y] at z';cases z'),h'⟩
   obtain ⟨k,hk,_,h2⟩:=hm
   rcases h2 with z | z
   ·cases e:(ow C).lookup x with
    | none=>exact absurd e (B.fn1 C x (B.only _ hk z))
    | some c=>exact ⟨c,by show abW x (ow C++_)=_;rw [ahM,e];rfl⟩
   ·have hf:=B.free _ hk z
    obtain ⟨c,ec⟩:=I3.ok.has x (B.out.at hf)
    exact ⟨c,TX hf (kN ec hf)⟩
  ·obtain ⟨_,_,_,h1,_⟩:=f3 b hb
   rcases h1 with z | z
   ·exact I3.ok.FP b o e z
   ·exact ach _ (aa6 (aa6 (Heap.lt_size e) I3.ok.La) z)
 have IB:Inv (sH X (tn++fr) scope fn (ow C++bE X.env fr) C s3 H3 fp) [] (sB tn.length caps σ) H3 {s3 with heap:=h₁,toks:=s3.toks+([]:List (Str×Value)).length}:=by
  refine ⟨okB,rfl,I3.bare,Un.kept kept,⟨_,Qn,fun i x v e1 e2 _=>?_⟩,fun x c e=>(rA e).elim (fun z=>⟨none,hc₁ x c z⟩) (fun z=>I4.cell x c (fP z.2)),?_,fun x c e=>(rA e).elim (fun z=>I3.bL.fresh (aam TV (acq (B.ge _ _ _ z)))) (fun z=>I3.iy x c (fP z.2)),fun p hp=>(nomatch hp),I3.bL.kept kept,?_⟩
  ·obtain ⟨hk,j,ej,es⟩:=Qm e2
   have BK :fr[i - tn.length]? =some x:=by
    have z:(tn++fr)[i]? =some x:=e1
    rw [aa3 hk] at z
    exact z
   have hx:x∈fr:=aaa BK
   have eN:X.N[j]? =some x:=by
    have z:=congrArg (fun l:List (Option Str)=>l[i - tn.length]?) B.caps
    simp only [Wp,ej,BK,ah_] at z
    exact aaZ z
   have ko:=B.out.at hx
   obtain ⟨m,hn,hl⟩:=I4.loc
   obtain ⟨u,r,lk⟩:=hl j x v eN es (by rcases ko with z | z;exact .inr (.inl z);exact .inr (.inr z))
   refine ⟨u,r,?_⟩
   rcases lk with ⟨k1,_⟩ | ⟨_,c,ec,ic⟩
   ·rcases ko with z | z <;> (rw [z] at k1;cases k1)
   ·exact .inr ⟨B.TR.at hx,c,TX hx (kN ec hx),ic⟩
  ·exact I3.bL.fresh TV
  ·have:=congrArg abX B.caps
   simp only [ir] at this
   show (sB tn.length caps σ).length=(tn++fr).length
   unfold sB
   simp [this]
 have HH:∀{H' :Hp},(∀b∈fp,H' b=none)->∀b∈fp,kI (sH X (tn++fr) scope fn (ow C++bE X.env fr) C s3 H3 fp) [] H' b:=fun hn b hb=>
  ⟨hn b hb,fpC b hb,nst b hb,.inl hb,nfp b hb,fun p hp=>(nomatch hp)⟩
 have Sy:N6 0 h₁:=T.keep _ _ _ GG fun b _ o e=>kept b o e
 have loop:codeAny (model X.prog X.w) X.A (.compLoop (.ListComp elt [⟨target,iter,ifs,0⟩] scope pos) 0 (.ref it) (.ref D) (compEnvC scope (ow C++bE X.env fr) C X.env)) (RR (.ref D) C) {s3 with heap:=h₁,toks:=s3.toks+([]:List (Str×Value)).length}:=by
  refine sG (fun n s' =>∃i σ' ys H',Inv (sH X (tn++fr) scope fn (ow C++bE X.env fr) C s3 H3 fp) [] σ' H' s' /\N6 i s'.heap/\(∀b∈fp,H' b=none)/\W i n σ' ys H') ?_ m0 ⟨0,_,[],H3,IB,Sy,fun b hb=>(f3 b hb).1,w0⟩
  rintro n s5 ⟨i,σ5,ys,H5,I5,mF,Zo,w5⟩
  rcases turn i n σ5 ys H5 w5 with ⟨stop,qn⟩ | ⟨go,step⟩
  ·refine wpAny_mono (T.done (sH X (tn++fr) scope fn (ow C++bE X.env fr) C s3 H3 fp) rfl rfl rfl hc i [] s5 σ5 H5 (fun _ _=>False) I5 (HH Zo) mF stop) (fun r s6 ⟨hr,I6⟩=>?_) fun _ _ z=>z
   subst hr
   obtain ⟨m,hn,_⟩:=I6.loc
   have J6:Inv X pins σ H5 s6:=I3.Tb (ch:=fp) I6.os I6.base I6.bL I6.bare fun b hb=>⟨(f3 b hb).2.2.2.1,(f3 b hb).2.1,(f3 b hb).2.2.2.2.1,(f3 b hb).2.2.2.2.2⟩
   exact fin D C H5 s6 m J6 hn (I3.qg TV I6.free) qn
  ·refine wpAny_mono (T.item (sH X (tn++fr) scope fn (ow C++bE X.env fr) C s3 H3 fp) rfl rfl rfl hc i [] s5 σ5 H5 (fun _ _=>False) I5 (HH Zo) mF go) (fun r s6 ⟨u,hr,h6⟩=>?_) fun _ _ z=>z
   subst hr
   refine wpAny_mono h6 (fun _ s7 ⟨x,H7,I7,r7,y7,BL,fr7⟩=>?_) fun _ _ z=>z
   have I7' :=I7.pinned (HH fr7) (T.obj _ _ BL)
   have held:∀{σ' :L2.St} {H' :Hp} {s' :Shared},Inv (sH X (tn++fr) scope fn (ow C++bE X.env fr) C s3 H3 fp) ([]++nS fp s7.heap) σ' H' s' ->N6 (i+1) s'.heap/\∀b∈fp,H' b=none:=fun {σ' H' s'} I' =>by
    refine ⟨T.keep _ _ _ BL fun b hb o e=>(I'.pin (b,o) (abn _ (abn _ (gU hb e)))).1,fun b hb=>?_⟩
    obtain ⟨o,e,d⟩:=T.obj _ _ BL b hb
    exact (I'.pin (b,o) (abn _ (abn _ (gU hb e)))).2.1
   refine wpAny_mono (hg C s3 H3 fp _ s7 σ5 H7 x u _ I7' r7 (step x H7 y7)) (fun _ s8 ⟨σ8,H8,I8,q8⟩=>?_) fun _ _ z=>z
   refine wpAny_mono (ht C s3 H3 fp _ s8 σ8 H8 _ I8 q8) (fun ok s9 ⟨H9,I9,q9⟩=>?_) fun _ _ z=>z
   cases ok with
   | false=>
    rw [if_neg aaX] at q9
    obtain ⟨m',hm,w9⟩:=q9
    rw [if_neg aaX]
    obtain ⟨a,b⟩:=held I9
    exact ⟨m',hm,i+1,σ8,ys,H9,I9.iC,a,b,w9⟩
   | true=>
    rw [if_pos rfl] at q9
    rw [if_pos rfl]
    refine wpAny_mono (he C s3 H3 fp _ s9 σ8 H9 _ I9 q9) (fun v TY ⟨y9,TZ,I10,r10,hDD,hl,m',hm,w10⟩=>?_) fun _ _ z=>z
    refine wpAny_mono (di (X:=sH X (tn++fr) scope fn (ow C++bE X.env fr) C s3 H3 fp) _ TY σ8 TZ (.ref D) [y9] (.ref D) [v] (fun _ H' =>W (i+1) m' σ8 (ys++[y9]) H') I10 rfl (.cons r10 .nil) ⟨D,ys,y9,rfl,rfl,hDD,hl,w10⟩) (fun _ s11 ⟨z,H11,I11,_,q11⟩=>?_) fun _ _ z=>z
    obtain ⟨a,b⟩:=held I11
    exact ⟨m',hm,i+1,σ8,ys++[y9],H11,I11.iC,a,b,q11⟩
 exact codeAny_compStart_list loop (T.self X.A 0 _ _ _ Sy loop)
theorem HI {ow:Addr->List (Str×Addr)}{fn:Str->Bool}{elt target iter:Expr}{ifs:χ}{scope:Scope}{pos:Pos}{tn fr:ρ}{caps:Δ}{wi:TI}{g:TG}{tt:TT}{te:TE}(hc:X.calm=true)(B:HG X scope ow fn fr caps)(hi:PI X target iter wi)
  (hg:∀C s H fp,PG (sH X (tn++fr) scope fn (ow C++bE X.env fr) C s H fp) target g) (ht:∀C s H fp,PF (sH X (tn++fr) scope fn (ow C++bE X.env fr) C s H fp) ifs tt) (he:∀C s H fp,PE (sH X (tn++fr) scope fn (ow C++bE X.env fr) C s H fp) elt te)
  (hs:∀x,foldedSetIterable iter X.env x=pure x:=by intro _;rfl):PE X (.ListComp elt [⟨target,iter,ifs,0⟩] scope pos) (u6 tn.length caps wi g tt te):=by
 intro pins s σ H Q I h
 rw [eval_ListComp]
 refine wpAny_comprehension_free (use:=none) rfl hs B.BJ B.kind B.names (bX (hi pins s σ H _ I h) fun v s1 h1=>bX h1 fun Zn s2 h2=>?_)
 obtain ⟨it,fp,N6,J,H2,rfl,I2,T,ig,f2,q⟩:=h2
 refine om (Q:=Q) (RR:=fun acc C=>compPost (model X.prog X.w) X.A X.xe none (EP X pins σ Q) acc C) hc B hg ht he I2 T ig f2 q ?_
 intro D C H' s' m I' hn fc qq
 obtain ⟨g0,g1,g2,g3,g4,g5⟩:=fc
 exact ⟨m,hn,fun h' N7 =>⟨.ref D,H',I'.turned (t' :=s'.toks) (fun b o hb e=>(N7.2 b hb).trans e) g0 g1 g3 g4 g5,rfl,qq⟩⟩
theorem u9 {ow:Addr->List (Str×Addr)}{fn:Str->Bool}{i:Nat}{y:Str}{py:Pos}{u_:Pos}{elt target iter:Expr}{ifs:χ}{scope:Scope}{pos:Pos}{tn fr:ρ}{caps:Δ}{wi:TI}{g:TG}{tt:TT}{te:TE}(hN:X.N.Nodup)(T1:X.N[i]? =some y)(hx:Loc X.env.scope y)
  (hc:X.calm=true) (B:HG X scope ow fn fr caps) (hi:PI X target iter wi)
  (hg:∀C s H fp,PG (sH X (tn++fr) scope fn (ow C++bE X.env fr) C s H fp) target g) (ht:∀C s H fp,PF (sH X (tn++fr) scope fn (ow C++bE X.env fr) C s H fp) ifs tt) (he:∀C s H fp,PE (sH X (tn++fr) scope fn (ow C++bE X.env fr) C s H fp) elt te)
  (HJ:swapsWith (.ListComp elt [⟨target,iter,ifs,0⟩] scope pos) (some (.Name y py)) u_.line X.env=pure true:=by rfl)
  (hs:∀x,foldedSetIterable iter X.env x=pure x:=by intro _;rfl) (hf:X.fn y=true\/X.env.scope.names.lookup y=some .local:=by first | exact .inl rfl | exact .inr rfl | assumption):
  PS X (.Assign [.Name y py] (.ListComp elt [⟨target,iter,ifs,0⟩] scope pos) u_) (FW (u6 tn.length caps wi g tt te) (eh i)):=by
 intro pins s σ H D I h
 rw [exec_Assign_Name_used _ _ _ _ HJ]
 refine wpAny_bind (wpAny_standAt (wpAny_bind ?_))
 show wpAny _ X.A (do let _ <- comprehension (.ListComp elt [⟨target,iter,ifs,0⟩] scope pos) scope X.env _ (newList []) false (eval iter X.env) (some (assign (.Name y py) X.env))) _ _ s
 refine wpAny_bind (wpAny_mono (wpAny_comprehension_free (use:=some (assign (.Name y py) X.env)) (Q:=fun _ s' =>SP X pins D .next s') rfl hs B.BJ B.kind B.names
  (bX (hi pins s σ H _ I h) fun v s1 h1=>bX h1 fun Zn s2 h2=>?_)) (fun _ s' hq=>wpAny_pure (wpAny_pure hq)) fun _ _ e=>e)
 obtain ⟨it,fp,N6,J,H2,rfl,I2,T,ig,f2,q⟩:=h2
 refine om (Q:=fun v H1=>eh i v σ H1 D.nx) (RR:=fun acc C=>compPost (model X.prog X.w) X.A X.xe (some (assign (.Name y py) X.env)) (fun _ s' =>SP X pins D .next s') acc C) hc B hg ht he I2 T ig f2 q ?_
 intro DD C H' s' m I' hn fc qq
 obtain ⟨g0,g1,g2,g3,g4,g5⟩:=fc
 show wpAny _ X.A (assign (.Name y py) X.env (.ref DD)) _ _ _
 refine wpAny_assign_Name (qV I' hN T1 hx (v:=.ref DD) (u:=.ref DD) rfl (fun Tr I'' ⟨a,sb,ha⟩=>?_) hf)
 have hCa:C≠a:=by
  rcases ha with z | z
  ·rw [z]
   exact g1
  ·exact fun e=>g4 y a z e.symm
 exact ⟨m,hn.sameBut sb hCa,fun h' N7 =>⟨_,H',I''.turned (t' :=Tr.toks) (fun b o hb e=>(N7.2 b hb).trans e) g0 g1 g3 g4 g5,qq⟩⟩
theorem Lx.g {scope:Scope}{fr:ρ}{caps:Δ}(B:Lx X scope fr caps):HG X scope (fun _=>[]) (fun _=>false) fr caps:=
 ⟨B.BJ,B.kind,B.names,B.free,B.caps,B.out,B.TR,fun hQ=>wpAny_newFunctionEnv B.cell (by intro y hy;simp at hy) (fun h₁ Qn aaL=>hQ h₁ Qn (fun b o e=>(aaL.2 b (aa' (Heap.lt_size e))).trans (Heap.get?_push_of_some _ e)) fun _ _ z=>(nomatch z)) B.kind,
  fun _ _ _ z=>(nomatch z),fun _ _ _ _ z=>(nomatch z),fun _ _ z=>(nomatch z),fun z hz e=>absurd e (B.cell z hz),fun _ _ _=>rfl⟩
theorem cY {elt target iter:Expr}{ifs:χ}{scope:Scope}{pos:Pos}{tn fr:ρ}{caps:Δ}{wi:TI}{g:TG}{tt:TT}{te:TE}(hc:X.calm=true)(B:Lx X scope fr caps)(hi:PI X target iter wi)
  (hg:∀C s H fp,PG (Sx X (tn++fr) scope (bE X.env fr) C s H fp) target g) (ht:∀C s H fp,PF (Sx X (tn++fr) scope (bE X.env fr) C s H fp) ifs tt) (he:∀C s H fp,PE (Sx X (tn++fr) scope (bE X.env fr) C s H fp) elt te)
  (hs:∀x,foldedSetIterable iter X.env x=pure x:=by intro _;rfl):PE X (.ListComp elt [⟨target,iter,ifs,0⟩] scope pos) (u6 tn.length caps wi g tt te):=
 HI hc B.g hi hg ht he hs
theorem zk {i:Nat}{y:Str}{py:Pos}{u_:Pos}{elt target iter:Expr}{ifs:χ}{scope:Scope}{pos:Pos}{tn fr:ρ}{caps:Δ}{wi:TI}{g:TG}{tt:TT}{te:TE}(hN:X.N.Nodup)(T1:X.N[i]? =some y)(hx:Loc X.env.scope y)
  (hc:X.calm=true) (B:Lx X scope fr caps) (hi:PI X target iter wi)
  (hg:∀C s H fp,PG (Sx X (tn++fr) scope (bE X.env fr) C s H fp) target g) (ht:∀C s H fp,PF (Sx X (tn++fr) scope (bE X.env fr) C s H fp) ifs tt) (he:∀C s H fp,PE (Sx X (tn++fr) scope (bE X.env fr) C s H fp) elt te)
  (HJ:swapsWith (.ListComp elt [⟨target,iter,ifs,0⟩] scope pos) (some (.Name y py)) u_.line X.env=pure true:=by rfl)
  (hs:∀x,foldedSetIterable iter X.env x=pure x:=by intro _;rfl) (hf:X.fn y=true\/X.env.scope.names.lookup y=some .local:=by first | exact .inl rfl | exact .inr rfl | assumption):
  PS X (.Assign [.Name y py] (.ListComp elt [⟨target,iter,ifs,0⟩] scope pos) u_) (FW (u6 tn.length caps wi g tt te) (eh i)):=
 u9 hN T1 hx hc B.g hi hg ht he HJ hs hf
end
section
variable {D:Addr}{te:TE}{cap:L2.St}{H1:Hp}{Q:VK}
theorem HK {J:It}(n:Nat)(xs:Nat->V)(Pv:Nat->List V->Hp->Prop)(h0:Pv 0 [] (upd H1 D (.lst [])))
  (go:∀i ys H,i < n->Pv i ys H->J.go i H/\∀x H',J.FY i H x H' ->H' =H/\x=xs i) (stop:∀ys H,Pv n ys H->J.stop n H)
  (hs:∀i ys H (R:VK),i < n->Pv i ys H->H D=some (.lst ys)->(∀v H6,H6 D=some (.lst ys)->ys.length < sizeLine->Pv (i+1) (ys++[v]) (upd H6 D (.lst (ys++[v])))->R v H6)->te (some (xs i)::cap) H R)
  (hd:∀ys H,Pv n ys H->H D=some (.lst ys)->Q (.ref D) H):qk D (eh 0) oj te J (none::cap) H1 Q:=by
 refine ⟨fun i m σ ys H=>m=n - i/\i<=n/\(∃o,σ=o::cap)/\Pv i ys H/\H D=some (.lst ys),⟨n,by simp,abj _,⟨none,rfl⟩,h0,aj⟩,?_⟩
 rintro i m σ ys H ⟨rfl,hi,⟨o,rfl⟩,p,hD⟩
 by_cases lU:i < n
 ·obtain ⟨g1,g2⟩:=go i ys H lU p
  refine .inr ⟨g1,fun x H' y=>?_⟩
  obtain ⟨e1,e2⟩:=g2 x H' y
  subst e1 e2
  unfold eh oj
  dsimp only
  rw [if_pos rfl]
  exact hs i ys _ _ lU p hD fun v H6 a b c=>⟨a,b,n - (i+1),by omega,rfl,by omega,⟨_,rfl⟩,c,aj⟩
 ·have e:i=n:=by omega
  subst e
  exact .inl ⟨stop ys H p,hd ys H p hD⟩
end
section
variable {X:Cx}{tg:Expr}
end
section
variable {prog:Program}{w:World}{A:Around}{E:γ}
end
structure SA (K:Frag)(C:Addr):Prop where
 makes:PySem.W.makesIn K C=true
 init:PySem.W.findIn K (.ref C) "__init__"=some (some (.builtin "object.__init__"))
 kp:keepIn K (.ref C)=true
def T2 (C:Addr):TE:=fun _ H Q=>∀x dx,H x=none->H dx=none->dx≠x->Q (.ref x) (upd (upd H dx (.own x)) x (.ins C dx []))
section
variable {X:Cx}
theorem Ly {pins:ε}{σ:L2.St}{H:Hp}{s:Shared}{Q:VK}{C:Addr}(M:SA X.K C)(I:Inv X pins σ H s)(h:T2 C σ H Q):wpAny (model X.prog X.w) X.A (call (.ref C) []) (EP X pins σ Q) X.xe s:=by
 have hq:=h (s.heap.objs.size+1) s.heap.objs.size (I.bL.fresh (ahR _)) (I.bL.fresh (aas _)) (aa' (abv _))
 have I2:=Inv.made (C:=C) I
 have Y:=PySem.W.makes_of (M:=model X.prog X.w) I.ju M.makes
 refine wpAny_call (AY I.ju M.makes M.init (fun self=>PySem.W.Looks.of_pure (PySem.W.oi_bind self)) ?_)
 have ho:((s.heap.push PySem.W.emptyDict).push (PySem.W.instObj C s.heap.objs.size)).get? (s.heap.objs.size+1)=some (PySem.W.instObj C s.heap.objs.size):=by
  have:=Heap.get?_push_size (s.heap.push PySem.W.emptyDict) (o:=PySem.W.instObj C s.heap.objs.size) rfl
  rwa [Heap.size_push] at this
 have t1:PySem.W.Looks (model X.prog X.w) ((s.heap.push PySem.W.emptyDict).push (PySem.W.instObj C s.heap.objs.size)) (typeOf (.ref (s.heap.objs.size+1))) (.ref C):=(PySem.W.Looks.ld ho).andThen .now
 have t2:PySem.W.Looks (model X.prog X.w) ((s.heap.push PySem.W.emptyDict).push (PySem.W.instObj C s.heap.objs.size)) (isInstance (.ref (s.heap.objs.size+1)) (.type "object")) true:=
  t1.andThen (Y.top.keeps fun b o e=>Heap.get?_push_of_some _ (Heap.get?_push_of_some _ e))
 refine codeAny_call_builtin PySem.W.oi_plain PySem.W.entry_oi (@PySem.W.check_slot (model X.prog X.w) _ _ _ "object.__init__" "object" "__init__" (.ref (s.heap.objs.size+1)) [] [] _ PySem.W.oi_kind PySem.W.oi_split t2 (PySem.W.oi_args (.ref (s.heap.objs.size+1))) ?_)
 rw [PySem.W.oi_run]
 exact wpAny_pure (And.intro rfl ⟨V.ref (s.heap.objs.size+1),_,I2,rfl,hq⟩)
theorem HL {x:Str}{p pos:Pos}{C:Addr}(M:SA X.K C)(hg:Gl X x)(hm:X.mg x=some (.ref C))(BA:(x==("__debug__":Str))=false:=by decide):PE X (.Call (.Name x p) [] [] pos) (T2 C):=by
 intro pins s σ H Q I h
 refine wpAny_Call_Name_kw (jN I hg hm ?_ BA)
 exact PySem.W.callWith_K0 I.ju M.kp (Ly M I h)
end
structure bj (P:Program)(w:World)(K:Frag)(mg:ι)(base:Heap)(CX:jQ)(k:Nat)(C:Addr)(m:Str)(ps:ρ)(sp:Sp):Prop where
 ex:∃(f:Addr) (fd:FuncData),uM K C/\Meth K C m f/\cJ P w K mg base CX k f fd ps sp/\Binds K fd ps []
theorem bj.mono {P:Program}{w:World}{K:Frag}{mg:ι}{base:Heap}{CX:jQ}{j k:Nat}{C:Addr}{m:Str}{ps:ρ}{sp:Sp}(M:bj P w K mg base CX j C m ps sp)(h:j<=k):bj P w K mg base CX k C m ps sp:=by
 obtain ⟨f,fd,a,b,c,d⟩:=M.ex
 exact ⟨f,fd,a,b,c.mono h,d⟩
section
variable {X:Cx}{CX:jQ}{k:Nat}{E:XK}{m:Str}{pos apos:Pos}{e o:Expr}{es:χ}{ta:TE}{t:TA}
inductive N8 (P:Program)(w:World)(K:Frag)(mg:ι)(base:Heap)(CX:jQ)(k:Nat)(m:Str)(E:XK)(t:TA)(σ:L2.St)(Q:VK)(x:V)(H1:Hp):Prop where
 | mk (a C dx fs ps sp:_) (_:x=.ref a) (_:H1 a=some (.ins C dx fs)) (_:fs.lookup m=none) (_:bj P w K mg base CX k C m ps sp) (_:t σ H1 fun vs H2=>sp (x::vs) H2 Q E):N8 P w K mg base CX k m E t σ Q x H1
def Qo (P:Program)(w:World)(K:Frag)(mg:ι)(base:Heap)(CX:jQ)(k:Nat)(m:Str)(E:XK)(ta:TE)(t:TA):TE:=fun σ H Q=>ta σ H fun x H1=>N8 P w K mg base CX k m E t σ Q x H1
theorem cp {pl:Sem Bool}(he:PE X o ta)(hr:cg k X.A)(hx:Passes CX X E)
  (ht:eval (.Call (.Attribute o m apos) [] [] pos) X.env=(do
   let ov <- eval o X.env
   standAt apos.atName
   let (f,first) <- holding [ov] (getMethod ov m pl)
   callWith pos f first (backTo pos (starEach [] X.env)) (backToKw pos (keywordEach [] X.env))):=by rfl):
  PE X (.Call (.Attribute o m apos) [] [] pos) (Qo X.prog X.w X.K X.mg X.base CX k m E ta ed):=by
 intro pins s σ H Q I h
 refine PySem.W.methodCall_KW (pl:=pl) (bX (he pins s σ H _ I h) fun u s1 ⟨x,H1,I1,rx,a,C,dx,fs,ps,sp,ex,ea,l,M,q⟩=>?_) ht
 subst ex
 obtain rfl:u=Value.ref a:=rx
 obtain ⟨f,fd,c,hm,F,hb⟩:=M.ex
 refine jx I1 ea c hm l ?_
 exact PySem.W.callWith_K0 (first:=[.ref a]) I1.ju hm.kp (sf (us:=[.ref a]) (vs:=[.ref a]) (dvs:=[]) F hr hb .nil hx I1 (.cons rfl .nil) q)
theorem bY {pl:Sem Bool}(he:PE X o ta)(hr:cg k X.A)(hx:Passes CX X E)(ha:PA X (e::es) t)
  (FV:starEach (e::es) X.env=(false,eval e X.env)::starEach es X.env:=by rfl) (w_:(backTo pos (starEach es X.env)).any (·.1)=false:=by rfl)
  (ht:eval (.Call (.Attribute o m apos) (e::es) [] pos) X.env=(do
   let ov <- eval o X.env
   standAt apos.atName
   let (f,first) <- holding [ov] (getMethod ov m pl)
   callWith pos f first (backTo pos (starEach (e::es) X.env)) (backToKw pos (keywordEach [] X.env))):=by rfl):
  PE X (.Call (.Attribute o m apos) (e::es) [] pos) (Qo X.prog X.w X.K X.mg X.base CX k m E ta t):=by
 intro pins s σ H Q I h
 refine PySem.W.methodCall_KW (pl:=pl) (bX (he pins s σ H _ I h) fun u s1 ⟨x,H1,I1,rx,a,C,dx,fs,ps,sp,ex,ea,l,M,q⟩=>?_) ht
 subst ex
 obtain rfl:u=Value.ref a:=rx
 obtain ⟨f,fd,c,hm,F,hb⟩:=M.ex
 refine jx I1 ea c hm l ?_
 refine PySem.W.callWith_K (first:=[.ref a]) (h₀:=X.base) I.ok.mod.Ss hm.kp (bX (ha pos pins s1 σ H1 _ I1 q) fun us s2 ⟨vs,H2,I2,r,q2⟩=>⟨I2.ju,?_⟩) FV w_
 refine sf (us:=.ref a::us) (vs:=.ref a::vs) (dvs:=[]) F hr hb .nil hx I2 (.cons rfl r) ?_
 rw [ahB]
 exact q2
end
theorem rB {X:Cx}{CX:jQ}(h:u4 CX)(e:X.xe=fun _ _=>False):Passes CX X E0:=fun _ _ _ _ _ _ _ q=>(h _ _ _ _ _ q).elim
section
variable {σ:L2.St}{H:Hp}{Q:VK}{QB:Bool->Hp->Prop}{QA:List V->Hp->Prop}{D:Ends}{t u:TS}{ta tb te:TE}{tc td:TT}{t1:TA}
end
section
variable {X:Cx}
inductive T3 (x:V)(lo:Ν)(hi:Ν)(H:Hp)(Q:VK):Prop where
 | mk (z:_) (_:x=.str z) (_:z.length<=sizeLine) (_:Q (.str (Txt.slice z lo hi)) H):T3 x lo hi H Q
theorem Qp:Tx X T3:=by
 intro pins s σ H x v vl vu lo hi sl Q I rx hs pl pu h
 obtain ⟨z,rfl,hz,q⟩:=h
 obtain ⟨t,rfl⟩:=rx
 refine ⟨"str",_,F.slot_str_getitem.lookup,typeIs_str _ _ _,?_⟩
 cases pl <;> cases pu
 ·exact wpAny_getItem_str_slice (l:=none) (u:=none) (st:=none) hs rfl (post_val_or_str ⟨aam (Txt.slice_le z _ _) hz,fun t' k=>⟨.str _,H,I.tok k,⟨t',rfl⟩,q⟩⟩)
 ·rename_i j uj
  exact wpAny_getItem_str_slice (l:=none) (u:=some (j,uj)) (st:=none) hs rfl (post_val_or_str ⟨aam (Txt.slice_le z _ _) hz,fun t' k=>⟨.str _,H,I.tok k,⟨t',rfl⟩,q⟩⟩)
 ·rename_i i ui
  exact wpAny_getItem_str_slice (l:=some (i,ui)) (u:=none) (st:=none) hs rfl (post_val_or_str ⟨aam (Txt.slice_le z _ _) hz,fun t' k=>⟨.str _,H,I.tok k,⟨t',rfl⟩,q⟩⟩)
 ·rename_i i ui j uj
  exact wpAny_getItem_str_slice (l:=some (i,ui)) (u:=some (j,uj)) (st:=none) hs rfl (post_val_or_str ⟨aam (Txt.slice_le z _ _) hz,fun t' k=>⟨.str _,H,I.tok k,⟨t',rfl⟩,q⟩⟩)
inductive N9 (x:V)(y:V)(H:Hp)(Q:VK):Prop where
 | mk (z n:_) (_:x=.str z) (_:y=.int n) (_:MulOk z n) (_:Q (.str (Txt.mul z n)) H):N9 x y H Q
theorem sI:jk X (binaryOp .Mult) N9:=by
 intro pins s σ H x y v u Q I rx ry h
 obtain ⟨z,n,rfl,rfl,ok,q⟩:=h
 obtain ⟨t,rfl⟩:=rx
 obtain ⟨t',rfl⟩:=ry
 exact SB.mul ok fun t' k=>⟨.str _,H,I.tok k,⟨t',rfl⟩,q⟩
end
end Ty
set_option maxHeartbeats 4000000
namespace Ty
open PySem PySem.Spec PyProof.Rows L2 PySem.NumText
def dg (m:Nat):List Nat:=(Nat.toDigits 10 m).map Char.toNat
def tx (n:Int):Str:=Str.ofString (toString n)
def T4:Str:=Str.ofString "/"
def nt (q:Int×Int):Str:=if q.2=1 then tx q.1 else tx q.1++T4++tx q.2
end Ty
set_option maxHeartbeats 4000000
namespace Ty
open PySem PySem.Spec PyProof.Rows L2 PySem.NumText
section
variable {X:Cx}
end
def isStar:Expr->Bool
 | .Starred .. =>true
 | _=>false
theorem BM {e:Expr}{es:χ}{env:Env}(h:isStar e=false):starEach (e::es) env=(false,eval e env)::starEach es env:=by
 cases e <;> first | rfl | (cases h;done)
theorem ar {X:Cx}{e:Expr}{es:χ}{te:TE}{t:TA}(ha:PE X e te)(hr:PA X es t)(h:isStar e=false:=by rfl):PA X (e::es) (NX te t):=Li ha hr (BM h)
end Ty
set_option maxHeartbeats 4000000
namespace Ty
open PySem PySem.Spec PyProof.Rows L2
section
variable {D:Addr}{te:TE}{cap:L2.St}{H1:Hp}{Q:VK}
def aT (D:Addr)(H H' :Hp):Prop:=∀b o,b≠D->H b=some o->H' b=some o
theorem aT.of {H H' :Hp}(s:av H H'):aT D H H' :=fun b o _ e=>s b o e
theorem aT.upd {H:Hp}{o:HO}:aT D H (upd H D o):=fun b o' n e=>by rw [aq n];exact e
theorem HM {J:It}(n:Nat)(xs:Nat->V)(Rel:Nat->V->Hp->Prop)(nD:H1 D=none)(hn:n < sizeLine)
  (go:∀i H,i < n->av H1 H->J.go i H/\∀x H',J.FY i H x H' ->H' =H/\x=xs i) (stop:∀H,av H1 H->J.stop n H)
  (hR:∀i v H H' ys,H D=some (.lst ys)->aT D H H' ->Rel i v H->Rel i v H')
  (he:∀i H (R:VK),i < n->av H1 H->(∀v H6,av H H6->Rel i v H6->R v H6)->te (some (xs i)::cap) H R)
  (hd:∀ys H,ys.length=n->(∀i v,ys[i]? =some v->Rel i v H)->av H1 H->H D=some (.lst ys)->Q (.ref D) H):
  qk D (eh 0) oj te J (none::cap) H1 Q:=by
 refine HK n xs (fun i ys H=>ys.length=i/\(∀i v,ys[i]? =some v->Rel i v H)/\av H1 H) ⟨rfl,fun i v e=>by simp at e,fun b o e=>by rw [aq (ao e nD)];exact e⟩ ?_ ?_ ?_ ?_
 ·rintro i ys H hi ⟨_,_,s⟩
  exact go i H hi s
 ·rintro ys H ⟨_,_,s⟩
  exact stop H s
 ·rintro i ys H R hi ⟨l,r,s⟩ hD k
  refine he i H R hi s fun v H6 s6 rv=>k v H6 (s6 _ _ hD) (by omega) ⟨by simp [l],fun j u e=>?_,fun b o e=>?_⟩
  ·by_cases c:j < ys.length
   ·rw [aaS c] at e
    have ru:=hR j u H H6 ys hD (aT.of s6) (r j u e)
    exact hR j u H6 _ ys (s6 _ _ hD) aT.upd ru
   ·rw [aa3 (by omega)] at e
    have ej:j=i:=by
     by_cases z:j - ys.length=0
     ·omega
     ·rw [aan (by simp;omega)] at e
      cases e
    subst ej
    have:v=u:=by
     rw [show j - ys.length=0 by omega] at e
     exact aaZ e
    subst this
    exact hR j v H6 _ ys (s6 _ _ hD) aT.upd rv
  ·rw [aq (ao e nD)]
   exact s6 _ _ (s _ _ e)
 ·rintro ys H ⟨l,r,s⟩ hD
  exact hd ys H l r s hD
theorem cR {K:Frag}{a:Addr}{xs:η}(Rel:Nat->V->Hp->Prop)(nD:H1 D=none)(hn:xs.length < sizeLine)(hS:∀H,av H1 H->aZ K H a xs)
  (hR:∀i v H H' ys,H D=some (.lst ys)->aT D H H' ->Rel i v H->Rel i v H')
  (he:∀i x H (R:VK),xs[i]? =some x->av H1 H->(∀v H6,av H H6->Rel i v H6->R v H6)->te (some x::cap) H R)
  (hd:∀ys H,ys.length=xs.length->(∀i v,ys[i]? =some v->Rel i v H)->av H1 H->H D=some (.lst ys)->Q (.ref D) H):
  qk D (eh 0) oj te (PX K a) (none::cap) H1 Q:=by
 refine HM xs.length (fun i=>(xs[i]?).getD .cI) Rel nD hn (fun i H hi s=>⟨⟨xs,xs[i],hS H s,gE hi⟩,fun x H' y=>⟨y.1,?_⟩⟩) (fun H s=>⟨xs,hS H s,aas _⟩) hR (fun i H R hi s k=>?_) hd
 ·rw [y.2 xs (hS H s)];rfl
 ·have e:xs[i]? =some xs[i]:=gE hi
  have k' :=he i _ H R e s k
  rw [<- (show (xs[i]?).getD .cI=xs[i] by rw [e];rfl)] at k'
  exact k'
end
section
variable {X:Cx}{pins:ε}{σ:L2.St}{H:Hp}{s:Shared}{h' :Heap}
theorem Inv.m_ {t' :Nat}{fp:Α}(I:Inv X pins σ H s)(k:∀b o,b∉fp->s.heap.get? b=some o->h'.get? b=some o)(hf:∀b∈fp,kI X pins H b):Inv X pins σ H {s with heap:=h',toks:=t' }:=by
 have NL:∀b u,H b=some u->b∉fp:=fun b u e z=>by rw [(hf b z).1] at e;cases e
 refine I.step (g' :=s.gens) (d' :=s.drawn) (ch:=fp) (fun b hb=>?_) (fun b o _ _ hc e _=>k b o hc e) (fun b o _ _ hc e _=>⟨o.slots,k b o hc e⟩) (fun _ _ _ _ n=>n)
  (fun b o hc e=>⟨o,k b o hc e⟩) (fun _ _ e=>e) (fun _ _ _ e=>e) (fun b ps e=>⟨#[],by rw [e];simp⟩) (fun m hm=>?_) (fun b u e=>?_) I.bare
 ·obtain ⟨f0,f1,f2,f3,f4,f5⟩:=hf b hb
  exact ⟨f3,f1,f4,f5⟩
 ·obtain ⟨o,es,ep,ho,r⟩:=hm
  exact ⟨o,es,ep,k _ o (fun z=>(hf _ z).2.1 rfl) ho,r⟩
 ·refine (I.bL b u e).rX (fun c v hc q=>k c v ?_ q) (fun _ q=>q) fun _ _ q=>q
  rcases hc with z | z
  ·rw [z];exact NL b u e
  ·exact NL c _ z
theorem Inv.sJ {t' :Nat}{fp:Α}{T:Addr}{xs:η}{its:ο}(I:Inv X pins σ H s)(k:∀b o,b∉fp->s.heap.get? b=some o->h'.get? b=some o)(hf:∀b∈fp,kI X pins H b)(hT:s.heap.objs.size<=T)
  (hz:xs.length<=sizeLine) (rv:Vals xs its) (ht:IsTup h' T its.toArray):Inv X pins σ (upd H T (.tup xs)) {s with heap:=h',toks:=t' }:=by
 have hn:=I.bL.fresh hT
 have NL:∀b u,H b=some u->b∉fp:=fun b u e z=>by rw [(hf b z).1] at e;cases e
 have ne:∀b o,s.heap.get? b=some o->b≠T:=fun b o e=>aa' (aa6 (Heap.lt_size e) hT)
 refine I.step (g' :=s.gens) (d' :=s.drawn) (ch:=fp) (fun b hb=>?_) (fun b o _ _ hc e _=>k b o hc e) (fun b o _ _ hc e _=>⟨o.slots,k b o hc e⟩) (fun b o _ e n=>by rw [aq (ne b o e)];exact n)
  (fun b o hc e=>⟨o,k b o hc e⟩) (fun b ys e=>by rw [aq (ao e hn)];exact e) (fun b o u e=>by rw [aq (ao e hn)];exact e) (fun b ps e=>⟨#[],by rw [aq (ao e hn),e];simp⟩) (fun m hm=>?_) (fun b u e=>?_) I.bare
 ·obtain ⟨f0,f1,f2,f3,f4,f5⟩:=hf b hb
  exact ⟨f3,f1,f4,f5⟩
 ·obtain ⟨o,es,ep,ho,r⟩:=hm
  exact ⟨o,es,ep,k _ o (fun z=>(hf _ z).2.1 rfl) ho,r⟩
 ·by_cases hb:b=T
  ·subst hb
   rw [aj] at e
   cases e
   exact ⟨hz,its,rv,ht⟩
  ·rw [aq hb] at e
   refine (I.bL b u e).rX (fun c v hc q=>k c v ?_ q) (fun c q=>by rw [aq (ao q hn)];exact q) fun c ys q=>by rw [aq (ao q hn)];exact q
   rcases hc with z | z
   ·rw [z];exact NL b u e
   ·exact NL c _ z
end
def Itz (K:Frag)(a b:Addr):It:=
 ⟨fun i H=>∃xs ys x y,aZ K H a xs/\aZ K H b ys/\xs[i]? =some x/\ys[i]? =some y,
  fun i H v H' =>∃p x y,(∀xs,aZ K H a xs->xs[i]? =some x)/\(∀ys,aZ K H b ys->ys[i]? =some y)/\v=.ref p/\H p=none/\H' =upd H p (.tup [x,y]),
  fun i H=>∃xs ys,aZ K H a xs/\aZ K H b ys/\(xs.length<=i\/ys.length<=i)⟩
theorem HN {P:Program}{w:World}{K:Frag}{es:χ}{k:Nat}{pos:Pos}(a b z TI TO i1 i2:Addr)(D:ZipApart z TI TO i1 i2 a b):
  Turn P w K (.Tuple es k pos) (Itz K a b) [z,TI,TO,i1,i2] z (fun i h=>IsZip h z TI TO .none/\IsPair h TI (.ref i1) (.ref i2)/\(∃x y,IsPair h TO x y)/\h.IsListIter i1 a i/\h.IsListIter i2 b i) where
 mem:=by simp
 obj:=fun i h st c hc=>by
  obtain ⟨hz,jy,⟨x,y,rC⟩,⟨o1,e1,c1,d1⟩,⟨o2,e2,c2,d2⟩⟩:=st
  have uA :c=z\/c=TI\/c=TO\/c=i1\/c=i2:=by simpa using hc
  rcases uA with e | e | e | e | e <;> subst e
  ·exact ⟨_,hz,fun v z=>by cases z⟩
  ·exact ⟨_,jy,fun v z=>by cases z⟩
  ·exact ⟨_,rC,fun v z=>by cases z⟩
  ·exact ⟨_,e1,fun v z=>by rw [d1] at z;cases z⟩
  ·exact ⟨_,e2,fun v z=>by rw [d2] at z;cases z⟩
 keep:=fun i h h' st k=>by
  obtain ⟨hz,jy,⟨x,y,rC⟩,h1,h2⟩:=st
  exact ⟨k z (by simp) _ hz,k TI (by simp) _ jy,⟨x,y,k TO (by simp) _ rC⟩,h1.at fun o e=>k i1 (by simp) o e,h2.at fun o e=>k i2 (by simp) o e⟩
 item:=by
  intro X hP hw hK hc i pins s σ H E I hf st hg
  subst hP hw hK
  obtain ⟨hz,jy,⟨x0,y0,rC⟩,h1,h2⟩:=st
  obtain ⟨xs,ys,x,y,qx,qy,ex,ey⟩:=hg
  obtain ⟨its,rv,p,_⟩:=I.list qx
  obtain ⟨T5,mX,p',_⟩:=I.list qy
  obtain ⟨u,hu,ru⟩:=rv.get ex
  obtain ⟨v,hv,rv'⟩:=mX.get ey
  refine wpAny_pyNext_zip_item D hz jy rC h1 h2 p.isList p'.isList (x:=u) (y:=v) (by simpa using hu) (by simpa using hv) fun h' a1 a2 a3 a4 a5 a6 a7=>?_
  refine ⟨_,rfl,wpAny_letOwnedTupleGo_zip (s:={s with heap:=h' }) a1 fun KA b1 sb=>?_⟩
  have nz:∀c,c≠z->∀o,h'.get? c=some o->KA.get? c=some o:=fun c hc o e=>(sb.2 c hc).trans e
  have kk:∀b o,b∉[z,TI,TO,i1,i2]->s.heap.get? b=some o->KA.get? b=some o:=fun b o hb e=>by
   have ix :b≠z/\b≠TI/\b≠TO/\b≠i1/\b≠i2:=by simpa using hb
   exact nz b ix.1 o (a7 b o ix.1 ix.2.2.1 ix.2.2.2.1 ix.2.2.2.2 e)
  have sz:∀c o,s.heap.get? c=some o->s.heap.objs.size≠c:=fun c o e=>ahH (Heap.lt_size e)
  have tz:s.heap.objs.size≠z:=sz _ _ hz
  have hn:=I.bL.fresh (aas s.heap.objs.size)
  have I2:Inv X pins σ (upd H s.heap.objs.size (.tup [x,y])) {s with heap:=KA,toks:=s.toks}:=
   Inv.sJ I kk hf (aas _) (by show 2<=sizeLine;decide) (its:=[u,v]) (.cons ru (.cons rv' .nil)) ⟨_,nz _ tz _ a5,rfl,_,rfl⟩
  refine ⟨.ref s.heap.objs.size,_,I2,rfl,⟨s.heap.objs.size,x,y,fun xs' q=>by rw [I.iA q qx];exact ex,fun ys' q=>by rw [I.iA q qy];exact ey,rfl,hn,rfl⟩,⟨b1,nz _ D.TIz _ (a7 _ _ D.TIz D.TITO D.TIi1 D.TIi2 jy),⟨_,_,nz _ D.TOz _ a2⟩,a3.at fun o e=>nz _ D.i1z o e,a4.at fun o e=>nz _ D.i2z o e⟩,fun b hb=>?_⟩
  have ob:∃o,s.heap.get? b=some o:=by
   obtain ⟨o1,e1,_⟩:=h1
   obtain ⟨o2,e2,_⟩:=h2
   have uA :b=z\/b=TI\/b=TO\/b=i1\/b=i2:=by simpa using hb
   rcases uA with e | e | e | e | e <;> subst e
   ·exact ⟨_,hz⟩
   ·exact ⟨_,jy⟩
   ·exact ⟨_,rC⟩
   ·exact ⟨_,e1⟩
   ·exact ⟨_,e2⟩
  obtain ⟨o,e⟩:=ob
  rw [aq (abb (sz _ _ e))]
  exact (hf b hb).1
 done:=by
  intro X hP hw hK hc i pins s σ H E I hf st hg
  subst hP hw hK
  obtain ⟨hz,jy,⟨x0,y0,rC⟩,h1,h2⟩:=st
  obtain ⟨xs,ys,qx,qy,ee⟩:=hg
  obtain ⟨its,rv,p,_⟩:=I.list qx
  obtain ⟨T5,mX,p',_⟩:=I.list qy
  have l1:=rv.length
  have l2:=mX.length
  refine wpAny_pyNext_zip_end (I.ok.hd hc) D hz jy rC h1 h2 p.isList p'.isList ?_ fun h' kk=>⟨rfl,Inv.m_ I (fun b o hb e=>?_) hf⟩
  ·rcases ee with e | e
   ·exact .inl (by simp;omega)
   ·exact .inr (by simp;omega)
  ·have ix :b≠z/\b≠TI/\b≠TO/\b≠i1/\b≠i2:=by simpa using hb
   exact kk b o ix.1 ix.2.2.1 ix.2.2.2.1 ix.2.2.2.2 e
 self:=fun _ _ _ _ _ st h=>wpAny_pyIter_zip st.1 h
theorem boot_zip:bootBuiltins "zip"=some (.type "zip"):=by decide+kernel
section
variable {X:Cx}
inductive N_ (K:Frag)(R:(It->Hp->Prop))(vs:η)(H1:Hp):Prop where
 | mk (a b:_) (_:vs=[.ref a,.ref b]) (_:(∃xs,aZ K H1 a xs)) (_:(∃ys,aZ K H1 b ys)) (_:R (Itz K a b) H1):N_ K R vs H1
def aaN (K:Frag)(ta:TA):TI:=fun σ H R=>ta σ H fun vs H1=>N_ K R vs H1
theorem HP {e1 e2:Expr}{ta:TA}{p pos:Pos}{es:χ}{k:Nat}{r_:Pos}(hg:Gl X "zip")(hm:X.mg "zip"=none)(ha:PA X [e1,e2] ta)(hs:starEach [e1,e2] X.env=[(false,eval e1 X.env),(false,eval e2 X.env)]:=by rfl)(Kz:starEach [e2] X.env=[(false,eval e2 X.env)]:=by rfl):
  PI X (.Tuple es k r_) (.Call (.Name "zip" p) [e1,e2] [] pos) (aaN X.K ta):=by
 intro pins s σ H R I h
 refine Call_ (iz I hg hm boot_zip (PyProof.Rows.callWith_type1 (bX (ha pos pins s σ H _ I h) fun us s1 ⟨vs,H1,I1,r1,q1⟩=>?_) (by rw [hs,Kz]) (by rw [Kz];rfl)))
 obtain ⟨a,b,e,⟨xs,hx⟩,⟨ys,hy⟩,q⟩:=q1
 subst e
 cases r1 with
 | cons r rr=>
  cases rr with
  | cons r' rr=>
   cases rr
   cases r
   cases r'
   obtain ⟨its,rv,pl,_⟩:=I1.list hx
   obtain ⟨T5,mX,pl',_⟩:=I1.list hy
   have lt1:a < s1.heap.objs.size:=by obtain ⟨o,ho,_⟩:=pl.isList;exact Heap.lt_size ho
   have lt2:b < s1.heap.objs.size:=by obtain ⟨o,ho,_⟩:=pl'.isList;exact Heap.lt_size ho
   refine call_zip_2 pl.isList pl'.isList fun h' hz jy rC T6 T7 hsz hk=>wpAny_pyIter_zip (s:={s1 with heap:=h' }) hz ?_
   refine ⟨s1.heap.objs.size+4,[s1.heap.objs.size+4,s1.heap.objs.size+2,s1.heap.objs.size+3,s1.heap.objs.size,s1.heap.objs.size+1],_,_,H1,rfl,I1.kept (t' :=s1.toks) hk,HN a b _ _ _ _ _ ?_,⟨hz,jy,⟨_,_,rC⟩,T6,T7⟩,fun c hc=>?_,q⟩
   ·constructor <;> (intro z;simp only [Addr] at*;omega)
   ·have uA :s1.heap.objs.size<=c:=by
     have:c=s1.heap.objs.size+4\/c=s1.heap.objs.size+2\/c=s1.heap.objs.size+3\/c=s1.heap.objs.size\/c=s1.heap.objs.size+1:=by simpa using hc
     simp only [Addr] at*
     omega
    exact I1.qg uA (I1.bL.fresh uA)
theorem l0 (ns:ν)(val:Nat->Int)(hv:∀i (h:i < ns.length),val i=ns[i]):∀j,j<=ns.length->preSum val j=(ns.take j).sum
 | 0,_=>by simp [preSum]
 | j+1,h=>by
  rw [preSum,l0 ns val hv j (by omega),hv j (by omega),List.take_succ_eq_append_getElem (by omega),List.sum_append]
  simp
inductive T8 (K:Frag)(xs:η)(H:Hp)(Q:VK):Prop where
 | mk (p:Addr) (ns:ν) (_:xs=[.ref p]) (_:aZ K H p (ns.map V.int)) (_:Q (.int ns.sum) H):T8 K xs H Q
theorem va (hc:X.calm=true):ft X (.builtin "sum") (T8 X.K):=by
 intro pins s σ H xs us Q I r h
 obtain ⟨p,ns,rfl,hq,q⟩:=h
 obtain ⟨u,rfl,r1⟩:=vals1 r
 cases r1
 obtain ⟨its,rv,pl,hz⟩:=I.list hq
 have hlen:=rv.length
 rw [ir] at hlen
 refine call_sum_walkG (wpAny_pyIter_list pl.isList ?_)
 have zl:p≠s.heap.objs.size:=by obtain ⟨o,ho,_⟩:=pl.isList;exact aa' (Heap.lt_size ho)
 refine ⟨s.heap.objs.size,_,_,its.toArray.size,_,_,fun i=>ns.getD i 0,rfl,Walks.list (by exact I.ok.hd hc) s.heap.objs.size p zl its.toArray,⟨⟨_,Heap.get?_push_size _ rfl,rfl,rfl⟩,pl.isList.at fun o e=>Heap.get?_push_of_some _ e⟩,fun b hb=>?_,fun i v hv=>?_,fun h' tk t' hk=>?_⟩
 ·have ix :b=s.heap.objs.size\/b=p:=by simpa using hb
  rw [Heap.size_push]
  rcases ix with e | e
  ·rw [e];exact abv _
  ·rw [e]
   obtain ⟨o,ho,_⟩:=pl.isList
   exact acu (Heap.lt_size ho)
 ·have P5 :its[i]? =some v:=by simpa using hv
  have hi:i < its.length:=(be.mp P5).1
  have KC :i < ns.length:=by omega
  obtain ⟨u',hu,ru⟩:=rv.get (i:=i) (x:=.int ns[i]) (by rw [Wp,gE KC];rfl)
  rw [P5] at hu
  cases hu
  obtain ⟨t,e⟩:=ru
  exact ⟨t,by rw [e];show Value.int ns[i] t=Value.int (ns.getD i 0) t;rw [aaU,gE KC];rfl⟩
 ·have e:preSum (fun i=>ns.getD i 0) its.toArray.size=ns.sum:=by
   rw [l0 ns _ (fun i h=>by rw [aaU,gE h];rfl) _ (by simp;omega),ab_ (by simp;omega)]
  rw [e]
  have I2:Inv X pins σ H {s with heap:=h',toks:=tk}:=I.kept (t' :=tk) fun b o eb=>hk b o (fun z=>by
   have z' :b=s.heap.objs.size:=by simpa using z
   rw [z'] at eb
   exact absurd (Heap.lt_size eb) (ach _)) (Heap.get?_push_of_some _ eb)
  exact ⟨.int ns.sum,H,I2,⟨_,rfl⟩,q⟩
theorem boot_sum:bootBuiltins "sum"=some (.builtin "sum"):=by decide+kernel
inductive HQ (K:Frag)(xs:η)(H:Hp)(Q:VK):Prop where
 | mk (p:Addr) (ys:η) (_:xs=[.ref p]) (_:aZ K H p ys) (_:∀l,H l=none->Q (.ref l) (upd H l (.lst ys))):HQ K xs H Q
theorem oq:ft X (.type "list") (HQ X.K):=by
 intro pins s σ H xs us Q I r h
 obtain ⟨p,ys,rfl,hq,q⟩:=h
 obtain ⟨u,rfl,r1⟩:=vals1 r
 cases r1
 obtain ⟨its,rv,⟨o,n,e,c,d1,d⟩,hz⟩:=I.list hq
 have hlen:=rv.length
 refine call_list_seq p (.inl rfl) e c d (fun h' c' hk hl=>?_) (by simp;omega)
 have hn:=I.bL.fresh (aas s.heap.objs.size)
 have I2:Inv X pins σ (upd H s.heap.objs.size (.lst ys)) {s with heap:=h',toks:=s.toks}:=I.laid (t' :=s.toks) hk (aas _) ⟨hz,its,c',rv,hl⟩
 exact ⟨.ref _,_,I2,rfl,q _ hn⟩
end
section
variable {X:Cx}{K:Frag}
theorem eC (h:X.K=K):Sv X (Lq K):=by subst h;exact GU
theorem vb (h:X.K=K):Sv X (Lp K):=by subst h;exact bc
theorem gA (h:X.K=K):ft X (.builtin "len") (fun xs H Q=>∃p ys,xs=[.ref p]/\(aZ K H p ys\/bQ K H p ys)/\Q (.int ys.length) H):=by subst h;exact au
theorem sL {es:χ}{k:Nat}{t:NO}{n:Nat}{pos:Pos}(hK:X.K=K)(hc:X.calm=true)(h:Tg X es t)
  (hn:(assignEach es X.env).length=n:=by rfl) (FV:(assignEach es X.env).findIdx? (·.1)=none:=by rfl):PG X (.Tuple es k pos) (FU K n t):=by subst hK;exact dy hc h hn FV
end
section
variable {D:Addr}{te:TE}{cap:L2.St}{H1:Hp}{Q:VK}
theorem vc {K:Frag}{a b:Addr}{xs ys:η}(Rel:Nat->V->Hp->Prop)(nD:H1 D=none)(hn:xs.length < sizeLine)(hl:ys.length=xs.length)(hX:∀H,av H1 H->aZ K H a xs)(hY:∀H,av H1 H->aZ K H b ys)
  (hR:∀i v H H' ys,H D=some (.lst ys)->aT D H H' ->Rel i v H->Rel i v H')
  (he:∀i x y H (R:VK),xs[i]? =some x->ys[i]? =some y->av H1 H->(∀v H6,av H H6->Rel i v H6->R v H6)->te (some x::some y::cap) H R)
  (hd:∀zs H,zs.length=xs.length->(∀i v,zs[i]? =some v->Rel i v H)->av H1 H->H D=some (.lst zs)->Q (.ref D) H):
  qk D (FU K 2 (uI (eh 0) (uI (eh 1) PU))) oj te (Itz K a b) (none::none::cap) H1 Q:=by
 refine ⟨fun i m σ zs H=>m=xs.length - i/\i<=xs.length/\(∃o o',σ=o::o' ::cap)/\(zs.length=i/\(∀i v,zs[i]? =some v->Rel i v H)/\av H1 H)/\H D=some (.lst zs),⟨xs.length,by simp,abj _,⟨none,none,rfl⟩,⟨rfl,fun i v e=>by simp at e,fun b o e=>by rw [aq (ao e nD)];exact e⟩,aj⟩,?_⟩
 rintro i m σ zs H ⟨rfl,hi,⟨o,o',rfl⟩,⟨l,r,s⟩,hD⟩
 by_cases lU:i < xs.length
 ·have e1:xs[i]? =some xs[i]:=gE lU
  have e2:ys[i]? =some (ys[i]'(by omega)):=gE (by omega)
  refine .inr ⟨⟨xs,ys,_,_,hX H s,hY H s,e1,e2⟩,fun v H' y=>?_⟩
  obtain ⟨p,x,y,q1,q2,rfl,np,rfl⟩:=y
  have e1:=q1 xs (hX H s)
  have e2:=q2 ys (hY H s)
  have sp:av H (upd H p (.tup [x,y])):=fun b o e=>by rw [aq (ao e np)];exact e
  refine ⟨p,_,rfl,bQ.of aj,rfl,_,_,rfl,_,_,rfl,rfl,?_⟩
  unfold oj
  dsimp only
  rw [if_pos rfl]
  refine he i x y _ _ e1 e2 (fun b o e=>sp _ _ (s _ _ e)) fun v H6 s6 rv=>⟨s6 _ _ (sp _ _ hD),by omega,xs.length - (i+1),by omega,rfl,by omega,⟨_,_,rfl⟩,⟨by simp [l],fun j u e=>?_,fun b o e=>?_⟩,aj⟩
  ·by_cases c:j < zs.length
   ·rw [aaS c] at e
    have ru:=hR j u H H6 zs hD (aT.of fun b o q=>s6 _ _ (sp _ _ q)) (r j u e)
    exact hR j u H6 _ zs (s6 _ _ (sp _ _ hD)) aT.upd ru
   ·rw [aa3 (by omega)] at e
    have ej:j=i:=by
     by_cases z:j - zs.length=0
     ·omega
     ·rw [aan (by simp;omega)] at e
      cases e
    subst ej
    have:v=u:=by
     rw [show j - zs.length=0 by omega] at e
     exact aaZ e
    subst this
    exact hR j v H6 _ zs (s6 _ _ (sp _ _ hD)) aT.upd rv
  ·rw [aq (ao e nD)]
   exact s6 _ _ (sp _ _ (s _ _ e))
 ·have e:i=xs.length:=by omega
  subst e
  exact .inl ⟨⟨xs,ys,hX H s,hY H s,.inl (aas _)⟩,hd zs H l r s hD⟩
end
open Builtin.Int (intBits)
theorem Oa:bootBuiltins "sum"=some (.builtin "sum"):=boot_sum
def vl (q:Int×Int):Rat:=(q.1:Rat) / (q.2:Rat)
structure Sm (T B:Nat)(q:Int×Int):Prop where
 pos:0 < q.2
 low:abx q.1 q.2=1
 top:q.1.natAbs<=2^T
 bot:q.2.natAbs<=2^B
theorem eD {b:Int}(h:b≠0):(b:Rat)≠0:=by simpa using h
theorem HR {t b:Int}(h:b≠0):vl (low t b)=(t:Rat) / (b:Rat):=by
 have c:=BG (t:=t) h
 have p:=jV (t:=t) h
 have h1:=eD h
 have h2:=eD (b:=(low t b).2) (by omega)
 have c' :((low t b).1:Rat)*b=t*(low t b).2:=by exact_mod_cast c
 unfold vl
 grind
theorem vd {t b u c:Int}(hb:b≠0)(hc:c≠0)(h:(t:Rat) / b=(u:Rat) / c):t*c=u*b:=by
 have h1:=eD hb
 have h2:=eD hc
 have:(t:Rat)*c=u*b:=by grind
 exact_mod_cast this
theorem Qq {q r:Int×Int}(hq:0 < q.2)(hr:0 < r.2)(gq:abx q.1 q.2=1)(gr:abx r.1 r.2=1)(h:vl q=vl r):q=r:=by
 have c:=vd (t:=q.1) (b:=q.2) (u:=r.1) (c:=r.2) (by omega) (by omega) h
 have e:=qi (t:=q.1) (b:=q.2) (u:=r.1) (c:=r.2) (by omega) (by omega) c
 rw [uX hq gq,uX hr gr] at e
 exact ahy (congrArg anX e) (congrArg an_ e)
theorem BN {b d:Int}(hd:d≠0)(h:d ∣ b):((b.fdiv d:Int):Rat)=(b:Rat) / d:=by
 have e:=ck hd h
 have h1:=eD hd
 have:(b:Rat)=d*(b.fdiv d:Int):=by exact_mod_cast e
 grind
def ve (ts:ν)(qs:τ)(b:Int):Prop:=ts.length=qs.length/\∀(i:Nat) (t:Int) (q:Int×Int),ts[i]? =some t->qs[i]? =some q->(t:Rat)=vl q*b
theorem xA {a b:Int}{m n:Nat}(h1:a.natAbs<=2^m)(h2:b.natAbs<=2^n):(a*b).natAbs<=2^(m+n):=by
 rw [ab0,ahz]
 exact abF h1 h2
theorem Qr {a b:Int}{m:Nat}(h1:a.natAbs<=2^m)(h2:b.natAbs<=2^m):(a+b).natAbs<=2^(m+1):=by
 have:=ahp a b
 rw [ahJ]
 omega
theorem Ob {a:Int}{m n:Nat}(h:a.natAbs<=2^m)(hm:m<=n):a.natAbs<=2^n:=aam h (abo (by decide) hm)
theorem iY {a:Int}{m n:Nat}(h:a.natAbs<=2^m)(hm:m < n):intBits a<=n:=intBits_le_iff.mpr (aaz h (Nat.pow_lt_pow_right (by decide) hm))
theorem ng {a b:Int}{m n:Nat}(h1:a.natAbs<=2^m)(h2:b.natAbs<=2^n)(hm:m < 30000000)(hn:n < 30000000):iD a b:=⟨aam (iY h1 hm) (by decide),aam (iY h2 hn) (by decide)⟩
theorem HS {b d:Int}(hb:0 < b)(hd:0 < d):0 < b.fdiv (gz b d)*d/\b ∣ b.fdiv (gz b d)*d/\d ∣ b.fdiv (gz b d)*d/\(b.fdiv (gz b d)*d).natAbs<=b.natAbs*d.natAbs:=by
 have gp:=sy (t:=b) (b:=d) (by omega)
 have g1:gz b d ∣ b:=acx ..
 have g2:gz b d ∣ d:=acr ..
 have e1:=ck (g:=gz b d) (by omega) g1
 have e2:=ck (g:=gz b d) (by omega) g2
 generalize gz b d=g at*
 have p1:0 < b.fdiv g:=by
  rcases ahT (b.fdiv g) 0 with z | z | z
  ·exfalso
   have:=ahQ gp z
   omega
  ·rw [z] at e1;omega
  ·exact z
 refine ⟨ahA p1 hd,⟨d.fdiv g,?_⟩,⟨b.fdiv g,acs ..⟩,?_⟩
 ·have:b.fdiv g*d=b.fdiv g*(g*d.fdiv g):=by rw [<- e2]
  rw [this]
  have h3:b*d.fdiv g=g*b.fdiv g*d.fdiv g:=by rw [<- e1]
  rw [h3]
  rw [<- ahx,acs (b.fdiv g) g]
 ·rw [ab0]
  exact ab1 _ (by
   have:=dC (g:=g) (a:=b.fdiv g) (by omega)
   rw [<- e1] at this
   exact this)
theorem BO {q:Int×Int}{b:Int}(hq:0 < q.2)(h:q.2 ∣ b):((q.1*b.fdiv q.2:Int):Rat)=vl q*b:=by
 have e:=BN (b:=b) (d:=q.2) (by omega) h
 have:((q.1*b.fdiv q.2:Int):Rat)=q.1*((b.fdiv q.2:Int):Rat):=by push_cast;rfl
 rw [this,e]
 unfold vl
 grind
theorem gF {b d:Int}(hd:d≠0)(h:d ∣ b):(b.fdiv d).natAbs<=b.natAbs:=by
 have:=dC (g:=d) (a:=b.fdiv d) hd
 rw [<- ck hd h] at this
 exact this
section
variable {D:Addr}{te:TE}{cap:L2.St}{H1:Hp}{Q:VK}
theorem BP {J:It}(n:Nat)(xs:Nat->V)(Rel:Nat->V->Hp->Prop)(nD:H1 D=none)(hn:n < sizeLine)
  (go:∀i H,i < n->av H1 H->J.go i H/\∀x H',J.FY i H x H' ->H' =H/\x=xs i) (stop:∀H,av H1 H->J.stop n H)
  (hR:∀i v H H' ys,H D=some (.lst ys)->aT D H H' ->Rel i v H->Rel i v H')
  (he:∀i H (R:VK),i < n->av H1 H->(∃ys,H D=some (.lst ys))->(∀v H6,av H H6->Rel i v H6->R v H6)->te (some (xs i)::cap) H R)
  (hd:∀ys H,ys.length=n->(∀i v,ys[i]? =some v->Rel i v H)->av H1 H->H D=some (.lst ys)->Q (.ref D) H):
  qk D (eh 0) oj te J (none::cap) H1 Q:=by
 refine HK n xs (fun i ys H=>ys.length=i/\(∀i v,ys[i]? =some v->Rel i v H)/\av H1 H) ⟨rfl,fun i v e=>by simp at e,fun b o e=>by rw [aq (ao e nD)];exact e⟩ ?_ ?_ ?_ ?_
 ·rintro i ys H hi ⟨_,_,s⟩
  exact go i H hi s
 ·rintro ys H ⟨_,_,s⟩
  exact stop H s
 ·rintro i ys H R hi ⟨l,r,s⟩ hD k
  refine he i H R hi s ⟨_,hD⟩ fun v H6 s6 rv=>k v H6 (s6 _ _ hD) (by omega) ⟨by simp [l],fun j u e=>?_,fun b o e=>?_⟩
  ·by_cases c:j < ys.length
   ·rw [aaS c] at e
    have ru:=hR j u H H6 ys hD (aT.of s6) (r j u e)
    exact hR j u H6 _ ys (s6 _ _ hD) aT.upd ru
   ·rw [aa3 (by omega)] at e
    have ej:j=i:=by
     by_cases z:j - ys.length=0
     ·omega
     ·rw [aan (by simp;omega)] at e
      cases e
    subst ej
    have:v=u:=by
     rw [show j - ys.length=0 by omega] at e
     exact aaZ e
    subst this
    exact hR j v H6 _ ys (s6 _ _ hD) aT.upd rv
  ·rw [aq (ao e nD)]
   exact s6 _ _ (s _ _ e)
 ·rintro ys H ⟨l,r,s⟩ hD
  exact hd ys H l r s hD
theorem jz {K:Frag}{a:Addr}{xs:η}(Rel:Nat->V->Hp->Prop)(nD:H1 D=none)(hn:xs.length < sizeLine)(hS:∀H,av H1 H->aZ K H a xs)
  (hR:∀i v H H' ys,H D=some (.lst ys)->aT D H H' ->Rel i v H->Rel i v H')
  (he:∀i x H (R:VK),xs[i]? =some x->av H1 H->(∃ys,H D=some (.lst ys))->(∀v H6,av H H6->Rel i v H6->R v H6)->te (some x::cap) H R)
  (hd:∀ys H,ys.length=xs.length->(∀i v,ys[i]? =some v->Rel i v H)->av H1 H->H D=some (.lst ys)->Q (.ref D) H):
  qk D (eh 0) oj te (PX K a) (none::cap) H1 Q:=by
 refine BP xs.length (fun i=>(xs[i]?).getD .cI) Rel nD hn (fun i H hi s=>⟨⟨xs,xs[i],hS H s,gE hi⟩,fun x H' y=>⟨y.1,?_⟩⟩) (fun H s=>⟨xs,hS H s,aas _⟩) hR (fun i H R hi s dd k=>?_) hd
 ·rw [y.2 xs (hS H s)];rfl
 ·have e:xs[i]? =some xs[i]:=gE hi
  have k' :=he i _ H R e s dd k
  rw [<- (show (xs[i]?).getD .cI=xs[i] by rw [e];rfl)] at k'
  exact k'
end
theorem Lz {M:Model}{A:Around}{E:γ}{s:Shared}{scope:Scope}{globals:Addr}{cl:List (Str×Addr)}{y:Str}{qual:Str}{outer:Env}{Q:Env->Shared->Prop}
  (hc:∀n acc,cellsFrom n scope.names acc=(y,n)::acc) (hp:∀h,pushCells h scope.names=h.push {cls:=.type "cell",data:=.cell none})
  (hQ:∀h',h'.Ns s.heap.objs.size (fun _=>none)->(∀b o,s.heap.get? b=some o->h'.get? b=some o)->h'.IsCell (s.heap.objs.size+1) none->
   Q (newEnv scope s.heap.objs.size globals ((y,s.heap.objs.size+1)::cl) qual none .none (some outer) builtinsNs) {s with heap:=h',toks:=s.toks+([]:List (Str×Value)).length}):
  wpAny M A (newFunctionEnv scope globals cl [] qual none .none (some outer)) Q E s:=by
 simp only [newFunctionEnv,aip,if_true]
 refine wpAny_bind (wpAny_alloc ?_)
 refine wpAny_bind (wpAny_layCells _ (fun name kind cells=>by cases hkc:kind==NameKind.cell <;> simp [hkc]) _ _ _ _ ?_)
 rw [show ({s with heap:=s.heap.push {cls:=.type "dict",data:=.dict #[]}}:Shared).heap.objs.size=s.heap.objs.size+1 from Heap.size_push ..,hc,hp]
 rw [aie]
 refine wpAny_bind (wpAny_pure (wpAny_pure ?_))
 refine hQ _ ((Heap.Ns.new s.heap (.type "dict")).keeps fun b o e=>Heap.get?_push_of_some _ e) (fun b o e=>Heap.get?_push_of_some _ (Heap.get?_push_of_some _ e)) ?_
 have:=Heap.get?_push_size (s.heap.push {cls:=.type "dict",data:=.dict #[]}) (o:={cls:=.type "cell",data:=.cell none}) rfl
 rw [Heap.size_push] at this
 exact ⟨_,this,rfl⟩
section
variable {X:Cx}
theorem HU {K:Frag}{tg l:Expr}{tl:TE}(h:X.K=K)(hl:PE X l tl):PI X tg l (NQ K tl):=by subst h;exact bD hl
abbrev Qs (X:Cx)(NB:ρ)(scope:Scope)(y:Str)(cl:List (Str×Addr))(C:Addr)(s:Shared)(H:Hp)(fp:Α):Cx:=sH X NB scope (fun x=>x==y) ((y,C+1)::cl) C s H fp
structure Qt (X:Cx)(scope:Scope)(y:Str)(fr:ρ)(caps:Δ):Prop where
 BJ:closureFor scope X.env=pure (bE X.env fr)
 kind:scope.kind=.function
 names:∀y∈scope.names,y.2=.local->scope.names.lookup y.1=some .local
 free:∀y∈scope.names,y.2=.free->y.1∈fr
 caps:caps.map (fun i=>X.N[i]?)=fr.map some
 out:gy X.env fr
 TR:gy (compEnvC scope [] 0 X.env) fr
 Qu:∀n acc,cellsFrom n scope.names acc=(y,n)::acc
 T9:∀h,pushCells h scope.names=h.push {cls:=.type "cell",data:=.cell none}
 only:∀z∈scope.names,z.2=.cell->z.1=y
 ny:y∉fr
theorem LA {y x:Str}{C c:Addr}(h:abW x [(y,C)]=some c):x=y/\c=C:=by
 rw [ae_] at h
 cases e:x==y with
 | true=>
  rw [e] at h
  exact ⟨by simpa using e,(aaZ h).symm⟩
 | false=>rw [e] at h;cases h
theorem Qt.g {scope:Scope}{y:Str}{fr:ρ}{caps:Δ}(B:Qt X scope y fr caps):HG X scope (fun C=>[(y,C+1)]) (fun x=>x==y) fr caps:=
 ⟨B.BJ,B.kind,B.names,B.free,B.caps,B.out,B.TR,fun hQ=>Lz B.Qu B.T9 fun h' a b c=>hQ h' a b fun x d e=>by rw [(LA e).2];exact c,
  fun C x c e=>by rw [(LA e).2];exact abv _,fun C x z c e1 e2=>(LA e1).1.trans (LA e2).1.symm,fun C x h e=>(by rw [ae_,h] at e;cases e),fun z hz e=>by simpa using B.only z hz e,
  fun C x hx=>by rw [ae_,show (x==y)=false by simpa using fun z:x=y=>B.ny (by rw [<- z];exact hx)];rfl⟩
end
end Ty
namespace L2
open PySem PySem.Spec PyProof.Rows
section
variable {κ:Type}[DecidableEq κ]
def dJ (kvs:List (κ×V))(k:κ):Option V:=(kvs.find? fun kv=>decide (kv.1=k)).map (·.2)
def putK (kvs:List (κ×V))(k:κ)(v:V):List (κ×V):=
 if (kvs.any fun kv=>decide (kv.1=k))=true then kvs.map (fun kv=>if kv.1=k then (kv.1,v) else kv) else kvs++[(k,v)]
def eE (kvs:List (κ×V))(k:κ):List (κ×V):=kvs.filter fun kv=>decide (kv.1≠k)
theorem eG {p:κ×V}{r:List (κ×V)}{k:κ}(e:p.1=k):dJ (p::r) k=some p.2:=by simp [dJ,acC,e]
theorem cF {p:κ×V}{r:List (κ×V)}{k:κ}(e:¬ p.1=k):dJ (p::r) k=dJ r k:=by simp [dJ,acC,e]
theorem jW (k:κ):∀kvs:List (κ×V),(kvs.any fun kv=>decide (kv.1=k))=(dJ kvs k).isSome
 | []=>rfl
 | p::r=>by
  rw [ahg]
  by_cases e:p.1=k
  ·simp only [eG e,decide_eq_true e,Bool.true_or,aip]
  ·rw [cF e,decide_eq_false e,Bool.false_or];exact jW k r
theorem fw (kvs:List (κ×V))(k:κ)(v:V):(putK kvs k v).length<=kvs.length+1:=by
 unfold putK
 split
 ·rw [ir];omega
 ·rw [aat,abf,ah'];omega
theorem cQ {kvs:List (κ×V)}{k:κ}(v:V)(h:dJ kvs k=none):putK kvs k v=kvs++[(k,v)]:=by
 unfold putK
 rw [jW,h]
 exact if_neg (by decide)
theorem gT.gG {o:Β}{u:Option Value}(r:gT o u):o.isSome=u.isSome:=by
 cases o with
 | none=>cases u with
  | none=>rfl
  | some _=>exact (show False from r).elim
 | some _=>cases u with
  | none=>exact (show False from r).elim
  | some _=>rfl
theorem gT.getD {o:Β}{u:Option Value}{d:V}{d' :Value}(r:gT o u)(rd:RelV d d'):RelV (o.getD d) (u.getD d'):=by
 cases o with
 | none=>cases u with
  | none=>exact rd
  | some _=>exact (show False from r).elim
 | some _=>cases u with
  | none=>exact (show False from r).elim
  | some _=>exact r
theorem KV.val {kvs:List (κ×V)}{vs:List (κ×Value)}(r:KV kvs vs)(k:κ):gT (dJ kvs k) (valueAt vs k):=by
 unfold KV at r
 induction r with
 | nil=>exact True.intro
 | @cons p q ps qs h t ih=>
  obtain ⟨h1,h2⟩:=h
  by_cases e:p.1=k
  ·have e' :q.1=k:=h1.symm.trans e
   have b:valueAt (q::qs) k=some q.2:=by simp [valueAt,acC,e']
   rw [eG e,b];exact h2
  ·have e' :¬ q.1=k:=fun z=>e (h1.trans z)
   have b:valueAt (q::qs) k=valueAt qs k:=by simp [valueAt,acC,e']
   rw [cF e,b];exact ih
theorem KV.any {kvs:List (κ×V)}{vs:List (κ×Value)}(r:KV kvs vs)(k:κ):(kvs.any fun kv=>decide (kv.1=k))=vs.any fun kv=>decide (kv.1=k):=by
 unfold KV at r
 induction r with
 | nil=>rfl
 | cons h t ih=>rw [ahg,ahg,ih,h.1]
theorem KV.Qv {kvs:List (κ×V)}{vs:List (κ×Value)}(r:KV kvs vs)(k:κ){y:V}{u:Value}(ry:RelV y u):
  KV (kvs.map fun kv=>if kv.1=k then (kv.1,y) else kv) (vs.map fun kv=>if kv.1=k then (kv.1,u) else kv):=by
 unfold KV at r ⊢
 induction r with
 | nil=>exact .nil
 | @cons p q ps qs h t ih=>
  rw [aaR,aaR]
  refine .cons ?_ ih
  obtain ⟨h1,h2⟩:=h
  by_cases e:p.1=k
  ·rw [if_pos e,if_pos (h1.symm.trans e)];exact ⟨h1,ry⟩
  ·rw [if_neg e,if_neg (fun z=>e (h1.trans z))];exact ⟨h1,h2⟩
theorem KV.put {kvs:List (κ×V)}{vs:List (κ×Value)}(r:KV kvs vs)(k:κ){y:V}{u:Value}(ry:RelV y u):KV (putK kvs k y) (stored vs k u):=by
 unfold putK stored
 rw [r.any k]
 by_cases e:(vs.any fun kv=>decide (kv.1=k))=true
 ·rw [if_pos e,if_pos e];exact r.Qv k ry
 ·rw [if_neg e,if_neg e];exact Paired.snoc r ⟨rfl,ry⟩
theorem KV.drop {kvs:List (κ×V)}{vs:List (κ×Value)}(r:KV kvs vs)(k:κ):KV (eE kvs k) (without vs k):=by
 unfold KV at r ⊢
 unfold eE without
 induction r with
 | nil=>exact .nil
 | @cons p q ps qs h t ih=>
  obtain ⟨h1,h2⟩:=h
  rw [abR,abR]
  by_cases e:p.1=k
  ·have a:¬ decide (p.1≠k)=true:=by simp [e]
   have b:¬ decide (q.1≠k)=true:=by simp [h1.symm.trans e]
   rw [if_neg a,if_neg b];exact ih
  ·have e' :¬ q.1=k:=fun z=>e (h1.trans z)
   have a:decide (p.1≠k)=true:=by simp [e]
   have b:decide (q.1≠k)=true:=by simp [e']
   rw [if_pos a,if_pos b];exact .cons ⟨h1,h2⟩ ih
theorem KV.length {kvs:List (κ×V)}{vs:List (κ×Value)}(r:KV kvs vs):kvs.length=vs.length:=Paired.length r
theorem HV (kvs:List (κ×V))(k:κ):(eE kvs k).length<=kvs.length:=abz _ _
end
theorem jX {P:Program}{w:World}{k:Key}{u:Value}(r:RelV (kV k) u):(bC P w).is k u=true:=by
 cases k with
 | inl i=>obtain ⟨t,e⟩:=(show ∃t,u=Value.int i t from r);subst e;exact uD P w i t
 | inr x=>obtain ⟨t,e⟩:=(show ∃t,u=Value.str x t from r);subst e;exact uE P w x t
theorem rD {P:Program}{w:World}:∀{ks:List Key} {us:ο},Vals (ks.map kV) us->ItemsAre (bC P w) ks us
 | [],_,r=>by rw [ad_] at r;cases r;exact .nil
 | k::ks,_,r=>by
  rw [aaR] at r
  cases r with
  | cons h t=>exact .cons (jX h) (rD t)
abbrev KT (H:Hp):List (List Key×V)->List (List Key×Addr×Value)->Prop:=Paired fun p q=>p.1=q.1/\H q.2.1=some (.tup (p.1.map kV))/\RelV p.2 q.2.2
theorem KT.val {H:Hp}{kvs:ψ}{xs:Ο}(r:KT H kvs xs)(k:List Key):gT (dJ kvs k) ((atKey xs k).map (·.2)):=by
 induction r with
 | nil=>exact True.intro
 | @cons p q ps qs h t ih=>
  obtain ⟨h1,_,h2⟩:=h
  by_cases e:p.1=k
  ·have e' :q.1=k:=h1.symm.trans e
   have b:atKey (q::qs) k=some q.2:=by simp [atKey,acC,e']
   rw [eG e,b];exact h2
  ·have e' :¬ q.1=k:=fun z=>e (h1.trans z)
   have b:atKey (q::qs) k=atKey qs k:=by simp [atKey,acC,e']
   rw [cF e,b];exact ih
theorem KT.Qv {H:Hp}{kvs:ψ}{xs:Ο}(r:KT H kvs xs)(k:List Key){y:V}{u:Value}(ry:RelV y u):
  KT H (kvs.map fun kv=>if kv.1=k then (kv.1,y) else kv) (xs.map (putAt k u)):=by
 induction r with
 | nil=>exact .nil
 | @cons p q ps qs h t ih=>
  rw [aaR,aaR]
  refine .cons ?_ ih
  obtain ⟨h1,h2,h3⟩:=h
  unfold putAt
  by_cases e:p.1=k
  ·rw [if_pos e,if_pos (h1.symm.trans e)];exact ⟨h1,h2,ry⟩
  ·rw [if_neg e,if_neg (fun z=>e (h1.trans z))];exact ⟨h1,h2,h3⟩
theorem KT.put {H:Hp}{kvs:ψ}{xs:Ο}(r:KT H kvs xs)(k:List Key){b:Addr}{y:V}{u:Value}(hb:H b=some (.tup (k.map kV)))(ry:RelV y u):
  KT H (putK kvs k y) (storedH xs k b u):=by
 have e:(kvs.any fun kv=>decide (kv.1=k))=(atKey xs k).isSome:=by
  rw [jW,(r.val k).gG,ahU]
 unfold putK storedH
 rw [e]
 by_cases q:(atKey xs k).isSome=true
 ·rw [if_pos q,if_pos q];exact r.Qv k ry
 ·rw [if_neg q,if_neg q];exact Paired.snoc r ⟨rfl,hb,ry⟩
theorem KT.keeps {H H' :Hp}{kvs:ψ}{xs:Ο}(r:KT H kvs xs)(ht:∀b ys,H b=some (.tup ys)->H' b=some (.tup ys)):KT H' kvs xs:=
 Paired.bP r fun _ _ z=>⟨z.1,ht _ _ z.2.1,z.2.2⟩
section
variable {P:Program}{w:World}{H:Hp}{h:Heap}{a:Addr}
theorem Oc {u:HO}(ok:ji P w H h)(e:Rd H a u):cy P w H h a u:=e.ok ok
theorem jn {kvs:δ}(ok:ji P w H h)(e:Rd H a (.dK kvs)):kvs.length<=sizeLine/\(a==sysModules)=false/\∃vs,KV kvs vs/\h.DictOf (bC P w) a vs:=
 show cy P w H h a (.dK kvs) from Oc ok e
theorem rE {kvs:δ}(ok:ji P w H h)(e:H a=some (.dK kvs)):kvs.length<=sizeLine/\(a==sysModules)=false/\∃vs,KV kvs vs/\h.DictOf (bC P w) a vs:=jn ok (.inl e)
theorem kO {ks:List Key}(ok:ji P w H h)(e:H a=some (.tup (ks.map kV))):(tupleKind (bC P w)).is h ks a:=by
 obtain ⟨_,its,r,o,h1,h2,n,h3⟩:=(show cy P w H h a (.tup (ks.map kV)) from ok a _ e)
 exact ⟨o,its.toArray,n,h1,h2,h3,by simpa using rD r⟩
theorem l_ {kvs:ψ}(ok:ji P w H h)(e:Rd H a (.dT kvs)):kvs.length<=sizeLine/\(a==sysModules)=false/\
  ∃xs,KT H kvs xs/\h.DictOfH (tupleKind (bC P w)) a xs:=by
 obtain ⟨z,y,xs,r,o,es,ep,h1,h2,h3,h4,h5⟩:=(show cy P w H h a (.dT kvs) from Oc ok e)
 refine ⟨z,y,xs,r,o,es,ep,h1,h2,h3,h4,fun x hx=>?_,h5⟩
 have all:∀{l:ψ} {m:Ο},KT H l m->∀x∈m,(tupleKind (bC P w)).is h x.1 x.2.1:=by
  intro l m q
  induction q with
  | nil=>intro x hx;exact nomatch hx
  | @cons p q ps qs hq t ih=>
   intro x hx
   rcases aa8.mp hx with e | hx
   ·subst e
    exact kO ok (by rw [<- hq.1];exact hq.2.1)
   ·exact ih x hx
 exact all r x hx
theorem T_ {kvs:ψ}(ok:ji P w H h)(e:H a=some (.dT kvs)):kvs.length<=sizeLine/\(a==sysModules)=false/\
  ∃xs,KT H kvs xs/\h.DictOfH (tupleKind (bC P w)) a xs:=l_ ok (.inl e)
end
def gf (H:Hp)(a:Addr)(y:V)(r:Β):Prop:=
 (∃kvs k,Rd H a (.dK kvs)/\y=kV k/\r=dJ kvs k)\/∃kvs k b,Rd H a (.dT kvs)/\y=.ref b/\H b=some (.tup (k.map kV))/\r=dJ kvs k
def gH (H:Hp)(a:Addr)(y v:V)(H' :Hp):Prop:=
 (∃kvs k,H a=some (.dK kvs)/\y=kV k/\kvs.length < sizeLine/\H' =upd H a (.dK (putK kvs k v)))\/
 ∃kvs k b,H a=some (.dT kvs)/\y=.ref b/\H b=some (.tup (k.map kV))/\kvs.length < sizeLine/\H' =upd H a (.dT (putK kvs k v))
theorem gf.k {H:Hp}{a:Addr}{kvs:δ}{k:Key}(e:H a=some (.dK kvs)):gf H a (kV k) (dJ kvs k):=.inl ⟨kvs,k,.inl e,rfl,rfl⟩
theorem gH.k {H:Hp}{a:Addr}{kvs:δ}{k:Key}{v:V}(e:H a=some (.dK kvs))(hl:kvs.length < sizeLine):gH H a (kV k) v (upd H a (.dK (putK kvs k v))):=.inl ⟨kvs,k,e,rfl,hl,rfl⟩
theorem gH.t {H:Hp}{a b:Addr}{kvs:ψ}{k:List Key}{v:V}(e:H a=some (.dT kvs))(eb:H b=some (.tup (k.map kV)))(hl:kvs.length < sizeLine):
  gH H a (.ref b) v (upd H a (.dT (putK kvs k v))):=.inr ⟨kvs,k,b,e,rfl,eb,hl,rfl⟩
section
variable {X:Cx}{pins:ε}{σ:St}{H:Hp}{s:Shared}{a:Addr}{y v:V}{u r:Value}{o:Β}{A:Around}{E:γ}
theorem Inv.big (I:Inv X pins σ H s):sysModules < s.heap.objs.size:=by
 have h:mainGlobals < s.heap.objs.size:=(I.mod.glob.keeps I.bk).lt
 exact ah3 (by decide) h
theorem BQ {Q:γ}(hu:A.units+1 < cLine)(I:Inv X pins σ H s)(g:gf H a y (some v))(ry:RelV y u)(h:∀w' s',Inv X pins σ H s' ->RelV v w' ->Q w' s'):
  wpAny (model X.prog X.w) A (getItem (.ref a) u) Q E s:=by
 rcases g with ⟨kvs,k,e,ey,l⟩ | ⟨kvs,k,b,e,ey,eb,l⟩
 ·subst ey
  obtain ⟨z,hd,vs,rel,dd⟩:=jn I.bL e
  obtain ⟨w',hw,mX⟩:=gT.some_of (v:=v) (o:=valueAt vs k) (by rw [l];exact rel.val k)
  exact wpAny_getItem_of (jX ry) dd.mapOf hw (h w' _ (I.tok _) mX)
 ·subst ey
  cases (show u=Value.ref b from ry)
  obtain ⟨z,hd,xs,rel,dd⟩:=l_ I.bL e
  obtain ⟨w',hw,mX⟩:=gT.some_of (v:=v) (o:=(atKey xs k).map (·.2)) (by rw [l];exact rel.val k)
  obtain ⟨p,hp,T'⟩:=aaM.mp hw
  refine wpAny_getItem_heap (tupleKind_room_in1 hu) (kO I.bL eb) dd hp ?_
  rw [T']
  exact h w' _ (I.tok _) mX
theorem aaO {Q:γ}(hu:A.units+1 < cLine)(I:Inv X pins σ H s)(g:gf H a y o)(ry:RelV y u)(h:∀s',Inv X pins σ H s' ->Q (.bool o.isSome) s'):
  wpAny (model X.prog X.w) A (compareOp .In u (.ref a)) Q E s:=by
 rcases g with ⟨kvs,k,e,ey,l⟩ | ⟨kvs,k,b,e,ey,eb,l⟩
 ·subst ey
  obtain ⟨z,hd,vs,rel,dd⟩:=jn I.bL e
  refine wpAny_in_of (jX ry) hd dd.mapOf ?_
  rw [<- (rel.val k).gG, <- l]
  exact h _ (I.tok _)
 ·subst ey
  cases (show u=Value.ref b from ry)
  obtain ⟨z,hd,xs,rel,dd⟩:=l_ I.bL e
  refine wpAny_in_heap (tupleKind_room_in1 hu) (kO I.bL eb) hd dd ?_
  have q:=(rel.val k).gG
  rw [ahU] at q
  rw [<- q, <- l]
  exact h _ (I.tok _)
theorem LB {Q:γ}(hu:A.units+1 < cLine)(I:Inv X pins σ H s)(g:gf H a y o)(ry:RelV y u)(h:∀s',Inv X pins σ H s' ->Q (.bool (!o.isSome)) s'):
  wpAny (model X.prog X.w) A (compareOp .NotIn u (.ref a)) Q E s:=by
 rcases g with ⟨kvs,k,e,ey,l⟩ | ⟨kvs,k,b,e,ey,eb,l⟩
 ·subst ey
  obtain ⟨z,hd,vs,rel,dd⟩:=jn I.bL e
  refine wpAny_notIn_of (jX ry) hd dd.mapOf ?_
  rw [<- (rel.val k).gG, <- l]
  exact h _ (I.tok _)
 ·subst ey
  cases (show u=Value.ref b from ry)
  obtain ⟨z,hd,xs,rel,dd⟩:=l_ I.bL e
  refine wpAny_notIn_heap (tupleKind_room_in1 hu) (kO I.bL eb) hd dd ?_
  have q:=(rel.val k).gG
  rw [ahU] at q
  rw [<- q, <- l]
  exact h _ (I.tok _)
theorem jY {h' :Heap}{t' :Nat}{ob:HO}(I:Inv X pins σ H s)(mu:S8 (H a))(hs:Heap.SameBut a s.heap h')(he:∃q,h'.get? a=some q)(new:cy X.prog X.w (upd H a ob) h' a ob):
  Inv X pins σ (upd H a ob) {s with heap:=h',toks:=t' }:=
 I.write (x:=a) (e:=a) mu (.inl rfl) (fun b q hb z=>(hs.2 b hb).trans z) he new
theorem sM {P:Program}{w:World}{H' :Hp}{h' :Heap}{kvs:δ}{vs:List (Key×Value)}(z:kvs.length<=sizeLine)(hd:(a==sysModules)=false)(rel:KV kvs vs)(dd:h'.DictOf (bC P w) a vs):
  cy P w H' h' a (.dK kvs):=⟨z,hd,vs,rel,dd⟩
theorem BR {H' :Hp}{Q:Unit->Shared->Prop}(hu:A.units+1 < cLine)(I:Inv X pins σ H s)(g:gH H a y v H')(ry:RelV y u)(rv:RelV v r)(h:∀s',Inv X pins σ H' s' ->Q () s'):
  wpAny (model X.prog X.w) A (setItem (.ref a) u r) Q E s:=by
 rcases g with ⟨kvs,k,e,ey,l,eH⟩ | ⟨kvs,k,b,e,ey,eb,l,eH⟩
 ·subst ey eH
  obtain ⟨z,hd,vs,rel,dd⟩:=rE I.bL e
  have hz:vs.length<=sizeLine:=by rw [<- rel.length];exact z
  have hl:(putK kvs k v).length<=sizeLine:=by have:=fw kvs k v;omega
  refine wpAny_setItem_pairs (hsz:=hz) (jX ry) dd fun h' KD hs=>h _ ?_
  have he:∃q,h'.get? a=some q:=let ⟨q,_,_,hq,_⟩:=KD;⟨q,hq⟩
  exact jY I (by rw [e];exact True.intro) hs he (sM hl hd (rel.put k rv) KD)
 ·subst ey eH
  cases (show u=Value.ref b from ry)
  obtain ⟨z,hd,xs,rel,dd⟩:=T_ I.bL e
  have hz:xs.length<=sizeLine:=by rw [<- Paired.length rel];exact z
  have hl:(putK kvs k v).length<=sizeLine:=by have:=fw kvs k v;omega
  refine wpAny_setItem_heap (hsz:=hz) (tupleKind_room_in1 hu) (kO I.bL eb) dd fun h' KD hs=>h _ ?_
  obtain ⟨q,es,ep,hq,h2,h3,h4,_,h5⟩:=KD
  refine jY I (by rw [e];exact True.intro) hs ⟨q,hq⟩ ⟨hl,hd,_,(rel.put k eb rv).keeps fun c ys ec=>?_,q,es,ep,hq,h2,h3,h4,h5⟩
  rw [aq (S7 ec e (fun z=>nomatch z))]
  exact ec
end
section
variable {X:Cx}{pins:ε}{σ:St}{H:Hp}{s:Shared}{a:Addr}{kvs:δ}{k:Key}{u:Value}{A:Around}{E:γ}
theorem Ua {v:V}{more:ο}{Q:γ}(I:Inv X pins σ H s)(e:H a=some (.dK kvs))(ry:RelV (kV k) u)(l:dJ kvs k=some v)(hm:more=[]\/∃x,more=[x])
  (h:∀w' s',Inv X pins σ (upd H a (.dK (eE kvs k))) s' ->RelV v w' ->Q w' s'):wpAny (model X.prog X.w) A (call (.builtin "dict.pop") (.ref a::u::more)) Q E s:=by
 obtain ⟨z,hd,vs,rel,dd⟩:=rE I.bL e
 obtain ⟨w',hw,mX⟩:=gT.some_of (v:=v) (o:=valueAt vs k) (by rw [<- l];exact rel.val k)
 have hp:(keyPart u).isSome=true:=by
  cases k with
  | inl i=>obtain ⟨t,q⟩:=(show ∃t,u=Value.int i t from ry);subst q;rfl
  | inr x=>obtain ⟨t,q⟩:=(show ∃t,u=Value.str x t from ry);subst q;rfl
 have ha:argsOk "dict.pop" ⟨.ref a::u::more,[]⟩:=by
  rcases hm with q | ⟨x,q⟩
  ·subst q;exact PySem.F.args_dict_pop_2 _ _
  ·subst q;exact PySem.F.args_dict_pop_3 _ _ _
 refine call_meetsIn PySem.F.slot_dict_pop dd.typeIs PySem.F.entry_dict_pop ha (meets_dict_pop_there (bC X.prog X.w) a (jX ry) more hm hp)
  ⟨vs,w',dd,by rw [<- rel.length];exact z,hw,fun h' KD hs=>h w' _ ?_ mX⟩
 have he:∃q,h'.get? a=some q:=let ⟨q,_,_,hq,_⟩:=KD;⟨q,hq⟩
 exact jY I (by rw [e];exact True.intro) hs he (sM (aam (HV kvs k) z) hd (rel.drop k) KD)
theorem Ub {Q:γ}(I:Inv X pins σ H s)(e:Rd H a (.dK kvs))(h:∀t s',Inv X pins σ H s' ->Q (.int kvs.length t) s'):wpAny (model X.prog X.w) A (call (.builtin "len") [.ref a]) Q E s:=by
 obtain ⟨z,hd,vs,rel,dd⟩:=jn I.bL e
 refine call_len_dict hd dd (by rw [<- rel.length];rw [sizeLine_eq] at z;omega) ?_
 rw [<- rel.length]
 exact h _ _ (I.tok _)
end
def Uc (i:Expr):Prop:=∀ov iv,subscripted i false ov iv=operate [ov,iv] (getItem ov iv)
theorem LC {prog:Program}{w:World}{A:Around}{E:γ}{s:Shared}{env:Env}{value slice:Expr}{pos:Pos}{T id:String}{Q:γ}
  (hl:typeLookup (.type T) "__getitem__"=pure (some (.builtin id))) (hs:Uc slice)
  (h:wpAny (model prog w) A (eval value env) (fun o s₁=>wpAny (model prog w) A (eval slice env) (fun i s₂=>s₂.TypeIs o T/\wpAny (model prog w) A (getItem o i) Q E s₂) E s₁) E s):
  wpAny (model prog w) A (eval (.Subscript value slice pos) env) Q E s:=by
 refine Subscript_ (wpAny_mono h (fun o s₁ h₁=>wpAny_mono h₁ (fun i s₂ h₂=>?_) fun _ _ x=>x) fun _ _ x=>x)
 obtain ⟨hT,h₂⟩:=h₂
 unfold subscriptTail
 refine wpAny_bind ?_
 rw [getitemInPython_of_ne hT.not_modules]
 refine wpAny_bind (wpAny_specialOf hT hl ?_)
 have fin:wpAny (model prog w) A (subscripted slice false o i) (fun r s₃=>wpAny (model prog w) A (letTemporaryGo value o r >>=fun _=>pure r) Q E s₃) E s₂:=by
  rw [hs o i]
  exact wpAny_operating (wpAny_mono h₂ (fun r s₃ h₃=>wpAny_bind (wpAny_letTemporaryGo (wpAny_pure h₃))) fun _ _ x=>x)
 first
  | exact wpAny_pure (wpAny_bind fin)
  | exact wpAny_bind (wpAny_pure (wpAny_bind fin))
  | exact wpAny_bind fin
theorem vf {X:Cx}{pins:ε}{σ:St}{H:Hp}{s:Shared}{a:Addr}{y:V}{o:Β}(I:Inv X pins σ H s)(g:gf H a y o):s.TypeIs (.ref a) "dict":=by
 rcases g with ⟨kvs,k,e,_,_⟩ | ⟨kvs,k,b,e,_,_,_⟩
 ·obtain ⟨_,_,vs,_,dd⟩:=jn I.bL e
  exact dd.typeIs
 ·obtain ⟨_,_,xs,_,dd⟩:=l_ I.bL e
  exact dd.typeIs
inductive HW (Q:VK)(x:V)(y:V)(H2:Hp):Prop where
 | mk (a v:_) (_:x=.ref a) (_:gf H2 a y (some v)) (_:Q v H2):HW Q x y H2
def Ud (td ty:TE):TE:=fun σ H Q=>td σ H fun x H1=>ty σ H1 fun y H2=>HW Q x y H2
inductive Od (Q:VK)(y:V)(x:V)(H2:Hp):Prop where
 | mk (a o:_) (_:x=.ref a) (_:gf H2 a y o) (_:Q (.bl o.isSome) H2):Od Q y x H2
def aaP (ty td:TE):TE:=fun σ H Q=>ty σ H fun y H1=>td σ H1 fun x H2=>Od Q y x H2
inductive vg (Q:VK)(y:V)(x:V)(H2:Hp):Prop where
 | mk (a o:_) (_:x=.ref a) (_:gf H2 a y o) (_:Q (.bl (!o.isSome)) H2):vg Q y x H2
def LD (ty td:TE):TE:=fun σ H Q=>ty σ H fun y H1=>td σ H1 fun x H2=>vg Q y x H2
inductive HX (D:Ends)(σ:L2.St)(v:V)(x:V)(y:V)(H3:Hp):Prop where
 | mk (a H4:_) (_:x=.ref a) (_:gH H3 a y v H4) (_:D.nx σ H4):HX D σ v x y H3
def Ue (td ty tv:TE):TS:=fun D σ H=>tv σ H fun v H1=>td σ H1 fun x H2=>ty σ H2 fun y H3=>HX D σ v x y H3
section
variable {X:Cx}{o i e value:Expr}{pos pos' r_:Pos}{td ty tv:TE}
theorem nh (hu:X.A.units+1 < cLine)(ho:PE X o td)(hi:PE X i ty)(hs:Uc i):PE X (.Subscript o i pos) (Ud td ty):=by
 intro pins s σ H Q I h
 refine LC PySem.F.slot_dict_getitem.lookup hs (bX (ho pins s σ H _ I h) fun u s1 ⟨x,H1,I1,rx,q1⟩=>bX (hi pins s1 σ H1 _ I1 q1) fun iv s2 ⟨y,H2,I2,ry,a,v,ex,g,q2⟩=>?_)
 subst ex
 obtain rfl:u=Value.ref a:=rx
 exact ⟨vf I2 g,BQ hu I2 g ry fun w' s3 I3 mX =>⟨v,H2,I3,mX,q2⟩⟩
theorem HY (hu:X.A.units+1 < cLine)(hi:PE X i ty)(ho:PE X o td):PC X .In i o (aaP ty td):=by
 intro pins s σ H Q I h
 refine bX (hi pins s σ H _ I h) fun iv s1 ⟨y,H1,I1,ry,q1⟩=>bX (ho pins s1 σ H1 _ I1 q1) fun u s2 ⟨x,H2,I2,rx,a,ov,ex,g,q2⟩=>?_
 subst ex
 obtain rfl:u=Value.ref a:=rx
 exact aaO hu I2 g ry fun s3 I3=>⟨.bl ov.isSome,H2,I3,rfl,q2⟩
theorem iZ (hu:X.A.units+1 < cLine)(hi:PE X i ty)(ho:PE X o td):PC X .NotIn i o (LD ty td):=by
 intro pins s σ H Q I h
 refine bX (hi pins s σ H _ I h) fun iv s1 ⟨y,H1,I1,ry,q1⟩=>bX (ho pins s1 σ H1 _ I1 q1) fun u s2 ⟨x,H2,I2,rx,a,ov,ex,g,q2⟩=>?_
 subst ex
 obtain rfl:u=Value.ref a:=rx
 exact LB hu I2 g ry fun s3 I3=>⟨.bl (!ov.isSome),H2,I3,rfl,q2⟩
theorem dj (hu:X.A.units+1 < cLine)(ho:PE X o td)(hi:PE X i ty)(hv:PE X value tv)(hs:swapsWith value (some (.Subscript o i pos')) pos.line X.env=pure false):
  PS X (.Assign [.Subscript o i pos'] value pos) (Ue td ty tv):=by
 intro pins s σ H D I h
 refine wpAny_Assign_Subscript (bX (hv pins s σ H _ I h) fun r s1 ⟨v,H1,I1,rv,q1⟩=>bX (ho pins s1 σ H1 _ I1 q1) fun u s2 ⟨x,H2,I2,rx,q2⟩=>bX (hi pins s2 σ H2 _ I2 q2) fun iv s3 ⟨y,H3,I3,ry,a,H4,ex,g,q3⟩=>?_) hs
 subst ex
 obtain rfl:u=Value.ref a:=rx
 exact BR hu I3 g ry rv fun s4 I4=>⟨σ,H4,I4,q3⟩
end
theorem vh {P:Program}{w:World}{H:Hp}(h:Heap)(hb:sysModules < h.objs.size):cy P w H (h.push {cls:=.type "dict",data:=.dict #[]}) h.objs.size (.dK []):=
 ⟨abj _,beq_eq_false_iff_ne.mpr (abb (aa' hb)),[],.nil,Heap.DictOf.new h⟩
theorem HZ {P:Program}{w:World}{H:Hp}(h:Heap)(hb:sysModules < h.objs.size):cy P w H (h.push {cls:=.type "dict",data:=.dict #[]}) h.objs.size (.dT []):=
 ⟨abj _,beq_eq_false_iff_ne.mpr (abb (aa' hb)),[],.nil,_, #[],0,Heap.get?_push_size _ rfl,⟨rfl,rfl,rfl⟩,rfl,rfl,aif⟩
def Qw:TE:=fun _ H Q=>∀p,H p=none->Q (.ref p) (upd H p (.dK []))
def Qx:TE:=fun _ H Q=>∀p,H p=none->Q (.ref p) (upd H p (.dT []))
section
variable {X:Cx}{pos:Pos}
theorem dD:PE X (.Dict [] [] pos) Qw:=fun pins s σ H Q I h=>
 wpAny_Dict_empty ⟨.ref s.heap.objs.size,_,I.laid (a:=s.heap.objs.size) (o:=.dK []) (t' :=s.toks) (fun _ _ q=>Heap.get?_push_of_some _ q) (aas _) (vh s.heap I.big),rfl,h _ (I.bL.fresh (aas _))⟩
theorem vi:PE X (.Dict [] [] pos) Qx:=fun pins s σ H Q I h=>
 wpAny_Dict_empty ⟨.ref s.heap.objs.size,_,I.laid (a:=s.heap.objs.size) (o:=.dT []) (t' :=s.toks) (fun _ _ q=>Heap.get?_push_of_some _ q) (aas _) (HZ s.heap I.big),rfl,h _ (I.bL.fresh (aas _))⟩
end
def xB:List (TE×TE)->St->Hp->(List (V×V)->Hp->Prop)->Prop
 | [],_,H,Q=>Q [] H
 | (tk,tv)::r,σ,H,Q=>tk σ H fun x H1=>tv σ H1 fun y H2=>xB r σ H2 fun ps H3=>Q ((x,y)::ps) H3
abbrev VV:List (V×V)->List (Value×Value)->Prop:=Paired fun p q=>RelV p.1 q.1/\RelV p.2 q.2
def Zt (X:Cx)(pos:Pos)(keys:List (Option Expr))(values:χ)(LF:List (TE×TE)):Prop:=
 ∀(pins:ε) (s:Shared) (σ:St) (H:Hp) (Q:List (V×V)->Hp->Prop),Inv X pins σ H s->xB LF σ H Q->
  wpAny (model X.prog X.w) X.A (evalPairs (pairTrees keys values X.env pos)) (fun vs s' =>∃ps H',Inv X pins σ H' s' /\VV ps vs/\Q ps H') X.xe s
theorem zm {X:Cx}{pos:Pos}:Zt X pos [] [] []:=fun pins s σ H Q I h=>pairTrees_nil_walk ⟨[],H,I,.nil,h⟩
theorem ou {X:Cx}{pos:Pos}{k v:Expr}{ks:List (Option Expr)}{vs:χ}{tk tv:TE}{LF:List (TE×TE)}(hk:PE X k tk)(hv:PE X v tv)(hr:Zt X pos ks vs LF):
  Zt X pos (some k::ks) (v::vs) ((tk,tv)::LF):=fun pins s σ H Q I h=>
 pairTrees_cons_walk (bX (hk pins s σ H _ I h) fun u s1 ⟨x,H1,I1,rx,q1⟩=>bX (hv pins s1 σ H1 _ I1 q1) fun w2 s2 ⟨y,H2,I2,ry,q2⟩=>
  bX (hr pins s2 σ H2 _ I2 q2) fun ws s3 ⟨ps,H3,I3,rel,q3⟩=>⟨(x,y)::ps,H3,I3,.cons ⟨rx,ry⟩ rel,q3⟩)
def cL (kvs more:δ):List (Key×V):=more.foldl (fun acc kv=>putK acc kv.1 kv.2) kvs
theorem KV.merge:∀{more:δ} {rs:List (Key×Value)} {kvs:δ} {vs:List (Key×Value)},KV more rs->KV kvs vs->KV (cL kvs more) (merged vs rs):=by
 intro more rs kvs vs r
 unfold KV at r
 induction r generalizing kvs vs with
 | nil=>intro q;exact q
 | @cons p q ps qs h t ih=>
  intro r0
  have e:KV (putK kvs p.1 p.2) (stored vs q.1 q.2):=by
   have:=r0.put p.1 h.2
   rw [<- h.1];exact this
  exact ih e
theorem gB:∀(more kvs:δ),(cL kvs more).length<=kvs.length+more.length
 | [],kvs=>by show kvs.length<=kvs.length+0;omega
 | p::r,kvs=>by
  have h1:=gB r (putK kvs p.1 p.2)
  have h2:=fw kvs p.1 p.2
  show (cL (putK kvs p.1 p.2) r).length<=_
  rw [abf];omega
theorem oy {P:Program}{w:World}:∀{kvs:δ} {ws:List (Value×Value)},VV (kvs.map fun kv=>(kV kv.1,kv.2)) ws->∃rs,Carries (bC P w) ws rs/\KV kvs rs
 | [],_,r=>by rw [ad_] at r;cases r;exact ⟨[],True.intro,.nil⟩
 | p::kvs,_,r=>by
  rw [aaR] at r
  cases r with
  | @cons a b as bs h t=>
   obtain ⟨rs,c,q⟩:=oy (P:=P) (w:=w) t
   obtain ⟨b1,b2⟩:=b
   exact ⟨(p.1,b2)::rs,⟨jX h.1,rfl,c⟩,.cons ⟨rfl,h.2⟩ q⟩
def Ug (LF:List (TE×TE)):TE:=fun σ H Q=>∀p,H p=none->xB LF σ (upd H p (.dK [])) fun ps H2=>H2 p=some (.dK [])/\∃kvs:List (Key×V),ps=kvs.map (fun kv=>(kV kv.1,kv.2))/\kvs.length<=15/\Q (.ref p) (upd H2 p (.dK (cL [] kvs)))
theorem zo {X:Cx}{pos:Pos}{keys:List (Option Expr)}{values:χ}{LF:List (TE×TE)}(h:Zt X pos keys values LF)(G_:keys.all (·.isSome)=true)(hl:keys.length=values.length)(h0:keys≠[])
  (h15:keys.length<=15):PE X (.Dict keys values pos) (Ug LF):=by
 intro pins s σ H Q I q
 have hn:=I.bL.fresh (aas s.heap.objs.size)
 have I1:=I.laid (a:=s.heap.objs.size) (o:=.dK []) (h' :=s.heap.push {cls:=.type "dict",data:=.dict #[]}) (t' :=s.toks) (fun _ _ q=>Heap.get?_push_of_some _ q) (aas _) (vh s.heap I.big)
 refine wpAny_Dict_walk (knd:=bC X.prog X.w) G_ hl h0 h15 (bX (h pins _ σ _ _ I1 (q _ hn)) fun ws s2 ⟨ps,H2,I2,rel,e,kvs,ep,lk,q2⟩=>?_)
 subst ep
 obtain ⟨rs,c,rk⟩:=oy (P:=X.prog) (w:=X.w) rel
 obtain ⟨z,hd,vs0,r0,dd⟩:=rE I2.bL e
 cases r0
 refine ⟨rs,c,dd,fun h' KD hs=>⟨.ref s.heap.objs.size,_,?_,rfl,q2⟩⟩
 have hz:(cL [] kvs).length<=sizeLine:=by
  have h1:=gB kvs []
  rw [ah'] at h1
  rw [sizeLine_eq];omega
 have he:∃q,h'.get? s.heap.objs.size=some q:=let ⟨q,_,_,hq,_⟩:=KD;⟨q,hq⟩
 exact jY I2 (by rw [e];exact True.intro) hs he (sM hz hd (rk.merge .nil) KD)
structure M1 (X:Cx)(o:Expr)(m:Str)(apos:Pos)(e:Expr)(eA:Pos):Prop where
 base:attributeBase o m X.env (eval o X.env)=eval o X.env
 few:((backTo eA (starEach [e] X.env)).all (fun x=> !x.1) && (backToKw eA (keywordEach [] X.env)).all (fun x=>x.1.isSome)
  && decide (([e]:List Expr).length+([]:List Keyword).length+(if ([]:List Keyword).isEmpty then 0 else 1) < 30))=true
 line:(apos.endLine==eA.line)=true
 trees:backTo eA (starEach [e] X.env)=[(false,eval e X.env)]
structure M2 (X:Cx)(o:Expr)(m:Str)(apos:Pos)(e f:Expr)(eA:Pos):Prop where
 base:attributeBase o m X.env (eval o X.env)=eval o X.env
 few:((backTo eA (starEach [e,f] X.env)).all (fun x=> !x.1) && (backToKw eA (keywordEach [] X.env)).all (fun x=>x.1.isSome)
  && decide (([e,f]:List Expr).length+([]:List Keyword).length+(if ([]:List Keyword).isEmpty then 0 else 1) < 30))=true
 line:(apos.endLine==eA.line)=true
 trees:backTo eA (starEach [e,f] X.env)=[(false,eval e X.env),(false,eval f X.env)]
def IsD (H:Hp)(a:Addr):Prop:=(∃kvs,Rd H a (.dK kvs))\/∃kvs,Rd H a (.dT kvs)
theorem H_ {X:Cx}{pins:ε}{σ:St}{H:Hp}{s:Shared}{a:Addr}(I:Inv X pins σ H s)(d:IsD H a):
  s.TypeIs (.ref a) "dict"/\(∀b,Value.ref a=.ref b->∃ob,s.heap.get? b=some ob/\ob.dict=none)/\(a==sysModules)=false:=by
 rcases d with ⟨kvs,e⟩ | ⟨kvs,e⟩
 ·obtain ⟨_,hd,vs,_,dd⟩:=jn I.bL e
  refine ⟨dd.typeIs,fun b q=>?_,hd⟩
  cases q
  obtain ⟨ob,_,_,h1,h2,_⟩:=dd
  exact ⟨ob,h1,h2.2.1⟩
 ·obtain ⟨_,hd,xs,_,dd⟩:=l_ I.bL e
  refine ⟨dd.typeIs,fun b q=>?_,hd⟩
  cases q
  obtain ⟨ob,_,_,h1,h2,_⟩:=dd
  exact ⟨ob,h1,h2.2.1⟩
section
variable {X:Cx}{pins:ε}{σ:St}{H:Hp}{s:Shared}{a:Addr}{y d:V}{u r:Value}{o:Β}{A:Around}{E:γ}
theorem Qy {Q:γ}(hu:A.units+1 < cLine)(I:Inv X pins σ H s)(g:gf H a y o)(ry:RelV y u)(rd:RelV d r)(h:∀w' s',Inv X pins σ H s' ->RelV (o.getD d) w' ->Q w' s'):
  wpAny (model X.prog X.w) A (call (.builtin "dict.get") [.ref a,u,r]) Q E s:=by
 rcases g with ⟨kvs,k,e,ey,l⟩ | ⟨kvs,k,b,e,ey,eb,l⟩
 ·subst ey
  obtain ⟨z,hd,vs,rel,dd⟩:=jn I.bL e
  refine call_meetsIn PySem.F.slot_dict_get dd.typeIs PySem.F.entry_dict_get (PySem.F.args_dict_get_3 _ _ _) (meets_dict_get_default (bC X.prog X.w) a (jX ry) hd r) ⟨_,dd.mapOf,h _ _ (I.tok _) ?_⟩
  rw [l]
  exact (rel.val k).getD rd
 ·subst ey
  cases (show u=Value.ref b from ry)
  obtain ⟨z,hd,xs,rel,dd⟩:=l_ I.bL e
  refine call_meetsIn PySem.F.slot_dict_get dd.typeIs PySem.F.entry_dict_get (PySem.F.args_dict_get_3 _ _ _) (meetsH_dict_get_default (tupleKind (bC X.prog X.w)) a b hd r) ⟨tupleKind_room_in1 hu,k,xs,kO I.bL eb,dd,h _ _ (I.tok _) ?_⟩
  rw [l]
  exact (rel.val k).getD rd
end
def Qz (td ty tx:TE):TE:=fun σ H Q=>td σ H fun x H1=>∃a,x=.ref a/\IsD H1 a/\ty σ H1 fun y H2=>tx σ H2 fun z H3=>∃o,gf H3 a y o/\Q (o.getD z) H3
def QC (td ty:TE):TE:=fun σ H Q=>td σ H fun x H1=>∃a,x=.ref a/\IsD H1 a/\ty σ H1 fun y H2=>∃kvs k v,H2 a=some (.dK kvs)/\y=kV k/\dJ kvs k=some v/\Q v (upd H2 a (.dK (eE kvs k)))
section
variable {X:Cx}{o e f:Expr}{apos eA:Pos}{td ty tx:TE}
theorem IA (hu:X.A.units+1 < cLine)(ho:PE X o td)(he:PE X e ty)(hf:PE X f tx)(m:M2 X o "get" apos e f eA):PE X (.Call (.Attribute o "get" apos) [e,f] [] eA) (Qz td ty tx):=by
 intro pins s σ H Q I h
 refine wpAny_Call_method m.base m.few m.line PySem.F.plainAttrs_dict PySem.F.slot_dict_get PySem.F.type_dict_get (bX (ho pins s σ H _ I h) fun u s1 ⟨x,H1,I1,rx,a,ex,d,q1⟩=>?_)
 subst ex
 obtain rfl:u=Value.ref a:=rx
 obtain ⟨t1,t2,_⟩:=H_ I1 d
 refine ⟨t1,t2,?_⟩
 rw [m.trees]
 refine Calls.callWith_builtin rfl (Calls.evalArgs_plain (Calls.spliced_cons (bX (he pins s1 σ H1 _ I1 q1) fun iv s2 ⟨y,H2,I2,ry,q2⟩=>
  Calls.spliced_cons (bX (hf pins s2 σ H2 _ I2 q2) fun fv s3 ⟨z,H3,I3,rz,ov,g,q3⟩=>Calls.spliced_nil ?_))))
 exact Qy hu I3 g ry rz fun w' s4 I4 mX =>⟨_,H3,I4,mX,q3⟩
theorem oz (ho:PE X o td)(he:PE X e ty)(m:M1 X o "pop" apos e eA):PE X (.Call (.Attribute o "pop" apos) [e] [] eA) (QC td ty):=by
 intro pins s σ H Q I h
 refine wpAny_Call_method m.base m.few m.line PySem.F.plainAttrs_dict PySem.F.slot_dict_pop PySem.F.type_dict_pop (bX (ho pins s σ H _ I h) fun u s1 ⟨x,H1,I1,rx,a,ex,d,q1⟩=>?_)
 subst ex
 obtain rfl:u=Value.ref a:=rx
 obtain ⟨t1,t2,_⟩:=H_ I1 d
 refine ⟨t1,t2,?_⟩
 rw [m.trees]
 refine Calls.callWith_builtin rfl (Calls.evalArgs_plain (Calls.spliced_cons (bX (he pins s1 σ H1 _ I1 q1) fun iv s2 ⟨y,H2,I2,ry,kvs,k,v,ea,ey,l,q2⟩=>Calls.spliced_nil ?_)))
 subst ey
 exact Ua I2 ea ry l (.inl rfl) fun w' s3 I3 mX =>⟨v,_,I3,mX,q2⟩
end
section
variable {X:Cx}{pins:ε}{σ:St}{H:Hp}{s:Shared}{a:Addr}{kvs:δ}{A:Around}{E:γ}
end
section
variable {X:Cx}{pins:ε}{σ:St}{H:Hp}{s:Shared}{a:Addr}{y:V}{u:Value}{A:Around}{E:γ}
end
end L2
set_option maxHeartbeats 4000000
namespace Ty
open PySem PySem.Spec PyProof.Rows L2
section
variable {X:Cx}
theorem LG {pins:ε}{σ:L2.St}{H:Hp}{s:Shared}(I:Inv X pins σ H s):s.heap.NoSeer:=I.ok.mod.seer.keeps I.bk
theorem cg.py {k:Nat}{A:Around}(r:cg k A)(h:32<=k):A.depth+Builtin.pylongFrames < recursionLimit:=by
 have:=r.dp
 have:Builtin.pylongFrames=100:=rfl
 omega
theorem fX {env:Env}{l:List Env}(ht:X.prog.given.tree=none)(hd:X.A.depth+Builtin.pylongFrames < recursionLimit)(FV:X.stack=env::l)(h1:env.scope.isGenerator=false)(h2:env.scope.isCoroutine=false)(h3:env.builtins=builtinsNs)(h4:env.globals=mainGlobals):
  jk X (binaryOp .FloorDiv) (rI Qj fun i j=>.int (i.fdiv j)):=by
 intro pins s σ H x y v u Q I rx ry h
 obtain ⟨i,j,rfl,rfl,hc,q⟩:=h
 obtain ⟨t,rfl⟩:=rx
 obtain ⟨t',rfl⟩:=ry
 exact floordiv_int hc ⟨.int _,H,I.tok _,⟨_,rfl⟩,q⟩ (.inr (PylongRoom.of I.nolimit hd (SeerAt.of (LG I) ht (by rw [I.ok.frames,FV]) h1 h2 h3 h4)))
end
section
variable {prog:Program}{w:World}{A:Around}{E:γ}{s:Shared}{KK:Type}[DecidableEq KK]{knd:KeyKind prog w KK}
theorem BS {d:Addr}{kvs:List (KK×Value)}{Q:Bool->Shared->Prop}(hm:s.heap.DictOf knd d kvs)(h:Q false s):wpAny (model prog w) A (Builtin.List.listLengthHint (.ref d)) Q E s:=by
 unfold Builtin.List.listLengthHint
 refine wpAny_bind (wpAny_specialOf (name:=Str.ofString "__len__") hm.typeIs F.slot_dict_len.lookup ?_)
 generalize hid:("dict.__len__":String)=id0
 wp_delta
 rw [show splitId id0=some ("dict","__len__") from by subst hid;decide+kernel]
 subst hid
 refine wpAny_bind (wpAny_isInstance (T:="dict") (b:=true) hm.typeIs (by rw [isSubtype_type];kernel_rfl) ?_)
 refine wpAny_ite_split (fun hab=>absurd hab (by decide)) (fun _=>?_)
 refine wpAny_ite_split (fun _=>?_) (fun hab=>absurd (by decide+kernel) hab)
 refine wpAny_bind (wpAny_typeOf (T:="dict") hm.typeIs ?_)
 exact wpAny_pure h
theorem vj {R:Ξ}{d:Addr}{kvs:List (KK×Value)}{ep:Nat}(hh:A.handled=none)(hd:(d==sysModules)=false)(hm:s.heap.DictAt knd d kvs ep)(hlen:kvs.length<=sizeLine)(S:Addr)(res:Value)(c₀:Nat)(hS:s.heap.get? S=some {cls:=.type "list",data:=.seq #[] c₀})
  (hR:∀h' tk iF c',(∀b o,b≠S->s.heap.get? b=some o->h'.get? b=some o)->h'.get? S=some {cls:=.type "list",dict:=none,data:=.seq iF c',slots:= #[]}->
   ItemsOf (fun i v=>∃k x,kvs[i]? =some (k,x)/\knd.is k v=true) iF kvs.length->R (.ok (.ret res)) {s with heap:=h',toks:=tk}):
  wpAny (model prog w) A.in1 (Builtin.List.listExtendWith (.ref S) (.ref d) res)
   (fun fin s' =>match fin with | .done f=>R (.ok f) s' | .again c' =>c'.quiet=true/\codeAny (model prog w) A c' R s') (fun e s' =>R (.error e) s') s:=by
 obtain ⟨od,es,SD,qe,gI,hk0,Zu,hn0⟩:=id hm
 have hT:s.TypeIs (.ref d) "dict":=hm.dictOf.typeIs
 have SE:S≠d:=fun e=>by
  rw [e] at hS
  rw [hS] at SD
  cases SD
  cases gI
 have hdI:d≠s.heap.objs.size:=aa' (Heap.lt_size SD)
 have hSI:S≠s.heap.objs.size:=aa' (Heap.lt_size hS)
 have hSf:S∉[s.heap.objs.size,d]:=fun hm=>by
  rcases aa8.mp hm with z | z
  ·exact hSI z
  ·exact SE (aaT.mp z)
 have W:=(Walks.dictKeys (knd:=knd) (A:=A.in1) hh s.heap.objs.size d hdI kvs ep).toS
 unfold Builtin.List.listExtendWith
 refine wpAny_bind (wpAny_typeOf (T:="dict") hT ?_)
 have h1:Builtin.List.listSameRef (.ref S) (.ref d)=false:=by simp [Builtin.List.listSameRef,SE]
 have h2:(Value.type "dict"==Value.type "list")=false:=by decide
 have h3:(Value.type "dict"==Value.type "tuple")=false:=by decide
 simp only [h1,h2,h3,aim,ahi,if_false]
 refine wpAny_bind (wpAny_pyIter_dict hd hm ?_)
 have LH:(s.heap.push {cls:=.type "dict_keyiterator",data:=.fields #[.ref d,.int 0 0,.int kvs.length 0,.int ep 0]}).DictAt knd d kvs ep:=hm.at' fun o e=>Heap.get?_push_of_some _ e
 refine wpAny_bind (wpAny_holding (BS (knd:=knd) LH.dictOf ?_))
 have Uh:=Heap.get?_push_of_some {cls:=.type "dict_keyiterator",data:=.fields #[.ref d,.int 0 0,.int kvs.length 0,.int ep 0]} hS
 have it₁:(s.heap.push {cls:=.type "dict_keyiterator",data:=.fields #[.ref d,.int 0 0,.int kvs.length 0,.int ep 0]}).IsKeyIter s.heap.objs.size d 0 kvs.length ep:=⟨_,Heap.get?_push_size _ rfl,rfl,rfl⟩
 have key:∀(h:Heap) (c₁ tk:Nat),h.IsKeyIter s.heap.objs.size d 0 kvs.length ep->h.DictAt knd d kvs ep->(∀b o,b≠S->s.heap.get? b=some o->h.get? b=some o)->
   h.get? S=some {cls:=.type "list",data:=.seq #[] c₁}->codeAny (model prog w) A (.builtin "list.extend.loop" ⟨[.ref S,.ref s.heap.objs.size,res],[]⟩) R {s with heap:=h,toks:=tk}:=by
  intro h c₁ tk hit hdm hk Uh
  refine codeAny_extend_loopS W hlen S hSf res kvs.length 0 _ #[] c₁ rfl (abj _) ⟨hit,hdm⟩ Uh (ItemsOf.nil _) fun s' iF c' hm' QD vk=>?_
  rw [Moved.eq_with hm']
  refine hR s'.heap s'.toks iF c' (fun b o hb e=>hm'.heap b o (fun BU=>?_) (hk b o hb e)) QD vk
  rcases aa8.mp BU with e' | BU
  ·exact hb e'
  ·exact absurd (Heap.lt_size e) (by rw [aaT.mp BU];exact ach _)
 refine wpAny_ite_split (fun _=>?_) (fun _=>wpAny_pure ⟨plainId_quiet F.plain_extend_loop _,key _ c₀ _ it₁ LH (fun b o _ e=>Heap.get?_push_of_some _ e) Uh⟩)
 refine wpAny_bind (wpAny_rule ?_)
 refine wpAny_bind ?_
 show wpAny _ _ (updateSeq S (·.push .none) >>=fun _=>updateSeq S (·.pop)) _ _ _
 refine wpAny_bind (wpAny_updateSeq Uh rfl ?_)
 have Zv:=Heap.get?_update_self (Obj.mapSeq (·.push Value.none)) Uh rfl
 refine wpAny_updateSeq (hz:=by seq_fits) Zv rfl ?_
 have hS₃:=Heap.get?_update_self (Obj.mapSeq (·.pop)) Zv rfl
 refine wpAny_pure ⟨plainId_quiet F.plain_extend_loop _,key _ _ _ (it₁.at fun o e=>?_) (LH.at' fun o e=>?_) (fun b o hb e=>?_) hS₃⟩
 ·exact (Heap.get?_update_other _ _ hSI).trans ((Heap.get?_update_other _ _ hSI).trans e)
 ·exact (Heap.get?_update_other _ _ SE).trans ((Heap.get?_update_other _ _ SE).trans e)
 ·exact (Heap.get?_update_other _ _ (abb hb)).trans ((Heap.get?_update_other _ _ (abb hb)).trans (Heap.get?_push_of_some _ e))
theorem oA {R:Ξ}{d:Addr}{kvs:List (KK×Value)}{ep:Nat}(hh:A.handled=none)(hd:(d==sysModules)=false)(hm:s.heap.DictAt knd d kvs ep)(hlen:kvs.length<=sizeLine)(S:Addr)(hS:s.heap.get? S=some {cls:=.type "list",data:=.seq #[]})
  (hR:∀h' tk iF c',(∀b o,b≠S->s.heap.get? b=some o->h'.get? b=some o)->h'.get? S=some {cls:=.type "list",dict:=none,data:=.seq iF c',slots:= #[]}->
   ItemsOf (fun i v=>∃k x,kvs[i]? =some (k,x)/\knd.is k v=true) iF kvs.length->R (.ok (.ret .none)) {s with heap:=h',toks:=tk}):
  wpAny (model prog w) A.in1 (Builtin.«list.__init__» ⟨[.ref S,.ref d],[]⟩)
   (fun fin s' =>match fin with | .done f=>R (.ok f) s' | .again c' =>c'.quiet=true/\codeAny (model prog w) A c' R s') (fun e s' =>R (.error e) s') s:=by
 obtain ⟨od,es,SD,qe,gI,hk0,Zu,hn0⟩:=id hm
 have SE:S≠d:=fun e=>by
  rw [e] at hS
  rw [hS] at SD
  cases SD
  cases gI
 show wpAny _ _ (do let old <- Builtin.List.listItems (.ref S);Builtin.List.listUpdate (.ref S) (fun _=> #[]);letGo old.toList.reverse;Builtin.List.listExtendWith (.ref S) (.ref d) .none) _ _ s
 refine wpAny_bind ?_
 unfold Builtin.List.listItems
 refine wpAny_bind (wpAny_seqItems hS rfl (wpAny_pure ?_))
 show wpAny _ _ (updateSeq S (fun _=> #[]) >>=fun _=>letGo (#[]:Array Value).toList.reverse >>=fun _=>Builtin.List.listExtendWith (.ref S) (.ref d) .none) _ _ s
 refine wpAny_bind (wpAny_updateSeq hS rfl ?_)
 have Zv:=Heap.get?_update_self (Obj.mapSeq (fun _=>(#[]:Array Value))) hS rfl
 have oth:∀b o,b≠S->s.heap.get? b=some o->(s.heap.update S (Obj.mapSeq (fun _=>(#[]:Array Value)))).get? b=some o:=
  fun b o hb e=>(Heap.get?_update_other _ _ (abb hb)).trans e
 refine wpAny_bind (wpAny_letGo ?_)
 refine vj hh hd (hm.at' fun o e=>oth d o (abb SE) e) hlen S .none _ Zv fun h' tk iF c' hk QD vk=>?_
 exact hR h' tk iF c' (fun b o hb e=>hk b o hb (oth b o hb e)) QD vk
theorem oC {Q:γ}{d:Addr}{kvs:List (KK×Value)}{ep:Nat}(hh:A.handled=none)(hd:(d==sysModules)=false)(hm:s.heap.DictAt knd d kvs ep)(hlen:kvs.length<=sizeLine)
  (hQ:∀h' tk iF c',(∀b o,s.heap.get? b=some o->h'.get? b=some o)->
   h'.get? s.heap.objs.size=some {cls:=.type "list",dict:=none,data:=.seq iF c',slots:= #[]}->ItemsOf (fun i v=>∃k x,kvs[i]? =some (k,x)/\knd.is k v=true) iF kvs.length->Q (.ref s.heap.objs.size) {s with heap:=h',toks:=tk}):
  wpAny (model prog w) A (call (.type "list") [.ref d]) Q E s:=by
 refine callType_codes (Q₁:=fun obj s₁=>obj=.ref s.heap.objs.size/\s₁={s with heap:=s.heap.push {cls:=.type "list",data:=.seq #[]}}) F.called_list (F.typeCall_list_1 _) F.entry_list_init
  (code_list_new _ ⟨rfl,rfl⟩) fun obj s₁ h₁=>?_
 obtain ⟨rfl,rfl⟩:=h₁
 have hS:(s.heap.push {cls:=.type "list",data:=.seq #[]}).get? s.heap.objs.size=some {cls:=.type "list",data:=.seq #[]}:=Heap.get?_push_size _ rfl
 refine ⟨⟨_,hS,rfl⟩,F.args_list_init_2 _ _,oA (A:=A.in1) hh hd (hm.at' fun o e=>Heap.get?_push_of_some _ e) hlen _ hS fun h' tk iF c' hk QD vk=>?_⟩
 exact ⟨rfl,hQ h' tk iF c' (fun b o e=>hk b o (aa' (Heap.lt_size e)) (Heap.get?_push_of_some _ e)) QD vk⟩
end
theorem aY {α β:Type}{F:α->β->Prop}:∀{l₁:List α} {l₂:List β} {i:Nat} {a:α},Paired F l₁ l₂->l₁[i]? =some a->∃b,l₂[i]? =some b/\F a b
 | _,_,_,_,.nil,h=>by simp at h
 | _,_,0,_,.cons r _,h=>by
  cases h
  exact ⟨_,rfl,r⟩
 | _,_,i+1,_,.cons _ t,h=>by
  obtain ⟨b,e,f⟩:=aY (i:=i) t (by simpa using h)
  exact ⟨b,by simpa using e,f⟩
theorem fQ {α β:Type}{F:α->β->Prop}:∀{l₁:List α} {l₂:List β},l₁.length=l₂.length->(∀(i:Nat) (a:α) (b:β),l₁[i]? =some a->l₂[i]? =some b->F a b)->Paired F l₁ l₂
 | [],[],_,_=>.nil
 | a::l₁,b::l₂,h,f=>.cons (f 0 a b rfl rfl) (fQ (by simpa using h) fun i a b e1 e2=>f (i+1) a b (by simpa using e1) (by simpa using e2))
 | [],_::_,h,_=>by simp at h
 | _::_,[],h,_=>by simp at h
theorem zp {P:Program}{w:World}{k:Key}{u:Value}(h:(bC P w).is k u=true):RelV (kV k) u:=by
 rcases bU h with ⟨i,t,rfl,rfl⟩ | ⟨x,t,rfl,rfl⟩
 ·exact ⟨t,rfl⟩
 ·exact ⟨t,rfl⟩
section
variable {X:Cx}
inductive IC (xs:η)(H:Hp)(Q:VK):Prop where
 | mk (p:Addr) (kvs:δ) (_:xs=[.ref p]) (_:Rd H p (.dK kvs)) (_:∀l,H l=none->Q (.ref l) (upd H l (.lst (kvs.map fun kv=>kV kv.1)))):IC xs H Q
theorem jA (hc:X.calm=true):ft X (.type "list") IC:=by
 intro pins s σ H xs us Q I r h
 obtain ⟨p,kvs,rfl,hq,q⟩:=h
 obtain ⟨u,rfl,r1⟩:=vals1 r
 cases r1
 obtain ⟨z,hd,vs,rel,o,es,ep,ho,hx,gI,hk,hp,hn⟩:=jn I.bL hq
 have hl:=rel.length
 refine oC (knd:=bC X.prog X.w) (I.ok.hd hc) hd ⟨o,es,ho,hx,gI,hk,hp,hn⟩ (by omega) fun h' tk iF c' kk hS vk=>?_
 have hn' :=I.bL.fresh (aas s.heap.objs.size)
 have rv:Vals (kvs.map fun kv=>kV kv.1) iF.toList:=fQ (by have:=vk.1;simp;omega) fun i a b e1 e2=>by
  rw [Wp] at e1
  obtain ⟨kv,ek,rfl⟩:=aaM.mp e1
  obtain ⟨q',eq,e3,_⟩:=aY rel ek
  obtain ⟨k,x,e4,e5⟩:=vk.2 i b (by simpa using e2)
  rw [eq] at e4
  cases e4
  rw [e3]
  exact zp e5
 have I2:Inv X pins σ (upd H s.heap.objs.size (.lst (kvs.map fun kv=>kV kv.1))) {s with heap:=h',toks:=tk}:=I.laid (t' :=tk) kk (aas _) ⟨by rw [ir];exact z,iF.toList,c',rv,by simpa using hS⟩
 exact ⟨.ref _,_,I2,rfl,q _ hn'⟩
theorem Inv.freeze {pins:ε}{σ:L2.St}{H:Hp}{s:Shared}{d:Addr}{kvs:δ}{o:Obj}(I:Inv X pins σ H s)(e:H d=some (.dK kvs))(ho:s.heap.get? d=some o):Inv X pins σ (upd H d (.fj o (.dK kvs))) s:=by
 have nx:∀b u,H b=some u->b≠d->upd H d (.fj o (.dK kvs)) b=some u:=fun b u q n=>by rw [aq n];exact q
 refine I.step (g' :=s.gens) (t' :=s.toks) (d' :=s.drawn) (ch:=[]) (fun _ z=>nomatch z) (fun b o _ _ _ e _=>e) (fun b o _ _ _ e _=>⟨o.slots,e⟩) (fun b o _ _ n=>by rw [aq (fun z=>by rw [z,e] at n;cases n)];exact n) (fun b o _ e=>⟨o,e⟩)
  (fun b xs q=>nx b _ q fun z=>by rw [z,e] at q;cases q) (fun b o' u q=>nx b _ q fun z=>by rw [z,e] at q;cases q) (fun b ps q=>⟨#[],by rw [nx b _ q fun z=>by rw [z,e] at q;cases q];simp⟩) (fun m hm=>hm) (fun b u q=>?_) I.bare
 by_cases hb:b=d
 ·subst hb
  rw [aj] at q
  cases q
  exact ⟨ho,I.bL b _ e⟩
 ·rw [aq hb] at q
  exact (I.bL b u q).rX (fun _ _ _ k=>k) (fun c k=>nx c _ k fun z=>by rw [z,e] at k;cases k) fun c xs k=>nx c _ k fun z=>by rw [z,e] at k;cases k
def SF (d:Addr)(o:Obj)(kvs:δ):It:=
 ⟨fun i H=>H d=some (.fj o (.dK kvs))/\i < kvs.length,
  fun i H v H' =>∃p k x,kvs[i]? =some (k,x)/\v=.ref p/\H p=none/\H' =upd H p (.tup [kV k,x]),
  fun i H=>H d=some (.fj o (.dK kvs))/\kvs.length<=i⟩
theorem ID {P:Program}{w:World}{H:Hp}{h:Heap}{d:Addr}{o:Obj}{kvs:δ}{Zw:Array DictEntry}{ep:Nat}(ok:ji P w H h)(e:H d=some (.fj o (.dK kvs)))(he:o.data=.dict Zw ep):
  (d==sysModules)=false/\∃vs,KV kvs vs/\h.DictAt (bC P w) d vs ep/\kvs.length<=sizeLine:=by
 obtain ⟨h1,z,hd,vs,rel,o',es,uw,ho,hx,gI,hk,hp,hn⟩:=ok d _ e
 rw [h1] at ho
 cases ho
 rw [he] at gI
 cases gI
 exact ⟨hd,vs,rel,⟨o,Zw,h1,hx,he,hk,hp,hn⟩,z⟩
theorem kQ:entryFor table "dict_itemiterator.__iter__"=some Builtin.«dict_keyiterator.__iter__»:=
 entryFor_alias (id' :="dict_keyiterator.__iter__") (by kernel_rfl) (by first | rfl | decide+kernel | (unfold String.splitOn;simp+decide [String.splitOnAux])) (by decide+kernel) (by kernel_rfl)
theorem xC {P:Program}{w:World}{A:Around}{E:γ}{s:Shared}{it d:Addr}{i n ep:Nat}{ok ov:Value}{Q:γ}(st:IsItemIter s.heap it d i n ep ok ov)(h:Q (.ref it) s):wpAny (model P w) A (pyIter (.ref it)) Q E s:=by
 have hT:s.TypeIs (.ref it) "dict_itemiterator":=⟨_,st,rfl⟩
 refine wpAny_pyIter_slot hT F.slot_dict_itemiterator_iter (wpAny_call_entry F.slot_dict_itemiterator_iter hT kQ ?_ (F.args_dict_itemiterator_iter_1 _))
 show wpAny _ _ (ret (.ref it)) _ _ s
 exact wpAny_pure ⟨_,rfl,"dict_itemiterator",_,hT,F.slot_dict_itemiterator_next.lookup,h⟩
theorem oE {P:Program}{w:World}{K:Frag}{es:χ}{k:Nat}{pos:Pos}(d it:Addr)(o:Obj)(kvs:δ){Zw:Array DictEntry}{ep:Nat}(he:o.data=.dict Zw ep)(zl:it≠d):
  Turn P w K (.Tuple es k pos) (SF d o kvs) [it] it (fun i h=>∃ok ov,IsItemIter h it d i kvs.length ep ok ov) where
 mem:=by simp
 obj:=fun i h st b hb=>by
  have e:b=it:=by simpa using hb
  subst e
  obtain ⟨ok,ov,st⟩:=st
  exact ⟨_,st,fun v z=>by cases z⟩
 keep:=fun i h h' st k=>by
  obtain ⟨ok,ov,st⟩:=st
  exact ⟨ok,ov,k it (by simp) _ st⟩
 item:=by
  intro X hP hw hK hc i pins s σ H E I hf st hg
  subst hP hw hK
  obtain ⟨ok,ov,st⟩:=st
  obtain ⟨fz,hi⟩:=hg
  obtain ⟨hd,vs,rel,da,_⟩:=ID I.bL fz he
  have ek:kvs[i]? =some kvs[i]:=gE hi
  obtain ⟨⟨k',u⟩,ev,e1,ru⟩:=aY rel ek
  have lv:=rel.length
  rw [lv] at st
  refine wpAny_pyNext_items_item st da ev fun key h' P4 out tup sz kk=>?_
  refine ⟨_,rfl,wpAny_letOwnedTupleGo_items (s:={s with heap:=h' }) out fun KA aaV sb=>?_⟩
  have hsz:∀c o,s.heap.get? c=some o->s.heap.objs.size≠c:=fun c o e=>ahH (Heap.lt_size e)
  have tz:s.heap.objs.size≠it:=hsz _ _ st
  have nz:∀c,c≠it->∀o,h'.get? c=some o->KA.get? c=some o:=fun c hc o e=>(sb.2 c hc).trans e
  have hn:=I.bL.fresh (aas s.heap.objs.size)
  have BK :kvs[i].1=k' :=e1
  have I2:Inv X pins σ (upd H s.heap.objs.size (.tup [kV kvs[i].1,kvs[i].2])) {s with heap:=KA,toks:=s.toks}:=
   Inv.sJ I (fun b o hb e=>nz b (by simpa using hb) o (kk b o (by simpa using hb) e)) hf (aas _) (by show 2<=sizeLine;decide) (its:=[key,u]) (.cons (by rw [BK];exact zp P4) (.cons ru .nil)) ⟨_,nz _ tz _ tup,rfl,_,rfl⟩
  refine ⟨.ref s.heap.objs.size,_,I2,rfl,⟨s.heap.objs.size,kvs[i].1,kvs[i].2,ek,rfl,hn,rfl⟩,⟨_,_,by rw [lv];exact aaV⟩,fun b hb=>?_⟩
  have eb:b=it:=by simpa using hb
  rw [aq (by rw [eb];exact abb tz)]
  exact (hf b hb).1
 done:=by
  intro X hP hw hK hc i pins s σ H E I hf st hg
  subst hP hw hK
  obtain ⟨ok,ov,st⟩:=st
  obtain ⟨fz,hi⟩:=hg
  obtain ⟨hd,vs,rel,da,_⟩:=ID I.bL fz he
  have lv:=rel.length
  rw [lv] at st
  obtain ⟨f0,f1,f2,f3,f4,f5⟩:=hf it (by simp)
  exact wpAny_pyNext_items_end (I.ok.hd hc) st da (aan (by omega)) fun h' eb=>⟨rfl,I.turned (t' :=s.toks) (fun b o hb e=>eb b o hb e) f0 f1 f3 f4 f5⟩
 self:=fun _ _ _ _ _ st h=>by
  obtain ⟨ok,ov,st⟩:=st
  exact xC st h
inductive zq (R:(It->Hp->Prop))(x:V)(H1:Hp):Prop where
 | mk (d kvs:_) (_:x=.ref d) (_:H1 d=some (.dK kvs)) (_:∀o,R (SF d o kvs) (upd H1 d (.fj o (.dK kvs)))):zq R x H1
def QE (te:TE):TI:=fun σ H R=>te σ H fun x H1=>zq R x H1
theorem gJ {e:Expr}{te:TE}{apos eA:Pos}{es:χ}{k:Nat}{r_:Pos}(ho:PE X e te)(uR:attributeBase e "items" X.env (eval e X.env)=eval e X.env:=by rfl)(uS:(apos.endLine==eA.line)=true:=by rfl):
  PI X (.Tuple es k r_) (.Call (.Attribute e "items" apos) [] [] eA) (QE te):=by
 intro pins s σ H R I h
 refine wpAny_Call_method0_late uR uS (bX (ho pins s σ H _ I h) fun v s1 ⟨x,H1,I1,r1,q1⟩=>?_)
 obtain ⟨d,kvs,rfl,e,q⟩:=q1
 cases r1
 obtain ⟨z,hd,vs,rel,o,es1,ep,LI,hx,gI,hk,hp,hn⟩:=rE I1.bL e
 obtain ⟨h1,h2⟩:=GY (T:="dict") I1 (show RelV (.ref d) (.ref d) from rfl) (.inr (.inr (.inl ⟨rfl,.inl ⟨kvs,e⟩⟩)))
 have da:s1.heap.DictAt (bC X.prog X.w) d vs ep:=⟨o,es1,LI,hx,gI,hk,hp,hn⟩
 have lv:=rel.length
 refine ⟨"dict","dict.items",F.plainAttrs_dict,F.slot_dict_items,F.type_dict_items,h1,h2,Calls.callWith_builtin rfl (PySem.evalArgs_none ?_)⟩
 refine call_meetsIn F.slot_dict_items h1 F.entry_dict_items (F.args_dict_items_1 _) (meets_dict_items (bC X.prog X.w) d hd) ⟨⟨vs,da.dictOf⟩,?_⟩
 have I2:=Inv.freeze I1 e LI
 have da2:(s1.heap.push {cls:=.type "dict_items",data:=.fields #[.ref d]}).DictAt (bC X.prog X.w) d vs ep:=da.at' fun o e=>Heap.get?_push_of_some _ e
 show wpAny (model X.prog X.w) X.A (pyIter (.ref s1.heap.objs.size)) _ _ _
 refine wpAny_pyIter_items (s:={s1 with heap:=s1.heap.push {cls:=.type "dict_items",data:=.fields #[.ref d]}}) ⟨_,Heap.get?_push_size _ rfl,rfl,rfl⟩ da2 ?_
 have sz:(s1.heap.push {cls:=.type "dict_items",data:=.fields #[.ref d]}).objs.size=s1.heap.objs.size+1:=Heap.size_push ..
 have ne:(s1.heap.push {cls:=.type "dict_items",data:=.fields #[.ref d]}).objs.size≠d:=by
  rw [sz]
  exact abb (aa' (acu (Heap.lt_size LI)))
 have I3:Inv X pins σ (upd H1 d (.fj o (.dK kvs))) {s1 with heap:=(s1.heap.push {cls:=.type "dict_items",data:=.fields #[.ref d]}).push {cls:=.type "dict_itemiterator",data:=.fields #[.none,.bool false,.ref d,.int 0 0,.int vs.length 0,.int ep 0,.none,.none]}}:=I2.kept (t' :=s1.toks) fun b o e=>Heap.get?_push_of_some _ (Heap.get?_push_of_some _ e)
 refine ⟨_,[_],_,_,_,rfl,I3,oE d _ o kvs gI ne,⟨_,_,by rw [lv];exact Heap.get?_push_size _ rfl⟩,fun b hb=>?_,q o⟩
 have eb:b=(s1.heap.push {cls:=.type "dict_items",data:=.fields #[.ref d]}).objs.size:=by simpa using hb
 have le:s1.heap.objs.size<=b:=by rw [eb,sz];exact ahR _
 exact I2.qg le (I2.bL.fresh le)
end
end Ty
set_option maxHeartbeats 4000000
namespace Ty
def ev:List Int->(Nat->Rat)->Rat
 | [],_=>0
 | a::r,z=>(a:Rat)*z 0+ev r (fun i=>z (i+1))
theorem IE:∀(l:ν) (z y:Nat->Rat),ev l (fun i=>z i+y i)=ev l z+ev l y
 | [],_,_=>by simp [ev];grind
 | a::r,z,y=>by
  simp only [ev]
  rw [IE r (fun i=>z (i+1)) (fun i=>y (i+1))]
  grind
theorem ni:∀(l:ν) (z:Nat->Rat),(∀j,((l.getD j 0:Int):Rat)*z j=0)->ev l z=0
 | [],_,_=>rfl
 | a::r,z,h=>by
  have h0:=h 0
  have ih:=ni r (fun i=>z (i+1)) (fun j=>by simpa using h (j+1))
  simp only [ev]
  rw [ih]
  simp at h0
  grind
theorem sN:∀(l:ν) (z:Nat->Rat) (p:Nat),(∀j,j≠p->((l.getD j 0:Int):Rat)*z j=0)->ev l z=((l.getD p 0:Int):Rat)*z p
 | [],_,_,_=>by simp [ev]
 | a::r,z,0,h=>by
  have ih:=ni r (fun i=>z (i+1)) (fun j=>by simpa using h (j+1) (by omega))
  simp only [ev]
  rw [ih]
  simp
  grind
 | a::r,z,p+1,h=>by
  have h0:=h 0 (by omega)
  have ih:=sN r (fun i=>z (i+1)) p (fun j hj=>by simpa using h (j+1) (by omega))
  simp only [ev]
  rw [ih]
  simp at h0
  simp
  grind
theorem IF {s t u:Int}:∀{new line lead:ν},new.length=line.length->lead.length=line.length->(∀j,s*new.getD j 0=t*line.getD j 0 - u*lead.getD j 0)->∀z:Nat->Rat,(s:Rat)*ev new z=t*ev line z - u*ev lead z
 | [],[],[],_,_,_,z=>by simp [ev];grind
 | a::new,b::line,c::lead,h1,h2,h,z=>by
  have h0:=h 0
  have ih:=IF (by simpa using h1) (by simpa using h2) (fun j=>by simpa using h (j+1)) (fun i=>z (i+1))
  simp at h0
  have h0' :(s:Rat)*a=t*b - u*c:=by exact_mod_cast h0
  simp only [ev]
  grind
 | [],_::_,_,h,_,_,_=>by simp at h
 | _::_,[],_,h,_,_,_=>by simp at h
 | _,[],_::_,_,h,_,_=>by simp at h
 | _,_::_,[],_,h,_,_=>by simp at h
def oF:List Rat->List (List Int)->Nat->Rat
 | c::y,o::os,j=>c*((o.getD j 0:Int):Rat)+oF y os j
 | _,_,_=>0
theorem vm {s t u:Rat}(hs:s≠0)(j:Nat):∀(os:ζ) (y1 y2:List Rat),y1.length=os.length->y2.length=os.length->s*oF (ab' (fun a b=>(t*a - u*b) / s) y1 y2) os j=t*oF y1 os j - u*oF y2 os j
 | [],[],[],_,_=>by simp [oF];grind
 | o::os,a::y1,b::y2,h1,h2=>by
  have ih:=vm (t:=t) (u:=u) hs j os y1 y2 (by simpa using h1) (by simpa using h2)
  simp only [ah4,oF]
  grind
 | [],_::_,_,h,_=>by simp at h
 | [],[],_::_,_,h=>by simp at h
 | _::_,[],_,h,_=>by simp at h
 | _::_,_::_,[],_,h=>by simp at h
theorem rF (j:Nat):∀(os:ζ),oF (aa2 os.length 0) os j=0
 | []=>rfl
 | o::os=>by
  simp only [abf,ab7,oF]
  rw [rF j os]
  grind
def sO (os:ζ)(l:ν):Prop:=∃y:List Rat,y.length=os.length/\∀j,((l.getD j 0:Int):Rat)=oF y os j
theorem vn:∀{os:ζ} {l:ν},l∈os->sO os l
 | o::os,l,h=>by
  rcases aa8.mp h with z | z
  ·subst z
   refine ⟨1::aa2 os.length 0,by simp,fun j=>?_⟩
   simp only [oF]
   rw [rF]
   grind
  ·obtain ⟨y,hl,hy⟩:=vn z
   refine ⟨0::y,by simp [hl],fun j=>?_⟩
   simp only [oF]
   rw [<- hy j]
   grind
theorem IG {os:ζ}{new line lead:ν}{s t u:Int}(hs:s≠0)(h:∀j,s*new.getD j 0=t*line.getD j 0 - u*lead.getD j 0)(h1:sO os line)(h2:sO os lead):sO os new:=by
 obtain ⟨y1,l1,e1⟩:=h1
 obtain ⟨y2,l2,e2⟩:=h2
 have N7 :=eD hs
 refine ⟨ab' (fun a b=>((t:Rat)*a - u*b) / s) y1 y2,by simp [l1,l2],fun j=>?_⟩
 have k:=vm (t:=(t:Rat)) (u:=(u:Rat)) N7 j os y1 y2 l1 l2
 rw [<- e1 j, <- e2 j] at k
 have h' :(s:Rat)*(new.getD j 0:Int)=t*(line.getD j 0:Int) - u*(lead.getD j 0:Int):=by exact_mod_cast h j
 rw [<- h'] at k
 grind
structure p_ (line lead new:ν)(c:Nat):Prop where
 len:new.length=line.length
 IH:new.getD c 0=0
 gj:∃s t u:Int,s≠0/\t≠0/\∀j,s*new.getD j 0=t*line.getD j 0 - u*lead.getD j 0
theorem p_.zero {line lead new:ν}{c:Nat}(h:p_ line lead new c){j:Nat}(h1:line.getD j 0=0)(h2:lead.getD j 0=0):new.getD j 0=0:=by
 obtain ⟨s,t,u,hs,_,e⟩:=h.gj
 have:=e j
 rw [h1,h2,aho,aho,Int.sub_self] at this
 rcases aia.mp this with z | z
 ·exact absurd z hs
 ·exact z
theorem p_.at {line lead new:ν}{c:Nat}(h:p_ line lead new c){j:Nat}(h2:lead.getD j 0=0)(h1:line.getD j 0≠0):new.getD j 0≠0:=by
 obtain ⟨s,t,u,hs,ht,e⟩:=h.gj
 have:=e j
 rw [h2] at this
 intro z
 rw [z,aho,aho,Int.sub_zero] at this
 rcases aia.mp this.symm with y | y
 ·exact ht y
 ·exact h1 y
theorem p_.comb {os:ζ}{line lead new:ν}{c:Nat}(h:p_ line lead new c)(h1:sO os line)(h2:sO os lead):sO os new:=by
 obtain ⟨s,t,u,hs,ht,e⟩:=h.gj
 exact IG hs e h1 h2
theorem p_.ev {line lead new:ν}{c:Nat}(h:p_ line lead new c)(hl:lead.length=line.length){z:Nat->Rat}(h2:Ty.ev lead z=0):Ty.ev new z=0 ↔ Ty.ev line z=0:=by
 obtain ⟨s,t,u,hs,ht,e⟩:=h.gj
 have k:=IF h.len hl e z
 rw [h2] at k
 have N7 :=eD hs
 have ht' :=eD ht
 constructor
 ·intro w
  rw [w] at k
  grind
 ·intro w
  rw [w] at k
  grind
end Ty
set_option maxHeartbeats 4000000
namespace Ty
open PySem PySem.Spec PyProof.Rows L2
def SG (K:Frag)(a:Addr):It:=
 ⟨fun i H=>∃xs x,aZ K H a xs/\xs[i]? =some x,
  fun i H v H' =>∃p x,(∀xs,aZ K H a xs->xs[i]? =some x)/\v=.ref p/\H p=none/\H' =upd H p (.tup [.int (i:Int),x]),
  fun i H=>∃xs,aZ K H a xs/\xs.length<=i⟩
theorem BV {P:Program}{w:World}{K:Frag}{es:χ}{k:Nat}{pos:Pos}(a e it:Addr)(zl:e≠it):
  Turn P w K (.Tuple es k pos) (SG K a) [e,it] e (fun i h=>(∃old,IsEnum h e it ((i:Nat):Int) old)/\h.IsListIter it a i) where
 mem:=by simp
 obj:=fun i h st c hc=>by
  obtain ⟨⟨old,he⟩,⟨o1,e1,c1,d1⟩⟩:=st
  have uA :c=e\/c=it:=by simpa using hc
  rcases uA with z | z <;> subst z
  ·exact ⟨_,he,fun v z=>by cases z⟩
  ·exact ⟨_,e1,fun v z=>by rw [d1] at z;cases z⟩
 keep:=fun i h h' st k=>by
  obtain ⟨⟨old,he⟩,h1⟩:=st
  exact ⟨⟨old,k e (by simp) _ he⟩,h1.at fun o e=>k it (by simp) o e⟩
 item:=by
  intro X hP hw hK hc i pins s σ H E I hf st hg
  subst hP hw hK
  obtain ⟨⟨old,he⟩,h1⟩:=st
  obtain ⟨xs,x,qx,ex⟩:=hg
  obtain ⟨its,rv,p,_⟩:=I.list qx
  obtain ⟨u,hu,ru⟩:=rv.get ex
  refine wpAny_pyNext_enum_item he h1 p.isList (x:=u) (by simpa using hu) zl fun h' a1 a2 a3 a4 a5=>?_
  refine ⟨_,rfl,wpAny_letOwnedTupleGo_enum (s:={s with heap:=h',toks:=s.toks+1}) a1 fun KA b1 sb=>?_⟩
  have nz:∀c,c≠e->∀o,h'.get? c=some o->KA.get? c=some o:=fun c hc o q=>(sb.2 c hc).trans q
  have kk:∀b o,b∉[e,it]->s.heap.get? b=some o->KA.get? b=some o:=fun b o hb q=>by
   have ix :b≠e/\b≠it:=by simpa using hb
   exact nz b ix.1 o (a5 b o ix.1 ix.2 q)
  have sz:∀c o,s.heap.get? c=some o->s.heap.objs.size≠c:=fun c o q=>ahH (Heap.lt_size q)
  have tz:s.heap.objs.size≠e:=sz _ _ he
  have hn:=I.bL.fresh (aas s.heap.objs.size)
  have I2:Inv X pins σ (upd H s.heap.objs.size (.tup [.int (i:Int),x])) {s with heap:=KA,toks:=s.toks+1}:=
   Inv.sJ I kk hf (aas _) (by show 2<=sizeLine;decide) (its:=[.int i s.toks,u]) (.cons ⟨_,rfl⟩ (.cons ru .nil)) ⟨_,nz _ tz _ a3,rfl,_,rfl⟩
  refine ⟨.ref s.heap.objs.size,_,I2,rfl,⟨s.heap.objs.size,x,fun xs' q=>by rw [I.iA q qx];exact ex,rfl,hn,rfl⟩,⟨⟨_,by exact b1⟩,a2.at fun o q=>nz _ (abb zl) o q⟩,fun b hb=>?_⟩
  have ob:∃o,s.heap.get? b=some o:=by
   obtain ⟨o1,e1,_⟩:=h1
   have uA :b=e\/b=it:=by simpa using hb
   rcases uA with z | z <;> subst z
   ·exact ⟨_,he⟩
   ·exact ⟨_,e1⟩
  obtain ⟨o,q⟩:=ob
  rw [aq (abb (sz _ _ q))]
  exact (hf b hb).1
 done:=by
  intro X hP hw hK hc i pins s σ H E I hf st hg
  subst hP hw hK
  obtain ⟨⟨old,he⟩,h1⟩:=st
  obtain ⟨xs,qx,ee⟩:=hg
  obtain ⟨its,rv,p,_⟩:=I.list qx
  have l1:=rv.length
  refine wpAny_pyNext_enum_end (I.ok.hd hc) he h1 p.isList (by simp;omega) fun h' kk=>⟨rfl,Inv.m_ I (fun b o hb q=>?_) hf⟩
  have ix :b≠e/\b≠it:=by simpa using hb
  exact kk b o ix.2 q
 self:=fun _ _ _ _ _ st h=>by
  obtain ⟨⟨old,he⟩,_⟩:=st
  exact wpAny_pyIter_enum he h
theorem boot_enumerate:bootBuiltins "enumerate"=some (.type "enumerate"):=by decide+kernel
section
variable {X:Cx}
inductive II (K:Frag)(R:(It->Hp->Prop))(vs:η)(H1:Hp):Prop where
 | mk (a:_) (_:vs=[.ref a]) (_:(∃xs,aZ K H1 a xs)) (_:R (SG K a) H1):II K R vs H1
def Ui (K:Frag)(ta:TA):TI:=fun σ H R=>ta σ H fun vs H1=>II K R vs H1
theorem sQ {e1:Expr}{ta:TA}{p pos:Pos}{es:χ}{k:Nat}{r_:Pos}(hg:Gl X "enumerate")(hm:X.mg "enumerate"=none)(ha:PA X [e1] ta)(hs:starEach [e1] X.env=[(false,eval e1 X.env)]:=by rfl):
  PI X (.Tuple es k r_) (.Call (.Name "enumerate" p) [e1] [] pos) (Ui X.K ta):=by
 intro pins s σ H R I h
 refine Call_ (iz I hg hm boot_enumerate (PyProof.Rows.callWith_type1 (bX (ha pos pins s σ H _ I h) fun us s1 ⟨vs,H1,I1,r1,q1⟩=>?_) hs rfl))
 obtain ⟨a,e,⟨xs,hx⟩,q⟩:=q1
 subst e
 cases r1 with
 | cons r rr=>
  cases rr
  cases r
  obtain ⟨its,rv,pl,_⟩:=I1.list hx
  refine call_enumerate_list pl.isList fun h' hE hI hsz hk=>wpAny_pyIter_enum (s:={s1 with heap:=h' }) hE ?_
  refine ⟨s1.heap.objs.size+1,[s1.heap.objs.size+1,s1.heap.objs.size],_,_,H1,rfl,I1.kept (t' :=s1.toks) hk,BV a _ _ (Nat.succ_ne_self _),⟨⟨_,hE⟩,hI⟩,fun c hc=>?_,q⟩
  have uA :s1.heap.objs.size<=c:=by
   have:c=s1.heap.objs.size+1\/c=s1.heap.objs.size:=by simpa using hc
   simp only [Addr] at*
   omega
  exact I1.qg uA (I1.bL.fresh uA)
theorem any_range (bs:List Bool):(abk bs.length).any (fun i=>(bs[i]?).getD true)=bs.any id:=by
 rw [ab5,aht,aht]
 constructor
 ·rintro ⟨i,hi,h⟩
  have KC :i < bs.length:=abl.mp hi
  rw [gE KC] at h
  exact ⟨bs[i],aby KC,h⟩
 ·rintro ⟨b,hb,h⟩
  obtain ⟨i,hi⟩:=aaF hb
  exact ⟨i,abl.mpr (be.mp hi).1,by rw [hi];exact h⟩
inductive QF (K:Frag)(xs:η)(H:Hp)(Q:VK):Prop where
 | mk (p:Addr) (bs:List Bool) (_:xs=[.ref p]) (_:aZ K H p (bs.map V.bl)) (_:Q (.bl (bs.any id)) H):QF K xs H Q
theorem BW (hc:X.calm=true):ft X (.builtin "any") (QF X.K):=by
 intro pins s σ H xs us Q I r h
 obtain ⟨p,bs,rfl,hq,q⟩:=h
 obtain ⟨u,rfl,r1⟩:=vals1 r
 cases r1
 obtain ⟨its,rv,pl,hz⟩:=I.list hq
 refine call_any_walk (wpAny_pyIter_list pl.isList ?_)
 have zl:p≠s.heap.objs.size:=by obtain ⟨o,ho,_⟩:=pl.isList;exact aa' (Heap.lt_size ho)
 have I1:Inv X pins σ H {s with heap:=s.heap.push {cls:=.type "list_iterator",data:=.fields #[.ref p,.int 0 0]}}:=I.kept (t' :=s.toks) fun b o e=>Heap.get?_push_of_some _ e
 obtain ⟨f0,f1,f2,f3,f4,f5⟩:=I.qg (H' :=H) (aas s.heap.objs.size) (I.bL.fresh (aas _))
 have hl:its.length=bs.length:=by rw [<- rv.length,ir]
 refine ⟨s.heap.objs.size,_,_,_,_,_,fun i=>(bs[i]?).getD true,rfl,Walks.list (A:=X.A.in1) (I.ok.hd hc) s.heap.objs.size p zl its.toArray,⟨⟨_,Heap.get?_push_size _ rfl,rfl,rfl⟩,pl.isList.at fun o e=>Heap.get?_push_of_some _ e⟩,?_,fun h' tk kk=>?_⟩
 ·intro i v s' Q' E' hv uO
  have P5 :its[i]? =some v:=by simpa using hv
  have hi:i < bs.length:=by rw [<- hl];exact (be.mp P5).1
  have eb:(bs.map V.bl)[i]? =some (.bl bs[i]):=by rw [Wp,gE hi];rfl
  obtain ⟨u,eu,ru⟩:=rv.get eb
  rw [P5] at eu
  cases eu
  cases ru
  dsimp only at uO
  rw [gE hi] at uO
  exact wpAny_truthy_bool uO
 ·refine ⟨.bl (bs.any id),H,I1.turned (t' :=tk) (it:=s.heap.objs.size) (fun b o hb e=>kk b o (by simpa using hb) e) f0 f1 f3 f4 f5,?_,q⟩
  show _=_
  rw [<- any_range bs,aaW,hl]
theorem Uj:bootBuiltins "any"=some (.builtin "any"):=by decide+kernel
end
theorem vo {K:Frag}{a:Addr}{xs:η}{g:TG}{tb:TS}{D:Ends}{σ:L2.St}{H:Hp}(Pv:Nat->L2.St->Hp->Prop)(h0:Pv 0 σ H)(hl:∀i σ H,i<=xs.length->Pv i σ H->aZ K H a xs)
  (hs:∀i x σ H p,xs[i]? =some x->Pv i σ H->H p=none->g (.ref p) σ (upd H p (.tup [.int (i:Int),x])) fun σ2 H2=>tb {D with nx:=Pv (i+1),ct:=Pv (i+1),bk:=D.nx} σ2 H2) (hd:∀σ H,Pv xs.length σ H->D.nx σ H):
  ∃W:Nat->Nat->L2.St->Hp->Prop,(∃m,W 0 m σ H)/\∀i m σ H,W i m σ H->
   ((SG K a).stop i H/\D.nx σ H)\/((SG K a).go i H/\∃N:L2.St->Hp->Prop,(∀σ' H',N σ' H' ->∃m',m' < m/\W (i+1) m' σ' H')/\∀x H',(SG K a).FY i H x H' ->g x σ H' fun σ2 H2=>tb {D with nx:=N,ct:=N,bk:=D.nx} σ2 H2):=by
 refine ⟨fun i m σ H=>m=xs.length - i/\i<=xs.length/\Pv i σ H,⟨xs.length,by simp,abj _,h0⟩,?_⟩
 rintro i m σ H ⟨rfl,hi,p⟩
 have q:=hl i σ H hi p
 by_cases lU:i < xs.length
 ·have e:xs[i]? =some xs[i]:=gE lU
  refine .inr ⟨⟨xs,_,q,e⟩,Pv (i+1),fun σ' H' z=>⟨xs.length - (i+1),by omega,rfl,by omega,z⟩,fun x H' y=>?_⟩
  obtain ⟨pp,x',y1,rfl,np,rfl⟩:=y
  exact hs i x' σ H pp (y1 xs q) p np
 ·have e:i=xs.length:=by omega
  subst e
  exact .inl ⟨⟨xs,q,aas _⟩,hd σ H p⟩
theorem dQ {d:Addr}{o:Obj}{kvs:δ}{g:TG}{tb:TS}{D:Ends}{σ:L2.St}{H:Hp}(Pv:Nat->L2.St->Hp->Prop)(h0:Pv 0 σ H)(hl:∀i σ H,i<=kvs.length->Pv i σ H->H d=some (.fj o (.dK kvs)))
  (hs:∀i k x σ H p,kvs[i]? =some (k,x)->Pv i σ H->H p=none->g (.ref p) σ (upd H p (.tup [kV k,x])) fun σ2 H2=>tb {D with nx:=Pv (i+1),ct:=Pv (i+1),bk:=D.nx} σ2 H2) (hd:∀σ H,Pv kvs.length σ H->D.nx σ H):
  ∃W:Nat->Nat->L2.St->Hp->Prop,(∃m,W 0 m σ H)/\∀i m σ H,W i m σ H->
   ((SF d o kvs).stop i H/\D.nx σ H)\/((SF d o kvs).go i H/\∃N:L2.St->Hp->Prop,(∀σ' H',N σ' H' ->∃m',m' < m/\W (i+1) m' σ' H')/\∀x H',(SF d o kvs).FY i H x H' ->g x σ H' fun σ2 H2=>tb {D with nx:=N,ct:=N,bk:=D.nx} σ2 H2):=by
 refine ⟨fun i m σ H=>m=kvs.length - i/\i<=kvs.length/\Pv i σ H,⟨kvs.length,by simp,abj _,h0⟩,?_⟩
 rintro i m σ H ⟨rfl,hi,p⟩
 have q:=hl i σ H hi p
 by_cases lU:i < kvs.length
 ·refine .inr ⟨⟨q,lU⟩,Pv (i+1),fun σ' H' z=>⟨kvs.length - (i+1),by omega,rfl,by omega,z⟩,fun x H' y=>?_⟩
  obtain ⟨pp,k,x',y1,rfl,np,rfl⟩:=y
  exact hs i k x' σ H pp y1 p np
 ·have e:i=kvs.length:=by omega
  subst e
  exact .inl ⟨⟨q,aas _⟩,hd σ H p⟩
open Builtin.Int (intBits)
section
variable {X:Cx}
def IJ (i j:Int):Prop:=intBits i+intBits j<=134217728
theorem nj:jk X (binaryOp .Mult) (rI IJ fun i j=>.int (i*j)):=
 Zp fun _ _ _ _ _ _ _ hc q=>mul_int q (IntMulOk.of_le (aas _) (aas _) hc)
theorem jZ {a b:Int}{m n:Nat}(h1:a.natAbs<=2^m)(h2:b.natAbs<=2^n)(h:m+n<=134000000):IJ a b:=by
 have x1:=iY h1 (abv m)
 have x2:=iY h2 (abv n)
 unfold IJ
 omega
inductive Oe (K:Frag)(xs:η)(H:Hp)(Q:VK):Prop where
 | mk (p ys:_) (_:xs=[.ref p,.ty "tuple"]) (_:bQ K H p ys) (_:Q (.bl true) H):Oe K xs H Q
theorem BX:ft X (.builtin "isinstance") (Oe X.K):=by
 intro pins s σ H xs us Q I r h
 obtain ⟨p,ys,rfl,hq,q⟩:=h
 obtain ⟨u,w,rfl,r1,r2⟩:=vals2 r
 obtain rfl:=zi (c:=.ty "tuple") rfl r2
 cases r1
 obtain ⟨its,rv,⟨o,h1,h2,_⟩,_⟩:=I.tuple hq
 have e:PySem.W.kitOne X.K (.type "tuple") (Qh (.ty "tuple"))=some true:=by unfold PySem.W.kitOne;rw [if_pos (by decide)]
 exact PySem.W.kia_one PySem.W.kitx_tuple I.ju ⟨o,h1,h2⟩ e (fun z=>nomatch z) fun tk=>⟨.bl true,H,I.tok tk,rfl,q⟩
end
theorem av.cG {K:Frag}{H H' :Hp}{a:Addr}{xs:η}(e:av H H')(h:bQ K H a xs):bQ K H' a xs:=by
 rcases h with (h | ⟨o,h⟩) | h
 ·exact .inl (.inl (e _ _ h))
 ·exact .inl (.inr ⟨o,e _ _ h⟩)
 ·exact .inr h
section
variable {D:Addr}{te:TE}{cap:L2.St}{H1:Hp}{Q:VK}
end
def oG (K:Frag)(H:Hp)(v:V)(q:Int×Int):Prop:=∃p,v=.ref p/\bQ K H p [.int q.1,.int q.2]
theorem oG.same {K:Frag}{H H' :Hp}{v:V}{q:Int×Int}(h:oG K H v q)(s:av H H'):oG K H' v q:=by
 obtain ⟨p,e,k⟩:=h
 exact ⟨p,e,Ty.av.cG s k⟩
def eT (K:Frag)(H:Hp)(us:η)(qs:τ):Prop:=us.length=qs.length/\∀(i:Nat) (u:V) (q:Int×Int),us[i]? =some u->qs[i]? =some q->oG K H u q
theorem eT.same {K:Frag}{H H' :Hp}{us:η}{qs:τ}(h:eT K H us qs)(s:av H H'):eT K H' us qs:=⟨h.1,fun i u q e1 e2=>(h.2 i u q e1 e2).same s⟩
def aaY (K:Frag)(H:Hp)(a:Addr)(qs:τ):Prop:=∃us,aZ K H a us/\eT K H us qs
def sumTo:Nat->(Nat->Rat)->Rat
 | 0,_=>0
 | n+1,f=>f 0+sumTo n (fun i=>f (i+1))
theorem kR (c:Rat):∀(n:Nat) (f:Nat->Rat),sumTo n (fun i=>c*f i)=c*sumTo n f
 | 0,_=>by simp [sumTo]
 | n+1,f=>by
  simp only [sumTo]
  rw [kR c n (fun i=>f (i+1))]
  grind
theorem oH:∀(n:Nat) (f:Nat->Rat),(∀i,f i=0)->sumTo n f=0
 | 0,_,_=>rfl
 | n+1,f,h=>by
  simp only [sumTo]
  rw [h 0,oH n (fun i=>f (i+1)) (fun i=>h (i+1))]
  grind
theorem vp:∀(n:Nat) (l:ν) (z:Nat->Rat),l.length<=n->ev l z=sumTo n (fun j=>((l.getD j 0:Int):Rat)*z j)
 | n,[],z,_=>by
  rw [oH n _ (fun i=>by simp)]
  rfl
 | 0,_::_,_,h=>by simp at h
 | n+1,a::r,z,h=>by
  simp only [ev,sumTo]
  rw [vp n r (fun i=>z (i+1)) (by simpa using h)]
  simp
theorem QG {H:Hp}{d:Addr}{o:HO}(e:H d=some o):upd H d o=H:=by
 funext b
 by_cases z:b=d
 ·subst z
  rw [aj,e]
 ·rw [aq z]
section
variable {X:Cx}
def LJ (te:TE):TI:=fun σ H R=>te σ H fun x H1=>∃d kvs,x=.ref d/\Rd H1 d (.dK kvs)/\∀o,R (SF d o kvs) (upd H1 d (.fj o (.dK kvs)))
theorem rG {e:Expr}{te:TE}{apos eA:Pos}{es:χ}{k:Nat}{r_:Pos}(ho:PE X e te)(uR:attributeBase e "items" X.env (eval e X.env)=eval e X.env:=by rfl)(uS:(apos.endLine==eA.line)=true:=by rfl):
  PI X (.Tuple es k r_) (.Call (.Attribute e "items" apos) [] [] eA) (LJ te):=by
 intro pins s σ H R I h
 refine wpAny_Call_method0_late uR uS (bX (ho pins s σ H _ I h) fun v s1 ⟨x,H1,I1,r1,q1⟩=>?_)
 obtain ⟨d,kvs,rfl,e,q⟩:=q1
 cases r1
 obtain ⟨z,hd,vs,rel,o,es1,ep,LI,hx,gI,hk,hp,hn⟩:=jn I1.bL e
 have da:s1.heap.DictAt (bC X.prog X.w) d vs ep:=⟨o,es1,LI,hx,gI,hk,hp,hn⟩
 have h1:s1.TypeIs (.ref d) "dict":=da.dictOf.typeIs
 have h2:∀a,Value.ref d=.ref a->∃ob,s1.heap.get? a=some ob/\ob.dict=none:=fun a z=>by
  cases z
  exact ⟨o,LI,hx.2.1⟩
 have lv:=rel.length
 refine ⟨"dict","dict.items",F.plainAttrs_dict,F.slot_dict_items,F.type_dict_items,h1,h2,Calls.callWith_builtin rfl (PySem.evalArgs_none ?_)⟩
 refine call_meetsIn F.slot_dict_items h1 F.entry_dict_items (F.args_dict_items_1 _) (meets_dict_items (bC X.prog X.w) d hd) ⟨⟨vs,da.dictOf⟩,?_⟩
 have I2:Inv X pins σ (upd H1 d (.fj o (.dK kvs))) s1:=by
  rcases e with e | ⟨o',e⟩
  ·exact Inv.freeze I1 e LI
  ·have g:=(I1.bL d _ e).1
   rw [LI] at g
   cases g
   rw [QG e]
   exact I1
 have da2:(s1.heap.push {cls:=.type "dict_items",data:=.fields #[.ref d]}).DictAt (bC X.prog X.w) d vs ep:=da.at' fun o e=>Heap.get?_push_of_some _ e
 show wpAny (model X.prog X.w) X.A (pyIter (.ref s1.heap.objs.size)) _ _ _
 refine wpAny_pyIter_items (s:={s1 with heap:=s1.heap.push {cls:=.type "dict_items",data:=.fields #[.ref d]}}) ⟨_,Heap.get?_push_size _ rfl,rfl,rfl⟩ da2 ?_
 have sz:(s1.heap.push {cls:=.type "dict_items",data:=.fields #[.ref d]}).objs.size=s1.heap.objs.size+1:=Heap.size_push ..
 have ne:(s1.heap.push {cls:=.type "dict_items",data:=.fields #[.ref d]}).objs.size≠d:=by
  rw [sz]
  exact abb (aa' (acu (Heap.lt_size LI)))
 have I3:Inv X pins σ (upd H1 d (.fj o (.dK kvs))) {s1 with heap:=(s1.heap.push {cls:=.type "dict_items",data:=.fields #[.ref d]}).push {cls:=.type "dict_itemiterator",data:=.fields #[.none,.bool false,.ref d,.int 0 0,.int vs.length 0,.int ep 0,.none,.none]}}:=I2.kept (t' :=s1.toks) fun b o e=>Heap.get?_push_of_some _ (Heap.get?_push_of_some _ e)
 refine ⟨_,[_],_,_,_,rfl,I3,oE d _ o kvs gI ne,⟨_,_,by rw [lv];exact Heap.get?_push_size _ rfl⟩,fun b hb=>?_,q o⟩
 have eb:b=(s1.heap.push {cls:=.type "dict_items",data:=.fields #[.ref d]}).objs.size:=by simpa using hb
 have le:s1.heap.objs.size<=b:=by rw [eb,sz];exact ahR _
 exact I2.qg le (I2.bL.fresh le)
end
section
variable {D:Addr}{te:TE}{cap:L2.St}{H1:Hp}{Q:VK}
theorem xD {K:Frag}{a:Addr}{xs:η}(Rel:Nat->V->Hp->Prop)(nD:H1 D=none)(hn:xs.length < sizeLine)(hX:∀H,av H1 H->aZ K H a xs)
  (hR:∀i v H H' ys,H D=some (.lst ys)->aT D H H' ->Rel i v H->Rel i v H')
  (he:∀(i:Nat) x H (R:VK),xs[i]? =some x->av H1 H->(∃ys,H D=some (.lst ys))->(∀v H6,av H H6->Rel i v H6->R v H6)->te (some (.int (i:Int))::some x::cap) H R)
  (hd:∀zs H,zs.length=xs.length->(∀i v,zs[i]? =some v->Rel i v H)->av H1 H->H D=some (.lst zs)->Q (.ref D) H):
  qk D (FU K 2 (uI (eh 0) (uI (eh 1) PU))) oj te (SG K a) (none::none::cap) H1 Q:=by
 refine ⟨fun i m σ zs H=>m=xs.length - i/\i<=xs.length/\(∃o o',σ=o::o' ::cap)/\(zs.length=i/\(∀i v,zs[i]? =some v->Rel i v H)/\av H1 H)/\H D=some (.lst zs),⟨xs.length,by simp,abj _,⟨none,none,rfl⟩,⟨rfl,fun i v e=>by simp at e,fun b o e=>by rw [aq (ao e nD)];exact e⟩,aj⟩,?_⟩
 rintro i m σ zs H ⟨rfl,hi,⟨o,o',rfl⟩,⟨l,r,s⟩,hD⟩
 by_cases lU:i < xs.length
 ·have e1:xs[i]? =some xs[i]:=gE lU
  refine .inr ⟨⟨xs,_,hX H s,e1⟩,fun v H' y=>?_⟩
  obtain ⟨p,x,q1,rfl,np,rfl⟩:=y
  have e1:=q1 xs (hX H s)
  have sp:av H (upd H p (.tup [.int (i:Int),x])):=fun b o e=>by rw [aq (ao e np)];exact e
  refine ⟨p,_,rfl,bQ.of aj,rfl,_,_,rfl,_,_,rfl,rfl,?_⟩
  unfold oj
  dsimp only
  rw [if_pos rfl]
  refine he i x _ _ e1 (fun b o e=>sp _ _ (s _ _ e)) ⟨zs,sp _ _ hD⟩ fun v H6 s6 rv=>⟨s6 _ _ (sp _ _ hD),by omega,xs.length - (i+1),by omega,rfl,by omega,⟨_,_,rfl⟩,⟨by simp [l],fun j u e=>?_,fun b o e=>?_⟩,aj⟩
  ·by_cases c:j < zs.length
   ·rw [aaS c] at e
    have ru:=hR j u H H6 zs hD (aT.of fun b o q=>s6 _ _ (sp _ _ q)) (r j u e)
    exact hR j u H6 _ zs (s6 _ _ (sp _ _ hD)) aT.upd ru
   ·rw [aa3 (by omega)] at e
    have ej:j=i:=by
     by_cases z:j - zs.length=0
     ·omega
     ·rw [aan (by simp;omega)] at e
      cases e
    subst ej
    have:v=u:=by
     rw [show j - zs.length=0 by omega] at e
     exact aaZ e
    subst this
    exact hR j v H6 _ zs (s6 _ _ (sp _ _ hD)) aT.upd rv
  ·rw [aq (ao e nD)]
   exact s6 _ _ (sp _ _ (s _ _ e))
 ·have e:i=xs.length:=by omega
  subst e
  exact .inl ⟨⟨xs,hX H s,aas _⟩,hd zs H l r s hD⟩
end
section
variable {X:Cx}
inductive Of (xs:η)(H:Hp)(Q:VK):Prop where
 | mk (p:Addr) (kvs:δ) (_:xs=[.ref p]) (_:Rd H p (.dK kvs)) (_:Q (.int (kvs.length:Int)) H):Of xs H Q
theorem gK:ft X (.builtin "len") Of:=by
 intro pins s σ H xs us Q I r h
 obtain ⟨p,kvs,rfl,hq,q⟩:=h
 obtain ⟨u,rfl,r1⟩:=vals1 r
 cases r1
 exact Ub I hq fun t s' I' =>⟨.int _,H,I',⟨t,rfl⟩,q⟩
end
section
variable {D:Addr}{te:TE}{cap:L2.St}{H1:Hp}{Q:VK}
end
section
variable {X:Cx}
theorem Inv.Uk {pins:ε}{σ:L2.St}{H:Hp}{s:Shared}{d:Addr}{u:HO}{o:Obj}(I:Inv X pins σ H s)(e:H d=some (.fj o u))(n:∀o' u',X.H₀ d≠some (.fj o' u'))(nt:∀xs,u≠.tup xs):Inv X pins σ (upd H d u) s:=by
 have nx:∀b u',H b=some u' ->b≠d->upd H d u b=some u' :=fun b u q n=>by rw [aq n];exact q
 have nn:∀b,H b=none->upd H d u b=none:=fun b q=>by rw [aq (fun z=>by rw [z,e] at q;cases q)];exact q
 refine ⟨I.ok,I.os,I.bare,⟨I.base.keep,I.base.slot,fun b ob q z hx=>nn b (I.base.free b ob q z hx),I.base.there,fun b xs q=>?_,fun b ob u' q=>?_,fun b ps q=>?_⟩,I.loc,I.cell,nn _ I.free,fun x c q=>nn _ (I.iy x c q),fun p hp=>?_,?_,I.len⟩
 ·have z:=I.base.rY b xs q
  exact nx b _ z fun y=>by rw [y,e] at z;cases z
 ·have z:=I.base.qd b ob u' q
  exact nx b _ z fun y=>by rw [y] at q;exact n _ _ q
 ·obtain ⟨m,z⟩:=I.base.rZ b ps q
  exact ⟨m,nx b _ z fun y=>by rw [y,e] at z;cases z⟩
 ·obtain ⟨a1,a2,a3⟩:=I.pin p hp
  exact ⟨a1,nn _ a2,a3⟩
 ·have st:∀{b u'},cy X.prog X.w H s.heap b u' ->cy X.prog X.w (upd H d u) s.heap b u' :=fun {b u'} k=>k.rX (fun _ _ _ z=>z) (fun c z=>nx c _ z fun y=>by rw [y,e] at z;cases z) fun c xs z=>nx c _ z fun y=>by rw [y,e] at z;cases z
  intro b u' q
  by_cases hb:b=d
  ·subst hb
   rw [aj] at q
   cases q
   exact st (I.bL b _ e).2
  ·rw [aq hb] at q
   exact st (I.bL b u' q)
def Ul (H0:Hp)(t:TS):TS:=fun D σ H=>t {D with nx:=fun σ' H' =>∃d o kvs,H' d=some (.fj o (.dK kvs))/\(∀o' u',H0 d≠some (.fj o' u'))/\D.nx σ' (upd H' d (.dK kvs))} σ H
theorem i0 {st:Stmt}{t:TS}(h:PS X st t):PS X st (Ul X.H₀ t):=by
 intro pins s σ H D I q
 refine wpAny_mono (h pins s σ H _ I q) (fun f s' z=>?_) fun _ _ z=>z
 cases f with
 | next=>
  obtain ⟨σ',H',I',d,o,kvs,e,n,k⟩:=z
  exact ⟨σ',_,Inv.Uk I' e n (fun _ z=>nomatch z),k⟩
 | brk=>exact z
 | cont=>exact z
 | ret u=>exact z
end
section
variable {prog:Program}{w:World}{KK:Type}[DecidableEq KK]{knd:KeyKind prog w KK}{A:Around}{E:γ}{s:Shared}
open MeetsSeq MeetsSeq2 MeetsSeq3 SeqRoads2 in
open MeetsSeq MeetsSeq2 MeetsSeq3 SeqRoads2 in
end
section
variable {X:Cx}
end
structure QH (K:Frag)(x qual:Str)(st:Stmt)(f:Addr)(fd:FuncData):Prop where
 ex:∃(dV oc:Value) (od:Ι) (kV doc pm:Value) (an:Ι) (bH ct:Value) (pZ:Κ),
  fd=fnOf x qual (ay st) (aw st) (ag st) dV kV doc pm an bH ct/\K.lookup f=some ⟨oc,od,.func fd,pZ⟩/\codeIn K bH qual=true
 kp:keepIn K (.ref f)=true
section
variable {P:Program}{w:World}{K:Frag}{mg:ι}{base:Heap}{CX:jQ}
theorem LK {x qual:Str}{st:Stmt}{f:Addr}{dV oc:Value}{od an:Ι}{pZ:Κ}{kV doc pm bH ct:Value}(l:K.lookup f=some ⟨oc,od,.func (fnOf x qual (ay st) (aw st) (ag st) dV kV doc pm an bH ct),pZ⟩)
  (c:codeIn K bH qual=true) (k:keepIn K (.ref f)=true):QH K x qual st f (fnOf x qual (ay st) (aw st) (ag st) dV kV doc pm an bH ct):=⟨⟨dV,oc,od,kV,doc,pm,an,bH,ct,pZ,rfl,l,c⟩,k⟩
theorem cZ {name qual:Str}{st:Stmt}{f:Addr}{fd:FuncData}{N ps:ρ}{k:Nat}{sp:Sp}(F:m6 K name qual st f fd)(S:aG N ps (ag st))(len:∀vs H Q E,sp vs H Q E->vs.length=ps.length)
  (jR:∀(bH:Value) (A:Around) (outer:List Env) (s:Shared) (H:Hp) (vs:η) (Q:VK) (E:XK),cg k (A.deeper (envOfC qual (ag st) s.heap.objs.size f bH))->sp vs H Q E->
   ∃t,PSs (cxr P w K mg base N qual (ag st) f bH A outer s H E).yX (aw st) t/\t {nx:=fun _ H' =>Q .cI H',rt:=Q} (start N vs) H):cJ P w K mg base (a8 P w) (k+1) f fd ps sp:=by
 obtain ⟨oc,od,kV,doc,pm,an,bH,ct,pZ,rfl,lk,qe⟩:=F.ex
 exact za lk qe S len fun A outer s H vs Q E hr si=>by
  obtain ⟨t,h,q⟩:=jR bH A outer s H vs Q E hr si
  exact ⟨t,h.yX,q⟩
theorem IK {name qual:Str}{st:Stmt}{f:Addr}{fd:FuncData}{N ps:ρ}{k:Nat}{sp:Sp}(F:QH K name qual st f fd)(S:aG N ps (ag st))(len:∀vs H Q E,sp vs H Q E->vs.length=ps.length)
  (jR:∀(bH:Value) (A:Around) (outer:List Env) (s:Shared) (H:Hp) (vs:η) (Q:VK) (E:XK),cg k (A.deeper (envOfC qual (ag st) s.heap.objs.size f bH))->sp vs H Q E->
   ∃t,PSs (cxr P w K mg base N qual (ag st) f bH A outer s H E).yX (aw st) t/\t {nx:=fun _ H' =>Q .cI H',rt:=Q} (start N vs) H):cJ P w K mg base (a8 P w) (k+1) f fd ps sp:=by
 obtain ⟨dV,oc,od,kV,doc,pm,an,bH,ct,pZ,rfl,lk,qe⟩:=F.ex
 exact za lk qe S len fun A outer s H vs Q E hr si=>by
  obtain ⟨t,h,q⟩:=jR bH A outer s H vs Q E hr si
  exact ⟨t,h.yX,q⟩
end
structure sR (P:Program)(w:World)(K:Frag)(mg:ι)(base:Heap)(CX:jQ)(k:Nat)(C:Addr)(m:Str)(ps:ρ)(ds:ο)(sp:Sp):Prop where
 ex:∃(f:Addr) (fd:FuncData),uM K C/\Meth K C m f/\cJ P w K mg base CX k f fd ps sp/\Binds K fd ps ds
section
variable {X:Cx}{CX:jQ}{k:Nat}{E:XK}{m:Str}{pos apos:Pos}{e o:Expr}{es:χ}{ta:TE}{t:TA}
inductive IL (P:Program)(w:World)(K:Frag)(mg:ι)(base:Heap)(CX:jQ)(k:Nat)(m:Str)(E:XK)(t:TA)(σ:L2.St)(Q:VK)(x:V)(H1:Hp):Prop where
 | mk (a C dx fs ps sp:_) (_:x=.ref a) (_:H1 a=some (.ins C dx fs)) (_:fs.lookup m=none) (_:sR P w K mg base CX k C m ps [.none] sp) (_:t σ H1 fun vs H2=>sp (x::vs++[.cI]) H2 Q E):IL P w K mg base CX k m E t σ Q x H1
def Um (P:Program)(w:World)(K:Frag)(mg:ι)(base:Heap)(CX:jQ)(k:Nat)(m:Str)(E:XK)(ta:TE)(t:TA):TE:=fun σ H Q=>ta σ H fun x H1=>IL P w K mg base CX k m E t σ Q x H1
theorem zu {pl:Sem Bool}(he:PE X o ta)(hr:cg k X.A)(hx:Passes CX X E)(ha:PA X (e::es) t)
  (FV:starEach (e::es) X.env=(false,eval e X.env)::starEach es X.env:=by rfl) (w_:(backTo pos (starEach es X.env)).any (·.1)=false:=by rfl)
  (ht:eval (.Call (.Attribute o m apos) (e::es) [] pos) X.env=(do
   let ov <- eval o X.env
   standAt apos.atName
   let (f,first) <- holding [ov] (getMethod ov m pl)
   callWith pos f first (backTo pos (starEach (e::es) X.env)) (backToKw pos (keywordEach [] X.env))):=by rfl):
  PE X (.Call (.Attribute o m apos) (e::es) [] pos) (Um X.prog X.w X.K X.mg X.base CX k m E ta t):=by
 intro pins s σ H Q I h
 refine PySem.W.methodCall_KW (pl:=pl) (bX (he pins s σ H _ I h) fun u s1 ⟨x,H1,I1,rx,a,C,dx,fs,ps,sp,ex,ea,l,M,q⟩=>?_) ht
 subst ex
 obtain rfl:u=Value.ref a:=rx
 obtain ⟨f,fd,c,hm,F,hb⟩:=M.ex
 refine jx I1 ea c hm l ?_
 refine PySem.W.callWith_K (first:=[.ref a]) (h₀:=X.base) I.ok.mod.Ss hm.kp (bX (ha pos pins s1 σ H1 _ I1 q) fun us s2 ⟨vs,H2,I2,r,q2⟩=>⟨I2.ju,?_⟩) FV w_
 exact sf (us:=.ref a::us) (vs:=.ref a::vs) (dvs:=[.cI]) F hr hb (.cons rfl .nil) hx I2 (.cons rfl r) q2
end
theorem cH {κ:Type}[DecidableEq κ]{k:κ}:∀{kvs:List (κ×V)},k∉kvs.map (·.1)->dJ kvs k=none
 | [],_=>rfl
 | p::r,h=>by
  rw [aaR,aa8,not_or] at h
  rw [cF (fun e=>h.1 e.symm)]
  exact cH h.2
theorem fS {κ:Type}[DecidableEq κ]{k:κ}:∀{kvs:List (κ×V)},k∈kvs.map (·.1)->∃v,dJ kvs k=some v
 | p::r,h=>by
  by_cases e:p.1=k
  ·exact ⟨_,eG e⟩
  ·rw [cF e]
   rw [aaR,aa8] at h
   rcases h with h | h
   ·exact absurd h.symm e
   ·exact fS h
theorem IM {k n:Nat}(h:k < n):seqIndex? (k:Int) n=some k:=by
 unfold seqIndex?
 simp [h]
 omega
structure BY (K:Frag)(C:Addr):Prop where
 cls:uM K C
 pl:fV K C "pin_places"
 wy:fV K C "pin_ways"
 br:fV K C "bar_ends"
abbrev frF (pP pW pB:Addr):List (Str×V):=[("pin_places",.ref pP),("pin_ways",.ref pW),("bar_ends",.ref pB)]
abbrev Pt:=(Int×Int)×(Int×Int)
abbrev _root_.Η:=List (Str×Pt)
abbrev dR (p:Pt):List Da:=[.t [.v (.int p.1.1),.v (.int p.1.2)],.t [.v (.int p.2.1),.v (.int p.2.2)]]
def bx (H H' :Hp):Prop:=∀b xs,Rd H b (.tup xs)->Rd H' b (.tup xs)
theorem bx.of {H H' :Hp}(s:av H H'):bx H H' :=fun b xs e=>by
 rcases e with e | ⟨o,e⟩
 ·exact .inl (s _ _ e)
 ·exact .inr ⟨o,s _ _ e⟩
theorem bx.trans {H H1 H2:Hp}(a:bx H H1)(b:bx H1 H2):bx H H2:=fun c xs e=>b c xs (a c xs e)
theorem bx.dict {H:Hp}{d:Addr}{kvs:δ}{o:HO}(e:H d=some (.dK kvs)):bx H (upd H d o):=fun b xs r=>by
 rcases r with r | ⟨o,r⟩
 ·exact .inl (by rw [aq (fun z=>by rw [z,e] at r;cases r)];exact r)
 ·exact .inr ⟨o,by rw [aq (fun z=>by rw [z,e] at r;cases r)];exact r⟩
theorem bx.list {H:Hp}{d:Addr}{xs:η}{o:HO}(e:H d=some (.lst xs)):bx H (upd H d o):=fun b xs r=>by
 rcases r with r | ⟨o,r⟩
 ·exact .inl (by rw [aq (fun z=>by rw [z,e] at r;cases r)];exact r)
 ·exact .inr ⟨o,by rw [aq (fun z=>by rw [z,e] at r;cases r)];exact r⟩
theorem bx.cG {K:Frag}{H H' :Hp}(s:bx H H'){p:Addr}{xs:η}(q:bQ K H p xs):bQ K H' p xs:=by
 rcases q with q | q
 ·exact .inl (s _ _ q)
 ·exact .inr q
theorem oG.bg {K:Frag}{H H' :Hp}{v:V}{q:Int×Int}(h:oG K H v q)(s:bx H H'):oG K H' v q:=by
 obtain ⟨p,e,k⟩:=h
 exact ⟨p,e,s.cG k⟩
def Spot (K:Frag)(H:Hp)(v:V)(p:Pt):Prop:=∃a u1 u2,v=.ref a/\bQ K H a [u1,u2]/\oG K H u1 p.1/\oG K H u2 p.2
theorem Spot.bg {K:Frag}{H H' :Hp}{v:V}{p:Pt}(h:Spot K H v p)(s:bx H H'):Spot K H' v p:=by
 obtain ⟨a,u1,u2,e,h1,h2,h3⟩:=h
 exact ⟨a,u1,u2,e,s.cG h1,h2.bg s,h3.bg s⟩
theorem zv {K:Frag}{H:Hp}{v:V}{q:Int×Int}(h:oG K H v q):Is K H (.t [.v (.int q.1),.v (.int q.2)]) v:=by
 obtain ⟨p,rfl,e⟩:=h
 unfold Is
 refine ⟨p,_,rfl,e,?_⟩
 unfold fN
 refine ⟨by unfold Is;exact ⟨rfl,rfl⟩,?_⟩
 unfold fN
 refine ⟨by unfold Is;exact ⟨rfl,rfl⟩,?_⟩
 unfold fN
 trivial
theorem Spot.is {K:Frag}{H:Hp}{v:V}{p:Pt}(h:Spot K H v p):Is K H (.t (dR p)) v:=by
 obtain ⟨a,u1,u2,rfl,h1,h2,h3⟩:=h
 unfold Is
 refine ⟨a,_,rfl,h1,?_⟩
 unfold fN
 refine ⟨zv h2,?_⟩
 unfold fN
 refine ⟨zv h3,?_⟩
 unfold fN
 trivial
theorem vq (p q:Pt):dw (dR p) (dR q)=decide (p=q):=by
 have e:dw (dR p) (dR q)=((p.1.1==q.1.1 && (p.1.2==q.1.2 && true)) && ((p.2.1==q.2.1 && (p.2.2==q.2.2 && true)) && true)):=by
  simp only [dR,dw,gZ,rg]
 rw [e]
 obtain ⟨⟨a,b⟩,c,d⟩:=p
 obtain ⟨⟨a',b'⟩,c',d'⟩:=q
 by_cases h:a=a' <;> by_cases h1:b=b' <;> by_cases h2:c=c' <;> by_cases h3:d=d' <;> simp [h,h1,h2,h3,Prod.mk.injEq]
theorem ma (p q:Pt):c_ (dR p) (dR q)=true:=by simp [dR,c_,alike]
theorem kT (p:Pt):gx (dR p)<=60:=by simp [dR,gx,dep]
structure eg (K:Frag)(H:Hp)(C a dx pP pW pB:Addr)(ps:Η)(bs:υ)(kP kW kB:δ):Prop where
 obj:H a=some (.ins C dx (frF pP pW pB))
 pl:H pP=some (.dK kP)
 wy:H pW=some (.dK kW)
 br:H pB=some (.dK kB)
 ne1:pP≠pW
 ne2:pP≠pB
 ne3:pW≠pB
 rp:Paired (fun (p:Str×Pt) (kv:Key×V)=>kv.1=.inr p.1/\Spot K H kv.2 p.2) ps kP
 rb:Paired (fun (b:Str×Str×Str) (kv:Key×V)=>kv.1=.inr b.1/\∃p,kv.2=.ref p/\Rd H p (.tup [.str b.2.1,.str b.2.2])) bs kB
section
variable {K:Frag}{H H' :Hp}{C a dx pP pW pB:Addr}{ps:Η}{bs:υ}{kP kW kB:δ}
theorem fC {α:Type}{R:(Str×α)->(Key×V)->Prop}:∀{l:List (Str×α)} {kvs:δ},Paired (fun b kv=>kv.1=.inr b.1/\R b kv) l kvs->kvs.map (·.1)=l.map (fun b=>(acp b.1:Key))
 | _,_,.nil=>rfl
 | _,_,.cons h t=>by rw [aaR,aaR,h.1,fC t]
theorem eI {l:ρ}{x:Str}:(acp x:Key)∈l.map (fun b=>(acp b:Key)) ↔ x∈l:=by
 constructor
 ·intro h
  obtain ⟨y,hy,e⟩:=aaj.mp h
  exact abV e▸hy
 ·exact fun h=>aaj.mpr ⟨x,h,rfl⟩
theorem eg.fD (R:eg K H C a dx pP pW pB ps bs kP kW kB)(s:bx H H')(h1:H' a=H a)(h2:H' pP=H pP)(h3:H' pW=H pW)(h4:H' pB=H pB):eg K H' C a dx pP pW pB ps bs kP kW kB:=
 ⟨h1.trans R.obj,h2.trans R.pl,h3.trans R.wy,h4.trans R.br,R.ne1,R.ne2,R.ne3,Paired.bP R.rp fun _ _ h=>⟨h.1,h.2.bg s⟩,Paired.bP R.rb fun _ _ h=>⟨h.1,by obtain ⟨p,e,k⟩:=h.2;exact ⟨p,e,s _ _ k⟩⟩⟩
theorem eg.same (R:eg K H C a dx pP pW pB ps bs kP kW kB)(s:av H H'):eg K H' C a dx pP pW pB ps bs kP kW kB:=
 R.fD (.of s) ((s _ _ R.obj).trans R.obj.symm) ((s _ _ R.pl).trans R.pl.symm) ((s _ _ R.wy).trans R.wy.symm) ((s _ _ R.br).trans R.br.symm)
theorem eg.vt (R:eg K H C a dx pP pW pB ps bs kP kW kB):kB.map (·.1)=(bs.map (·.1)).map (fun b=>(acp b:Key)):=by
 rw [fC R.rb,aa5]
 rfl
theorem eg.vv (R:eg K H C a dx pP pW pB ps bs kP kW kB):kP.map (·.1)=(ps.map (·.1)).map (fun b=>(acp b:Key)):=by
 rw [fC R.rp,aa5]
 rfl
theorem eg.bar (R:eg K H C a dx pP pW pB ps bs kP kW kB)(x:Str):(dJ kB (.inr x)).isSome=decide (x∈bs.map (·.1)):=by
 by_cases h:x∈bs.map (·.1)
 ·obtain ⟨v,e⟩:=fS (kvs:=kB) (k:=.inr x) (by rw [R.vt];exact eI.mpr h)
  rw [e,decide_eq_true h]
  rfl
 ·rw [cH (by rw [R.vt];exact fun z=>h (eI.mp z)),decide_eq_false h]
  rfl
theorem eg.pin (R:eg K H C a dx pP pW pB ps bs kP kW kB)(x:Str):(dJ kP (.inr x)).isSome=decide (x∈ps.map (·.1)):=by
 by_cases h:x∈ps.map (·.1)
 ·obtain ⟨v,e⟩:=fS (kvs:=kP) (k:=.inr x) (by rw [R.vv];exact eI.mpr h)
  rw [e,decide_eq_true h]
  rfl
 ·rw [cH (by rw [R.vv];exact fun z=>h (eI.mp z)),decide_eq_false h]
  rfl
theorem eg.ab (R:eg K H C a dx pP pW pB ps bs kP kW kB):a≠pP/\a≠pW/\a≠pB:=
 ⟨fun z=>(by have h:=R.obj;rw [z,R.pl] at h;cases h),fun z=>(by have h:=R.obj;rw [z,R.wy] at h;cases h),fun z=>(by have h:=R.obj;rw [z,R.br] at h;cases h)⟩
theorem eg.QI (R:eg K H C a dx pP pW pB ps bs kP kW kB){x one other:Str}{t:Addr}(ht:Rd H t (.tup [.str one,.str other])):
  eg K (upd H pB (.dK (kB++[(.inr x,.ref t)]))) C a dx pP pW pB ps (bs++[(x,one,other)]) kP kW (kB++[(.inr x,.ref t)]):=by
 have s:bx H (upd H pB (.dK (kB++[(.inr x,.ref t)]))):=.dict R.br
 exact ⟨by rw [aq R.ab.2.2];exact R.obj,by rw [aq R.ne2];exact R.pl,by rw [aq R.ne3];exact R.wy,aj,R.ne1,R.ne2,R.ne3,Paired.bP R.rp fun _ _ h=>⟨h.1,h.2.bg s⟩,
  Paired.snoc (Paired.bP R.rb fun _ _ h=>⟨h.1,by obtain ⟨p,e,k⟩:=h.2;exact ⟨p,e,s _ _ k⟩⟩) ⟨rfl,t,rfl,s _ _ ht⟩⟩
theorem gk {α:Type}{R:(Str×α)->(Key×V)->Prop}(x:Str):∀{l:List (Str×α)} {kvs:δ},Paired (fun b kv=>kv.1=.inr b.1/\R b kv) l kvs->Paired (fun b kv=>kv.1=.inr b.1/\R b kv) (l.filter fun b=>decide (b.1≠x)) (eE kvs (.inr x))
 | _,_,.nil=>.nil
 | b::_,kv::_,.cons h t=>by
  unfold eE
  rw [abR,abR]
  have ih:=gk x t
  unfold eE at ih
  by_cases e:b.1=x
  ·have e' :kv.1=.inr x:=by rw [h.1,e]
   rw [if_neg (by simp [e]),if_neg (by simp [e'])]
   exact ih
  ·have e' :¬ kv.1=.inr x:=fun z=>e (abV (h.1.symm.trans z))
   rw [if_pos (by simp [e]),if_pos (by simp [e'])]
   exact .cons h ih
theorem eg.LL (R:eg K H C a dx pP pW pB ps bs kP kW kB)(x:Str):
  eg K (upd H pB (.dK (eE kB (.inr x)))) C a dx pP pW pB ps (bs.filter fun b=>decide (b.1≠x)) kP kW (eE kB (.inr x)):=by
 have s:bx H (upd H pB (.dK (eE kB (.inr x)))):=.dict R.br
 exact ⟨by rw [aq R.ab.2.2];exact R.obj,by rw [aq R.ne2];exact R.pl,by rw [aq R.ne3];exact R.wy,aj,R.ne1,R.ne2,R.ne3,Paired.bP R.rp fun _ _ h=>⟨h.1,h.2.bg s⟩,
  gk x (Paired.bP R.rb fun _ _ h=>⟨h.1,by obtain ⟨p,e,k⟩:=h.2;exact ⟨p,e,s _ _ k⟩⟩)⟩
theorem bR {α β:Type}{R:α->β->Prop}:∀{l:List α} {m:List β},Paired R l m->Paired (fun b a=>R a b) m l
 | _,_,.nil=>.nil
 | _,_,.cons h t=>.cons h (bR t)
theorem eg.QJ (R:eg K H C a dx pP pW pB ps bs kP kW kB){x:Str}{p:Pt}{t:Addr}(ht:Spot K H (.ref t) p):
  eg K (upd H pP (.dK (kP++[(.inr x,.ref t)]))) C a dx pP pW pB (ps++[(x,p)]) bs (kP++[(.inr x,.ref t)]) kW kB:=by
 have s:bx H (upd H pP (.dK (kP++[(.inr x,.ref t)]))):=.dict R.pl
 exact ⟨by rw [aq R.ab.1];exact R.obj,aj,by rw [aq (abb R.ne1)];exact R.wy,by rw [aq (abb R.ne2)];exact R.br,R.ne1,R.ne2,R.ne3,
  Paired.snoc (Paired.bP R.rp fun _ _ h=>⟨h.1,h.2.bg s⟩) ⟨rfl,ht.bg s⟩,Paired.bP R.rb fun _ _ h=>⟨h.1,by obtain ⟨p,e,k⟩:=h.2;exact ⟨p,e,s _ _ k⟩⟩⟩
theorem eg.sS (R:eg K H C a dx pP pW pB ps bs kP kW kB)(jo :δ):eg K (upd H pW (.dK jo)) C a dx pP pW pB ps bs kP jo kB:=by
 have s:bx H (upd H pW (.dK jo)):=.dict R.wy
 exact ⟨by rw [aq R.ab.2.1];exact R.obj,by rw [aq R.ne1];exact R.pl,aj,by rw [aq (abb R.ne3)];exact R.br,R.ne1,R.ne2,R.ne3,
  Paired.bP R.rp fun _ _ h=>⟨h.1,h.2.bg s⟩,Paired.bP R.rb fun _ _ h=>⟨h.1,by obtain ⟨p,e,k⟩:=h.2;exact ⟨p,e,s _ _ k⟩⟩⟩
end
open Builtin.Int (intBits)
def qr (r:Rat):Int×Int:=(r.num,(r.den:Int))
theorem eJ (r:Rat):0 < (qr r).2:=by
 have:=r.den_pos
 show (0:Int) < (r.den:Int)
 omega
theorem sT (r:Rat):abx (qr r).1 (qr r).2=1:=by
 have:=r.reduced
 show abx r.num (r.den:Int)=1
 unfold abx
 simpa [Nat.Coprime] using this
theorem iq (r:Rat):vl (qr r)=r:=by
 show (r.num:Rat) / ((r.den:Int):Rat)=r
 rw [<- aix]
 exact aiq r
theorem rH {q:Int×Int}(h:0 < q.2)(g:abx q.1 q.2=1):q=qr (vl q):=Qq h (eJ _) g (sT _) (iq _).symm
theorem g7 {t b:Int}(h:b≠0):low t b=qr ((t:Rat) / (b:Rat)):=by
 rw [<- HR h]
 exact rH (jV h) (m9 h)
theorem g8 {a b:Rat}(h:qr a=qr b):a=b:=by
 rw [<- iq a, <- iq b,h]
theorem oI (i:Int):qr (i:Rat)=(i,1):=by
 have e:(i,(1:Int))=qr (vl (i,1)):=rH (by show (0:Int) < 1;decide) (by show abx i 1=1;simp)
 have v:vl (i,(1:Int))=(i:Rat):=by
  unfold vl
  show (i:Rat) / ((1:Int):Rat)=i
  have:((1:Int):Rat)=1:=by rfl
  rw [this]
  grind
 rw [e,v]
theorem QK (r:Rat):qr (-r)=(-(qr r).1,(qr r).2):=by
 have e:((-(qr r).1,(qr r).2):Int×Int)=qr (vl (-(qr r).1,(qr r).2)):=rH (eJ r) (by
  have:=sT r
  show abx (-(qr r).1) (qr r).2=1
  rw [Int.neg_gcd]
  exact this)
 have v:vl (-(qr r).1,(qr r).2)= -r:=by
  have h:=iq r
  unfold vl at h ⊢
  push_cast
  rw [<- h]
  grind
 rw [e,v]
theorem BZ {r:Rat}:((qr r).2:Rat)≠0:=eD (af_ (eJ r))
theorem QL (a b:Rat):low ((qr a).1*(qr b).2+(qr b).1*(qr a).2) ((qr a).2*(qr b).2)=qr (a+b):=by
 have ha:=eJ a
 have hb:=eJ b
 rw [g7 (af_ (ahA ha hb))]
 have e1:=iq a
 have e2:=iq b
 have z1:=BZ (r:=a)
 have z2:=BZ (r:=b)
 unfold vl at e1 e2
 congr 1
 push_cast
 grind
theorem IP (a b:Rat):low ((qr a).1*(qr b).2 - (qr b).1*(qr a).2) ((qr a).2*(qr b).2)=qr (a - b):=by
 have ha:=eJ a
 have hb:=eJ b
 rw [g7 (af_ (ahA ha hb))]
 have e1:=iq a
 have e2:=iq b
 have z1:=BZ (r:=a)
 have z2:=BZ (r:=b)
 unfold vl at e1 e2
 congr 1
 push_cast
 grind
structure Sz (k:Nat)(r:Rat):Prop where
 top:intBits (qr r).1<=k
 bot:intBits (qr r).2<=k
theorem Sz.up {k l:Nat}{r:Rat}(h:Sz k r)(kl:k<=l):Sz l r:=⟨aam h.top kl,aam h.bot kl⟩
theorem B_ {a b:Int}{k:Nat}(ha:intBits a<=k)(hb:intBits b<=k):intBits (a+b)<=k+1:=by
 rw [intBits_le_iff] at ha hb ⊢
 have:=ahp a b
 rw [ahJ]
 omega
theorem B' {a b:Int}{k:Nat}(ha:intBits a<=k)(hb:intBits b<=k):intBits (a - b)<=k+1:=by
 rw [intBits_le_iff] at ha hb ⊢
 have:=Int.natAbs_sub_le a b
 rw [ahJ]
 omega
theorem IQ {t b:Int}{k:Nat}(hb:b≠0)(h1:intBits t<=k)(h2:intBits b<=k):Sz k ((t:Rat) / (b:Rat)):=by
 rw [<- HR hb]
 have e:=rH (jV (t:=t) hb) (m9 hb)
 exact ⟨by rw [<- e];exact intBits_le_of_natAbs (oa hb) h1,by rw [<- e];exact intBits_le_of_natAbs (og hb) h2⟩
theorem Og {t b:Int}{k:Nat}{r:Rat}(hb:b≠0)(e:low t b=qr r)(h1:intBits t<=k)(h2:intBits b<=k):Sz k r:=by
 have z:=g7 (t:=t) hb
 rw [z] at e
 have:=g8 e
 rw [<- this]
 exact IQ hb h1 h2
theorem Sz.add {k l:Nat}{a b:Rat}(ha:Sz k a)(hb:Sz l b):Sz (k+l+1) (a+b):=
 Og (af_ (ahA (eJ a) (eJ b))) (QL a b) (B_ (intBits_mul_le ha.top hb.bot) (by rw [ait];exact intBits_mul_le hb.top ha.bot)) (aiy (intBits_mul_le ha.bot hb.bot))
theorem Sz.sub {k l:Nat}{a b:Rat}(ha:Sz k a)(hb:Sz l b):Sz (k+l+1) (a - b):=
 Og (af_ (ahA (eJ a) (eJ b))) (IP a b) (B' (intBits_mul_le ha.top hb.bot) (by rw [ait];exact intBits_mul_le hb.top ha.bot)) (aiy (intBits_mul_le ha.bot hb.bot))
theorem oJ {i:Int}{k:Nat}(h:i.natAbs < 2^k)(hk:1<=k):Sz k (i:Rat):=by
 refine ⟨?_,?_⟩
 ·rw [oI]
  exact intBits_le_iff.mpr h
 ·rw [oI]
  refine intBits_le_iff.mpr ?_
  show 1 < 2^k
  exact Nat.one_lt_two_pow (by omega)
def nq (K:Frag)(H:Hp)(v:V)(r:Rat):Prop:=oG K H v (qr r)
def fY (K:Frag)(H:Hp)(v:V)(p:Rat×Rat):Prop:=∃a u1 u2,v=.ref a/\bQ K H a [u1,u2]/\nq K H u1 p.1/\nq K H u2 p.2
section
variable {K:Frag}{H H' :Hp}{v:V}{r:Rat}{p:Rat×Rat}
theorem nq.bg (h:nq K H v r)(s:bx H H'):nq K H' v r:=oG.bg h s
theorem nq.same (h:nq K H v r)(s:av H H'):nq K H' v r:=oG.same h s
theorem fY.bg (h:fY K H v p)(s:bx H H'):fY K H' v p:=by
 obtain ⟨a,u1,u2,e,h1,h2,h3⟩:=h
 exact ⟨a,u1,u2,e,s.cG h1,h2.bg s,h3.bg s⟩
theorem fY.same (h:fY K H v p)(s:av H H'):fY K H' v p:=h.bg (.of s)
abbrev jB (p:Rat×Rat):Pt:=(qr p.1,qr p.2)
theorem fY.Uo (h:fY K H v p):Spot K H v (jB p):=h
def g9 (K:Frag)(H:Hp)(us:η)(ps:Ζ):Prop:=Paired (fY K H) us ps
theorem g9.bg {us:η}{ps:Ζ}(h:g9 K H us ps)(s:bx H H'):g9 K H' us ps:=Paired.bP h fun _ _ z=>z.bg s
theorem g9.same {us:η}{ps:Ζ}(h:g9 K H us ps)(s:av H H'):g9 K H' us ps:=h.bg (.of s)
end
section
variable {X:Cx}
theorem zw {pins:ε}{σ:L2.St}{H:Hp}{s:Shared}{v:V}{p q:Rat×Rat}(I:Inv X pins σ H s)(h1:fY X.K H v p)(h2:fY X.K H v q):p=q:=by
 obtain ⟨a,u1,u2,rfl,t1,⟨b1,rfl,n1⟩,b2,rfl,n2⟩:=h1
 obtain ⟨a',w1,w2,e,t2,⟨c1,rfl,m1⟩,c2,rfl,m2⟩:=h2
 cases e
 cases I.gD t1 t2
 have e1:=I.gD n1 m1
 have e2:=I.gD n2 m2
 simp only [List.cons.injEq,V.int.injEq,and_true] at e1 e2
 exact ahy (g8 (ahy e1.1 e1.2)) (g8 (ahy e2.1 e2.2))
def Up (K:Frag)(neg:Bool):R2:=fun x y H Q=>∃p l us ps,y=.ref l/\aZ K H l us/\fY K H x p/\g9 K H us ps/\Q (.bl (if neg then !decide (p∈ps) else decide (p∈ps))) H
theorem Uq {pins:ε}{σ:L2.St}{H:Hp}{s:Shared}{A:Around}{x:V}{v:Value}{p:Rat×Rat}{us:η}{its:ο}{ps:Ζ}(I:Inv X pins σ H s)(hu:A.units+60 < cLine)(hx:fY X.K H x p)(rx:RelV x v)(hp:g9 X.K H us ps)(rv:Vals us its):
  ∃e:Value->Bool,(∀y,y∈its.toArray->SeqAt.EqAt A s y v (e y))/\its.toArray.any e=decide (p∈ps):=by
 have key:∀(j:Nat) (y:Value),its[j]? =some y->∃u q,us[j]? =some u/\ps[j]? =some q/\RelV u y/\fY X.K H u q:=fun j y ey=>by
  obtain ⟨u,eu,ru⟩:=aY (bR rv) ey
  obtain ⟨q,eq,hq⟩:=aY hp eu
  exact ⟨u,q,eu,eq,ru,hq⟩
 refine ⟨fun y=> @decide (∃u q,RelV u y/\fY X.K H u q/\q=p) (abN _),fun y hy=>?_,?_⟩
 ·obtain ⟨j,hj,ey⟩:=abO.mp (by simpa using hy:y∈its)
  obtain ⟨u,q,eu,eq,ru,hq⟩:=key j y (by rw [gE hj,ey])
  have z:=zh (A:=A) I (.t (dR (jB q))) (.t (dR (jB p))) u x y v hq.Uo.is hx.Uo.is (by unfold alike;exact ma _ _) ru rx (by have:=kT (jB q);unfold dep;simp only [dR,gx,dep] at this ⊢;omega)
  have e:gZ (.t (dR (jB q))) (.t (dR (jB p)))= @decide (∃u q,RelV u y/\fY X.K H u q/\q=p) (abN _):=by
   unfold gZ
   rw [vq]
   by_cases c:q=p
   ·subst c
    rw [decide_eq_true rfl]
    symm
    exact @decide_eq_true _ (abN _) ⟨u,q,ru,hq,rfl⟩
   ·rw [decide_eq_false (fun z=>c (ahy (g8 (congrArg anX z)) (g8 (congrArg an_ z))))]
    symm
    refine @decide_eq_false _ (abN _) fun ⟨u',q',ru',uO,e'⟩=>?_
    obtain ⟨a,_,_,rfl,_⟩:=id hq
    obtain ⟨a',_,_,rfl,_⟩:=id uO
    have r1:y=Value.ref a:=ru
    have r2:y=Value.ref a' :=ru'
    rw [r1] at r2
    cases r2
    exact c ((zw I hq uO).trans e')
  rw [e] at z
  exact z
 ·rw [ab5,decide_eq_true_iff]
  simp only [List.any_toArray,aht]
  constructor
  ·rintro ⟨y,hy,ey⟩
   obtain ⟨j,hj,ej⟩:=abO.mp hy
   obtain ⟨u,q,eu,eq,ru,hq⟩:=key j y (by rw [gE hj,ej])
   obtain ⟨u',q',ru',uO,e'⟩:= @of_decide_eq_true _ (abN _) ey
   obtain ⟨a,_,_,rfl,_⟩:=id hq
   obtain ⟨a',_,_,rfl,_⟩:=id uO
   have r1:y=Value.ref a:=ru
   have r2:y=Value.ref a' :=ru'
   rw [r1] at r2
   cases r2
   rw [<- e', <- zw I hq uO]
   exact aaa eq
  ·intro hm
   obtain ⟨j,hj,ej⟩:=abO.mp hm
   have lu:us.length=ps.length:=Paired.length hp
   have li:us.length=its.length:=rv.length
   have Zx :j < its.length:=by omega
   refine ⟨its[j],aby Zx,?_⟩
   obtain ⟨u,q,eu,eq,ru,hq⟩:=key j its[j] (gE Zx)
   rw [gE hj,ej] at eq
   cases eq
   exact @decide_eq_true _ (abN _) ⟨u,p,ru,hq,rfl⟩
theorem LM (hu:X.A.units+64 < cLine):jk X (compareOp .In) (Up X.K false):=by
 intro pins s σ H x y v u Q I rx ry h
 obtain ⟨p,l,us,ps,rfl,hq,hx,hp,q⟩:=h
 cases ry
 obtain ⟨its,rv,pl,hz⟩:=I.list hq
 obtain ⟨e,he,ea⟩:=Uq (A:=X.A.in1) I (by rw [in1_units];omega) hx rx hp rv
 refine SeqAt.in_listAt e pl.isList he ⟨.bl _,H,I,rfl,?_⟩
 rw [ea]
 exact q
end
theorem g_ {α:Type}{R:(Str×α)->(Key×V)->Prop}{x:Str}{y:α}:∀{l:List (Str×α)} {kvs:δ},Paired (fun b kv=>kv.1=.inr b.1/\R b kv) l kvs->(l.map (·.1)).Nodup->(x,y)∈l->∃v,dJ kvs (.inr x)=some v/\R (x,y) (.inr x,v)
 | _::_,kv::_,.cons h t,nd,m=>by
  rw [aaR,abe] at nd
  rcases aa8.mp m with e | m
  ·subst e
   have h1:kv.1=.inr x:=h.1
   refine ⟨kv.2,eG h1,?_⟩
   have h2:=h.2
   rw [<- h1]
   exact h2
  ·obtain ⟨v,e,r⟩:=g_ t nd.2 m
   refine ⟨v,?_,r⟩
   rw [cF (fun z=>?_)]
   ·exact e
   ·rw [h.1] at z
    exact nd.1 (abV z▸aaj.mpr ⟨_,m,rfl⟩)
def qa (K:Frag)(H:Hp)(pw:Θ)(kW:δ):Prop:=
 Paired (fun (p:Str×List (Rat×Rat)) (kv:Key×V)=>kv.1=.inr p.1/\∃l us,kv.2=.ref l/\H l=some (.lst us)/\g9 K H us p.2) pw kW
theorem qa.same {K:Frag}{H H' :Hp}{pw:Θ}{kW:δ}(h:qa K H pw kW)(s:av H H'):qa K H' pw kW:=
 Paired.bP h fun _ _ z=>⟨z.1,by obtain ⟨l,us,e1,e2,e3⟩:=z.2;exact ⟨l,us,e1,s _ _ e2,e3.same s⟩⟩
theorem qa.dict {K:Frag}{H:Hp}{pw:Θ}{kW kvs:δ}{d:Addr}{o:HO}(h:qa K H pw kW)(e:H d=some (.dK kvs)):qa K (upd H d o) pw kW:=
 Paired.bP h fun _ _ z=>⟨z.1,by
  obtain ⟨l,us,e1,e2,e3⟩:=z.2
  exact ⟨l,us,e1,by rw [aq (fun q=>by rw [q,e] at e2;cases e2)];exact e2,e3.bg (.dict e)⟩⟩
theorem qa.keys {K:Frag}{H:Hp}{pw:Θ}{kW:δ}(h:qa K H pw kW):kW.map (·.1)=(pw.map (·.1)).map (fun b=>(acp b:Key)):=by
 rw [fC h,aa5]
 rfl
theorem eg.ends {K:Frag}{H:Hp}{C a dx pP pW pB:Addr}{ps:Η}{bs:υ}{kP kW kB:δ}(R:eg K H C a dx pP pW pB ps bs kP kW kB)(nd:(bs.map (·.1)).Nodup){x one other:Str}(m:(x,one,other)∈bs):
  ∃p,dJ kB (.inr x)=some (.ref p)/\Rd H p (.tup [.str one,.str other]):=by
 obtain ⟨v,e,p,ep,r⟩:=g_ R.rb nd m
 have uw :v=.ref p:=ep
 exact ⟨p,by rw [e,uw],r⟩
theorem eg.place {K:Frag}{H:Hp}{C a dx pP pW pB:Addr}{ps:Η}{bs:υ}{kP kW kB:δ}(R:eg K H C a dx pP pW pB ps bs kP kW kB)(nd:(ps.map (·.1)).Nodup){x:Str}{p:Pt}(m:(x,p)∈ps):
  ∃v,dJ kP (.inr x)=some v/\Spot K H v p:=g_ R.rp nd m
end Ty
namespace Ty
open PySem PySem.Spec PyProof.Rows L2
structure aJ where
 nm:Str
 sp:Rat×Rat
 ws:List (Rat×Rat)
abbrev _root_.π:=List aJ
structure ba where
 nm:Str
 one:aJ
 other:aJ
abbrev _root_.ς:=List ba
structure vw (K:Frag)(H:Hp)(C a:Addr)(pins:π)(bars:ς):Prop where
 ex:∃(dx pP pW pB:Addr) (kP kW kB:δ),eg K H C a dx pP pW pB (pins.map fun p=>(p.nm,jB p.sp)) (bars.map fun b=>(b.nm,b.one.nm,b.other.nm)) kP kW kB/\qa K H (pins.map fun p=>(p.nm,p.ws)) kW
structure c7 (pins:π)(bars:ς):Prop where
 np:(pins.map (·.nm)).Nodup
 nb:(bars.map (·.nm)).Nodup
 ends:∀b∈bars,b.one∈pins/\b.other∈pins/\b.one.nm≠b.other.nm
 sz:∀p∈pins,Sz 44 p.sp.1/\Sz 44 p.sp.2/\∀w∈p.ws,Sz 22 w.1/\Sz 22 w.2
 lp:pins.length<=9
 lb:bars.length<=60
 lw:∀p∈pins,p.ws.length<=2
theorem vw.same {K:Frag}{H H' :Hp}{C a:Addr}{pins:π}{bars:ς}(h:vw K H C a pins bars)(s:av H H'):vw K H' C a pins bars:=by
 obtain ⟨dx,pP,pW,pB,kP,kW,kB,R,W⟩:=h.ex
 exact ⟨dx,pP,pW,pB,kP,kW,kB,R.same s,W.same s⟩
def SH (K:Frag)(H:Hp)(kvs:δ)(F:ω):Prop:=
 ∀nm,(dJ kvs (.inr nm)=none/\F nm=none)\/∃v p,dJ kvs (.inr nm)=some v/\F nm=some p/\fY K H v p
section
variable {K:Frag}{H H' :Hp}{kvs:δ}
theorem SH.same {F:ω}(h:SH K H kvs F)(s:av H H'):SH K H' kvs F:=fun nm=>by
 rcases h nm with h | ⟨v,q,h1,h2,h3⟩
 ·exact .inl h
 ·exact .inr ⟨v,q,h1,h2,h3.same s⟩
theorem SH.aa0 {F:ω}(h:SH K H kvs F){x:Str}{v:V}{q:Rat×Rat}(n:fY K H v q):fY K H ((dJ kvs (.inr x)).getD v) ((F x).getD q):=by
 rcases h x with ⟨h1,h2⟩ | ⟨u,q',h1,h2,h3⟩
 ·rw [h1,h2]
  exact n
 ·rw [h1,h2]
  exact h3
end
end Ty
namespace Ty
open PySem PySem.Spec PyProof.Rows L2
end Ty
namespace Ty
open PySem PySem.Spec PyProof.Rows L2
theorem QM {α:Type}{nm:α->Str}{l:List α}(nd:(l.map nm).Nodup){b b' :α}(h:b∈l)(h' :b' ∈l)(e:nm b=nm b'):b=b' :=by
 obtain ⟨i,hi,ei⟩:=abO.mp h
 obtain ⟨j,hj,ej⟩:=abO.mp h'
 have q1:(l.map nm)[i]? =some (nm b):=by rw [Wp,gE hi,ei];rfl
 have q2:(l.map nm)[j]? =some (nm b):=by rw [Wp,gE hj,ej,e];rfl
 have ij:=(acK (by rw [ir];exact hi) nd).mp (q1.trans q2.symm)
 subst ij
 rw [<- ei, <- ej]
theorem vx {α:Type}{nm:α->Str}{l:List α}(nd:(l.map nm).Nodup){i:Nat}{b b' :α}(h:l[i]? =some b)(m:b' ∈l.take i):nm b' ≠nm b:=fun e=>by
 have il:=(be.mp h).1
 obtain ⟨j,hj,ej⟩:=abO.mp m
 rw [aiz] at ej
 rw [abd] at hj
 have q1:(l.map nm)[j]? =some (nm b):=by rw [Wp,gE (by omega),ej, <- e];rfl
 have q2:(l.map nm)[i]? =some (nm b):=by rw [Wp,h];rfl
 have:=(acK (by rw [ir];omega) nd).mp (q1.trans q2.symm)
 omega
theorem take_snoc {α:Type}{l:List α}{i:Nat}{b:α}(h:l[i]? =some b):l.take (i+1)=l.take i++[b]:=by rw [aiA,h];rfl
end Ty
namespace Ty
open PySem PySem.Spec PyProof.Rows L2
theorem oK {H1 H2 H3:Hp}(a:av H1 H2)(b:av H2 H3):av H1 H3:=fun c o z=>b _ _ (a _ _ z)
theorem kX {H H' :Hp}(s:av H H'){p:Addr}(n:H' p=none):H p=none:=by
 cases e:H p with
 | none=>rfl
 | some o=>rw [s _ _ e] at n;cases n
end Ty
namespace Ty
open PySem PySem.Spec PyProof.Rows L2
section
variable {X:Cx}
end
section
variable {D:Addr}{te:TE}{cap:L2.St}{H1:Hp}{Q:VK}
end
abbrev fZ (h:Heap)(z TI TO:Addr)(f0:Value)(fb:Bool):Prop:=
 h.get? z=some {cls:=.type "zip",dict:=none,data:=.fields #[f0,.bool fb,.bool false,.ref TI,.ref TO],slots:= #[]}
section
variable {prog:Program}{w:World}{A:Around}{E:γ}{s:Shared}
theorem vy {a:Addr}{o:Obj}{Q:Option Obj->Shared->Prop}(h:s.heap.get? a=some o)(q:Q (some o) s):wpAny (model prog w) A (loadIfAlive a) Q E s:=fun Γ p _=>by
 show Sem.wp _ _ (.loadIfAlive a .pure) _ _ _ _
 rw [Sem.wp_loadIfAlive,h]
 exact q
theorem vA {z TI TO T:Addr}{fb:Bool}{o:Obj}{Q:Bool->Shared->Prop}(hz:fZ s.heap z TI TO (rawInt T) fb)(hT:s.heap.get? T=some o)
  (hQ:∀h',fZ h' z TI TO (rawInt T) true->Heap.SameBut z s.heap h' ->Q false {s with heap:=h' }):wpAny (model prog w) A (Builtin.SmallTypes.ownedTupleIsFree (.ref z)) Q E s:=by
 unfold Builtin.SmallTypes.ownedTupleIsFree
 refine wpAny_bind (wpAny_field hz rfl (x:=rawInt T) rfl ?_)
 show wpAny _ _ (loadIfAlive ((T:Int)).toNat >>=_) _ _ _
 refine wpAny_bind (vy (o:=o) (by simpa using hT) ?_)
 simp only [Option.isNone_some,ahi,if_false]
 refine wpAny_bind (wpAny_field hz rfl (x:=.bool fb) rfl ?_)
 cases fb with
 | true=>
  show wpAny _ _ (if (Value.bool true !=Value.bool true)=true then _ else _) _ _ _
  rw [if_neg (by decide)]
  exact wpAny_pure (hQ s.heap hz ⟨rfl,fun _ _=>rfl⟩)
 | false=>
  show wpAny _ _ (if (Value.bool false !=Value.bool true)=true then _ else _) _ _ _
  rw [if_pos (by decide)]
  refine wpAny_bind (wpAny_setField_rec hz (by simp) fun h' hz' N7 =>wpAny_pure (hQ h' hz' N7))
theorem CA {z TI TO T i1 i2 l1 l2:Addr}{fb:Bool}{o:Obj}{k1 k2:Nat}{xs ys:Λ}{x y:Value}{Q:γ}(D:ZipApart z TI TO i1 i2 l1 l2)
  (hz:fZ s.heap z TI TO (rawInt T) fb) (hT:s.heap.get? T=some o) (jy:IsPair s.heap TI (.ref i1) (.ref i2))
  (h1:s.heap.IsListIter i1 l1 k1) (h2:s.heap.IsListIter i2 l2 k2) (zA:s.heap.IsList l1 xs) (xa:s.heap.IsList l2 ys) (hx:xs[k1]? =some x) (hy:ys[k2]? =some y)
  (hQ:∀h',fZ h' z TI TO (rawInt T) true->h'.IsListIter i1 l1 (k1+1)->h'.IsListIter i2 l2 (k2+1)->IsPair h' s.heap.objs.size x y->h'.objs.size=s.heap.objs.size+1->
   (∀c o,c≠z->c≠i1->c≠i2->s.heap.get? c=some o->h'.get? c=some o)->Q (.ref s.heap.objs.size) {s with heap:=h' }):
  wpAny (model prog w) A (Builtin.«zip.__next__» ⟨[.ref z],[]⟩) (fun fin s' =>∃v,fin=.done (.ret v)/\Q v s') E s:=by
 show wpAny _ _ (field (.ref z) 2 >>=_) _ _ _
 refine wpAny_bind (wpAny_field hz rfl (x:=.bool false) rfl ?_)
 show wpAny _ _ (field (.ref z) 3 >>=_) _ _ _
 refine wpAny_bind (wpAny_field hz rfl (x:=.ref TI) rfl ?_)
 refine wpAny_bind (wpAny_seqItems jy rfl ?_)
 show wpAny _ _ (Builtin.SmallTypes.ownedTupleIsFree (.ref z) >>=_) _ _ _
 refine wpAny_bind (vA hz hT fun h₁ hz₁ xE=>?_)
 simp only [ahi,if_false]
 refine wpAny_bind ?_
 show wpAny _ _ (forIn [Value.ref i1,Value.ref i2].toArray _ _) _ _ _
 rw [air]
 simp only [aiP,aie]
 refine wpAny_bind (wpAny_bind (wpAny_holding ?_))
 show wpAny _ _ (Builtin.SmallTypes.nextOf (.ref i1) >>=_) _ _ _
 refine wpAny_bind (wpAny_nextOf_list_item (h1.extBut xE.extBut D.i1z) (zA.extBut xE.extBut D.l1z) hx fun h₂ h1₂ IS=>wpAny_pure ?_)
 refine wpAny_pure ?_
 refine wpAny_bind (wpAny_bind (wpAny_holding ?_))
 show wpAny _ _ (Builtin.SmallTypes.nextOf (.ref i2) >>=_) _ _ _
 refine wpAny_bind (wpAny_nextOf_list_item ((h2.extBut xE.extBut D.i2z).extBut IS.extBut D.i12.symm) ((xa.extBut xE.extBut D.l2z).extBut IS.extBut D.l2i1) hy fun h₄ h2₄ SI=>wpAny_pure ?_)
 refine wpAny_pure (wpAny_pure ?_)
 refine wpAny_bind (wpAny_newTuple (hsz:=(by show 2<=sizeLine;decide)) ?_)
 have hsz:h₄.objs.size=s.heap.objs.size:=by rw [SI.1,IS.1,xE.1]
 refine wpAny_pure ⟨_,rfl,?_⟩
 have hz₄:fZ h₄ z TI TO (rawInt T) true:=SI.extBut _ _ D.i2z.symm (IS.extBut _ _ D.i1z.symm hz₁)
 show Q (.ref h₄.objs.size) _
 rw [hsz]
 refine hQ _ (Heap.get?_push_of_some _ hz₄) ((h1₂.extBut SI.extBut D.i12).at fun o e=>Heap.get?_push_of_some _ e) (h2₄.at fun o e=>Heap.get?_push_of_some _ e) ?_ (by rw [Heap.size_push,hsz]) fun c o c1 c3 c4 e=>Heap.get?_push_of_some _ (SI.extBut _ _ c4 (IS.extBut _ _ c3 (xE.extBut _ _ c1 e)))
 show (h₄.push _).get? _=_
 rw [<- hsz]
 exact Heap.get?_push_size _ rfl
theorem IT {z TI TO T i1 i2 l1 l2:Addr}{fb:Bool}{o:Obj}{k1 k2:Nat}{xs ys:Λ}{Q:Fin->Shared->Prop}(hh:A.handled=none)(D:ZipApart z TI TO i1 i2 l1 l2)
  (hz:fZ s.heap z TI TO (rawInt T) fb) (hT:s.heap.get? T=some o) (jy:IsPair s.heap TI (.ref i1) (.ref i2))
  (h1:s.heap.IsListIter i1 l1 k1) (h2:s.heap.IsListIter i2 l2 k2) (zA:s.heap.IsList l1 xs) (xa:s.heap.IsList l2 ys) (CB:xs[k1]? =none\/ys[k2]? =none)
  (hE:∀h' e,(∀c o,c≠z->c≠i1->c≠i2->s.heap.get? c=some o->h'.get? c=some o)->(∃o,h'.get? e=some o/\o.cls=.type "StopIteration")->E (.ref e) {s with heap:=h' }):
  wpAny (model prog w) A (Builtin.«zip.__next__» ⟨[.ref z],[]⟩) Q E s:=by
 show wpAny _ _ (field (.ref z) 2 >>=_) _ _ _
 refine wpAny_bind (wpAny_field hz rfl (x:=.bool false) rfl ?_)
 show wpAny _ _ (field (.ref z) 3 >>=_) _ _ _
 refine wpAny_bind (wpAny_field hz rfl (x:=.ref TI) rfl ?_)
 refine wpAny_bind (wpAny_seqItems jy rfl ?_)
 show wpAny _ _ (Builtin.SmallTypes.ownedTupleIsFree (.ref z) >>=_) _ _ _
 refine wpAny_bind (vA hz hT fun h₁ hz₁ xE=>?_)
 simp only [ahi,if_false]
 refine wpAny_bind ?_
 show wpAny _ _ (forIn [Value.ref i1,Value.ref i2].toArray _ _) _ _ _
 rw [air]
 simp only [aiP,aie]
 refine wpAny_bind (wpAny_bind (wpAny_holding ?_))
 show wpAny _ _ (Builtin.SmallTypes.nextOf (.ref i1) >>=_) _ _ _
 cases hx:xs[k1]? with
 | none=>
  refine wpAny_bind (wpAny_nextOf_list_end hh (h1.extBut xE.extBut D.i1z) (zA.extBut xE.extBut D.l1z) hx fun h₂ e IS he=>?_)
  exact hE h₂ e (fun c o c1 c3 _ x=>IS _ _ c3 (xE.extBut _ _ c1 x)) he
 | some x=>
  have hy:ys[k2]? =none:=by rcases CB with h | h;rw [hx] at h;cases h;exact h
  refine wpAny_bind (wpAny_nextOf_list_item (h1.extBut xE.extBut D.i1z) (zA.extBut xE.extBut D.l1z) hx fun h₂ h1₂ IS=>wpAny_pure ?_)
  refine wpAny_pure ?_
  refine wpAny_bind (wpAny_bind (wpAny_holding ?_))
  show wpAny _ _ (Builtin.SmallTypes.nextOf (.ref i2) >>=_) _ _ _
  refine wpAny_bind (wpAny_nextOf_list_end hh ((h2.extBut xE.extBut D.i2z).extBut IS.extBut D.i12.symm) ((xa.extBut xE.extBut D.l2z).extBut IS.extBut D.l2i1) hy fun h₄ e SI he=>?_)
  exact hE h₄ e (fun c o c1 c3 c4 x=>SI _ _ c4 (IS.extBut _ _ c3 (xE.extBut _ _ c1 x))) he
theorem xF {z TI TO T i1 i2 l1 l2:Addr}{fb:Bool}{o:Obj}{k1 k2:Nat}{xs ys:Λ}{x y:Value}{Q:Τ}(D:ZipApart z TI TO i1 i2 l1 l2)
  (hz:fZ s.heap z TI TO (rawInt T) fb) (hT:s.heap.get? T=some o) (jy:IsPair s.heap TI (.ref i1) (.ref i2))
  (h1:s.heap.IsListIter i1 l1 k1) (h2:s.heap.IsListIter i2 l2 k2) (zA:s.heap.IsList l1 xs) (xa:s.heap.IsList l2 ys) (hx:xs[k1]? =some x) (hy:ys[k2]? =some y)
  (hQ:∀h',fZ h' z TI TO (rawInt T) true->h'.IsListIter i1 l1 (k1+1)->h'.IsListIter i2 l2 (k2+1)->IsPair h' s.heap.objs.size x y->h'.objs.size=s.heap.objs.size+1->
   (∀c o,c≠z->c≠i1->c≠i2->s.heap.get? c=some o->h'.get? c=some o)->Q (some (.ref s.heap.objs.size)) {s with heap:=h' }):
  wpAny (model prog w) A (pyNext (.ref z)) Q E s:=by
 have Ur :s.TypeIs (.ref z) "zip":=⟨_,hz,rfl⟩
 unfold pyNext
 exact wpAny_bind (wpAny_attempt (wpAny_callSpecial?_slot (name:=Str.ofString "__next__") Ur F.slot_zip_next
  (wpAny_call_entry F.slot_zip_next Ur F.entry_zip_next
   (CA D hz hT jy h1 h2 zA xa hx hy fun h' a1 a3 a4 a5 a6 a7=>wpAny_pure (hQ h' a1 a3 a4 a5 a6 a7)) (F.args_zip_next_1 _))))
theorem CC {z TI TO T i1 i2 l1 l2:Addr}{fb:Bool}{o:Obj}{k1 k2:Nat}{xs ys:Λ}{Q:Τ}(hh:A.handled=none)(D:ZipApart z TI TO i1 i2 l1 l2)
  (hz:fZ s.heap z TI TO (rawInt T) fb) (hT:s.heap.get? T=some o) (jy:IsPair s.heap TI (.ref i1) (.ref i2))
  (h1:s.heap.IsListIter i1 l1 k1) (h2:s.heap.IsListIter i2 l2 k2) (zA:s.heap.IsList l1 xs) (xa:s.heap.IsList l2 ys) (CB:xs[k1]? =none\/ys[k2]? =none)
  (hQ:∀h',(∀c o,c≠z->c≠i1->c≠i2->s.heap.get? c=some o->h'.get? c=some o)->Q none {s with heap:=h' }):wpAny (model prog w) A (pyNext (.ref z)) Q E s:=by
 have Ur :s.TypeIs (.ref z) "zip":=⟨_,hz,rfl⟩
 unfold pyNext
 refine wpAny_bind (wpAny_attempt (wpAny_callSpecial?_slot (name:=Str.ofString "__next__") Ur F.slot_zip_next
  (wpAny_call_entry F.slot_zip_next Ur F.entry_zip_next (IT hh D hz hT jy h1 h2 zA xa CB fun h' e hk he=>?_) (F.args_zip_next_1 _))))
 obtain ⟨o,ho,hc⟩:=he
 refine wpAny_bind (wpAny_isInstance (T:="StopIteration") (b:=true) ⟨o,ho,hc⟩ isSubtype_stop ?_)
 exact wpAny_pure (hQ _ hk)
end
def KG (h:Heap)(z TI TO i1 i2 a b S:Addr)(i:Nat):Prop:=(fZ h z TI TO .none false\/∃(T:Addr) (o:Obj) (fb:Bool),fZ h z TI TO (rawInt T) fb/\h.get? T=some o/\T≠z/\T≠TO/\T≠i1/\T≠i2/\T≠S)/\IsPair h TI (.ref i1) (.ref i2)/\(∃x y,IsPair h TO x y)/\h.IsListIter i1 a i/\h.IsListIter i2 b i
section
variable {prog:Program}{w:World}{A:Around}{E:γ}{s:Shared}{z TI TO i1 i2 a b S:Addr}{i:Nat}
theorem KG.frame {h h' :Heap}(st:KG h z TI TO i1 i2 a b S i)(k:∀c o,c≠S->h.get? c=some o->h'.get? c=some o)(nz:z≠S)(n1:TI≠S)(n2:TO≠S)(n3:i1≠S)(n4:i2≠S):KG h' z TI TO i1 i2 a b S i:=by
 obtain ⟨hz,jy,⟨x,y,rC⟩,h1,h2⟩:=st
 refine ⟨?_,k _ _ n1 jy,⟨x,y,k _ _ n2 rC⟩,h1.at fun o e=>k _ o n3 e,h2.at fun o e=>k _ o n4 e⟩
 rcases hz with hz | ⟨T,o,fb,hz,hT,t1,t2,t3,t4,t5⟩
 ·exact .inl (k _ _ nz hz)
 ·exact .inr ⟨T,o,fb,k _ _ nz hz,k _ _ t5 hT,t1,t2,t3,t4,t5⟩
theorem KG.item {oS:Obj}{xs ys:Λ}{x y:Value}{Q:Τ}(D:ZipApart z TI TO i1 i2 a b)(st:KG s.heap z TI TO i1 i2 a b S i)(hS:s.heap.get? S=some oS)
  (zA:s.heap.IsList a xs) (xa:s.heap.IsList b ys) (hx:xs[i]? =some x) (hy:ys[i]? =some y)
  (hQ:∀h',KG h' z TI TO i1 i2 a b S (i+1)->IsPair h' s.heap.objs.size x y->(∀c o,c∉[z,TI,TO,i1,i2]->s.heap.get? c=some o->h'.get? c=some o)->Q (some (.ref s.heap.objs.size)) {s with heap:=h' }):
  wpAny (model prog w) A (pyNext (.ref z)) Q E s:=by
 obtain ⟨hz,jy,⟨x0,y0,rC⟩,h1,h2⟩:=st
 have lt:∀{c o},s.heap.get? c=some o->s.heap.objs.size≠c:=fun e=>ahH (Heap.lt_size e)
 have e1:∃o,s.heap.get? i1=some o:=by obtain ⟨o,e,_⟩:=h1;exact ⟨o,e⟩
 have e2:∃o,s.heap.get? i2=some o:=by obtain ⟨o,e,_⟩:=h2;exact ⟨o,e⟩
 obtain ⟨o1,e1⟩:=e1
 obtain ⟨o2,e2⟩:=e2
 have Us:∀{c:Addr},c∉[z,TI,TO,i1,i2]->c≠z/\c≠TI/\c≠TO/\c≠i1/\c≠i2:=fun h=>by simpa using h
 rcases hz with hz | ⟨T,o,fb,hz,hT,t1,t2,t3,t4,t5⟩
 ·refine wpAny_pyNext_zip_item D hz jy rC h1 h2 zA xa hx hy fun h' a1 a2 a3 a4 a5 a6 a7=>?_
  refine hQ h' ⟨.inr ⟨_,_,false,a1,a5,lt hz,lt rC,lt e1,lt e2,lt hS⟩,a7 _ _ D.TIz D.TITO D.TIi1 D.TIi2 jy,⟨_,_,a2⟩,a3,a4⟩ a5 fun c o hc e=>?_
  obtain ⟨c1,c2,c3,c4,c5⟩:=Us hc
  exact a7 c o c1 c3 c4 c5 e
 ·refine xF D hz hT jy h1 h2 zA xa hx hy fun h' a1 a3 a4 a5 a6 a7=>?_
  refine hQ h' ⟨.inr ⟨T,o,true,a1,a7 _ _ t1 t3 t4 hT,t1,t2,t3,t4,t5⟩,a7 _ _ D.TIz D.TIi1 D.TIi2 jy,⟨_,_,a7 _ _ D.TOz D.TOi1 D.TOi2 rC⟩,a3,a4⟩ a5 fun c o hc e=>?_
  obtain ⟨c1,c2,c3,c4,c5⟩:=Us hc
  exact a7 c o c1 c4 c5 e
theorem KG.fin {xs ys:Λ}{Q:Τ}(hh:A.handled=none)(D:ZipApart z TI TO i1 i2 a b)(st:KG s.heap z TI TO i1 i2 a b S i)
  (zA:s.heap.IsList a xs) (xa:s.heap.IsList b ys) (CB:xs[i]? =none\/ys[i]? =none)
  (hQ:∀h',(∀c o,c∉[z,TI,TO,i1,i2]->s.heap.get? c=some o->h'.get? c=some o)->Q none {s with heap:=h' }):wpAny (model prog w) A (pyNext (.ref z)) Q E s:=by
 obtain ⟨hz,jy,⟨x0,y0,rC⟩,h1,h2⟩:=st
 have Us:∀{c:Addr},c∉[z,TI,TO,i1,i2]->c≠z/\c≠TI/\c≠TO/\c≠i1/\c≠i2:=fun h=>by simpa using h
 rcases hz with hz | ⟨T,o,fb,hz,hT,t1,t2,t3,t4,t5⟩
 ·refine wpAny_pyNext_zip_end hh D hz jy rC h1 h2 zA xa CB fun h' kk=>hQ h' fun c o hc e=>?_
  obtain ⟨c1,c2,c3,c4,c5⟩:=Us hc
  exact kk c o c1 c3 c4 c5 e
 ·refine CC hh D hz hT jy h1 h2 zA xa CB fun h' kk=>hQ h' fun c o hc e=>?_
  obtain ⟨c1,c2,c3,c4,c5⟩:=Us hc
  exact kk c o c1 c4 c5 e
end
end Ty
namespace Ty
open PySem PySem.Spec PyProof.Rows L2
section
variable {X:Cx}{pins:ε}{σ:L2.St}
theorem CD {H:Hp}{p:Addr}(h:H p=none)(o:HO):av H (upd H p o):=fun b u q=>by rw [aq (ao q h)];exact q
end
section
variable {X:Cx}
section
variable {k:Nat}{m:Str}{pos apos:Pos}{e o:Expr}{es:χ}{ta:TE}{t:TA}
end
end
section
variable {P:Program}{w:World}{K:Frag}{mg:ι}{base:Heap}
end
theorem LN (l:Addr)(its:Λ)(n:Nat)(b:Addr)(dh:Λ)(n2:Nat)(d:Ι)(sl:Κ)(hs0:¬(!its.isEmpty && Builtin.List.listTooLong (its.size+dh.size))=true)(hs1:its.size<=sizeLine)(Kz:its.size+dh.size<=sizeLine+1):
  Meets (Builtin.«list.extend» ⟨[.ref l,.ref b],[]⟩) (fun _ R s=>s.heap.get? l=some {cls:=.type "list",dict:=none,data:=.seq its n,slots:= #[]}/\s.heap.get? b=some {cls:=.type "tuple",dict:=d,data:=.seq dh n2,slots:=sl}/\
   R (.ok (.ret Value.none)) {s with heap:=s.heap.update l (Obj.mapSeq fun x=>x++dh),toks:=s.toks}):=
 .of_wp fun prog w A R s h=>by
  obtain ⟨hp,g,dd,tk,os⟩:=s
  obtain ⟨hl,hb,h⟩:=h
  have f1:=AutoSeq1.idx_int
  have f2:=AutoSeq1.sub_tuple_tuple
  have f3:=AutoSeq1.sub_list_list
  have f4:=AutoSeq1.sub_tuple_list
  have f5:=AutoSeq1.sub_list_tuple
  have hz' :(its++dh).size<=sizeLine+1:=by rw [Array.size_append];exact Kz
  wp_walk using (wpAny_updateSeq hl rfl (hz:=hs1) (_hz' :=hz')),wpAny_loadPart' hl,wpAny_loadPart' hb
  exact ⟨_,rfl,h⟩
section
variable {X:Cx}
def Ut (K:Frag):V->List V->Hp->VK->Prop:=fun x vs H Q=>∃l b xs zs,x=.ref l/\vs=[.ref b]/\H l=some (.lst xs)/\bQ K H b zs/\xs.length+zs.length<=1000/\Q .cI (upd H l (.lst (xs++zs)))
theorem LO:MtR X "list.extend" (Ut X.K):=by
 intro pins s σ H x vs v us Q I rx rv h
 obtain ⟨l,b,xs,zs,rfl,rfl,hH,hB,hz,q⟩:=h
 cases rx
 obtain ⟨u,rfl,ru⟩:=rv.one
 cases ru
 obtain ⟨z,its,n,r,hl,e⟩:=I.jT hH
 obtain ⟨dh,r2,tp,z2⟩:=I.tuple hB
 have xa:=r2.length
 have big:(1000:Nat)<=sizeLine:=by decide
 have hsz:its.toArray.size+dh.toArray.size<=sizeLine:=by rw [aaW,aaW];omega
 have uT:¬ (!its.toArray.isEmpty && Builtin.List.listTooLong (its.toArray.size+dh.toArray.size))=true:=by
  rw [nZ hsz,ahn]
  exact aaX
 obtain ⟨⟨c,d,dt,sl⟩,e2,hc,n2,hd⟩:=tp
 obtain rfl:c=Value.type "tuple":=hc
 obtain rfl:dt=_:=hd
 refine call_meets F.slot_list_extend ⟨_,e,rfl⟩ F.entry_list_extend (F.args_list_extend_2 _ _)
  (LN l its.toArray n b dh.toArray n2 d sl uT (by rw [aaW];omega) (by omega)) ⟨e,e2,?_⟩
 refine ⟨.cI,_,I.Ls (its' :=its++dh) hH e (by simp) (r.append r2) ?_,rfl,q⟩
 rw [aat]
 omega
end
theorem sU:typeLookup (.type "zip") "__getattr__"=pure none:=by rw [typeLookup_type,builtinLookup_eq_fast];kernel_rfl
theorem CG:typeLookup (.type "zip") "keys"=pure none:=by rw [typeLookup_type,builtinLookup_eq_fast];kernel_rfl
theorem xG:entryFor table "zip.__getattribute__"=some Builtin.«object.__getattribute__»:=
 entryFor_alias (id' :="object.__getattribute__") (by kernel_rfl) (by decide+kernel) (by decide+kernel) (by kernel_rfl)
theorem md:entryFor table "dict.update.loop"=some Builtin.«dict.update.loop»:=entryFor_of_tree (by kernel_rfl)
theorem gm:plainId "dict.update.loop"=true:=by decide+kernel
theorem IU (a:Addr)(vs:Λ)(u:Tok):
  Meets (Builtin.«object.__getattribute__» ⟨[.ref a,.str "keys" u],[]⟩) (fun A R s=>s.heap.get? a=some {cls:=.type "zip",dict:=none,data:=.fields vs,slots:= #[]}/\raisesAttr (.ref a) "keys" A R s):=
 Meets.of_wp fun prog w A R s hs=>by
  obtain ⟨hp,g,d,tk,os⟩:=s
  obtain ⟨hx,hs⟩:=hs
  have hT:(⟨hp,g,d,tk,os⟩:Shared).TypeIs (.ref a) "zip":=⟨_,hx,rfl⟩
  have hm:=CG
  unfold Builtin.«object.__getattribute__»
  repeat (any_goals (first | (assumption) | wp_step))
  exact wpAny_raiseAttrError hs.1 hs.2 (attrMsg_fits (by decide+kernel) (by decide+kernel))
section
variable {prog:Program}{w:World}{A:Around}{E:γ}{s:Shared}
theorem vB {z:Addr}{vs:Λ}{Q:Τ}(hx:s.heap.get? z=some {cls:=.type "zip",dict:=none,data:=.fields vs,slots:= #[]})(hA:A.handled=none)
  (h:∀h' tk,(∀b o,s.heap.get? b=some o->h'.get? b=some o)->Q none {s with heap:=h',toks:=tk}):wpAny (model prog w) A (getAttr? (.ref z) "keys") Q E s:=by
 obtain ⟨hp,g,d,tk,os⟩:=s
 have hT:∀tk',(⟨hp,g,d,tk',os⟩:Shared).TypeIs (.ref z) "zip":=fun _=>⟨_,hx,rfl⟩
 have f1:=sub_AttributeError
 have f3:=F.slot_zip_getattribute.lookup
 have f4:=F.slot_zip_getattribute.bind (.ref z)
 have f5:=sU
 unfold getAttr? getAttrBy? getAttrBy
 repeat (any_goals (first | (assumption) | exact hT _ | ((with_reducible show wpAny _ _ (call (Value.builtin "zip.__getattribute__") _ _) _ _ _);refine call_meets F.slot_zip_getattribute (hT _) xG (F.args_zip_getattribute_2 _ _) (IU z vs _) ⟨hx,hA,fun h' tk' e yY =>?_⟩) | wp_step))
 obtain ⟨t',u',he⟩:=yY.there
 show wpAny _ _ (getattributeRaised _ _ _ _ _ _ _) _ _ _
 unfold getattributeRaised
 repeat (any_goals (first | (assumption) | wp_step))
 exact h _ _ yY.keeps
theorem ql {z TI TO:Addr}{f0:Value}{Q:γ}(hA:A.in1.in1.handled=none)(hz:IsZip s.heap z TI TO f0)
  (hL:∀(h' :Heap) (tk:Nat) (R:Ξ),(∀b o,s.heap.get? b=some o->h'.get? b=some o)->h'.get? s.heap.objs.size=some {cls:=.type "dict",data:=.dict #[]}->
   (∀s',Q (.ref s.heap.objs.size) s' ->R (.ok (.ret .none)) s')->codeAny (model prog w) A.in1 (.builtin "dict.update.loop" ⟨[.ref s.heap.objs.size,.ref z,rawInt 0,.none],[]⟩) R {s with heap:=h',toks:=tk}):
  wpAny (model prog w) A (call (.type "dict") [.ref z]) Q E s:=by
 refine callType_codes (Q₁:=fun obj s₁=>obj=.ref s.heap.objs.size/\s₁={s with heap:=s.heap.push {cls:=.type "dict",data:=.dict #[]}}) F.kt_called_dict (F.kt_typeCall_dict_1 _) F.entry_dict_init (kt_code_dict_new _ ⟨rfl,rfl⟩) ?_
 rintro obj s₁ ⟨rfl,rfl⟩
 have hS:(s.heap.push {cls:=.type "dict",data:=.dict #[]}).get? s.heap.objs.size=some {cls:=.type "dict",data:=.dict #[]}:=Heap.get?_push_size _ rfl
 have k0:∀b o,s.heap.get? b=some o->(s.heap.push {cls:=.type "dict",data:=.dict #[]}).get? b=some o:=fun b o e=>Heap.get?_push_of_some _ e
 generalize hN:s.heap.objs.size=S at hS hL ⊢
 generalize s.heap.push {cls:=.type "dict",data:=.dict #[]}=hp at hS k0 ⊢
 have QN:hp.get? z=_:=k0 _ _ hz
 have hTS:Shared.TypeIs {s with heap:=hp} (.ref S) "dict":=⟨_,hS,rfl⟩
 have hT:Shared.TypeIs {s with heap:=hp} (.ref z) "zip":=⟨_,QN,rfl⟩
 refine ⟨hTS,F.args_dict_init_2 _ _,?_⟩
 unfold Builtin.«dict.__init__»
 refine wpAny_bind ?_
 unfold Builtin.Dict.selfAndRest
 refine wpAny_bind (wpAny_notOrdered_dict hTS ?_)
 refine wpAny_pure ?_
 show wpAny _ _ (Builtin.Dict.updateFrom "dict.__init__" S (.ref z) [] .none) _ _ _
 unfold Builtin.Dict.updateFrom
 refine wpAny_bind (wpAny_typeOf hT ?_)
 rw [if_pos (by decide)]
 refine wpAny_bind (vB (s:={s with heap:=hp}) QN hA fun h' tk k1=>?_)
 rw [if_pos (by rfl)]
 refine wpAny_bind (wpAny_rule ?_)
 have hz3:IsZip h' z TI TO f0:=k1 _ _ QN
 refine wpAny_bind (wpAny_pyIter_zip (s:={s with heap:=h',toks:=tk}) hz3 ?_)
 exact wpAny_pure ⟨plainId_quiet gm _,hL _ _ _ (fun b o e=>k1 _ _ (k0 _ _ e)) (k1 _ _ hS) fun s' hq=>⟨rfl,hq⟩⟩
end
section
variable {X:Cx}{pins:ε}{σ:L2.St}
theorem vC (kvs more:δ)(kv:Key×V):cL kvs (more++[kv])=putK (cL kvs more) kv.1 kv.2:=by
 unfold cL
 rw [List.foldl_append]
 rfl
theorem QO {z TI TO i1 i2 a b S:Addr}{A' :Around}{R:Ξ}{ks:List Key}{ys:η}{H0:Hp}(hh:A'.in1.handled=none)(D:ZipApart z TI TO i1 i2 a b)(na:a≠S)(nb:b≠S)(hk1:ks.length<=1000):
  ∀(k i:Nat) (s:Shared) (H:Hp),min ks.length ys.length - i=k->i<=min ks.length ys.length->Inv X pins σ H s->(∀c∈[z,TI,TO,i1,i2],kI X pins H c)->KG s.heap z TI TO i1 i2 a b S i->
  H a=some (.lst (ks.map kV))->H b=some (.lst ys)->H S=some (.dK (cL [] ((ks.zip ys).take i)))->aT S H0 H->
  (∀s' H',Inv X pins σ H' s' ->aT S H0 H' ->H' S=some (.dK (cL [] (ks.zip ys)))->R (.ok (.ret .none)) s')->
  codeAny (model X.prog X.w) A' (.builtin "dict.update.loop" ⟨[.ref S,.ref z,rawInt (i:Int),.none],[]⟩) R s:=by
 have apT:(ks.zip ys).length=min ks.length ys.length:=List.length_zip
 intro k
 induction k with
 | zero=>
  intro i s H hk hi I hf st ha hb hS CH hR
  refine codeAny_builtin md ?_
  rw [Around.under_plainId gm _]
  show wpAny _ A'.in1 (pyNext (.ref z) >>=_) _ _ s
  obtain ⟨z1,its,n1,r1,l1,e1⟩:=I.jT ha
  obtain ⟨z2,T5,n2,r2,l2,e2⟩:=I.jT hb
  rw [ir] at l1
  refine wpAny_bind (st.fin hh D ⟨_,e1,rfl,_,rfl⟩ ⟨_,e2,rfl,_,rfl⟩ ?_ fun h' kk=>?_)
  ·by_cases c:ks.length<=i
   ·exact .inl (by simp;omega)
   ·exact .inr (by simp;omega)
  ·rw [ab_ (by omega)] at hS
   exact wpAny_bind (wpAny_pure (wpAny_pure (hR _ H (Inv.m_ (t' :=s.toks) I kk hf) CH hS)))
 | succ k ih=>
  intro i s H hk hi I hf st ha hb hS CH hR
  refine codeAny_builtin md ?_
  rw [Around.under_plainId gm _]
  show wpAny _ A'.in1 (pyNext (.ref z) >>=_) _ _ s
  obtain ⟨z1,its,n1,r1,l1,e1⟩:=I.jT ha
  obtain ⟨z2,T5,n2,r2,l2,e2⟩:=I.jT hb
  have lx:i < ks.length:=by omega
  have ly:i < ys.length:=by omega
  obtain ⟨u,hu,ru⟩:=r1.get (i:=i) (x:=kV ks[i]) (by rw [Wp,gE lx];rfl)
  obtain ⟨v,hv,rv⟩:=r2.get (i:=i) (x:=ys[i]) (gE ly)
  obtain ⟨zS0,apU,vs0,apV,dd0⟩:=rE I.bL hS
  obtain ⟨oS,_,_,eS,_⟩:=id dd0
  refine wpAny_bind (st.item D eS ⟨_,e1,rfl,_,rfl⟩ ⟨_,e2,rfl,_,rfl⟩ (x:=u) (y:=v) (by simpa using hu) (by simpa using hv) fun h' jL ht kk=>?_)
  have SJ:∀c∈[z,TI,TO,i1,i2],c≠S:=fun c hc e=>by
   have:=(hf c hc).1
   rw [e,hS] at this
   cases this
  have I2:Inv X pins σ H {s with heap:=h',toks:=s.toks}:=Inv.m_ (t' :=s.toks) I kk hf
  obtain ⟨zS,hdS,vs,rel,dd⟩:=rE I2.bL hS
  have hT:Shared.TypeIs {s with heap:=h',toks:=s.toks} (.ref s.heap.objs.size) "tuple":=⟨_,ht,rfl⟩
  refine wpAny_bind (wpAny_holding ?_)
  refine wpAny_bind (wpAny_tryCatch ?_)
  unfold Builtin.Dict.pairItems
  refine wpAny_bind (wpAny_typeOf hT ?_)
  rw [if_pos (by decide)]
  refine wpAny_bind (wpAny_seqItems ht rfl (wpAny_pure ?_))
  show wpAny _ A'.in1 (holding [u,v] (dictSet S u v)) _ _ _
  refine wpAny_holding ?_
  have hlen:vs.length<=sizeLine:=by rw [<- rel.length];exact zS
  refine wpAny_dictSet_pairs (hsz:=hlen) (jX ru) dd fun h2 Tu sb=>?_
  have he:∃q,h2.get? S=some q:=let ⟨q,_,_,hq,_⟩:=Tu;⟨q,hq⟩
  have etk:(ks.zip ys).take (i+1)=(ks.zip ys).take i++[(ks[i],ys[i])]:=by
   rw [aiA]
   have:(ks.zip ys)[i]? =some (ks[i],ys[i]):=by rw [List.getElem?_zip_eq_some];exact ⟨gE lx,gE ly⟩
   rw [this]
   rfl
  have Uu:cL [] ((ks.zip ys).take (i+1))=putK (cL [] ((ks.zip ys).take i)) ks[i] ys[i]:=by rw [etk,vC]
  have hl:(putK (cL [] ((ks.zip ys).take i)) ks[i] ys[i]).length<=sizeLine:=by
   rw [<- Uu]
   have h1:=gB ((ks.zip ys).take (i+1)) []
   rw [abd,ah'] at h1
   exact aam (show (cL [] ((ks.zip ys).take (i+1))).length<=1000 by omega) (by decide)
  have I3:Inv X pins σ (upd H S (.dK (putK (cL [] ((ks.zip ys).take i)) ks[i] ys[i]))) {s with heap:=h2,toks:=s.toks+1}:=jY (s:={s with heap:=h',toks:=s.toks}) (t' :=s.toks+1) I2 (by rw [hS];exact True.intro) sb he (sM hl hdS (rel.put ks[i] rv) Tu)
  have kS:∀c o,c≠S->h'.get? c=some o->h2.get? c=some o:=fun c o n e=>(sb.2 c n).trans e
  refine wpAny_pure ⟨plainId_quiet gm _,?_⟩
  have nn:∀{c:Addr} {o:HO},H c=some o->c≠S->(upd H S (.dK (putK (cL [] ((ks.zip ys).take i)) ks[i] ys[i]))) c=some o:=fun {c o} e n=>by rw [aq n];exact e
  refine ih (i+1) _ _ (by omega) (by omega) I3 (fun c hc=>?_) (jL.frame kS (SJ z (by simp)) (SJ TI (by simp)) (SJ TO (by simp)) (SJ i1 (by simp)) (SJ i2 (by simp))) (nn ha na) (nn hb nb) (by rw [Uu,aj]) (fun c o n e=>nn (CH c o n e) n) hR
  obtain ⟨f0,f1,f2,f3,f4,f5⟩:=hf c hc
  exact ⟨by rw [aq (SJ c hc)];exact f0,f1,f2,f3,f4,f5⟩
def QP (ta:TA):TE:=fun σ H Q=>ta σ H fun vs H1=>∃(a b:Addr) (ks:List Key) (ys:η),vs=[.ref a,.ref b]/\H1 a=some (.lst (ks.map kV))/\H1 b=some (.lst ys)/\ks.length<=1000/\
 ∀(l:Addr) (H' :Hp),av H1 H' ->H1 l=none->H' l=some (.dK (cL [] (ks.zip ys)))->Q (.ref l) H'
theorem boot_dict:bootBuiltins "dict"=some (.type "dict"):=by decide+kernel
theorem IV {e1 e2:Expr}{ta:TA}{p pos p' pos' :Pos}(hc:X.calm=true)(hgl:Gl X "dict")(hml:X.mg "dict"=none)(hg:Gl X "zip")(hm:X.mg "zip"=none)(ha:PA X [e1,e2] ta)(hs:starEach [e1,e2] X.env=[(false,eval e1 X.env),(false,eval e2 X.env)]:=by rfl)(Kz:starEach [e2] X.env=[(false,eval e2 X.env)]:=by rfl)
  (Zs:starEach [(.Call (.Name "zip" p) [e1,e2] [] pos:Expr)] X.env=[(false,eval (.Call (.Name "zip" p) [e1,e2] [] pos) X.env)]:=by rfl):
  PE X (.Call (.Name "dict" p') [.Call (.Name "zip" p) [e1,e2] [] pos] [] pos') (QP ta):=by
 intro pins s σ H Q I h
 refine Call_ (iz I hgl hml boot_dict (PyProof.Rows.callWith_type1 ?_ Zs rfl))
 rw [Zs]
 show wpAny _ _ (spliced ((false,eval (.Call (.Name "zip" p) [e1,e2] [] pos) X.env)::[])) _ _ s
 refine Calls.spliced_cons ?_
 refine Call_ (iz I hg hm boot_zip (PyProof.Rows.callWith_type1 (bX (ha pos pins s σ H _ I h) fun us s1 ⟨vs,H1,I1,r1,q1⟩=>?_) (by rw [hs,Kz]) (by rw [Kz];rfl)))
 obtain ⟨a,b,ks,ys,e,hx,hy,hkl,q⟩:=q1
 subst e
 cases r1 with
 | cons r rr=>
  cases rr with
  | cons r' rr=>
   cases rr
   cases r
   cases r'
   obtain ⟨z1,its,n1,r1,l1,e1⟩:=I1.jT hx
   obtain ⟨z2,T5,n2,r2,l2,e2⟩:=I1.jT hy
   have lt1:a < s1.heap.objs.size:=Heap.lt_size e1
   have lt2:b < s1.heap.objs.size:=Heap.lt_size e2
   refine call_zip_2 ⟨_,e1,rfl,_,rfl⟩ ⟨_,e2,rfl,_,rfl⟩ fun h' hz jy rC T6 T7 hsz hk=>Calls.spliced_nil ?_
   have I2:Inv X pins σ H1 {s1 with heap:=h',toks:=s1.toks}:=I1.kept (t' :=s1.toks) hk
   have hS:=I2.bL.fresh (aas h'.objs.size)
   refine ql (s:={s1 with heap:=h' }) (I1.ok.hd hc) hz fun h2 tk R k2 Uv hR=>?_
   have lt' :mainGlobals < h'.objs.size:=(I2.mod.glob.keeps I2.bk).lt
   have ns:(h'.objs.size==sysModules)=false:=beq_eq_false_iff_ne.mpr (abb (aa' (ah3 (by decide) lt')))
   have I3:Inv X pins σ (upd H1 h'.objs.size (.dK [])) {s1 with heap:=h2,toks:=tk}:=I2.laid (t' :=tk) k2 (aas _) ⟨abj _,ns,[],.nil,_,_,_,Uv,⟨rfl,rfl,rfl⟩,rfl,fun _ he=>by simp at he,Pairs.nil,aif⟩
   have st:KG h2 (s1.heap.objs.size+4) (s1.heap.objs.size+2) (s1.heap.objs.size+3) s1.heap.objs.size (s1.heap.objs.size+1) a b h'.objs.size 0:=
    ⟨.inl (k2 _ _ hz),k2 _ _ jy,⟨_,_,k2 _ _ rC⟩,T6.at fun o e=>k2 _ o e,T7.at fun o e=>k2 _ o e⟩
   have na:a≠h'.objs.size:=ao hx hS
   have nb:b≠h'.objs.size:=ao hy hS
   have zB:=CD hS (.dK [])
   refine QO (A' :=X.A.in1) (H0:=H1) (ks:=ks) (ys:=ys) (I1.ok.hd hc) ?_ na nb hkl (min ks.length ys.length) 0 _ _ (by omega) (abj _) I3 (fun c' uA =>?_) st (zB _ _ hx) (zB _ _ hy) aj (fun b' o n e=>zB _ _ e) fun s' H' I' ks' QD =>hR s' ⟨.ref h'.objs.size,H',I',rfl,q _ H' (fun b' o e=>ks' b' o (ao e hS) e) hS QD⟩
   ·constructor <;> (intro z;simp only [Addr] at*;omega)
   ·have hc2:c' =s1.heap.objs.size+4\/c' =s1.heap.objs.size+2\/c' =s1.heap.objs.size+3\/c' =s1.heap.objs.size\/c' =s1.heap.objs.size+1:=by simpa using uA
    have hb:s1.heap.objs.size<=c' :=by
     simp only [Addr] at*
     omega
    have hb2:c' ≠h'.objs.size:=by
     rw [hsz]
     simp only [Addr] at*
     omega
    refine I1.qg hb ?_
    rw [aq hb2]
    exact I1.bL.fresh hb
end
theorem eT.snoc {K:Frag}{H:Hp}{us:η}{qs:τ}{v:V}{q:Int×Int}(h:eT K H us qs)(n:oG K H v q):eT K H (us++[v]) (qs++[q]):=by
 refine ⟨by simp [h.1],fun i u q' e1 e2=>?_⟩
 have l:=h.1
 by_cases c:i < us.length
 ·rw [aaS c] at e1
  rw [aaS (by omega)] at e2
  exact h.2 i u q' e1 e2
 ·rw [aa3 (by omega)] at e1 e2
  by_cases z:i - us.length=0
  ·rw [z] at e1
   rw [show i - qs.length=0 by omega] at e2
   cases e1
   cases e2
   exact n
  ·rw [aan (by simp;omega)] at e1
   cases e1
theorem eT.bg {K:Frag}{H H' :Hp}{us:η}{qs:τ}(h:eT K H us qs)(s:bx H H'):eT K H' us qs:=⟨h.1,fun i u q e1 e2=>(h.2 i u q e1 e2).bg s⟩
variable {X:Cx}
section
variable {X:Cx}{pins:ε}{σ:L2.St}{H:Hp}{s:Shared}
theorem xH {K:Frag}(h:X.K=K):jk X (compareOp .In) (rIn K false):=by subst h;exact rh
end
section
variable {X:Cx}
end
section
variable {D:Addr}{te:TE}{cap:L2.St}{H1:Hp}{Q:VK}
end
section
variable {X:Cx}{o e:Expr}{es:χ}{to:TE}{t:TA}{name:Str}{apos eA:Pos}{T id:String}{r:Φ}
end
theorem bx.ks {H H' :Hp}{D:Addr}{ys:η}(h0:H D=some (.lst ys))(ks:aT D H H'):bx H H' :=fun b xs r=>by
 rcases r with r | ⟨o',r⟩
 ·exact .inl (ks _ _ (fun e=>by rw [e,h0] at r;cases r) r)
 ·exact .inr ⟨o',ks _ _ (fun e=>by rw [e,h0] at r;cases r) r⟩
section
variable {X:Cx}{K:Frag}
end
section
variable {D:Addr}{te:TE}{cap:L2.St}{H1:Hp}{Q:VK}
end
end Ty
set_option maxHeartbeats 4000000
namespace Ty
theorem rJ {α:Type}[DecidableEq α]:∀{l m:List α},l.Nodup->(∀x∈l,x∈m)->l.length<=m.length
 | [],_,_,_=>abj _
 | x::l,m,h,k=>by
  obtain ⟨h1,h2⟩:=abe.mp h
  have hx:=k x aaK
  have:=rJ (l:=l) (m:=m.erase x) h2 fun y hy=>(List.mem_erase_of_ne (fun z:y=x=>h1 (by rw [<- z];exact hy))).mpr (k y (aaE _ hy))
  rw [List.length_erase_of_mem hx] at this
  have p:=List.length_pos_of_mem hx
  show l.length+1<=m.length
  omega
def box (B:Nat):Nat->List (List Int)
 | 0=>[[]]
 | n+1=>(box B n).flatMap fun y=>(abk (B+1)).map fun (a:Nat)=>(a:Int)::y
theorem zC {α:Type}(c:Nat):∀l:List α,(l.map fun _=>c).sum=l.length*c
 | []=>by simp
 | _::l=>by
  rw [aaR,ahY,zC c l,abf,ahV]
  omega
theorem sV (B:Nat):∀n,(box B n).length=(B+1)^n
 | 0=>rfl
 | n+1=>by
  have ih:=sV B n
  unfold box
  rw [List.length_flatMap]
  have:((box B n).map fun y=>((abk (B+1)).map fun (a:Nat)=>(a:Int)::y).length)=(box B n).map fun _=>B+1:=abI fun y _=>by rw [ir,abJ]
  rw [this,zC,ih,ahJ]
theorem rK (B:Nat):∀n,(box B n).Nodup
 | 0=>by simp [box]
 | n+1=>by
  have ih:=rK B n
  unfold box
  unfold List.Nodup at ih ⊢
  rw [List.pairwise_flatMap]
  refine ⟨fun y _=>?_,ih.imp fun {y1 y2} ne x hx z hz e=>?_⟩
  ·rw [ahW]
   exact ahu.imp fun {a b} ne e=>ne (by injection e with e _;exact Int.ofNat.inj e)
  ·obtain ⟨a,_,rfl⟩:=aaj.mp hx
   obtain ⟨b,_,rfl⟩:=aaj.mp hz
   injection e with _ e
   exact ne e
theorem i5 {B:Nat}:∀{n:Nat} {y:ν},y∈box B n ↔ y.length=n/\∀a∈y,0<=a/\a<=(B:Int)
 | 0,y=>by
  unfold box
  rw [aaT]
  constructor
  ·intro e
   rw [e]
   exact ⟨rfl,fun a h=>nomatch h⟩
  ·intro h
   exact ab4.mp h.1
 | n+1,y=>by
  unfold box
  rw [ag_]
  constructor
  ·rintro ⟨z,hz,hy⟩
   obtain ⟨a,ha,rfl⟩:=aaj.mp hy
   obtain ⟨h1,h2⟩:=(i5 (n:=n)).mp hz
   have:=abl.mp ha
   refine ⟨by simp [h1],fun b hb=>?_⟩
   rcases aa8.mp hb with e | e
   ·rw [e]
    omega
   ·exact h2 b e
  ·rintro ⟨h1,h2⟩
   match y,h1 with
   | a::z,h1=>
    have ha:=h2 a aaK
    refine ⟨z,(i5 (n:=n)).mpr ⟨by simpa using h1,fun b hb=>h2 b (aaE _ hb)⟩,aaj.mpr ⟨a.toNat,abl.mpr (show a.toNat < B+1 by omega),?_⟩⟩
    rw [show ((a.toNat:Nat):Int)=a by omega]
def gL:List Int->List Int->Int
 | a::e,b::y=>a*b+gL e y
 | _,_=>0
theorem vD:∀(e:ν) {y z:ν},y.length=z.length->gL e (ab' (fun a b=>a - b) y z)=gL e y - gL e z
 | [],y,z,h=>by simp [gL]
 | a::e,[],[],h=>by simp [gL]
 | a::e,b::y,c::z,h=>by
  have ih:=vD e (y:=y) (z:=z) (by simpa using h)
  rw [ah4]
  simp only [gL]
  rw [ih,Int.mul_sub]
  omega
theorem zD {A B:Nat}:∀{e y:ν},(∀a∈e,a.natAbs<=A)->(∀b∈y,b.natAbs<=B)->(gL e y).natAbs<=e.length*(A*B)
 | [],y,_,_=>by simp [gL]
 | a::e,[],_,_=>by simp [gL]
 | a::e,b::y,h1,h2=>by
  have ih:=zD (e:=e) (y:=y) (fun x hx=>h1 x (aaE _ hx)) fun x hx=>h2 x (aaE _ hx)
  simp only [gL]
  have m:(a*b).natAbs<=A*B:=by
   rw [ab0]
   exact abF (h1 a aaK) (h2 b aaK)
  have t:=ahp (a*b) (gL e y)
  rw [abf,ahV,aih]
  omega
theorem IW {n A:Nat}{eqs:ζ}(hn:eqs.length < n)(hA:1<=A)(he:∀e∈eqs,e.length=n/\∀a∈e,a.natAbs<=A):∃z:List Int,z.length=n/\(∃a∈z,a≠0)/\(∀a∈z,a.natAbs<=(2*n*A)^eqs.length)/\∀e∈eqs,gL e z=0:=by
 generalize hC:2*n*A=C
 generalize hB:C^eqs.length=B
 have c1:1<=C:=by
  rw [<- hC]
  exact abF (show 1<=2*n by omega) hA
 generalize hM:n*(A*B)=M
 have key:¬ ∀y∈box B n,∀z∈box B n,(eqs.map fun e=>gL e y+(M:Int))=(eqs.map fun e=>gL e z+(M:Int))->y=z:=by
  intro inj
  have nd:((box B n).map fun y=>eqs.map fun e=>gL e y+(M:Int)).Nodup:=by
   unfold List.Nodup
   rw [ahW]
   refine List.Pairwise.imp_of_mem (fun {y z} hy hz ne e=>ne (inj y hy z hz e)) (rK B n)
  have le:=rJ nd (m:=box (2*M) eqs.length) fun x hx=>by
   obtain ⟨y,hy,rfl⟩:=aaj.mp hx
   obtain ⟨ly,by'⟩:=i5.mp hy
   refine i5.mpr ⟨by simp,fun a ha=>?_⟩
   obtain ⟨e,Zy,rfl⟩:=aaj.mp ha
   have b1:=zD (A:=A) (B:=B) (he e Zy).2 (y:=y) fun b hb=>by
    have:=by' b hb
    omega
   rw [(he e Zy).1,hM] at b1
   omega
  rw [ir,sV,sV] at le
  have e1:2*M+1<=C*(B+1):=by
   have e3:2*M=C*B:=by rw [<- hM, <- hC, <- Nat.mul_assoc, <- Nat.mul_assoc]
   rw [e3,Nat.mul_add]
   omega
  have e2:(2*M+1)^eqs.length<=B*(B+1)^eqs.length:=by
   have:=ahF e1 eqs.length
   rw [Nat.mul_pow,hB] at this
   exact this
  have e4:(B+1)^(eqs.length+1)<=(B+1)^n:=abo (by omega) hn
  have e5:B*(B+1)^eqs.length < (B+1)^(eqs.length+1):=by
   rw [ahJ,ahI ((B+1)^eqs.length)]
   exact Nat.mul_lt_mul_of_pos_right (abv B) (Nat.pow_pos (by omega))
  omega
 obtain ⟨y,k1⟩:=aii.mp key
 obtain ⟨hy,k2⟩:=ahX.mp k1
 obtain ⟨z,k3⟩:=aii.mp k2
 obtain ⟨hz,k4⟩:=ahX.mp k3
 obtain ⟨ee,ne⟩:=ahX.mp k4
 obtain ⟨ly,by'⟩:=i5.mp hy
 obtain ⟨lz,bz⟩:=i5.mp hz
 have hl:y.length=z.length:=by omega
 refine ⟨ab' (fun a b=>a - b) y z,by rw [ahf];omega,?_,?_,fun e Zy=>?_⟩
 ·apply abc
  intro h
  refine ne (List.ext_getElem hl fun i h1 h2=>?_)
  have h' :∀a∈ab' (fun a b=>a - b) y z,a=0:=fun a ha=>abc fun q=>h ⟨a,ha,q⟩
  have m:y[i] - z[i]∈ab' (fun a b=>a - b) y z:=by
   refine aaa (i:=i) ?_
   rw [abP,gE h1,gE h2]
  have:=h' _ m
  omega
 ·intro a ha
  obtain ⟨i,ei⟩:=aaF ha
  rw [abP] at ei
  have hi:i < y.length:=by
   apply abc
   intro q
   rw [aan (by omega)] at ei
   cases ei
  rw [gE hi,gE (show i < z.length by omega)] at ei
  have ea:y[i] - z[i]=a:=aaZ ei
  have q1:=by' _ (aby hi)
  have q2:=bz _ (aby (show i < z.length by omega))
  omega
 ·rw [vD e hl]
  obtain ⟨i,ei⟩:=aaF Zy
  have e1:=congrArg (fun l:List Int=>l[i]?) ee
  simp only [Wp,ei,ah_,Option.some.injEq] at e1
  omega
def col (l:ν)(j:Nat):Rat:=((l.getD j 0:Int):Rat)
inductive cK (A:ζ):(Nat->Rat)->Prop
 | zero:cK A (fun _=>0)
 | put {f:Nat->Rat} (c:Rat) {a:ν} (h:a∈A) (hf:cK A f):cK A (fun j=>f j+c*col a j)
theorem cK.congr {A:ζ}{f g:Nat->Rat}(h:cK A f)(e:∀j,f j=g j):cK A g:=(funext e:f=g)▸h
theorem cK.add {A:ζ}{f g:Nat->Rat}(hf:cK A f)(hg:cK A g):cK A (fun j=>f j+g j):=by
 induction hg with
 | zero=>exact hf.congr fun j=>by grind
 | put c h _ ih=>exact (cK.put c h ih).congr fun j=>by grind
theorem cK.mul {A:ζ}{f:Nat->Rat}(k:Rat)(hf:cK A f):cK A (fun j=>k*f j):=by
 induction hf with
 | zero=>exact cK.zero.congr fun j=>by grind
 | put c h _ ih=>exact (cK.put (k*c) h ih).congr fun j=>by grind
theorem cK.mem {A:ζ}{a:ν}(h:a∈A):cK A (col a):=(cK.put 1 h cK.zero).congr fun j=>by grind
theorem cK.trans {A B:ζ}{f:Nat->Rat}(hf:cK A f)(h:∀a∈A,cK B (col a)):cK B f:=by
 induction hf with
 | zero=>exact cK.zero
 | put c ha _ ih=>exact ih.add ((h _ ha).mul c)
theorem cK.mono {A B:ζ}{f:Nat->Rat}(hf:cK A f)(h:∀a∈A,a∈B):cK B f:=hf.trans fun a ha=>cK.mem (h a ha)
theorem cK.first {l:ν}{A:ζ}{f:Nat->Rat}(hf:cK (l::A) f):∃a:Rat,cK A (fun j=>f j - a*col l j):=by
 induction hf with
 | zero=>exact ⟨0,cK.zero.congr fun j=>by grind⟩
 | put c h _ ih=>
  obtain ⟨a,ha⟩:=ih
  rcases aa8.mp h with e | e
  ·subst e
   exact ⟨a+c,ha.congr fun j=>by grind⟩
  ·exact ⟨a,(cK.put c e ha).congr fun j=>by grind⟩
theorem cK.last {l:ν}{A:ζ}{f:Nat->Rat}(hf:cK (A++[l]) f):∃a:Rat,cK A (fun j=>f j - a*col l j):=cK.first (hf.mono fun a ha=>by
 rcases aaQ.mp ha with z | z
 ·exact aaE _ z
 ·rw [aaT.mp z]
  exact aaK)
theorem cK.van {A:ζ}{f:Nat->Rat}{c:Nat}(hf:cK A f)(h:∀a∈A,col a c=0):f c=0:=by
 induction hf with
 | zero=>rfl
 | put k ha _ ih=>
  dsimp only
  rw [ih,h _ ha]
  grind
structure FH (nd:θ):Prop where
 nn:(nd.map (·.1)).Nodup
 here:∀x∈nd,x.2.getD x.1 0≠0
 off:∀x∈nd,∀y∈nd,x.1≠y.1->x.2.getD y.1 0=0
theorem FH.zero:∀{nd:θ} {f:Nat->Rat},FH nd->cK (nd.map (·.2)) f->(∀x∈nd,f x.1=0)->∀j,f j=0
 | [],f,_,hf,_=>fun j=>by
  have:∀{g:Nat->Rat},cK [] g->g j=0:=fun {g} h=>h.van fun a ha=>nomatch ha
  exact this hf
 | x::r,f,P,hf,hz=>by
  obtain ⟨a,ha⟩:=cK.first hf
  have nn:=abe.mp P.nn
  have v:f x.1 - a*col x.2 x.1=0:=ha.van (c:=x.1) fun b hb=>by
   obtain ⟨y,hy,rfl⟩:=aaj.mp hb
   unfold col
   rw [P.off y (aaE _ hy) x aaK (fun z=>nn.1 (by show x.1∈_;rw [<- z];exact aaj.mpr ⟨y,hy,rfl⟩))]
   rfl
  rw [hz x aaK] at v
  have zl:col x.2 x.1≠0:=eD (P.here x aaK)
  have a0:a=0:=by grind
  subst a0
  have P' :FH r:=⟨nn.2,fun y hy=>P.here y (aaE _ hy),fun y hy z hz=>P.off y (aaE _ hy) z (aaE _ hz)⟩
  exact FH.zero P' (ha.congr (g:=f) fun j=>by grind) fun y hy=>hz y (aaE _ hy)
theorem FH.one {nd:θ}{f:Nat->Rat}(P:FH nd)(hf:cK (nd.map (·.2)) f){x:Nat×List Int}(hx:x∈nd)(hz:∀y∈nd,y.1≠x.1->f y.1=0):∃a:Rat,∀j,f j=a*col x.2 j:=by
 have zl:col x.2 x.1≠0:=eD (P.here x hx)
 refine ⟨f x.1 / col x.2 x.1,fun j=>?_⟩
 have g:cK (nd.map (·.2)) fun j=>f j+ -(f x.1 / col x.2 x.1)*col x.2 j:=cK.put _ (aaj.mpr ⟨x,hx,rfl⟩) hf
 have:=P.zero g (fun y hy=>by
  by_cases c:y.1=x.1
  ·rw [c]
   grind
  ·rw [hz y hy c]
   have:col x.2 y.1=0:=by
    unfold col
    rw [P.off x hx y hy (abb c)]
    rfl
   rw [this]
   grind) j
 grind
def jq:List Int->List (List Int)->Nat->Int
 | z::zs,a::A,j=>z*a.getD j 0+jq zs A j
 | _,_,_=>0
theorem j0:∀(zs:ν) (A:ζ),cK A (fun j=>((jq zs A j:Int):Rat))
 | [],A=>cK.zero.congr fun j=>by simp [jq]
 | _::_,[]=>cK.zero.congr fun j=>by simp [jq]
 | z::zs,a::A=>by
  have ih:=(j0 zs A).mono (B:=a::A) fun b hb=>aaE _ hb
  refine (cK.put (z:Rat) (aaK) ih).congr fun j=>?_
  simp only [jq,col]
  push_cast
  grind
theorem sW (c:Nat):∀(zs:ν) (A:ζ),gL (A.map fun a=>a.getD c 0) zs=jq zs A c
 | [],A=>by cases A <;> simp [jq,gL]
 | _::_,[]=>by simp [jq,gL]
 | z::zs,a::A=>by
  simp only [aaR,gL,jq]
  rw [sW c zs A,acs]
theorem xI {Z E:Nat}(j:Nat):∀{zs:ν} {A:ζ},(∀z∈zs,z.natAbs<=Z)->(∀a∈A,(a.getD j 0).natAbs<=E)->(jq zs A j).natAbs<=A.length*(Z*E)
 | [],A,_,_=>by simp [jq]
 | _::_,[],_,_=>by simp [jq]
 | z::zs,a::A,h1,h2=>by
  have ih:=xI j (zs:=zs) (A:=A) (fun x hx=>h1 x (aaE _ hx)) fun x hx=>h2 x (aaE _ hx)
  simp only [jq]
  have m:(z*a.getD j 0).natAbs<=Z*E:=by
   rw [ab0]
   exact abF (h1 z aaK) (h2 a aaK)
  have t:=ahp (z*a.getD j 0) (jq zs A j)
  rw [abf,ahV,aih]
  omega
theorem oM (j:Nat):∀{zs:ν} {A:ζ} (z:Int) (a:ν),zs.length=A.length->jq (zs++[z]) (A++[a]) j=jq zs A j+z*a.getD j 0
 | [],[],z,a,_=>by simp [jq]
 | y::zs,b::A,z,a,h=>by
  have ih:=oM j (zs:=zs) (A:=A) z a (by simpa using h)
  simp only [ahv,jq]
  rw [ih]
  omega
def Uw (l:ν):Prop:=∀d:Int,(∀j,d ∣ l.getD j 0)->d.natAbs=1
theorem IX {l:ν}(p:Uw l){v:Nat->Int}{a:Rat}(ha:a≠0)(h:∀j,((v j:Int):Rat)=a*col l j)(j:Nat):(l.getD j 0).natAbs<=(v j).natAbs:=by
 have e:∀j,v j*(a.den:Int)=a.num*l.getD j 0:=fun j=>by
  have h1:=h j
  have h2:a=(a.num:Rat) / ((a.den:Int):Rat):=by
   rw [<- aix]
   exact (aiq a).symm
  have hd:((a.den:Int):Rat)≠0:=eD (by have:=a.den_pos;omega)
  rw [h2] at h1
  unfold col at h1
  have h3:((v j*(a.den:Int):Int):Rat)=((a.num*l.getD j 0:Int):Rat):=by
   rw [abL,abL]
   generalize ((a.den:Int):Rat)=D at hd h1
   grind
  exact ahD.mp h3
 have dv:∀j,(a.den:Int) ∣ l.getD j 0:=fun j=>by
  have h1:a.den ∣ a.num.natAbs*(l.getD j 0).natAbs:=by
   rw [<- ab0, <- e j,ab0]
   exact ⟨(v j).natAbs,by rw [ahI];rfl⟩
  have h2:=Nat.Coprime.dvd_of_dvd_mul_left (Nat.Coprime.symm a.reduced) h1
  exact acF.mp (by simpa using h2)
 have d1:a.den=1:=by simpa using p _ dv
 have ej:=e j
 rw [d1] at ej
 have n0:a.num≠0:=fun z=>ha (Rat.num_eq_zero.mp z)
 have:v j=a.num*l.getD j 0:=by simpa using ej
 rw [this,ab0]
 exact Nat.le_mul_of_pos_left _ (by omega)
theorem IY {l:ν}(p:Uw l):¬ ∀j,l.getD j 0=0:=fun h=>by
 have:=p 0 fun j=>by rw [h j];exact Int.dvd_refl 0
 simp at this
structure FI (os:ζ)(nd:θ)(lv ps qs:ζ):Prop where
 po:∀p∈ps,p∈os
 qo:∀q∈qs,q∈os
 lp:ps.length=nd.length
 lq:qs.length=lv.length
 s1:∀x∈nd,cK ps (col x.2)
 s2:∀p∈ps,cK (nd.map (·.2)) (col p)
 s3:∀(i:Nat) (l q:ν),lv[i]? =some l->qs[i]? =some q->cK (ps++[q]) (col l)/\cK (nd.map (·.2)++[l]) (col q)
 ind:∀zs:List Int,zs.length=ps.length->(∀j,jq zs ps j=0)->∀a∈zs,a=0
theorem FI.start (os:ζ):FI os [] os [] os:=by
 refine ⟨by simp,fun q hq=>hq,rfl,rfl,by simp,by simp,fun i l q e1 e2=>?_,fun zs h _ a ha=>?_⟩
 ·rw [e1] at e2
  cases e2
  exact ⟨cK.mem (by simp),cK.mem (by simp)⟩
 ·rw [ab4.mp h] at ha
  cases ha
theorem FH.cols {nd:θ}(P:FH nd){l:ν}(hl:cK (nd.map (·.2)) (col l))(hz:∀x∈nd,l.getD x.1 0=0):∀j,l.getD j 0=0:=fun j=>by
 have:=P.zero hl (fun x hx=>by unfold col;rw [hz x hx];rfl) j
 unfold col at this
 exact ahD.mp (this.trans (by rfl))
theorem vE {A:ζ}{b c:Nat}(hA:∀a∈A,∀j,(a.getD j 0).natAbs<=2^b):(A.map fun a=>a.getD c 0).length=A.length/\∀x∈A.map (fun a=>a.getD c 0),x.natAbs<=2^b:=by
 refine ⟨by simp,fun x hx=>?_⟩
 obtain ⟨a,ha,rfl⟩:=aaj.mp hx
 exact hA a ha c
theorem FI.left {os:ζ}{nd:θ}{lv ps qs:ζ}(O:FI os nd lv ps qs)(P:FH nd){i b:Nat}{l:ν}(e:lv[i]? =some l)(hz:∀x∈nd,l.getD x.1 0=0)(hb:∀o∈os,∀j,(o.getD j 0).natAbs<=2^b)(pr:Uw l)(j:Nat):(l.getD j 0).natAbs<=(nd.length+1)*((2*(nd.length+1)*2^b)^nd.length*2^b):=by
 have hi:i < qs.length:=by
  rw [O.lq]
  exact (be.mp e).1
 obtain ⟨q,eq⟩:∃q,qs[i]? =some q:=⟨_,gE hi⟩
 obtain ⟨t1,t2⟩:=O.s3 i l q e eq
 have hA:∀a∈ps++[q],∀j,(a.getD j 0).natAbs<=2^b:=fun a ha=>by
  rcases aaQ.mp ha with z | z
  ·exact hb a (O.po a z)
  ·rw [aaT.mp z]
   exact hb q (O.qo q (aaa eq))
 have lA:(ps++[q]).length=nd.length+1:=by simp [O.lp]
 obtain ⟨zs,lz,nz,bz,sz⟩:=IW (n:=nd.length+1) (A:=2^b) (eqs:=nd.map fun x=>(ps++[q]).map fun a=>a.getD x.1 0) (by simp) (ahN) fun y hy=>by
  obtain ⟨x,hx,rfl⟩:=aaj.mp hy
  rw [<- lA]
  exact vE hA
 rw [ir] at bz
 have v0:∀x∈nd,jq zs (ps++[q]) x.1=0:=fun x hx=>by
  rw [<- sW]
  exact sz _ (aaj.mpr ⟨x,hx,rfl⟩)
 have hv:cK (nd.map (·.2)++[l]) fun j=>((jq zs (ps++[q]) j:Int):Rat):=(j0 zs (ps++[q])).trans fun a ha=>by
  rcases aaQ.mp ha with z | z
  ·exact (O.s2 a z).mono fun y hy=>abm _ hy
  ·rw [aaT.mp z]
   exact t2
 obtain ⟨a,ha⟩:=cK.last hv
 have ez:=P.zero ha fun x hx=>by
  rw [v0 x hx]
  unfold col
  rw [hz x hx]
  show ((0:Int):Rat) - a*((0:Int):Rat)=0
  grind
 by_cases c:a=0
 ·exfalso
  subst c
  have vz:∀j,jq zs (ps++[q]) j=0:=fun j=>by
   have:=ez j
   have h:((jq zs (ps++[q]) j:Int):Rat)=((0:Int):Rat):=by grind
   exact ahD.mp h
  obtain ⟨sX,z,rfl⟩:∃sX z,zs=sX ++[z]:=by
   rcases aib zs with h | ⟨sX,z,h⟩
   ·rw [h] at lz
    simp at lz
   ·exact ⟨sX,z,by rw [h,aic]⟩
  have Ux :sX.length=ps.length:=by
   rw [O.lp]
   simpa using lz
  have sp:∀j,jq sX ps j+z*q.getD j 0=0:=fun j=>by
   rw [<- oM j z q Ux]
   exact vz j
  by_cases z0:z=0
  ·subst z0
   obtain ⟨x,hx,nx⟩:=nz
   have all:=O.ind sX Ux fun j=>by simpa using sp j
   rcases aaQ.mp hx with h | h
   ·exact nx (all x h)
   ·exact nx (aaT.mp h)
  ·have hq:cK ps (col q):=((j0 sX ps).mul (-1 / (z:Rat))).congr fun j=>by
    have s' :((jq sX ps j+z*q.getD j 0:Int):Rat)=((0:Int):Rat):=by rw [sp j]
    rw [aiQ,abL] at s'
    have zr:(z:Rat)≠0:=eD z0
    unfold col
    grind
   have hl:cK ps (col l):=t1.trans fun a ha=>by
    rcases aaQ.mp ha with h | h
    ·exact cK.mem h
    ·rw [aaT.mp h]
     exact hq
   exact IY pr (P.cols (hl.trans O.s2) hz)
 ·have le:=IX pr c (v:=fun j=>jq zs (ps++[q]) j) (fun j=>by have:=ez j;grind) j
  refine aam le ?_
  have:=xI j (zs:=zs) (A:=ps++[q]) bz fun a ha=>hA a ha j
  rw [lA] at this
  exact this
theorem FI.need {os:ζ}{nd:θ}{lv ps qs:ζ}(O:FI os nd lv ps qs)(P:FH nd){b:Nat}{x:Nat×List Int}(hx:x∈nd)(hb:∀o∈os,∀j,(o.getD j 0).natAbs<=2^b)(pr:Uw x.2)(j:Nat):(x.2.getD j 0).natAbs<=(nd.length+1)*((2*(nd.length+1)*2^b)^nd.length*2^b):=by
 have hA:∀a∈ps,∀j,(a.getD j 0).natAbs<=2^b:=fun a ha=>hb a (O.po a ha)
 have lf:(nd.filter fun y=>decide (y.1≠x.1)).length < nd.length:=by
  have h1:(nd.filter fun y=>decide (y.1≠x.1)).length<=nd.length:=abz ..
  rcases Nat.lt_or_eq_of_le h1 with h | h
  ·exact h
  ·have:=List.length_filter_eq_length_iff.mp h x hx
   simp at this
 obtain ⟨zs,lz,nz,bz,sz⟩:=IW (n:=nd.length) (A:=2^b) (eqs:=(nd.filter fun y=>decide (y.1≠x.1)).map fun y=>ps.map fun a=>a.getD y.1 0) (by rw [ir];exact lf) (ahN) fun y hy=>by
  obtain ⟨z,hz,rfl⟩:=aaj.mp hy
  rw [<- O.lp]
  exact vE hA
 rw [ir] at bz
 have v0:∀y∈nd,y.1≠x.1->jq zs ps y.1=0:=fun y hy ne=>by
  rw [<- sW]
  exact sz _ (aaj.mpr ⟨y,abr.mpr ⟨hy,by simpa using ne⟩,rfl⟩)
 have hv:cK (nd.map (·.2)) fun j=>((jq zs ps j:Int):Rat):=(j0 zs ps).trans O.s2
 obtain ⟨a,ha⟩:=P.one hv hx fun y hy ne=>by
  rw [v0 y hy ne]
  rfl
 have c:a≠0:=fun z=>by
  subst z
  obtain ⟨y,hy,ny⟩:=nz
  refine ny (O.ind zs (by rw [lz,O.lp]) (fun j=>?_) y hy)
  have h:((jq zs ps j:Int):Rat)=((0:Int):Rat):=by
   rw [ha j]
   show 0*col x.2 j=0
   grind
  exact ahD.mp h
 have le:=IX pr c (v:=fun j=>jq zs ps j) ha j
 refine aam le ?_
 have:=xI j (zs:=zs) (A:=ps) bz fun a ha=>hA a ha j
 rw [O.lp] at this
 refine aam this (abF (by omega) (abF ?_ (aas _)))
 refine aam (ahF (ab1 _ (show 2*nd.length<=2*(nd.length+1) by omega)) _) ?_
 exact abo (Nat.mul_pos (by omega) (aiR _)) (by omega)
theorem QQ {s b:Nat}(hs:s+1<=1024):(s+1)*((2*(s+1)*2^b)^s*2^b)<=2^((s+1)*(b+11)):=by
 have h1:2*(s+1)*2^b<=2^(b+11):=by
  have:2*(s+1)<=2^11:=by
   show 2*(s+1)<=2048
   omega
  rw [ahz,ahI (2^b)]
  exact ab1 _ this
 have h2:(2*(s+1)*2^b)^s<=2^((b+11)*s):=by
  rw [Nat.pow_mul]
  exact ahF h1 s
 have h3:s+1<=2^11:=by
  show s+1<=2048
  omega
 have e:(s+1)*(b+11)=11+((b+11)*s+b):=by
  rw [ahV,aih,ahI s]
  omega
 rw [e,ahz,ahz]
 exact abF h3 (ab1 _ h2)
theorem zE {B:ζ}{line lead new:ν}{c:Nat}(k:p_ line lead new c)(h1:cK B (col line))(h2:cK B (col lead)):cK B (col new):=by
 obtain ⟨s,t,u,hs,ht,e⟩:=k.gj
 have zs:=eD hs
 refine ((h1.mul ((t:Rat) / s)).add (h2.mul (-(u:Rat) / s))).congr fun j=>?_
 have ej:((s*new.getD j 0:Int):Rat)=((t*line.getD j 0 - u*lead.getD j 0:Int):Rat):=by rw [e j]
 rw [abL,aiS,abL,abL] at ej
 unfold col
 grind
theorem zF {B:ζ}{line lead new:ν}{c:Nat}(k:p_ line lead new c)(h1:cK B (col new))(h2:cK B (col lead)):cK B (col line):=by
 obtain ⟨s,t,u,hs,ht,e⟩:=k.gj
 have zt:=eD ht
 refine ((h1.mul ((s:Rat) / t)).add (h2.mul ((u:Rat) / t))).congr fun j=>?_
 have ej:((s*new.getD j 0:Int):Rat)=((t*line.getD j 0 - u*lead.getD j 0:Int):Rat):=by rw [e j]
 rw [abL,aiS,abL,abL] at ej
 unfold col
 grind
theorem FI.step {os:ζ}{nd iw :θ}{lv xJ ps qs:ζ}{lead:ν}{j c:Nat}(O:FI os nd lv ps qs)(P:FH nd)(ej:lv[j]? =some lead)(hz:∀x∈nd,lead.getD x.1 0=0)(hc:lead.getD c 0≠0)
  (lL:xJ.length=(lv.eraseIdx j).length) (ML:∀(i:Nat) (x:ν),(lv.eraseIdx j)[i]? =some x->∃y,xJ[i]? =some y/\p_ x lead y c) (lN:iw.length=nd.length) (MN:∀(i:Nat) (x:ν),(nd.map (·.2))[i]? =some x->∃y,(iw.map (·.2))[i]? =some y/\p_ x lead y c):∃ps' LP,FI os (iw ++[(c,lead)]) xJ ps' LP :=by
 have hj:j < lv.length:=(be.mp ej).1
 obtain ⟨q,eq⟩:∃q,qs[j]? =some q:=⟨_,gE (by rw [O.lq];exact hj)⟩
 obtain ⟨t1,t2⟩:=O.s3 j lead q ej eq
 have ml:lead∈(iw ++[(c,lead)]).map (·.2):=by simp
 have old:∀x∈nd.map (·.2),cK ((iw ++[(c,lead)]).map (·.2)) (col x):=fun x hx=>by
  obtain ⟨i,ei⟩:=aaF hx
  obtain ⟨y,ey,k⟩:=MN i x ei
  refine zF k (cK.mem ?_) (cK.mem ml)
  rw [aa1]
  exact abm _ (aaa ey)
 have jf:∀y∈iw.map (·.2),∃x∈nd.map (·.2),p_ x lead y c:=fun y hy=>by
  obtain ⟨i,ei⟩:=aaF hy
  have hi:=(be.mp ei).1
  rw [ir] at hi
  obtain ⟨x,ex⟩:∃x,(nd.map (·.2))[i]? =some x:=⟨_,gE (by rw [ir];omega)⟩
  obtain ⟨y',uB,k⟩:=MN i x ex
  rw [ei] at uB
  cases uB
  exact ⟨x,aaa ex,k⟩
 have up:∀{f:Nat->Rat},cK ps f->cK (ps++[q]) f:=fun h=>h.mono fun a ha=>abm _ ha
 refine ⟨ps++[q],qs.eraseIdx j,fun p hp=>?_,fun p hp=>O.qo p (acw hp),by simp [O.lp,lN],?_,fun x hx=>?_,fun p hp=>?_,fun i l' q' e1 e2=>?_,fun zs lz hzs a ha=>?_⟩
 ·rcases aaQ.mp hp with z | z
  ·exact O.po p z
  ·rw [aaT.mp z]
   exact O.qo q (aaa eq)
 ·rw [lL,ab2,ab2,O.lq]
 ·rcases aaQ.mp hx with z | z
  ·obtain ⟨y,hy,k⟩:=jf x.2 (aaj.mpr ⟨x,z,rfl⟩)
   obtain ⟨x0,Zz,rfl⟩:=aaj.mp hy
   exact zE k (up (O.s1 x0 Zz)) t1
  ·rw [aaT.mp z]
   exact t1
 ·rcases aaQ.mp hp with z | z
  ·exact (O.s2 p z).trans old
  ·rw [aaT.mp z]
   refine t2.trans fun a ha=>?_
   rcases aaQ.mp ha with h | h
   ·exact old a h
   ·rw [aaT.mp h]
    exact cK.mem ml
 ·have hi:=(be.mp e1).1
  obtain ⟨x,ex⟩:∃x,(lv.eraseIdx j)[i]? =some x:=⟨_,gE (by omega)⟩
  obtain ⟨y',uB,k⟩:=ML i x ex
  rw [e1] at uB
  cases uB
  obtain ⟨i',f1,f2⟩:∃i',lv[i']? =some x/\qs[i']? =some q' :=by
   rw [aca] at ex e2
   by_cases h:i < j
   ·rw [if_pos h] at ex e2
    exact ⟨_,ex,e2⟩
   ·rw [if_neg h] at ex e2
    exact ⟨_,ex,e2⟩
  obtain ⟨u1,u2⟩:=O.s3 i' x q' f1 f2
  constructor
  ·refine zE k (u1.mono fun a ha=>?_) (t1.mono fun a ha=>abm _ ha)
   rcases aaQ.mp ha with h | h
   ·exact abm _ (abm _ h)
   ·exact abn _ h
  ·refine u2.trans fun a ha=>?_
   rcases aaQ.mp ha with h | h
   ·exact (old a h).mono fun b hb=>abm _ hb
   ·rw [aaT.mp h]
    exact zF k (cK.mem (by simp)) (cK.mem (abm _ ml))
 ·obtain ⟨sX,z,rfl⟩:∃sX z,zs=sX ++[z]:=by
   rcases aib zs with h | ⟨sX,z,h⟩
   ·rw [h] at lz
    simp at lz
   ·exact ⟨sX,z,by rw [h,aic]⟩
  have Ux :sX.length=ps.length:=by simpa using lz
  have sp:∀j,jq sX ps j+z*q.getD j 0=0:=fun j=>by
   rw [<- oM j z q Ux]
   exact hzs j
  have z0:z=0:=by
   apply abc
   intro z0
   have hq:cK ps (col q):=((j0 sX ps).mul (-1 / (z:Rat))).congr fun j=>by
    have s' :((jq sX ps j+z*q.getD j 0:Int):Rat)=((0:Int):Rat):=by rw [sp j]
    rw [aiQ,abL] at s'
    have zr:(z:Rat)≠0:=eD z0
    unfold col
    grind
   have hl:cK ps (col lead):=t1.trans fun a ha=>by
    rcases aaQ.mp ha with h | h
    ·exact cK.mem h
    ·rw [aaT.mp h]
     exact hq
   exact hc (P.cols (hl.trans O.s2) hz c)
  rcases aaQ.mp ha with h | h
  ·exact O.ind sX Ux (fun j=>by have:=sp j;rw [z0] at this;simpa using this) a h
  ·rw [aaT.mp h]
   exact z0
end Ty
set_option maxHeartbeats 4000000
namespace Ty
open PySem PySem.Spec PyProof.Rows L2
section
variable {prog:Program}{w:World}{A:Around}{E:γ}{s:Shared}
end
section
variable {X:Cx}
end
section
variable {prog:Program}{w:World}{A:Around}{E:γ}{s:Shared}
end
section
variable {X:Cx}
theorem LQ {K:Frag}(h:X.K=K):Tx X (P9 K):=by subst h;exact nX
theorem IZ {i:Nat}{y yc:Str}{py:Pos}{u_:Pos}{elt target iter:Expr}{ifs:χ}{scope:Scope}{pos:Pos}{tn fr:ρ}{caps:Δ}{wi:TI}{g:TG}{tt:TT}{te:TE}(hN:X.N.Nodup)(T1:X.N[i]? =some y)(hx:Loc X.env.scope y)
  (hc:X.calm=true) (B:Qt X scope yc fr caps) (hi:PI X target iter wi)
  (hg:∀C s H fp,PG (Qs X (tn++fr) scope yc (bE X.env fr) C s H fp) target g) (ht:∀C s H fp,PF (Qs X (tn++fr) scope yc (bE X.env fr) C s H fp) ifs tt) (he:∀C s H fp,PE (Qs X (tn++fr) scope yc (bE X.env fr) C s H fp) elt te)
  (HJ:swapsWith (.ListComp elt [⟨target,iter,ifs,0⟩] scope pos) (some (.Name y py)) u_.line X.env=pure true:=by rfl)
  (hs:∀x,foldedSetIterable iter X.env x=pure x:=by intro _;rfl) (hf:X.fn y=true\/X.env.scope.names.lookup y=some .local:=by first | exact .inl rfl | exact .inr rfl | assumption):
  PS X (.Assign [.Name y py] (.ListComp elt [⟨target,iter,ifs,0⟩] scope pos) u_) (FW (u6 tn.length caps wi g tt te) (eh i)):=
 u9 hN T1 hx hc B.g hi hg ht he HJ hs hf
end
theorem vF {D:Addr}{te:TE}{tt:TT}{cap:L2.St}{H1:Hp}{Q:VK}{n:Nat}(p:Nat->Bool)(nD:H1 D=none)(hn:n < sizeLine)
  (ht:∀i H (R:Bool->Hp->Prop),i < n->av H1 H->(∀H',av H H' ->R (p i) H')->tt (some (.int (i:Int))::cap) H R)
  (he:∀i H (R:VK),R (.int (i:Int)) H->te (some (.int (i:Int))::cap) H R)
  (hd:∀H,av H1 H->H D=some (.lst (((abk n).filter p).map fun i:Nat=>V.int (i:Int)))->Q (.ref D) H):
  qk D (eh 0) tt te (PY 0 n) (none::cap) H1 Q:=by
 refine ⟨fun i m σ ys H=>m=n - i/\i<=n/\(∃o,σ=o::cap)/\av H1 H/\H D=some (.lst ys)/\ys=((abk i).filter p).map fun i:Nat=>V.int (i:Int),⟨n,by simp,abj _,⟨none,rfl⟩,fun b o e=>by rw [aq (ao e nD)];exact e,aj,rfl⟩,?_⟩
 rintro i m σ ys H ⟨rfl,hi,⟨o,rfl⟩,s,hD,ey⟩
 by_cases lU:i < n
 ·refine .inr ⟨lU,fun v H' y=>?_⟩
  obtain ⟨rfl,rfl⟩:=y
  rw [abH]
  unfold eh
  refine ht i _ _ lU s fun H2 s2=>?_
  have QR:av H1 H2:=fun b o e=>s2 _ _ (s _ _ e)
  have ly:ys.length<=i:=by
   rw [ey,ir]
   have:=abz p (abk i)
   rw [abJ] at this
   exact this
  by_cases c:p i=true
  ·rw [if_pos c]
   refine he i _ _ ⟨s2 _ _ hD,by omega,n - (i+1),by omega,rfl,by omega,⟨_,rfl⟩,?_,aj,?_⟩
   ·exact fun b o e=>by
     rw [aq (ao e nD)]
     exact QR _ _ e
   ·rw [acD,aci,abB c,ey,aa1]
    rfl
  ·rw [if_neg c]
   refine ⟨n - (i+1),by omega,rfl,by omega,⟨_,rfl⟩,QR,s2 _ _ hD,?_⟩
   rw [acD,aci,abC c,ey,List.filter_nil,ahB]
 ·have e:i=n:=by omega
  subst e
  rw [ey] at hD
  exact .inl ⟨aas _,hd H s hD⟩
section
variable {X:Cx}{e o:Expr}{es:χ}{ta:TE}{t:TA}{f m:Str}{pos apos:Pos}{P:Program}{w:World}{K:Frag}{mg:ι}{base:Heap}{CX:jQ}{k:Nat}{E:XK}
theorem LR {pl:Sem Bool}(h1:X.prog=P)(h2:X.w=w)(h3:X.K=K)(h4:X.mg=mg)(h5:X.base=base)(he:PE X o ta)(hr:cg k X.A)(hx:Passes CX X E)(ha:PA X (e::es) t)
  (FV:starEach (e::es) X.env=(false,eval e X.env)::starEach es X.env:=by rfl) (w_:(backTo pos (starEach es X.env)).any (·.1)=false:=by rfl)
  (ht:eval (.Call (.Attribute o m apos) (e::es) [] pos) X.env=(do
   let ov <- eval o X.env
   standAt apos.atName
   let (f,first) <- holding [ov] (getMethod ov m pl)
   callWith pos f first (backTo pos (starEach (e::es) X.env)) (backToKw pos (keywordEach [] X.env))):=by rfl):
  PE X (.Call (.Attribute o m apos) (e::es) [] pos) (Qo P w K mg base CX k m E ta t):=by
 subst h1 h2 h3 h4 h5
 exact bY he hr hx ha FV w_ ht
end
theorem LS {us:η}{u:V}(h:us[us.length - 1]? =some u):je us (-1)=some u:=by
 have hl:us.length - 1 < us.length:=(be.mp h).1
 have e:us=us.take (us.length - 1)++[u]:=by
  refine abt fun i=>?_
  rw [List.getElem?_append,abd]
  by_cases z:i < us.length - 1
  ·rw [if_pos (by omega),abK z]
  ·rw [if_neg (by omega)]
   by_cases y:i=us.length - 1
   ·rw [y,h]
    simp [ahh (Nat.sub_le _ _)]
   ·rw [aan (by omega),aan (by simp;omega)]
 rw [e]
 exact GS _ _
section
variable {prog:Program}{w:World}{A:Around}{E:γ}{s:Shared}{d:Addr}{o:Obj}{es:Array DictEntry}{ep:Nat}
theorem xK (hd:(d==sysModules)=false):MeetsIn prog w (Builtin.«dict.__len__» ⟨[.ref d],[]⟩) (fun _ R s=>∃(o:Obj) (es:Array DictEntry) (ep:Nat),s.heap.get? d=some o/\o.data=.dict es ep/\R (.ok (.ret (.int es.size s.toks))) {s with toks:=s.toks+1}):=.of_wp fun A R s ⟨o,es,ep,ho,gI,h⟩=>by
 show wpAny _ _ (dictSize d >>=_) _ _ s
 refine wpAny_bind ?_
 unfold dictSize
 refine wpAny_bind (wpAny_dictEntries ho gI (wpAny_pure ?_))
 show wpAny _ _ (Builtin.Dict.pendingCount d >>=_) _ _ s
 refine wpAny_bind (wpAny_pendingCount_other hd (wpAny_ret_mkInt ?_))
 simpa using h
theorem CI {Q:γ}(hd:(d==sysModules)=false)(ho:s.heap.get? d=some o)(hx:o.ExactDict)(gI:o.data=.dict es ep)(hf:(es.size:Int) < 2^63)(h:Q (.int es.size (s.toks+1)) {s with toks:=s.toks+1+1}):wpAny (model prog w) A (call (.builtin "len") [.ref d]) Q E s:=by
 have ty:s.TypeIs (.ref d) "dict":=⟨o,ho,hx.1⟩
 refine Calls.call_function_entry kind_len plain_len entry_len (args_len1 _) ?_
 unfold Builtin.«len»
 refine wpAny_bind (m:=oneArg "len" _) (wpAny_pure (wpAny_bind (m:=callSpecial? (.ref d) (Str.ofString "__len__")) ?_))
 refine wpAny_callSpecial?_slot (name:=Str.ofString "__len__") ty F.slot_dict_len (call_meetsIn F.slot_dict_len ty F.entry_dict_len (F.args_dict_len_1 _) (xK hd) ⟨o,es,ep,ho,gI,?_⟩)
 show wpAny _ _ _ _ _ {s with toks:=s.toks+1}
 refine wpAny_bind (wpAny_holding (wpAny_pure (wpAny_bind (wpAny_letGo ?_))))
 show wpAny _ _ (if ((es.size:Nat):Int) < 0 then _ else if ((es.size:Nat):Int)≥2^63 then _ else _) _ _ _
 rw [if_neg (by omega),if_neg (by omega)]
 exact wpAny_bind (wpAny_mkInt (wpAny_pure ⟨_,rfl,h⟩))
end
section
variable {X:Cx}
inductive I_ (xs:η)(H:Hp)(Q:VK):Prop where
 | mk (p:Addr) (kvs:ψ) (_:xs=[.ref p]) (_:Rd H p (.dT kvs)) (_:Q (.int (kvs.length:Int)) H):I_ xs H Q
theorem jC:ft X (.builtin "len") I_:=by
 intro pins s σ H xs us Q I r h
 obtain ⟨p,kvs,rfl,hq,q⟩:=h
 obtain ⟨u,rfl,r1⟩:=vals1 r
 cases r1
 obtain ⟨z,hd,ks,rel,o,es,ep,ho,hx,gI,hk,_,hn⟩:=l_ I.bL hq
 have hl:kvs.length=ks.length:=Paired.length rel
 have he:es.size=kvs.length:=by
  have:=congrArg abX hk
  rw [hl]
  simpa using this
 refine CI hd ho hx gI (by rw [he];rw [sizeLine_eq] at z;omega) ?_
 rw [he]
 exact ⟨.int _,H,I.tok _,⟨_,rfl⟩,q⟩
end
end Ty
set_option maxHeartbeats 4000000
namespace T_k45
open PySem PySem.Spec PyProof.Rows L2 Ty
open Builtin.Int (intBits)
seal L2.PE L2.PS L2.PSs L2.PA
abbrev zaa:List Str:=["_law_frame_here","_law_pins_here","_law_bars_here","_law_cell","_law_k"]
abbrev zab:List Str:=["_law_cell","_law_prime","_law_many"]
abbrev zac:List Str:=["self"]
abbrev zad:List Str:=["one","other"]
abbrev zae:List Str:=["self","pin"]
abbrev zaf:List Str:=["self","name","one","other"]
abbrev zag:List Str:=["_law_frame_here","_law_pins_here","_law_bars_here","_law_cell"]
abbrev zah:List Str:=["_law_frame_here","_law_pins_here","_law_cell","_law_k"]
abbrev zai:List Str:=["rows","many"]
abbrev zaj:List Str:=["_law_frame_here","_law_pins_here","_law_bars_here"]
abbrev zak:List Str:=["_law_script","_law_pins_here","_law_bars_here"]
abbrev zal:List Str:=["F","one","other"]
abbrev zam:List Str:=["_law_told","_law_pins_here","_law_bars_here"]
abbrev zan:List Str:=["self","name","x","y","hold"]
abbrev zao:List Str:=["F"]
abbrev zap:List Str:=["_law_script","_law_k"]
abbrev zaq:List Str:=["F","numbers"]
abbrev zar:List Str:=["_law_pins_here","_law_bars_here"]
abbrev zas:List Str:=["_law_top","_law_bottom"]
abbrev zat:List Str:=["_law_script","_law_pins_here"]
abbrev zau:List Str:=["_law_one","_law_other"]
abbrev zav:List Str:=["line","lead","column"]
abbrev zaw:List Str:=["self","x","y"]
abbrev zax:List Str:=["_law_cell","_law_k"]
abbrev zay:List Str:=["self","name"]
abbrev zaz:List Str:=["needed","column","many"]
abbrev zaA:List Str:=["_law_cell","_law_kind"]
abbrev zaB:List Str:=["top","bottom"]
abbrev zaC:List Str:=["_law_cell","_law_k","_law_style","_law_at"]
abbrev zaD:List Str:=["_law_script"]
abbrev zaE:List Str:=["lines","many"]
abbrev zaF:List Str:=["lines","column"]
abbrev zaG:List Str:=["_law_pin"]
abbrev zaH:List Str:=["row"]
abbrev zaI:List Str:=["self","bar"]
abbrev zaJ:List Str:=["share","whole","line","column"]
abbrev zaK:List Str:=["F","draws"]
abbrev zaL:List Str:=["_law_cell"]
abbrev zaM:List Str:=["whole","other","times","less"]
abbrev zaN:List Str:=["numbers"]
abbrev zaO:List Str:=["at","many"]
theorem sq {N P:ρ}{sc:Scope}(a:sc.kind=.function:=by exact rfl)(b:sc.isCoroutine=false:=by exact rfl)(c:sc.isGenerator=false:=by exact rfl)(d:N.Nodup:=by decide+kernel)(e:N.take P.length=P:=by exact rfl)(f:∀x∈P,sc.names.lookup x=some .local\/sc.names.lookup x=some .cell:=by decide+kernel)(g:∀y∈sc.names,y.2≠.free:=by decide+kernel):aG N P sc:=⟨a,b,c,d,e,f,g⟩
theorem pY (P:Program)(w:World){X:Cx}:Passes (a8 P w) X.yX E0:=u5 a8.qj
theorem pX {P:Program}{w:World}{X:Cx}:Passes (a8 P w) X.yX E0:=u5 a8.qj
theorem _root_.L2.cg.mo {j k:Nat}{A:Around}(r:L2.cg k A)(h:j<=k:=by decide):L2.cg j A:=r.mono h
theorem a9 {X:Cx}{a:Expr}{ta:TE}{i j p1 p2}(h:PE X a ta):PE X (.Subscript a (.Constant (.int i) j p1) p2) (Su (Lq X.K) ta (tC (.int i))):=bB GU h ah (fun _ _=>rfl)
theorem zG {X:Cx}{a:Expr}{ta:TE}{i j p1 p2}(h:PE X a ta):PE X (.Subscript a (.Constant (.int i) j p1) p2) (Su (Lp X.K) ta (tC (.int i))):=bB bc h ah (fun _ _=>rfl)
theorem bl1{P:List Value->Prop}(h:∀a:Value,P [a]):∀us:List Value,us.length=1->P us|[_],_=>h _
theorem bl2{P:List Value->Prop}(h:∀a b:Value,P [a,b]):∀us:List Value,us.length=2->P us|[_,_],_=>h _ _
theorem bl3{P:List Value->Prop}(h:∀a b c:Value,P [a,b,c]):∀us:List Value,us.length=3->P us|[_,_,_],_=>h _ _ _
theorem bl4{P:List Value->Prop}(h:∀a b c d:Value,P [a,b,c,d]):∀us:List Value,us.length=4->P us|[_,_,_,_],_=>h _ _ _ _
theorem bl5{P:List Value->Prop}(h:∀a b c d e:Value,P [a,b,c,d,e]):∀us:List Value,us.length=5->P us|[_,_,_,_,_],_=>h _ _ _ _ _
theorem bl6{P:List Value->Prop}(h:∀a b c d e f:Value,P [a,b,c,d,e,f]):∀us:List Value,us.length=6->P us|[_,_,_,_,_,_],_=>h _ _ _ _ _ _
theorem bl7{P:List Value->Prop}(h:∀a b c d e f g:Value,P [a,b,c,d,e,f,g]):∀us:List Value,us.length=7->P us|[_,_,_,_,_,_,_],_=>h _ _ _ _ _ _ _
theorem _root_.L2.m6.xM {K:Frag}{x qual:Str}{st:Stmt}{f:Addr}{fd:FuncData}{ps:ρ}(F:L2.m6 K x qual st f fd)
 (h:∀(kV doc pm:Value) (an:Ι) (bH ct:Value) (us:ο),us.length=ps.length->bindArgs (fnOf x qual (ay st) (aw st) (ag st) .none kV doc pm an bH ct) ⟨us,[]⟩=pure (ps.zip us):=by first | exact fun _ _ _ _ _ _=>bl1 fun _=>rfl | exact fun _ _ _ _ _ _=>bl2 fun _ _=>rfl | exact fun _ _ _ _ _ _=>bl3 fun _ _ _=>rfl | exact fun _ _ _ _ _ _=>bl4 fun _ _ _ _=>rfl | exact fun _ _ _ _ _ _=>bl5 fun _ _ _ _ _=>rfl):Binds K fd ps []:=F.binds h
inductive HXx (K:Frag)(x:Str)(st:Stmt):Prop|mk{f:Addr}{oc:Value}{od an:Ι}{pZ:Κ}{kV doc pm bH ct:Value}(a:nsIn K mainGlobals x=some (some (.ref f)))(l:K.lookup f=some ⟨oc,od,.func (fnOf x x (ay st) (aw st) (ag st) .none kV doc pm an bH ct),pZ⟩)(c:codeIn K bH x=true)(k:keepIn K (.ref f)=true):HXx K x st
inductive HXy (K:Frag)(C:Addr)(x q:Str)(st:Stmt):Prop|mk{f:Addr}{oc:Value}{od an:Ι}{pZ:Κ}{kV doc pm bH ct:Value}(a:PySem.W.findIn K (.ref C) x=some (some (.ref f)))(i:PySem.W.isFn K (.ref f)=true)(l:K.lookup f=some ⟨oc,od,.func (fnOf x q (ay st) (aw st) (ag st) .none kV doc pm an bH ct),pZ⟩)(c:codeIn K bH q=true)(k:keepIn K (.ref f)=true):HXy K C x q st
theorem gs {K:Frag}{mg:ι}{h:Heap}{x:Str}{st:Stmt}{ps:ρ}(X:K.In h)(G:h.Ns mainGlobals mg)(H:HXx K x st)
 (b:∀(kV doc pm:Value) (an:Ι) (bH ct:Value) (us:ο),us.length=ps.length->bindArgs (fnOf x x (ay st) (aw st) (ag st) .none kV doc pm an bH ct) ⟨us,[]⟩=pure (ps.zip us):=by first | exact fun _ _ _ _ _ _=>bl1 fun _=>rfl | exact fun _ _ _ _ _ _=>bl2 fun _ _=>rfl | exact fun _ _ _ _ _ _=>bl3 fun _ _ _=>rfl | exact fun _ _ _ _ _ _=>bl4 fun _ _ _ _=>rfl | exact fun _ _ _ _ _ _=>bl5 fun _ _ _ _ _=>rfl | exact fun _ _ _ _ _ _=>bl6 fun _ _ _ _ _ _=>rfl | exact fun _ _ _ _ _ _=>bl7 fun _ _ _ _ _ _ _=>rfl):Def K mg x st ps:=have ⟨a,l,c,k⟩:=H;Def.of (cW l c k) ((cW l c k).binds b) (mg_of X G a)
def top (i:Nat):Stmt:=PySem.Challenge.pw_trussyard_k45_whole_counts.main.body.getD i (.Pass ⟨0,0,0,0⟩)
abbrev xN:Stmt:=top 14
abbrev vG:Stmt:=top 15
abbrev CJ:Stmt:=top 16
abbrev CK:Stmt:=top 19
abbrev xO:Stmt:=top 20
abbrev eU:Stmt:=top 22
abbrev CL:Stmt:=top 23
abbrev CM:Stmt:=top 24
abbrev CN:Stmt:=top 25
abbrev CO:Stmt:=top 26
abbrev CP:Stmt:=top 27
abbrev CQ:Stmt:=top 28
abbrev b_:Stmt:=top 30
abbrev dk:Stmt:=top 31
abbrev bV:Stmt:=top 32
abbrev CS:Stmt:=top 33
abbrev CT:Stmt:=top 34
abbrev dS:Stmt:=top 35
abbrev CU:Stmt:=top 36
abbrev CV:Stmt:=top 37
abbrev CW:Stmt:=top 38
abbrev CY:Stmt:=top 39
abbrev dW:Stmt:=top 41
abbrev eV:Stmt:=top 42
abbrev dm:Stmt:=top 44
abbrev eY:Stmt:=top 45
abbrev dX:Stmt:=top 46
abbrev CZ:Stmt:=top 56
abbrev C_:Stmt:=top 57
abbrev C':Stmt:=top 58
abbrev DA:Stmt:=top 59
abbrev xP:Stmt:=top 62
abbrev DB:Stmt:=top 63
abbrev DC:Stmt:=top 64
abbrev DE:Stmt:=top 65
abbrev DF:Stmt:=top 66
abbrev dY:Stmt:=top 67
abbrev DG:Stmt:=top 68
abbrev DH:Stmt:=top 69
abbrev cS:Stmt:=top 70
abbrev cT:Stmt:=top 71
abbrev cU:Stmt:=top 72
abbrev eZ:Stmt:=top 73
abbrev dZ:Stmt:=top 74
abbrev j3:Stmt:=top 75
abbrev DI:Stmt:=inClass (top 50) 0
abbrev mI:Stmt:=inClass (top 50) 1
abbrev DJ:Stmt:=inClass (top 50) 2
abbrev DK:Stmt:=inClass (top 50) 3
abbrev DL:Stmt:=inClass (top 50) 4
abbrev DM:Stmt:=inClass (top 50) 5
abbrev bW:Stmt:=inClass (top 50) 6
abbrev DN:Stmt:=inClass (top 50) 7
abbrev DO:Stmt:=inClass (top 50) 8
abbrev DP:Stmt:=inClass (top 50) 9
abbrev DQ:Stmt:=inClass (top 50) 10
abbrev DR:Stmt:=inClass (top 50) 11
abbrev LU:Stmt:=inClass (top 52) 0
abbrev DS:Stmt:=inClass (top 53) 0
abbrev DT:Stmt:=inClass (top 53) 1
abbrev DU:Stmt:=inClass (top 54) 0
section
variable {P:Program}{w:World}{K:Frag}{mg:ι}{base:Heap}{CX:jQ}
def Nm (H:Hp)(v:V)(q:Int×Int):Prop:=∃p,v=.ref p/\H p=some (.tup [.int q.1,.int q.2])
structure Uy (k:Nat)(q:Int×Int):Prop where
 pos:0 < q.2
 top:intBits q.1<=k
 bot:intBits q.2<=k
theorem aH {H:Hp}{p:Addr}(h:H p=none)(o:HO):av H (upd H p o):=fun b u q=>by rw [aq (ao q h)];exact q
theorem nw {H H' :Hp}{l:Addr}{o:HO}(n:H l=none)(e:upd H l o=H'):av H H' /\H' l=some o:=by subst e;exact ⟨aH n o,aj⟩
def gives (H:Hp)(Q:VK)(q:Int×Int):Prop:=∀(p:Addr) (H' :Hp),av H H' ->H' p=some (.tup [.int q.1,.int q.2])->Q (.ref p) H'
inductive gM (vs:η)(H:Hp)(Q:VK)(E_:XK):Prop where
 | mk (a b:Int) (_:vs=[.int a,.int b]) (_:Q (.int (gz a b)) H):gM vs H Q E_
def subQ (x y:Int×Int):Int×Int:=low (x.1*y.2 - y.1*x.2) (x.2*y.2)
theorem LV {x y:Int×Int}{k l:Nat}(hx:Uy k x)(hy:Uy l y):x.2*y.2≠0:=af_ (ahA hx.pos hy.pos)
theorem me {a b:V}:je [a,b] 0=some a:=rfl
theorem mJ {a b:V}:je [a,b] 1=some b:=rfl
theorem Nm.kept {H H' :Hp}{D:Addr}{ys:η}{v:V}{q:Int×Int}(h:Nm H v q)(hD:H D=some (.lst ys))(k:aT D H H'):Nm H' v q:=by
 obtain ⟨p,e,z⟩:=h
 exact ⟨p,e,k p _ (fun e=>by rw [e,hD] at z;cases z) z⟩
inductive Ln (H:Hp)(v:V)(l:ν):Prop where
 | mk (p:_) (_:v=.ref p) (_:H p=some (.lst (l.map V.int))):Ln H v l
theorem Ln.same {H H' :Hp}{v:V}{l:ν}(h:Ln H v l)(s:av H H'):Ln H' v l:=by
 obtain ⟨p,e,k⟩:=h
 exact ⟨p,e,s _ _ k⟩
def qm (H:Hp)(us:η)(ls:ζ):Prop:=us.length=ls.length/\∀(i:Nat) (u:V) (l:ν),us[i]? =some u->ls[i]? =some l->Ln H u l
theorem qm.same {H H' :Hp}{us:η}{ls:ζ}(h:qm H us ls)(s:av H H'):qm H' us ls:=⟨h.1,fun i u l e1 e2=>(h.2 i u l e1 e2).same s⟩
theorem rL {l:ν}{j:Nat}(h:j < l.length):je (l.map V.int) (j:Int)=some (.int (l.getD j 0)):=b8 (by rw [Wp,gE h,aaU,gE h];rfl)
theorem getD_mem {l:ν}{j:Nat}{x:Int}(e:l[j]? =some x):l.getD j 0=x:=by rw [aaU,e];rfl
def Bd (b:Nat)(l:ν):Prop:=∀j,(l.getD j 0).natAbs<=2^b
theorem Bd.mem {b:Nat}{l:ν}(h:Bd b l){x:Int}(hx:x∈l):x.natAbs<=2^b:=by
 obtain ⟨i,hi⟩:=aaF hx
 rw [<- getD_mem hi]
 exact h i
theorem Bd.up {b c:Nat}{l:ν}(h:Bd b l)(hc:b<=c):Bd c l:=fun j=>Ob (h j) hc
theorem zH:aG ["one","other","left"] zad (ag CJ):=sq
theorem Uz (D:Def K mg "greatest_shared" CJ zad)(rM:mg "abs"=none):Fn P w K mg base CX 1 "greatest_shared" zad gM:=by
 refine D.ok zH (fun vs H Q E h=>?_) (fun f bH A outer s H vs Q E hr h=>?_)
 ·obtain ⟨a,b,rfl,_⟩:=h
  rfl
 obtain ⟨a,b,rfl,q⟩:=h
 refine ⟨_,(ae (nR PassesOwn.never (aR y8 (pv 1) ah (aX _)) (ae (aA (i:=2) zH.nd rfl (aav rfl) (aF dF (pv 0) (pv 1)))
   (ae (aA (i:=0) zH.nd rfl (aav rfl) (pv 1))
   (ak (aA (i:=1) zH.nd rfl (aav rfl) (pv 2))))))
  (ak (aK (aC uL rfl rM N5 (ar (pv 0) aa))))),?_⟩
 refine uJ (fun σ H' =>∃(x y:Int) (l:Β),σ=[some (.int x),some (.int y),l]/\H' =H/\abx x y=abx a b) (fun σ _=>match σ with | [_,some (.int y),_]=>y.natAbs | _=>0) ⟨a,b,none,rfl,rfl,rfl⟩ ?_ ?_
 ·rintro σ H' ⟨x,y,l,rfl,rfl,g⟩
  refine ⟨_,rfl,rfl,_,rfl,?_⟩
  refine bf (fun c=>?_) (fun c=>?_)
  ·have hy:y≠0:=by
    intro z
    subst z
    simp at c
   refine ⟨_,rfl,_,rfl,_,_,rfl,rfl,hy,?_⟩
   refine ⟨_,rfl,_,rfl,?_⟩
   exact ⟨⟨_,_,_,rfl,rfl,by rw [uV];exact g⟩,rm hy⟩
  ·have hy:y=0:=by
    have:=ahq.mpr c
    simp at this
    exact this
   subst hy
   refine ⟨_,rfl,x,rfl,?_⟩
   have e:(if x < 0 then -x else x)=gz a b:=by
    rw [ais] at g
    unfold gz
    rw [<- g]
    split <;> omega
   rw [e]
   exact q
 ·rintro σ H' Q1 Q2 h ⟨v,e1,e2,k,ek,z⟩
  exact ⟨v,e1,e2,k,ek,h _ _ z⟩
inductive gN (vs:η)(H:Hp)(Q:VK)(E_:XK):Prop where
 | mk (t b:Int) (_:vs=[.int t,.int b]) (_:b≠0) (_:gives H Q (low t b)):gN vs H Q E_
theorem Ja:aG ["top","bottom","shared"] zaB (ag vG):=sq
theorem UA (ht:P.given.tree=none)(D:Def K mg "lowest_terms" vG zaB)(xQ:Fn P w K mg base (a8 P w) 1 "greatest_shared" zad gM):Fn P w K mg base (a8 P w) 33 "lowest_terms" zaB gN:=by
 refine D.ok Ja (fun vs H Q E h=>?_) (fun f bH A outer s H vs Q E hr h=>?_)
 ·obtain ⟨t,b,rfl,_⟩:=h
  rfl
 obtain ⟨t,b,rfl,hb,q⟩:=h
 have UB:∃tt,PSs (mG (a8 P w) P w K mg base ["top","bottom","shared"] "lowest_terms" (ag vG) f bH A outer s H E).yX ((aw vG).drop 2) tt/\∀g:Int,g=sg t b->tt {nx:=fun _ H' =>Q .cI H',rt:=Q} [some (.int t),some (.int b),some (.int g)] H:=by
  refine ⟨_,(ak (aK (a_ (ar (aF (fX ht (Ty.cg.py hr (by decide)) rfl rfl rfl rfl rfl) (pv 0) (pv 2)) (ar (aF (fX ht (Ty.cg.py hr (by decide)) rfl rfl rfl rfl rfl) (pv 1) (pv 2)) aa))))),?_⟩
  rintro g rfl
  have c:=n_ (t:=t) hb
  refine ⟨_,rfl,_,rfl,_,_,rfl,rfl,c,_,rfl,_,rfl,_,_,rfl,rfl,c,(by show 2<=sizeLine;decide),fun p hp=>?_⟩
  exact q p _ (aH hp _) aj
 obtain ⟨t2,p2,q2⟩:=UB
 refine ⟨_,(ae (aA (i:=2) Ja.nd rfl (aav rfl) (aE xQ hr.mo pX (ar (pv 0) (ar (pv 1) aa)))) (ae (bw (aR lV (pv 1) ah (aX _)) (ak (aA (i:=2) Ja.nd rfl (aav rfl) (jP gW (pv 2)))) aU) p2)),?_⟩
 refine ⟨_,rfl,_,rfl,t,b,rfl,?_⟩
 refine ⟨_,rfl,_,_,rfl,rfl,_,rfl,?_⟩
 refine bf (fun c=>?_) (fun c=>?_)
 ·refine ⟨_,rfl,_,rfl,q2 _ ?_⟩
  have c' :b < 0:=of_decide_eq_true c
  unfold sg
  rw [if_pos c']
 ·refine q2 _ ?_
  have c' :¬ b < 0:=of_decide_eq_false (ahq.mpr c)
  unfold sg
  rw [if_neg c']
inductive LW (K:Frag)(vs:η)(H:Hp)(Q:VK)(E_:XK):Prop where
 | mk (a:Addr) (qs:τ) (T B:Nat) (_:vs=[.ref a]) (_:aaY K H a qs) (_:(∀q∈qs,Sm T B q)) (_:T<=20000) (_:B*qs.length<=100000) (_:B<=8000) (_:qs.length<=1000) (_:∀(p l:Addr) (ts:ν) (b:Int) (H' :Hp),av H H' ->H l=none->H' p=some (.tup [.ref l,.int b])->H' l=some (.lst (ts.map V.int))->0 < b->b.natAbs<=2^(B*qs.length)->ve ts qs b->(∀t∈ts,t.natAbs<=2^(T+B*qs.length))->Q (.ref p) H'):LW K vs H Q E_
theorem zI:aG ["row","bottom","number"] zaH (ag CT):=sq
theorem UC (D:Def K mg "whole_row" CT zaH)(xQ:Fn P w K mg base (a8 P w) 1 "greatest_shared" zad gM):Fn P w K mg base (a8 P w) 2 "whole_row" zaH (LW K):=by
 refine D.ok zI (fun vs H Q E h=>?_) (fun f bH A outer s H vs Q E hr h=>?_)
 ·obtain ⟨a,qs,T,B,rfl,_⟩:=h
  rfl
 obtain ⟨a,qs,T,B,rfl,⟨us,hS,hN⟩,sm,hT,hB,ZA,hl,q⟩:=h
 refine ⟨_,(ae (aA (i:=1) zI.nd rfl (abu rfl) ah)
  (ae (bF PassesOwn.never rfl (bD (pv 0)) (aD (i:=2) zI.nd rfl (aav rfl)) (ak (aA (i:=1) zI.nd rfl (abu rfl) (aF bS (aF uY (pv 1) (aE xQ hr.mo pX (ar (pv 1) (ar (a9 (pv 2)) aa)))) (a9 (pv 2))))))
  (ak (aK (a_ (ar (cY (tn:=["number"]) (fr:=["bottom"]) (caps:=[1]) rfl ⟨rfl,by decide+kernel,rfl,by decide+kernel,by decide+kernel,rfl,⟨(by first | exact aav rfl | exact abu rfl),trivial⟩,⟨(by first | exact aav rfl | exact abu rfl),trivial⟩⟩ (bD (pv 0)) (fun _ _ _ _=>(aD (i:=0) (show (["number","bottom"]:List Str).Nodup from by decide+kernel) rfl (aav rfl))) (fun _ _ _ _=>dA) (fun _ _ _ _=>(aF bS (bB (eC (K:=K) rfl) (pv 0) ah (fun _ _=>rfl)) (aF uY (pv 1) (bB (eC (K:=K) rfl) (pv 0) ah (fun _ _=>rfl)))))) (ar (pv 1) aa))))))),?_⟩
 have hlu:=hN.1
 have qat:∀{i:Nat} {u:V},us[i]? =some u->∃q,qs[i]? =some q/\oG K H u q/\Sm T B q:=fun {i u} e=>by
  have hi:i < us.length:=(be.mp e).1
  have e2:qs[i]? =some (qs[i]'(by omega)):=gE (by omega)
  exact ⟨_,e2,hN.2 i u _ e e2,sm _ (aby _)⟩
 refine ⟨_,rfl,a,rfl,⟨_,hS⟩,cC (K:=K) (a:=a) (xs:=us) (fun i σ H' =>∃(b:Int) (o:Β),σ=[some (.ref a),some (.int b),o]/\H' =H/\0 < b/\b.natAbs<=2^(B*i)/\∀j,j < i->∀q,qs[j]? =some q->q.2 ∣ b) ⟨1,none,rfl,rfl,by decide,by simp,fun j h=>absurd h (ab6 _)⟩ (fun i σ H' _ ⟨b,o,_,e,_⟩=>by rw [e];exact hS) ?_ ?_⟩
 ·rintro i u σ H' hu ⟨b,o,rfl,rfl,hb,hs,hd⟩
  obtain ⟨n,en,⟨p,rfl,hp⟩,sn⟩:=qat hu
  have hi:i < qs.length:=(be.mp en).1
  have nb:n.2.natAbs<=2^B:=sn.bot
  obtain ⟨l1,l2,l3,l4⟩:=HS hb sn.pos
  have gp:=sy (t:=b) (b:=n.2) (by have:=sn.pos;omega)
  have gl:=TL (t:=b) (b:=n.2) (by have:=sn.pos;omega)
  have sz:(b.fdiv (gz b n.2)*n.2).natAbs<=2^(B*(i+1)):=by
   refine aam l4 ?_
   rw [Nat.mul_succ,ahz]
   exact abF hs nb
  have bi:B*i<=100000:=aam (Nat.mul_le_mul_left B (by omega)) hB
  have g1:gz b n.2 ∣ b:=acx ..
  refine ⟨_,rfl,_,rfl,_,rfl,p,_,_,_,rfl,rfl,hp,mJ,b,n.2,rfl,?_⟩
  refine ⟨_,_,rfl,rfl,⟨by omega,aam (iY (aam gl nb) (abv B)) (by omega)⟩,?_⟩
  refine ⟨_,rfl,p,_,_,_,rfl,rfl,hp,mJ,_,_,rfl,rfl,ng (aam (gF (by omega) g1) hs) nb (by omega) (by omega),?_⟩
  refine ⟨_,_,rfl,rfl,l1,sz,fun j hj q' e' =>?_⟩
  rcases abU.mp hj with z | z
  ·exact Int.dvd_trans (hd j z q' e') l2
  ·subst z
   rw [en] at e'
   cases e'
   exact l3
 ·rintro σ H' ⟨b,o,rfl,rfl,hb,hs,hd⟩
  rw [hlu] at hs hd
  refine ⟨_,rfl,a,rfl,⟨_,hS⟩,fun D nD=>?_⟩
  refine cR (cap:=[some (.int b)]) (K:=K) (a:=a) (xs:=us) (fun i v _=>∃q,qs[i]? =some q/\v=.int (q.1*b.fdiv q.2)) nD (by rw [hlu];exact aaz hl (by decide)) (fun H2 s2=>s2.seq hS) (fun _ _ _ _ _ _ _ h=>h) ?_ ?_
  ·intro i u H2 R hu s2 k
   obtain ⟨n,en,⟨p,rfl,hp⟩,sn⟩:=qat hu
   have T':=Ty.av.cG s2 hp
   have dv:=hd i (be.mp en).1 n en
   have n0:n.2≠0:=by have:=sn.pos;omega
   refine ⟨_,rfl,p,_,_,_,rfl,rfl,T',me,?_⟩
   refine ⟨_,rfl,_,rfl,p,_,_,_,rfl,rfl,T',mJ,_,_,rfl,rfl,⟨n0,aam (iY sn.bot (abv B)) (by omega)⟩,?_⟩
   exact ⟨_,_,rfl,rfl,ng sn.top (aam (gF n0 dv) hs) (by omega) (by omega),k _ _ (av.refl _) ⟨n,en,rfl⟩⟩
  ·intro ys H2 hy hG s2 hD
   have ey:ys=(qs.map fun n=>n.1*b.fdiv n.2).map V.int:=by
    refine abt fun i=>?_
    by_cases hi:i < ys.length
    ·have e1:ys[i]? =some ys[i]:=gE hi
     obtain ⟨n,en,ev⟩:=hG i _ e1
     rw [e1,ev,Wp,Wp,en]
     rfl
    ·rw [aan (by omega),aan (by simp;omega)]
   refine ⟨_,rfl,(by show 2<=sizeLine;decide),fun p np=>?_⟩
   have s3:=aH np (.tup [.ref D,.int b])
   refine q p D (qs.map fun n=>n.1*b.fdiv n.2) b _ (s2.trans s3) nD aj (s3 _ _ (by rw [hD,ey])) hb hs ⟨by simp,fun i t n e1 e2=>?_⟩ (fun t ht=>?_)
   ·rw [Wp,e2] at e1
    have BK :n.1*b.fdiv n.2=t:=aaZ e1
    rw [<- BK]
    exact BO (sm n (aaa e2)).pos (hd i (be.mp e2).1 n e2)
   ·obtain ⟨n,hn,rfl⟩:=aaj.mp ht
    obtain ⟨i,hi⟩:=aaF hn
    have n0:n.2≠0:=by have:=(sm n hn).pos;omega
    exact xA (sm n hn).top (aam (gF n0 (hd i (be.mp hi).1 n hi)) hs)
structure Dv (l l' :ν):Prop where
 len:l'.length=l.length
 Oh:∃g:Int,g≠0/\∀j,g*l'.getD j 0=l.getD j 0
def QS (l:ν):Prop:=Uw l\/∀j,l.getD j 0=0
theorem vH {l:ν}{d:Int}(h:∀j,d ∣ l.getD j 0){i:Nat}{x:Int}(e:l[i]? =some x):d ∣ x:=by
 rw [<- getD_mem e]
 exact h i
inductive kY (vs:η)(H:Hp)(Q:VK)(E_:XK):Prop where
 | mk (v:V) (l:ν) (_:vs=[v]) (_:Ln H v l) (_:l.length<=1000) (_:∀v' l' H',av H H' ->Ln H' v' l' ->Dv l l' ->QS l' ->(v' =v\/∃p,v' =.ref p/\H p=none)->Q v' H'):kY vs H Q E_
theorem LX (l:ν):Dv l l:=⟨rfl,1,by decide,fun j=>Int.one_mul _⟩
theorem zJ:aG ["line","shared","whole"] ["line"] (ag CY):=sq
theorem UD (ht:P.given.tree=none)(D:Def K mg "divided" CY ["line"])(xQ:Fn P w K mg base (a8 P w) 1 "greatest_shared" zad gM):Fn P w K mg base (a8 P w) 33 "divided" ["line"] kY:=by
 refine D.ok zJ (fun vs H Q E h=>?_) (fun f bH A outer s H vs Q E hr h=>?_)
 ·obtain ⟨v,l,rfl,_⟩:=h
  rfl
 obtain ⟨v,l,rfl,⟨a,rfl,ha⟩,hn,q⟩:=h
 have same:QS l->Q (.ref a) H:=fun pz=>q _ l H (av.refl H) ⟨a,rfl,ha⟩ (LX l) pz (.inl rfl)
 refine ⟨_,(ae (aA (i:=1) zJ.nd rfl (abu rfl) ah)
  (ae (bF PassesOwn.never rfl (bD (pv 0)) (aD (i:=2) zJ.nd rfl (aav rfl)) (ae (aA (i:=1) zJ.nd rfl (abu rfl) (aE xQ hr.mo pX (ar (pv 2) (ar (pv 1) aa))))
   (ak (bw (aR du (pv 1) ah (aX _)) (ak (aK (pv 0))) aU))))
  (ak (aK (uG (aR qX (pv 1) ah (aX _)) (cY (tn:=["whole"]) (fr:=["shared"]) (caps:=[1]) rfl ⟨rfl,by decide+kernel,rfl,by decide+kernel,by decide+kernel,rfl,⟨(by first | exact aav rfl | exact abu rfl),trivial⟩,⟨(by first | exact aav rfl | exact abu rfl),trivial⟩⟩ (bD (pv 0)) (fun _ _ _ _=>(aD (i:=0) (show (["whole","shared"]:List Str).Nodup from by decide+kernel) rfl (aav rfl))) (fun _ _ _ _=>dA) (fun _ _ _ _=>(aF (fX ht (Ty.cg.py hr (by decide)) rfl rfl rfl rfl rfl) (pv 0) (pv 1)))) (pv 0)))))),?_⟩
 refine ⟨_,rfl,a,rfl,⟨_,aZ.of ha⟩,cC (K:=K) (a:=a) (xs:=l.map V.int) (fun i σ H' =>∃(g:Int) (o:Β),σ=[some (.ref a),some (.int g),o]/\H' =H/\0<=g/\(∀j,j < i->∀x,l[j]? =some x->g ∣ x)/\(∀d:Int,(∀j,j < i->∀x,l[j]? =some x->d ∣ x)->d ∣ g)/\(0 < i->g≠1)) ⟨0,none,rfl,rfl,by decide,(fun j h=>absurd h (ab6 _)),(fun d _=>Int.dvd_zero d),fun h=>absurd h (ach _)⟩ (fun i σ H' _ ⟨g,o,_,e,_⟩=>by rw [e];exact aZ.of ha) ?_ ?_⟩
 ·rintro i u σ H' hu ⟨g,o,rfl,rfl,g0,hg,hd,_⟩
  rw [Wp] at hu
  obtain ⟨x,ex,rfl⟩:=aaM.mp hu
  have d1:gz x g ∣ x:=acx ..
  have d2:gz x g ∣ g:=acr ..
  have p0:0<=gz x g:=Int.natCast_nonneg _
  refine ⟨_,rfl,_,rfl,x,g,rfl,?_⟩
  refine ⟨_,rfl,rfl,_,rfl,?_⟩
  refine bf (fun z=>⟨_,rfl,same (.inl fun d NK =>?_)⟩) (fun z=>?_)
  ·have z' :gz x g=1:=by simpa using of_decide_eq_true z
   have h1:d ∣ gz x g:=aiT (vH NK ex) (hd d fun j _ y ey=>vH NK ey)
   rw [z'] at h1
   have:=acF.mpr h1
   simpa using this
  refine ⟨_,_,rfl,rfl,p0,fun j hj y ey=>?_,fun d h=>?_,fun _ e=>z (by rw [e];rfl)⟩
  ·rcases abU.mp hj with z | z
   ·exact Int.dvd_trans d2 (hg j z y ey)
   ·subst z
    rw [ex] at ey
    cases ey
    exact d1
  ·exact aiT (h i (abv _) x ex) (hd d fun j hj y ey=>h j (acu hj) y ey)
 ·rintro σ H' ⟨g,o,rfl,rfl,g0,hg,hd,hg1⟩
  rw [ir] at hg hd hg1
  refine ⟨_,rfl,_,_,rfl,rfl,_,rfl,?_⟩
  refine bf (fun c=>?_) (fun c=>⟨_,rfl,same (.inr fun j=>?_)⟩)
  rotate_left
  ·have c' :¬ (1:Int) < g:=fun z=>c (decide_eq_true z)
   by_cases hj:j < l.length
   ·have gz:g=0:=by
     have:=hg1 (by omega)
     omega
    have ej:l[j]? =some l[j]:=gE hj
    have:=hg j hj _ ej
    rw [gz] at this
    rw [getD_mem ej]
    exact Int.zero_dvd.mp this
   ·rw [aaU,aan (by omega)]
    rfl
  have g1:(1:Int) < g:=of_decide_eq_true c
  have gn:g≠0:=by omega
  refine ⟨_,rfl,a,rfl,⟨_,aZ.of ha⟩,fun D nD=>?_⟩
  refine cR (cap:=[some (.int g)]) (K:=K) (a:=a) (xs:=l.map V.int) (fun i v _=>∃x,l[i]? =some x/\v=.int (x.fdiv g)) nD (by rw [ir];exact aaz hn (by decide)) (fun H2 s2=>aZ.of (s2 _ _ ha)) (fun _ _ _ _ _ _ _ h=>h) ?_ ?_
  ·intro i u H2 R hu s2 k
   rw [Wp] at hu
   obtain ⟨x,ex,rfl⟩:=aaM.mp hu
   exact ⟨_,rfl,_,rfl,_,_,rfl,rfl,gn,k _ _ (av.refl _) ⟨x,ex,rfl⟩⟩
  ·intro ys H2 hy hG s2 hD
   rw [ir] at hy
   have ey:ys=(l.map fun x=>x.fdiv g).map V.int:=by
    refine abt fun i=>?_
    by_cases hi:i < ys.length
    ·have e1:ys[i]? =some ys[i]:=gE hi
     obtain ⟨x,ex,ev⟩:=hG i _ e1
     rw [e1,ev,Wp,Wp,ex]
     rfl
    ·rw [aan (by omega),aan (by simp;omega)]
   have Oh:∀j,g*(l.map fun x=>x.fdiv g).getD j 0=l.getD j 0:=fun j=>by
    by_cases hj:j < l.length
    ·have ej:l[j]? =some l[j]:=gE hj
     rw [getD_mem (l:=l.map fun x=>x.fdiv g) (x:=l[j].fdiv g) (by rw [Wp,ej];rfl),getD_mem ej]
     exact (ck gn (hg j hj _ ej)).symm
    ·rw [aaU,aaU,aan (by simp;omega),aan (by omega)]
     simp
   refine q _ (l.map fun x=>x.fdiv g) H2 s2 ⟨D,rfl,by rw [hD,ey]⟩ ⟨by simp,g,gn,Oh⟩ (.inl fun d NK =>?_) (.inr ⟨D,rfl,nD⟩)
   have h1:d*g ∣ g:=hd (d*g) fun j hj x ex=>by
    rw [<- getD_mem ex, <- Oh j,acs]
    exact Int.mul_dvd_mul_left g (NK j)
   obtain ⟨k,hk⟩:=h1
   have h2:g*(d*k)=g*1:=by
    rw [Int.mul_one]
    rw [<- ahx,acs g d]
    exact hk.symm
   have h3:=Int.eq_of_mul_eq_mul_left gn h2
   have h4:d ∣ 1:=⟨k,h3.symm⟩
   simpa using acF.mpr h4
inductive kZ (vs:η)(H:Hp)(Q:VK)(E_:XK):Prop where
 | mk (u v:V) (l m:ν) (c b1 b2:Nat) (_:vs=[u,v,.int (c:Int)]) (_:Ln H u l) (_:Ln H v m) (_:m.length=l.length) (_:c < l.length) (_:l.length<=1000) (_:m.getD c 0≠0) (_:Bd b1 l) (_:Bd b2 m) (_:b1<=29000000) (_:b2<=29000000) (_:∀v' l' H',av H H' ->Ln H' v' l' ->p_ l m l' c->Bd (b1+b2+1) l' ->(l' =l\/QS l')->(v' =u\/∃p,v' =.ref p/\H p=none)->Q v' H'):kZ vs H Q E_
theorem LY {a b:Int}(ha:a≠0):a=gz a b*a.fdiv (gz a b)/\b=gz a b*b.fdiv (gz a b)/\gz a b≠0/\a.fdiv (gz a b)≠0/\(a.fdiv (gz a b)).natAbs<=a.natAbs/\(b.fdiv (gz a b)).natAbs<=b.natAbs:=by
 have gn:gz a b≠0:=by
  intro z
  have z' :((abx a b:Nat):Int)=0:=z
  have:abx a b=0:=by omega
  exact ha (Int.gcd_eq_zero_iff.mp this).1
 have d1:gz a b ∣ a:=acx ..
 have d2:gz a b ∣ b:=acr ..
 have e1:=ck gn d1
 refine ⟨e1,ck gn d2,gn,fun z=>?_,gF gn d1,gF gn d2⟩
 rw [z,aho] at e1
 exact ha e1
theorem LZ {l m:ν}{t u:Int}{ys:η}(hl:m.length=l.length)(hy:ys.length=l.length)(h:∀(i:Nat) (v:V),ys[i]? =some v->∃x y,l[i]? =some x/\m[i]? =some y/\v=.int (t*x - u*y)):ys=(ab' (fun x y=>t*x - u*y) l m).map V.int:=by
 refine abt fun i=>?_
 by_cases hi:i < ys.length
 ·have e1:ys[i]? =some ys[i]:=gE hi
  obtain ⟨x,y,ex,ey,ev⟩:=h i _ e1
  rw [e1,ev,Wp,abP,ex,ey]
  rfl
 ·rw [aan (by omega),aan (by simp;omega)]
theorem Jb {l m:ν}{t u:Int}(hl:m.length=l.length)(j:Nat):(ab' (fun x y=>t*x - u*y) l m).getD j 0=t*l.getD j 0 - u*m.getD j 0:=by
 by_cases hj:j < l.length
 ·have e1:l[j]? =some l[j]:=gE hj
  have e2:m[j]? =some (m[j]'(by omega)):=gE (by omega)
  rw [getD_mem e1,getD_mem e2]
  exact getD_mem (by rw [abP,e1,e2])
 ·rw [aaU,aaU,aaU,aan (by simp;omega),aan (by omega),aan (by omega)]
  simp
theorem zK:aG ["line","lead","column","shared","times","less"] zav (ag CW):=sq
theorem UE (ht:P.given.tree=none)(D:Def K mg "cleared" CW zav)(j4:mg "zip"=none)(xQ:Fn P w K mg base (a8 P w) 1 "greatest_shared" zad gM)(aa4:Fn P w K mg base (a8 P w) 33 "divided" ["line"] kY):Fn P w K mg base (a8 P w) 34 "cleared" zav kZ:=by
 refine D.ok zK (fun vs H Q E h=>?_) (fun f bH A outer s H vs Q E hr h=>?_)
 ·obtain ⟨u,v,l,m,c,b1,b2,rfl,_⟩:=h
  rfl
 obtain ⟨u,v,l,m,c,b1,b2,rfl,⟨a,rfl,ha⟩,⟨a',rfl,ZC⟩,hl,hc,hn,hm,B1,B2,UG,hb2,q⟩:=h
 refine ⟨_,(ae (bw (aR du (bB bc (pv 0) (pv 2) (fun _ _=>rfl)) ah (aX _)) (ak (aK (pv 0))) aU)
  (ae (aA (i:=3) zK.nd rfl (aav rfl) (aE xQ hr.mo pX (ar (bB bc (pv 1) (pv 2) (fun _ _=>rfl)) (ar (bB bc (pv 0) (pv 2) (fun _ _=>rfl)) aa))))
  (ae (aA (i:=4) zK.nd rfl (abu rfl) (aF (fX ht (Ty.cg.py hr (by decide)) rfl rfl rfl rfl rfl) (bB bc (pv 1) (pv 2) (fun _ _=>rfl)) (pv 3)))
  (ae (aA (i:=5) zK.nd rfl (abu rfl) (aF (fX ht (Ty.cg.py hr (by decide)) rfl rfl rfl rfl rfl) (bB bc (pv 0) (pv 2) (fun _ _=>rfl)) (pv 3)))
  (ak (aK (aE aa4 hr.mo pX (ar (cY (tn:=["whole","other"]) (fr:=["times","less"]) (caps:=[4,5]) rfl ⟨rfl,by decide+kernel,rfl,by decide+kernel,by decide+kernel,rfl,⟨(by first | exact aav rfl | exact abu rfl),⟨(by first | exact aav rfl | exact abu rfl),trivial⟩⟩,⟨(by first | exact aav rfl | exact abu rfl),⟨(by first | exact aav rfl | exact abu rfl),trivial⟩⟩⟩ (HP rfl j4 (ar (pv 0) (ar (pv 1) aa))) (fun _ _ _ _=>(sL (K:=K) (n:=2) rfl rfl (aS (aD (i:=0) (show (zaM:List Str).Nodup from by decide+kernel) rfl (aav rfl)) (aS (aD (i:=1) (show (zaM:List Str).Nodup from by decide+kernel) rfl (aav rfl)) b7)))) (fun _ _ _ _=>dA) (fun _ _ _ _=>(aF b9 (aF bS (pv 2) (pv 0)) (aF bS (pv 3) (pv 1))))) aa)))))))),?_⟩
 have ea:=rL (l:=l) hc
 have em:=rL (l:=m) (j:=c) (by omega)
 refine ⟨_,rfl,_,rfl,a,_,_,_,rfl,rfl,aZ.of ha,ea,rfl,_,rfl,?_⟩
 refine bf (fun z=>?_) (fun z=>?_)
 ·have z' :l.getD c 0=0:=by simpa using of_decide_eq_true z
  exact ⟨_,rfl,q _ l H (av.refl H) ⟨a,rfl,ha⟩ ⟨rfl,z',1,1,0,by decide,by decide,fun j=>by omega⟩ (B1.up (by omega)) (.inl rfl) (.inl rfl)⟩
 ·obtain ⟨f1,f2,f3,f4,f5,f6⟩:=LY (a:=m.getD c 0) (b:=l.getD c 0) hm
  refine ⟨_,rfl,_,rfl,a',_,_,_,rfl,rfl,aZ.of ZC,em,_,rfl,_,rfl,a,_,_,_,rfl,rfl,aZ.of ha,ea,_,_,rfl,?_⟩
  refine ⟨_,rfl,_,rfl,a',_,_,_,rfl,rfl,aZ.of ZC,em,_,rfl,_,_,rfl,rfl,f3,?_⟩
  refine ⟨_,rfl,_,rfl,a,_,_,_,rfl,rfl,aZ.of ha,ea,_,rfl,_,_,rfl,rfl,f3,?_⟩
  refine ⟨_,rfl,_,rfl,a,a',rfl,⟨_,aZ.of ha⟩,⟨_,aZ.of ZC⟩,fun D1 n1=>?_⟩
  have st:((m.getD c 0).fdiv (gz (m.getD c 0) (l.getD c 0))).natAbs<=2^b2:=aam f5 (B2 c)
  have su:((l.getD c 0).fdiv (gz (m.getD c 0) (l.getD c 0))).natAbs<=2^b1:=aam f6 (B1 c)
  refine vc (cap:=[some (.int ((m.getD c 0).fdiv (gz (m.getD c 0) (l.getD c 0)))),some (.int ((l.getD c 0).fdiv (gz (m.getD c 0) (l.getD c 0))))]) (K:=K) (xs:=l.map V.int) (ys:=m.map V.int) (fun i v _=>∃x y,l[i]? =some x/\m[i]? =some y/\v=.int ((m.getD c 0).fdiv (gz (m.getD c 0) (l.getD c 0))*x - (l.getD c 0).fdiv (gz (m.getD c 0) (l.getD c 0))*y)) n1 (by rw [ir];exact aaz hn (by decide)) (by simpa using hl) (fun H2 s2=>aZ.of (s2 _ _ ha)) (fun H2 s2=>aZ.of (s2 _ _ ZC)) (fun _ _ _ _ _ _ _ h=>h) ?_ ?_
  ·intro i x y H2 R ex ey s2 k
   rw [Wp] at ex ey
   obtain ⟨x',AR,rfl⟩:=aaM.mp ex
   obtain ⟨y',uB,rfl⟩:=aaM.mp ey
   refine ⟨_,rfl,_,rfl,_,_,rfl,rfl,ng st (B1.mem (aaa AR)) (by omega) (by omega),?_⟩
   exact ⟨_,rfl,_,rfl,_,_,rfl,rfl,ng su (B2.mem (aaa uB)) (by omega) (by omega),_,_,rfl,rfl,k _ _ (av.refl _) ⟨x',y',AR,uB,rfl⟩⟩
  ·intro ys H2 hy hG s2 hD
   rw [ir] at hy
   have ey:=LZ hl hy hG
   refine ⟨_,_,rfl,⟨D1,rfl,by rw [hD,ey]⟩,by simp;omega,fun v' l' H3 s3 L3 dv pz fr=>?_⟩
   obtain ⟨g,gn,hg⟩:=dv.Oh
   have gj:∀j,g*l'.getD j 0=(m.getD c 0).fdiv (gz (m.getD c 0) (l.getD c 0))*l.getD j 0 - (l.getD c 0).fdiv (gz (m.getD c 0) (l.getD c 0))*m.getD j 0:=fun j=>by rw [hg j,Jb hl]
   refine q v' l' H3 (s2.trans s3) L3 ⟨by rw [dv.len];simp [hl],?_,g,_,_,gn,f4,gj⟩ (fun j=>?_) (.inr pz) ?_
   ·have e:=gj c
    have z2:(m.getD c 0).fdiv (gz (m.getD c 0) (l.getD c 0))*l.getD c 0 - (l.getD c 0).fdiv (gz (m.getD c 0) (l.getD c 0))*m.getD c 0=0:=by
     generalize gz (m.getD c 0) (l.getD c 0)=G at*
     generalize (m.getD c 0).fdiv G=t at*
     generalize (l.getD c 0).fdiv G=u at*
     rw [f1,f2]
     grind
    rw [z2] at e
    rcases aia.mp e with y | y
    ·exact absurd y gn
    ·exact y
   ·have b:(g*l'.getD j 0).natAbs<=2^(b1+b2+1):=by
     rw [gj j,Int.sub_eq_add_neg]
     refine Qr (Ob (xA st (B1 j)) (by omega)) ?_
     rw [am_]
     exact xA su (B2 j)
    exact aam (dC gn) b
   ·rcases fr with z | ⟨p,e,n⟩
    ·exact .inr ⟨D1,z,n1⟩
    ·exact .inr ⟨p,e,s2.free n⟩
inductive sY (K:Frag)(vs:η)(H:Hp)(Q:VK)(E_:XK):Prop where
 | mk (a:Addr) (us:η) (ls:List (List Int:_)) (c:Nat) (_:vs=[.ref a,.int (c:Int)]) (_:aZ K H a us) (_:qm H us ls) (_:(∀l∈ls,c < l.length)) (_:(∀(i:Nat) (l:ν) (H' :Hp),av H H' ->ls[i]? =some l->l.getD c 0≠0->Q (.int (i:Int)) H')) (_:((∀l∈ls,l.getD c 0=0)->∀H',av H H' ->Q .cI H')):sY K vs H Q E_
theorem qm.at {H:Hp}{us:η}{ls:ζ}(h:qm H us ls){i:Nat}{u:V}(e:us[i]? =some u):∃l,ls[i]? =some l/\Ln H u l:=by
 have hi:i < us.length:=(be.mp e).1
 have hl:=h.1
 have e2:ls[i]? =some (ls[i]'(by omega)):=gE (by omega)
 exact ⟨_,e2,h.2 i u _ e e2⟩
theorem qm.at' {H:Hp}{us:η}{ls:ζ}(h:qm H us ls){i:Nat}{l:ν}(e:ls[i]? =some l):∃u,us[i]? =some u/\Ln H u l:=by
 have hi:i < ls.length:=(be.mp e).1
 have hl:=h.1
 have e2:us[i]? =some (us[i]'(by omega)):=gE (by omega)
 exact ⟨_,e2,h.2 i _ l e2 e⟩
theorem Jc:aG ["lines","column","at","line"] zaF (ag CV):=sq
theorem UH (D:Def K mg "first_not_nought" CV zaF)(cq:mg "enumerate"=none):Fn P w K mg base (a8 P w) 1 "first_not_nought" zaF (sY K):=by
 refine D.ok Jc (fun vs H Q E h=>?_) (fun f bH A outer s H vs Q E hr h=>?_)
 ·obtain ⟨a,us,ls,c,rfl,_⟩:=h
  rfl
 obtain ⟨a,us,ls,c,rfl,hS,L,hc,q1,q2⟩:=h
 have lu:=L.1
 refine ⟨_,(ae (bF PassesOwn.never rfl (sQ rfl cq (ar (pv 0) aa)) (dy rfl (aS (aD (i:=2) Jc.nd rfl (aav rfl)) (aS (aD (i:=3) Jc.nd rfl (aav rfl)) b7))) (ak (bw (aR y8 (bB bc (pv 3) (pv 1) (fun _ _=>rfl)) ah (aX _)) (ak (aK (pv 2))) aU)))
  (ak (aK nO))),?_⟩
 refine ⟨_,rfl,a,rfl,⟨_,hS⟩,vo (K:=K) (a:=a) (xs:=us) (fun i σ H' =>∃o1 o2:Option V,σ=[some (.ref a),some (.int (c:Int)),o1,o2]/\av H H' /\∀j,j < i->∀l,ls[j]? =some l->l.getD c 0=0) ⟨none,none,rfl,av.refl H,fun j h=>absurd h (ab6 _)⟩ (fun i σ H' _ ⟨o1,o2,_,s1,_⟩=>s1.seq hS) ?_ ?_⟩
 ·rintro i u σ H' p hu ⟨o1,o2,rfl,s1,z⟩ np
  obtain ⟨l,el,b,rfl,hb⟩:=L.at hu
  have s2:=s1.trans (aH np (.tup [.int (i:Int),.ref b]))
  have hcl:=hc l (aaa el)
  refine ⟨p,_,rfl,bQ.of aj,rfl,_,_,rfl,_,_,rfl,rfl,?_⟩
  refine ⟨_,rfl,_,rfl,b,_,_,_,rfl,rfl,aZ.of (s2 _ _ hb),rL hcl,rfl,_,rfl,?_⟩
  refine bf (fun y=>?_) (fun y=>?_)
  ·have y' :l.getD c 0≠0:=by simpa using y
   exact ⟨_,rfl,q1 i l _ s2 el y'⟩
  ·have y' :l.getD c 0=0:=by simpa using y
   refine ⟨_,_,rfl,s2,fun j hj l' e' =>?_⟩
   rcases abU.mp hj with w | w
   ·exact z j w l' e'
   ·subst w
    rw [el] at e'
    cases e'
    exact y'
 ·rintro σ H' ⟨o1,o2,rfl,s1,z⟩
  refine q2 (fun l hl=>?_) H' s1
  obtain ⟨j,hj⟩:=aaF hl
  exact z j (by have:=(be.mp hj).1;omega) l hj
structure Red (os:ζ)(L c b:Nat)(nd:θ)(lv:ζ):Prop where
 mK:∀x∈nd,x.2.length=L
 mL:∀l∈lv,l.length=L
 cols:∀x∈nd,x.1 < c
 asc:(nd.map (·.1)).Pairwise (· < ·)
 here:∀x∈nd,x.2.getD x.1 0≠0
 off:∀x∈nd,∀y∈nd,x.1≠y.1->x.2.getD y.1 0=0
 low:∀x∈nd,∀j,j < x.1->x.2.getD j 0=0
 zero:∀l∈lv,∀j,j < c->l.getD j 0=0
 vI:∀x∈nd,sO os x.2
 mf:∀l∈lv,sO os l
 sol:∀z,((∀x∈nd,ev x.2 z=0)/\(∀l∈lv,ev l z=0)) ↔ ∀o∈os,ev o z=0
 Jd:∀x∈nd,Bd b x.2
 Je:∀l∈lv,Bd b l
 cnt:nd.length+lv.length=os.length
theorem Red.start {os:ζ}{L b:Nat}(hL:∀o∈os,o.length=L)(hb:∀o∈os,Bd b o):Red os L 0 b [] os where
 mK:=by simp
 mL:=hL
 cols:=by simp
 asc:=by simp
 here:=by simp
 off:=by simp
 low:=by simp
 zero:=fun _ _ j h=>absurd h (ab6 _)
 vI:=by simp
 mf:=fun l h=>vn h
 sol:=fun z=>by simp
 Jd:=by simp
 Je:=hb
 cnt:=by simp
theorem Red.skip {os:ζ}{L c b:Nat}{nd:θ}{lv:ζ}(h:Red os L c b nd lv)(hz:∀l∈lv,l.getD c 0=0):Red os L (c+1) b nd lv where
 mK:=h.mK
 mL:=h.mL
 cols:=fun x hx=>acu (h.cols x hx)
 asc:=h.asc
 here:=h.here
 off:=h.off
 low:=h.low
 zero:=fun l hl j hj=>by
  rcases abU.mp hj with z | z
  ·exact h.zero l hl j z
  ·subst z
   exact hz l hl
 vI:=h.vI
 mf:=h.mf
 sol:=h.sol
 Jd:=h.Jd
 Je:=h.Je
 cnt:=h.cnt
structure Made (os:ζ)(lead:ν)(c b:Nat)(xs ys:ζ):Prop where
 len:ys.length=xs.length
 to:∀(i:Nat) (x:ν),xs[i]? =some x->∃y,ys[i]? =some y/\p_ x lead y c/\Bd b y
theorem Made.ex {os:ζ}{lead:ν}{c b:Nat}{xs ys:ζ}(h:Made os lead c b xs ys){y:ν}(hy:y∈ys):∃x∈xs,p_ x lead y c/\Bd b y:=by
 obtain ⟨i,hi⟩:=aaF hy
 have hl:=h.len
 have lU:i < ys.length:=(be.mp hi).1
 have e:xs[i]? =some (xs[i]'(by omega)):=gE (by omega)
 obtain ⟨y',e',r⟩:=h.to i _ e
 rw [hi] at e'
 cases e'
 exact ⟨_,aaa e,r⟩
theorem Made.all {os:ζ}{lead:ν}{c b:Nat}{xs ys:ζ}(h:Made os lead c b xs ys){x:ν}(hx:x∈xs):∃y∈ys,p_ x lead y c/\Bd b y:=by
 obtain ⟨i,hi⟩:=aaF hx
 obtain ⟨y,e,r⟩:=h.to i x hi
 exact ⟨y,aaa e,r⟩
theorem Red.step {os:ζ}{L c b:Nat}{nd iw :θ}{lv xJ rest:ζ}{lead:ν}(h:Red os L c b nd lv)(f9:lead∈lv)(vJ:∀l∈rest,l∈lv)(G_:∀l∈lv,l=lead\/l∈rest)(hlen:rest.length+1=lv.length)
  (hc:lead.getD c 0≠0) (ML:Made os lead c (2*b+1) rest xJ) (hk:iw.map (·.1)=nd.map (·.1)) (MN:Made os lead c (2*b+1) (nd.map (·.2)) (iw.map (·.2))):Red os L (c+1) (2*b+1) (iw ++[(c,lead)]) xJ :=by
 have ll:=h.mL lead f9
 have lz:=h.zero lead f9
 have hl' :iw.length=nd.length:=by simpa using congrArg abX hk
 have pairs:∀x' ∈iw,∃x∈nd,x.1=x'.1/\p_ x.2 lead x'.2 c/\Bd (2*b+1) x'.2:=by
  intro x' yY
  obtain ⟨i,hi⟩:=aaF yY
  have lU:i < iw.length:=(be.mp hi).1
  have e:nd[i]? =some (nd[i]'(by omega)):=gE (by omega)
  have e1:(iw.map (·.1))[i]? =(nd.map (·.1))[i]? :=by rw [hk]
  rw [Wp,Wp,hi,e] at e1
  obtain ⟨y,e2,r⟩:=MN.to i (nd[i]'(by omega)).2 (by rw [Wp,e];rfl)
  rw [Wp,hi] at e2
  simp at e1 e2
  subst e2
  exact ⟨_,aaa e,e1.symm,r⟩
 have back:∀x∈nd,∃x' ∈iw,x'.1=x.1/\p_ x.2 lead x'.2 c:=by
  intro x hx
  obtain ⟨i,hi⟩:=aaF hx
  have lU:i < nd.length:=(be.mp hi).1
  have e:iw[i]? =some (iw[i]'(by omega)):=gE (by omega)
  have e1:(iw.map (·.1))[i]? =(nd.map (·.1))[i]? :=by rw [hk]
  rw [Wp,Wp,hi,e] at e1
  obtain ⟨y,e2,r⟩:=MN.to i x.2 (by rw [Wp,hi];rfl)
  rw [Wp,e] at e2
  simp at e1 e2
  exact ⟨_,aaa e,e1,by rw [e2];exact r.1⟩
 have L6:∀x∈iw ++[(c,lead)],x∈iw \/x=(c,lead):=fun x hx=>by simpa using hx
 exact {
  mK:=fun x hx=>by
   rcases L6 x hx with z | z
   ·obtain ⟨y,hy,_,k,_⟩:=pairs x z
    rw [k.len]
    exact h.mK y hy
   ·subst z
    exact ll
  mL:=fun l hl=>by
   obtain ⟨x,hx,k,_⟩:=ML.ex hl
   rw [k.len]
   exact h.mL x (vJ x hx)
  cols:=fun x hx=>by
   rcases L6 x hx with z | z
   ·obtain ⟨y,hy,e,_⟩:=pairs x z
    rw [<- e]
    exact acu (h.cols y hy)
   ·subst z
    exact abv _
  asc:=by
   rw [aa1,hk,List.pairwise_append]
   refine ⟨h.asc,by simp,fun a ha b' ix =>?_⟩
   obtain ⟨x,hx,rfl⟩:=aaj.mp ha
   have:b' =c:=by simpa using ix
   subst this
   exact h.cols x hx
  here:=fun x hx=>by
   rcases L6 x hx with z | z
   ·obtain ⟨y,hy,e,k,_⟩:=pairs x z
    rw [<- e]
    exact k.at (lz _ (h.cols y hy)) (h.here y hy)
   ·subst z
    exact hc
  off:=fun x hx y hy ne=>by
   rcases L6 x hx with z | z <;> rcases L6 y hy with u | u
   ·obtain ⟨x0,Zz,e0,k0,_⟩:=pairs x z
    obtain ⟨y0,Jf,e1,_⟩:=pairs y u
    rw [<- e1]
    exact k0.zero (h.off x0 Zz y0 Jf (by rw [e0,e1];exact ne)) (lz _ (h.cols y0 Jf))
   ·subst u
    obtain ⟨x0,Zz,e0,k0,_⟩:=pairs x z
    exact k0.IH
   ·subst z
    obtain ⟨y0,Jf,e1,_⟩:=pairs y u
    rw [<- e1]
    exact lz _ (h.cols y0 Jf)
   ·subst z
    subst u
    exact absurd rfl ne
  low:=fun x hx j hj=>by
   rcases L6 x hx with z | z
   ·obtain ⟨y,hy,e,k,_⟩:=pairs x z
    rw [<- e] at hj
    exact k.zero (h.low y hy j hj) (lz j (ah3 hj (h.cols y hy)))
   ·subst z
    exact lz j hj
  zero:=fun l hl j hj=>by
   obtain ⟨x,hx,k,_⟩:=ML.ex hl
   rcases abU.mp hj with z | z
   ·exact k.zero (h.zero x (vJ x hx) j z) (lz j z)
   ·subst z
    exact k.IH
  vI:=fun x hx=>by
   rcases L6 x hx with z | z
   ·obtain ⟨y,hy,_,k,_⟩:=pairs x z
    exact k.comb (h.vI y hy) (h.mf lead f9)
   ·subst z
    exact h.mf lead f9
  mf:=fun l hl=>by
   obtain ⟨x,hx,k,_⟩:=ML.ex hl
   exact k.comb (h.mf x (vJ x hx)) (h.mf lead f9)
  sol:=fun z=>by
   rw [<- h.sol z]
   constructor
   ·rintro ⟨a1,a2⟩
    have az:ev lead z=0:=a1 (c,lead) (by simp)
    refine ⟨fun x hx=>?_,fun l hl=>?_⟩
    ·obtain ⟨x',yY,_,k⟩:=back x hx
     exact (k.ev (by rw [ll,h.mK x hx]) az).mp (a1 x' (by simp [yY]))
    ·rcases G_ l hl with u | u
     ·rw [u]
      exact az
     ·obtain ⟨y,hy,k,_⟩:=ML.all u
      exact (k.ev (by rw [ll,h.mL l hl]) az).mp (a2 y hy)
   ·rintro ⟨a1,a2⟩
    have az:=a2 lead f9
    refine ⟨fun x hx=>?_,fun l hl=>?_⟩
    ·rcases L6 x hx with u | u
     ·obtain ⟨y,hy,_,k,_⟩:=pairs x u
      exact (k.ev (by rw [ll,h.mK y hy]) az).mpr (a1 y hy)
     ·subst u
      exact az
    ·obtain ⟨x,hx,k,_⟩:=ML.ex hl
     exact (k.ev (by rw [ll,h.mL x (vJ x hx)]) az).mpr (a2 x (vJ x hx))
  Jd:=fun x hx=>by
   rcases L6 x hx with z | z
   ·obtain ⟨y,hy,_,_,k⟩:=pairs x z
    exact k
   ·subst z
    exact (h.Je lead f9).up (by omega)
  Je:=fun l hl=>by
   obtain ⟨x,hx,_,k⟩:=ML.ex hl
   exact k
  cnt:=by
   have a:=ML.len
   have b:=h.cnt
   rw [aat,hl']
   simp
   omega}
def nv (H:Hp)(kvs:δ)(nd:θ):Prop:=kvs.length=nd.length/\∀(i:Nat) (kv:Key×V) (x:Nat×List Int),kvs[i]? =some kv->nd[i]? =some x->kv.1=.inl (x.1:Int)/\Ln H kv.2 x.2
theorem nv.same {H H' :Hp}{kvs:δ}{nd:θ}(h:nv H kvs nd)(s:av H H'):nv H' kvs nd:=⟨h.1,fun i kv x e1 e2=>⟨(h.2 i kv x e1 e2).1,(h.2 i kv x e1 e2).2.same s⟩⟩
theorem Ln.put {H:Hp}{v:V}{l:ν}{d:Addr}{kvs:δ}{o:HO}(h:Ln H v l)(e:H d=some (.dK kvs)):Ln (upd H d o) v l:=by
 obtain ⟨p,e1,k⟩:=h
 exact ⟨p,e1,by rw [aq (fun z=>by rw [z,e] at k;cases k)];exact k⟩
theorem qm.put {H:Hp}{us:η}{ls:ζ}{d:Addr}{kvs:δ}{o:HO}(h:qm H us ls)(e:H d=some (.dK kvs)):qm (upd H d o) us ls:=⟨h.1,fun i u l e1 e2=>(h.2 i u l e1 e2).put e⟩
theorem nv.put {H:Hp}{kvs UI:δ}{nd:θ}{d:Addr}{o:HO}(h:nv H kvs nd)(e:H d=some (.dK UI)):nv (upd H d o) kvs nd:=⟨h.1,fun i kv x e1 e2=>⟨(h.2 i kv x e1 e2).1,(h.2 i kv x e1 e2).2.put e⟩⟩
theorem f_ {H H' :Hp}{d:Addr}{o:HO}(s:av H H')(n:H d=none):av H (upd H' d o):=fun b o' e=>by
 rw [aq (fun z=>by rw [z,n] at e;cases e)]
 exact s _ _ e
theorem nv.at {H:Hp}{kvs:δ}{nd:θ}(h:nv H kvs nd){i:Nat}{x:Nat×List Int}(e:nd[i]? =some x):∃v,kvs[i]? =some (.inl (x.1:Int),v)/\Ln H v x.2:=by
 have hi:i < nd.length:=(be.mp e).1
 have hl:=h.1
 have e2:kvs[i]? =some (kvs[i]'(by omega)):=gE (by omega)
 obtain ⟨a,b⟩:=h.2 i _ x e2 e
 exact ⟨(kvs[i]'(by omega)).2,by rw [e2, <- a],b⟩
theorem nv.keys {H:Hp}{kvs:δ}{nd:θ}(h:nv H kvs nd):kvs.map (·.1)=nd.map (fun x=>(ahG (x.1:Int):Key)):=by
 refine abt fun i=>?_
 have hl:=h.1
 rw [Wp,Wp]
 by_cases hi:i < nd.length
 ·have e:nd[i]? =some nd[i]:=gE hi
  obtain ⟨v,e2,_⟩:=h.at e
  rw [e,e2]
  rfl
 ·rw [aan (by omega),aan (by omega)]
  rfl
theorem nA {k:Key}{v:V}:∀{kvs:δ} {i:Nat},(kvs.map (·.1)).Nodup->kvs[i]? =some (k,v)->dJ kvs k=some v
 | [],_,_,e=>by simp at e
 | p::r,0,_,e=>by
  cases e
  exact eG (p:=(k,v)) rfl
 | p::r,i+1,n,e=>by
  rw [aaR,abe] at n
  have e' :r[i]? =some (k,v):=by simpa using e
  have ne:¬ p.1=k:=fun z=>n.1 (by rw [z];exact aaj.mpr ⟨(k,v),aaa e',rfl⟩)
  rw [cF ne]
  exact nA n.2 e'
theorem j5 {k:Key}:∀{kvs:δ},k∉kvs.map (·.1)->dJ kvs k=none
 | [],_=>rfl
 | p::r,h=>by
  have h' :k≠p.1/\k∉r.map (·.1):=by simpa using h
  rw [cF (fun z=>h'.1 z.symm)]
  exact j5 h'.2
theorem map_put {k:Key}{v v' :V}:∀{kvs:δ} {i:Nat},(kvs.map (·.1)).Nodup->kvs[i]? =some (k,v)->kvs.map (fun kv=>if kv.1=k then (kv.1,v') else kv)=kvs.set i (k,v')
 | [],_,_,e=>by simp at e
 | p::r,0,n,e=>by
  rw [aaR,abe] at n
  cases e
  have hr:r.map (fun kv=>if kv.1=k then (kv.1,v') else kv)=r:=by
   refine (abI (fun q hq=>?_)).trans (List.map_id r)
   have ne:¬ q.1=k:=fun z=>n.1 (by show k∈_;rw [<- z];exact aaj.mpr ⟨q,hq,rfl⟩)
   rw [if_neg ne]
   rfl
  rw [aaR,hr,if_pos rfl,List.set_cons_zero]
 | p::r,i+1,n,e=>by
  rw [aaR,abe] at n
  have e' :r[i]? =some (k,v):=by simpa using e
  have ne:¬ p.1=k:=fun z=>n.1 (by rw [z];exact aaj.mpr ⟨(k,v),aaa e',rfl⟩)
  rw [aaR,if_neg ne,map_put n.2 e',List.set_cons_succ]
theorem L7 {k:Key}{v v' :V}{kvs:δ}{i:Nat}(n:(kvs.map (·.1)).Nodup)(e:kvs[i]? =some (k,v)):putK kvs k v' =kvs.set i (k,v'):=by
 unfold putK
 rw [jW,nA n e]
 exact map_put n e
theorem nv.set {H:Hp}{kvs:δ}{nd:θ}(h:nv H kvs nd){i c:Nat}{v:V}{l:ν}(hv:Ln H v l):nv H (kvs.set i (.inl (c:Int),v)) (nd.set i (c,l)):=by
 have hl:=h.1
 refine ⟨by simp [hl],fun j kv x e1 e2=>?_⟩
 rw [ahr] at e1 e2
 by_cases z:i=j
 ·subst z
  rw [if_pos rfl] at e1 e2
  by_cases hi:i < kvs.length
  ·rw [if_pos hi] at e1
   rw [if_pos (by omega)] at e2
   cases e1
   cases e2
   exact ⟨rfl,hv⟩
  ·rw [if_neg hi] at e1
   cases e1
 ·rw [if_neg z] at e1 e2
  exact h.2 j kv x e1 e2
theorem nv.snoc {H:Hp}{kvs:δ}{nd:θ}(h:nv H kvs nd){c:Nat}{v:V}{l:ν}(hv:Ln H v l):nv H (kvs++[(.inl (c:Int),v)]) (nd++[(c,l)]):=by
 have hl:=h.1
 refine ⟨by simp [hl],fun j kv x e1 e2=>?_⟩
 by_cases z:j < kvs.length
 ·rw [aaS z] at e1
  rw [aaS (by omega)] at e2
  exact h.2 j kv x e1 e2
 ·rw [aa3 (by omega)] at e1 e2
  rw [<- hl] at e2
  by_cases y:j - kvs.length=0
  ·rw [y] at e1 e2
   cases e1
   cases e2
   exact ⟨rfl,hv⟩
  ·rw [aan (by simp;omega)] at e1
   cases e1
theorem keys_nodup:∀{nd:θ},(nd.map (·.1)).Pairwise (· < ·)->(nd.map (fun x=>(ahG (x.1:Int):Key))).Nodup
 | [],_=>by simp
 | x::r,h=>by
  rw [aaR,ahO] at h
  rw [aaR,abe]
  refine ⟨fun z=>?_,keys_nodup h.2⟩
  obtain ⟨y,hy,e⟩:=aaj.mp z
  have e' :(y.1:Int)=x.1:=ahj e
  have:=h.1 y.1 (aaj.mpr ⟨y,hy,rfl⟩)
  omega
def bb (b k:Nat):Nat:=(k+1)*(b+11)
theorem sZ (b k:Nat):b<=bb b k:=by
 unfold bb
 rw [ahV,aih]
 omega
theorem Red.piv {os:ζ}{L c b:Nat}{nd:θ}{lv:ζ}(R:Red os L c b nd lv):FH nd:=⟨R.asc.imp fun h e=>by omega,R.here,R.off⟩
def Pr (os:ζ)(l:ν):Prop:=l∈os\/QS l
theorem Red.small {os:ζ}{L c b b0 k:Nat}{nd:θ}{lv ps qs:ζ}(R:Red os L c b nd lv)(O:FI os nd lv ps qs)(hb:∀o∈os,Bd b0 o)(hk:nd.length<=k)(hk2:k<=1000)(pN:∀x∈nd,Pr os x.2)(pL:∀l∈lv,Pr os l):Red os L c (bb b0 k) nd lv:=by
 have le:∀{n:Nat},n<=(nd.length+1)*((2*(nd.length+1)*2^b0)^nd.length*2^b0)->n<=2^bb b0 k:=fun {n} h=>aam h (aam (QQ (by omega)) (abo (by decide) (ab1 _ (by omega))))
 have z:∀{n:Nat},n=0->n<=2^bb b0 k:=fun {n} h=>by rw [h];exact abj _
 refine {R with Jd:=fun x hx j=>?_,Je:=fun l hl j=>?_}
 ·rcases pN x hx with h | h | h
  ·exact aam (hb _ h j) (abo (by decide) (sZ _ _))
  ·exact le (O.need R.piv hx hb h j)
  ·exact z (by rw [h j];rfl)
 ·rcases pL l hl with h | h | h
  ·exact aam (hb _ h j) (abo (by decide) (sZ _ _))
  ·obtain ⟨i,ei⟩:=aaF hl
   exact le (O.left R.piv ei (fun x hx=>R.zero l hl x.1 (R.cols x hx)) hb h j)
  ·exact z (by rw [h j];rfl)
theorem L8 {xs:η}{i:Nat}(h:i<=xs.length):fu xs none (some (i:Int))=xs.take i:=by
 unfold fu
 rw [HT.mZ,HT.uQ,ahh h]
 rfl
theorem i6 {xs:η}{i:Nat}(h:i<=xs.length):fu xs (some (i:Int)) none=xs.drop i:=by
 unfold fu
 rw [HT.mZ,HT.uQ,ahh h]
 exact ab_ (by simp)
theorem Red.up {os:ζ}{L c b b' :Nat}{nd:θ}{lv:ζ}(h:Red os L c b nd lv)(hb:b<=b'):Red os L c b' nd lv:={h with Jd:=fun x hx=>(h.Jd x hx).up hb,Je:=fun x hx=>(h.Je x hx).up hb}
theorem qm.erase {H:Hp}{us:η}{ls:ζ}(h:qm H us ls)(j:Nat):qm H (us.eraseIdx j) (ls.eraseIdx j):=by
 have hl:=h.1
 refine ⟨by rw [ab2,ab2,hl],fun i u l e1 e2=>?_⟩
 rw [aca] at e1 e2
 by_cases z:i < j
 ·rw [if_pos z] at e1 e2
  exact h.2 _ _ _ e1 e2
 ·rw [if_neg z] at e1 e2
  exact h.2 _ _ _ e1 e2
theorem gO {α β:Type}{P:Nat->α->β->Prop}:∀(xs:List α),(∀i x,xs[i]? =some x->∃y,P i x y)->∃ys:List β,ys.length=xs.length/\∀i x y,xs[i]? =some x->ys[i]? =some y->P i x y
 | [],_=>⟨[],rfl,fun i x y e=>by simp at e⟩
 | x::xs,h=>by
  obtain ⟨y,hy⟩:=h 0 x rfl
  obtain ⟨ys,hl,hp⟩:=gO (P:=fun i=>P (i+1)) xs (fun i x e=>h (i+1) x (by simpa using e))
  refine ⟨y::ys,by simp [hl],fun i x' y' e1 e2=>?_⟩
  cases i with
  | zero=>
   cases e1
   cases e2
   exact hy
  | succ i=>exact hp i x' y' (by simpa using e1) (by simpa using e2)
inductive i7 (K:Frag)(vs:η)(H:Hp)(Q:VK)(E_:XK):Prop where
 | mk (a:Addr) (us:η) (os:List (List Int:_)) (L m b:Nat) (_:vs=[.ref a,.int (m:Int)]) (_:aZ K H a us) (_:qm H us os) (_:(∀o∈os,o.length=L)) (_:m<=L) (_:L<=1000) (_:os.length<=1000) (_:(∀o∈os,Bd b o)) (_:bb b (min m os.length)<=29000000) (_:∀(p d a' :Addr) (kvs:δ) (fH :η) (nd:θ) (lv:ζ) (H' :Hp),av H H' ->H d=none->H p=none->H' p=some (.tup [.ref d,.ref a'])->H' d=some (.dK kvs)->aZ K H' a' fH ->nv H' kvs nd->qm H' fH lv->Red os L m (bb b (min m os.length)) nd lv->Q (.ref p) H'):i7 K vs H Q E_
theorem mh:aG ["lines","many","needed","left","column","at","lead","place"] zaE (ag CU):=sq
theorem UJ (D:Def K mg "reduced" CU zaE)(bG:mg "range"=none)(dN:mg "list"=none)(aa7:Fn P w K mg base (a8 P w) 1 "first_not_nought" zaF (sY K))(UK:Fn P w K mg base (a8 P w) 34 "cleared" zav kZ):Fn P w K mg base (a8 P w) 35 "reduced" zaE (i7 K):=by
 refine D.ok mh (fun vs H Q E h=>?_) (fun f bH A outer s H vs Q E hr h=>?_)
 ·obtain ⟨a,us,os,L,m,b,rfl,_⟩:=h
  rfl
 obtain ⟨a,us,os,L,m,b,rfl,hS,hL,hlen,hm,hL1,ho,hB,hb,q⟩:=h
 refine ⟨_,(ae (aA (i:=2) mh.nd rfl (aav rfl) dD)
  (ae (aA (i:=3) mh.nd rfl (aav rfl) (pv 0))
  (ae (bF PassesOwn.never rfl (df rfl bG (ar (pv 1) aa)) (aD (i:=4) mh.nd rfl (abu rfl)) (ae (aA (i:=5) mh.nd rfl (aav rfl) (aE aa7 hr.mo pX (ar (pv 3) (ar (pv 4) aa))))
   (ae (bw (aR xn (pv 5) nO (aX _)) (ak uH) aU)
   (ae (aA (i:=6) mh.nd rfl (abu rfl) (bB bc (pv 3) (pv 5) (fun _ _=>rfl)))
   (ae (zk (i:=3) mh.nd rfl (aav rfl) (tn:=["line"]) (fr:=["lead","column"]) (caps:=[6,4]) rfl ⟨rfl,by decide+kernel,rfl,by decide+kernel,by decide+kernel,rfl,⟨(by first | exact aav rfl | exact abu rfl),⟨(by first | exact aav rfl | exact abu rfl),trivial⟩⟩,⟨(by first | exact aav rfl | exact abu rfl),⟨(by first | exact aav rfl | exact abu rfl),trivial⟩⟩⟩ (bD (aF xy (cE gY (pv 3) fk (cA (pv 5))) (cE gY (pv 3) (cA (aF bI (pv 5) ah)) fk))) (fun _ _ _ _=>(aD (i:=0) (show (zav:List Str).Nodup from by decide+kernel) rfl (aav rfl))) (fun _ _ _ _=>dA) (fun _ _ _ _=>(aE UK hr.mo (rB (by first | assumption | exact a8.qj) rfl) (ar (pv 0) (ar (pv 1) (ar (pv 2) aa))))))
   (ae (bF PassesOwn.never rfl (bD (bN (jA rfl) rfl dN oi (ar (pv 2) aa))) (aD (i:=7) mh.nd rfl (aav rfl)) (ak (dj (cX hr) (pv 2) (pv 7) (aE UK hr.mo pX (ar (nh (cX hr) (pv 2) (pv 7) (fun _ _=>rfl)) (ar (pv 6) (ar (pv 4) aa)))) rfl)))
   (ak (dj (cX hr) (pv 2) (pv 4) (pv 6) rfl))))))))
  (ak (aK (a_ (ar (pv 2) (ar (pv 3) aa)))))))),?_⟩
 refine fun d qb=>?_
 have s0:av H (upd H d (.dK [])):=aH qb _
 refine ⟨_,rfl,_,rfl,_,rfl,by omega,by omega,?_⟩
 refine dP (lo:=0) (n:=m) (fun i σ H' =>∃(al:Addr) (nC:η) (kvs:δ) (nd:θ) (lv:ζ) (o4 o5 o6 o7:Β),σ=[some (.ref a),some (.int (m:Int)),some (.ref d),some (.ref al),o4,o5,o6,o7]/\av H H' /\H' d=some (.dK kvs)/\aZ K H' al nC/\qm H' nC lv/\nv H' kvs nd/\nd.length<=i/\Red os L i (bb b (min m os.length)) nd lv/\(∃ps qs,FI os nd lv ps qs)/\(∀x∈nd,Pr os x.2)/\∀l∈lv,Pr os l)
  ⟨a,us,[],[],os,none,none,none,none,rfl,s0,aj,s0.seq hS,hL.same s0,⟨rfl,by simp⟩,aas _,(Red.start hlen hB).up (sZ _ _),⟨[],os,FI.start os⟩,(by simp),fun l hl=>.inl hl⟩ ?_ ?_
 ·rintro i σ H1 hi ⟨al,nC,kvs,nd,lv,o4,o5,o6,o7,rfl,s1,hd,QT,DV,hN,hni,R,⟨ps,qs,O⟩,pN,pL⟩
  refine ⟨_,rfl,_,rfl,al,nC,lv,i,by rw [abH];rfl,QT,DV,fun l hl=>by rw [R.mL l hl];omega,fun j lead H2 s2 ej hj=>?_,fun hz H2 s2=>?_⟩
  ·have hjl:j < lv.length:=(be.mp ej).1
   have hul:=DV.1
   have cnt:=R.cnt
   have ZD:=hb
   have hd2:=s2 _ _ hd
   have Uv:=s2.seq QT
   have hL2:=DV.same s2
   have hN2:=hN.same s2
   obtain ⟨u,eu,hu⟩:=hL2.at' ej
   have f9:lead∈lv:=aaa ej
   refine ⟨_,rfl,rfl,_,rfl,?_⟩
   refine bf (fun z=>by simp at z) (fun _=>?_)
   refine ⟨_,rfl,_,rfl,al,_,_,_,rfl,rfl,Uv,b8 eu,?_⟩
   refine ⟨_,rfl,_,rfl,_,rfl,al,nC,rfl,Uv,fun p1 n1=>?_⟩
   have t1:=aH n1 (.lst (fu nC none (some (j:Int))))
   refine ⟨_,rfl,_,rfl,_,_,rfl,rfl,_,rfl,al,nC,rfl,t1.seq Uv,fun p2 n2=>?_⟩
   have t2:=aH n2 (.lst (fu nC (some ((j:Int)+1)) none))
   have UL:fu nC none (some (j:Int))++fu nC (some ((j:Int)+1)) none=nC.eraseIdx j:=by
    rw [L8 (by omega),show ((j:Int)+1)=((j+1:Nat):Int) from by omega,i6 (by omega),List.eraseIdx_eq_take_drop_succ]
   have aa9:(fu nC none (some (j:Int))).length+(fu nC (some ((j:Int)+1)) none).length<=sizeLine:=by
    rw [<- aat,UL]
    exact aam (aam (ahk ..) (show nC.length<=1000 by omega)) (by decide)
   refine ⟨p1,p2,_,_,rfl,rfl,t2 _ _ aj,aj,aa9,fun p3 n3=>?_⟩
   have t3:=aH n3 (.lst (fu nC none (some (j:Int))++fu nC (some ((j:Int)+1)) none))
   refine ⟨p3,rfl,⟨_,aZ.of aj⟩,fun D nD=>?_⟩
   have tt:=(t1.trans t2).trans t3
   have hE:=(hL2.same tt).erase j
   have ZE:=hu.same tt
   have er:(nC.eraseIdx j).length<=1000:=aam (ahk ..) (show nC.length<=1000 by omega)
   refine jz (cap:=[some u,some (.int ((0:Int)+i))]) (K:=K) (a:=p3) (xs:=nC.eraseIdx j) (fun k v H=>∃x y p,(lv.eraseIdx j)[k]? =some x/\v=.ref p/\p≠D/\H p=some (.lst (y.map V.int))/\p_ x lead y i/\Bd (2*bb b (min m os.length)+1) y/\(y=x\/QS y)) nD (aaz er (by decide)) (fun H3 s3=>aZ.of (s3 _ _ (by rw [aj,UL]))) ?_ ?_ ?_
   ·rintro k v H3 H4 ys hD3 ks ⟨x,y,p,e1,e2,e3,e4,e5⟩
    exact ⟨x,y,p,e1,e2,e3,ks _ _ e3 e4,e5⟩
   ·rintro k x H3 RR ex s3 ⟨ys0,aba⟩ kk
    obtain ⟨l,el,hl⟩:=hE.at ex
    have BU:l∈lv:=acw (aaa el)
    have hll:=R.mL l BU
    have hld:=R.mL lead f9
    refine ⟨_,rfl,_,rfl,_,rfl,x,u,l,lead,i,bb b (min m os.length),bb b (min m os.length),by rw [abH];rfl,hl.same s3,ZE.same s3,by rw [hll,hld],by omega,by omega,hj,R.Je l BU,R.Je lead f9,ZD,ZD,fun v' l' H4 s4 L4 cl bd pz fr=>?_⟩
    obtain ⟨p,e1,e2⟩:=L4
    refine kk v' H4 s4 ⟨l,l',p,el,e1,?_,e2,cl,by rw [Nat.two_mul];exact bd,pz⟩
    rcases fr with z | ⟨p',z,n⟩
    ·obtain ⟨px',z1,z2⟩:=hl
     rw [z1,e1] at z
     cases z
     exact ao z2 nD
    ·rw [e1] at z
     cases z
     exact fun y=>by rw [y,aba] at n;cases n
   ·intro ys H3 hy hG s3 hD
    obtain ⟨xJ,hl',hp⟩:=gO (P:=fun k v y=>∃x p,(lv.eraseIdx j)[k]? =some x/\v=.ref p/\p≠D/\H3 p=some (.lst (y.map V.int))/\p_ x lead y i/\Bd (2*bb b (min m os.length)+1) y/\(y=x\/QS y)) ys (fun k v e=>by
     obtain ⟨x,y,p,r⟩:=hG k v e
     exact ⟨y,x,p,r⟩)
    have hLn:qm H3 ys xJ :=⟨hl'.symm,fun k v y e1 e2=>by
     obtain ⟨x,p,_,e,_,r,_⟩:=hp k v y e1 e2
     exact ⟨p,e,r⟩⟩
    have les:(nC.eraseIdx j).length=(lv.eraseIdx j).length:=hE.1
    have ML:Made os lead i (2*bb b (min m os.length)+1) (lv.eraseIdx j) xJ :=⟨by omega,fun k x e=>by
     have hk:k < (lv.eraseIdx j).length:=(be.mp e).1
     have e1:ys[k]? =some (ys[k]'(by omega)):=gE (by omega)
     have e2:xJ[k]? =some (xJ[k]'(by omega)):=gE (by omega)
     obtain ⟨x',p,r1,_,_,_,r2,r3,_⟩:=hp k _ _ e1 e2
     rw [e] at r1
     cases r1
     exact ⟨_,e2,r2,r3⟩⟩
    have PL:∀l∈xJ,Pr os l:=fun l hl=>by
     obtain ⟨k,ek⟩:=aaF hl
     have hk:k < xJ.length:=(be.mp ek).1
     have e1:ys[k]? =some (ys[k]'(by omega)):=gE (by omega)
     obtain ⟨x',p,r1,_,_,_,_,_,r4⟩:=hp k _ _ e1 ek
     rcases r4 with z | z
     ·rw [z]
      exact pL x' (acw (aaa r1))
     ·exact .inr z
    have zB:=tt.trans s3
    have hd3:=zB _ _ hd2
    have hN3:=hN2.same zB
    have hu4:=ZE.same s3
    refine ⟨_,rfl,d,kvs,rfl,Rd.of hd3,fun l3 n3=>?_⟩
    have t4:=aH n3 (.lst (kvs.map fun kv=>kV kv.1))
    refine ⟨l3,rfl,⟨_,aZ.of aj⟩,?_⟩
    have dl:d≠l3:=ao hd3 n3
    refine cC (K:=K) (a:=l3) (xs:=kvs.map fun kv=>kV kv.1) (fun t σ H' =>∃(o7:Β) (s_ :δ) (iw :θ),σ=[some (.ref a),some (.int (m:Int)),some (.ref d),some (.ref D),some (.int ((0:Int)+i)),some (.int (j:Int)),some u,o7]/\av H H' /\H' d=some (.dK s_)/\H' l3=some (.lst (kvs.map fun kv=>kV kv.1))/\H' D=some (.lst ys)/\qm H' ys xJ /\Ln H' u lead/\nv H' s_ iw /\iw.map (·.1)=nd.map (·.1)/\
      ∀(k:Nat) (x:Nat×List Int),nd[k]? =some x->∃y,iw[k]? =some (x.1,y)/\(t<=k->y=x.2)/\(k < t->(p_ x.2 lead y i/\Bd (2*bb b (min m os.length)+1) y)/\(y=x.2\/QS y)))
     ⟨_,kvs,nd,rfl,((s1.trans s2).trans zB).trans t4,t4 _ _ hd3,aj,t4 _ _ hD,hLn.same t4,hu4.same t4,hN3.same t4,rfl,fun k x e=>⟨x.2,e,fun _=>rfl,fun z=>absurd z (ab6 _)⟩⟩ (fun t σ H' _ h=>by
      obtain ⟨_,_,_,_,_,_,h,_⟩:=h
      exact aZ.of h) ?_ ?_
    ·rintro t u7 σ H4 hu7 ⟨o7,s_,iw,rfl,s4,KH,hl4,UM,hL4,ZF,Oi,QU,SK⟩
     rw [Wp] at hu7
     obtain ⟨kv,nE,rfl⟩:=aaM.mp hu7
     have htl:t < kvs.length:=(be.mp nE).1
     have hnl:=hN.1
     have ex:nd[t]? =some (nd[t]'(by omega)):=gE (by omega)
     obtain ⟨x,hx⟩:∃x,nd[t]? =some x:=⟨_,ex⟩
     obtain ⟨kx,hxm⟩:kv.1=.inl (x.1:Int)/\x∈nd:=⟨(hN3.2 t kv x nE hx).1,aaa hx⟩
     obtain ⟨y,ey,y1,_⟩:=SK t x hx
     have y2:=y1 (aas _)
     subst y2
     obtain ⟨v,ev,hv⟩:=Oi.at ey
     have nk:(s_.map (·.1)).Nodup:=by
      rw [Oi.keys]
      exact keys_nodup (by rw [QU];exact R.asc)
     have vat:=nA nk ev
     have hxl:=R.mK x hxm
     have hld:=R.mL lead f9
     have dg:gf H4 d (kV kv.1) (some v):=by
      rw [kx, <- vat]
      exact gf.k KH
     refine ⟨_,rfl,_,rfl,d,v,rfl,dg,_,rfl,_,rfl,v,u,x.2,lead,i,bb b (min m os.length),bb b (min m os.length),by rw [abH];rfl,hv,ZF,by rw [hxl,hld],by omega,by omega,hj,R.Jd x hxm,R.Je lead f9,ZD,ZD,fun v' l' H5 s5 L5 cl bd pz fr=>?_⟩
     have ZG:=s5 _ _ KH
     have l4' :=Oi.1
     have l5' :iw.length=nd.length:=by simpa using congrArg abX QU
     refine ⟨_,rfl,_,rfl,d,_,rfl,gH.k ZG (aaz (show s_.length<=1000 by omega) (by decide)),?_⟩
     rw [kx,L7 nk ev]
     have dn:d≠D:=fun z=>by rw [z,UM] at KH;cases KH
     refine ⟨_,s_.set t (.inl (x.1:Int),v'),iw.set t (x.1,l'),rfl,f_ (s4.trans s5) qb,aj,by rw [aq (abb dl)];exact s5 _ _ hl4,by rw [aq (abb dn)];exact s5 _ _ UM,(hL4.same s5).put ZG,(ZF.same s5).put ZG,((Oi.same s5).set L5).put ZG,?_,fun k x' ek=>?_⟩
     ·rw [List.map_set,QU]
      refine abt fun k=>?_
      rw [ahr]
      by_cases z:t=k
      ·subst z
       rw [if_pos rfl,if_pos (by simp;omega),Wp,hx]
       rfl
      ·rw [if_neg z]
     ·obtain ⟨y',uB,a1,a2⟩:=SK k x' ek
      by_cases z:t=k
      ·subst z
       rw [hx] at ek
       cases ek
       refine ⟨l',by rw [ahr,if_pos rfl,if_pos (by omega)],fun w=>by omega,fun _=>⟨⟨cl,by rw [Nat.two_mul];exact bd⟩,pz⟩⟩
      ·exact ⟨y',by rw [ahr,if_neg z];exact uB,fun w=>a1 (by omega),fun w=>a2 (by omega)⟩
    ·rintro σ H4 ⟨o7,s_,iw,rfl,s4,KH,hl4,UM,hL4,ZF,Oi,QU,SK⟩
     have l4' :=Oi.1
     have l5' :iw.length=nd.length:=by simpa using congrArg abX QU
     have hnl:=hN.1
     rw [ir] at SK
     have MN:Made os lead i (2*bb b (min m os.length)+1) (nd.map (·.2)) (iw.map (·.2)):=⟨by simp [l5'],fun k x e=>by
      rw [Wp] at e
      obtain ⟨x0,e0,rfl⟩:=aaM.mp e
      have hk:k < nd.length:=(be.mp e0).1
      obtain ⟨y,ey,_,a2⟩:=SK k x0 e0
      exact ⟨y,by rw [Wp,ey];rfl,(a2 (by omega)).1⟩⟩
     have P8:dJ s_ (.inl ((0:Int)+i))=none:=j5 (fun z=>by
      rw [Oi.keys] at z
      obtain ⟨x',yY,e⟩:=aaj.mp z
      have e1:(x'.1:Int)=0+i:=ahj e
      have:x'.1∈nd.map (·.1):=by rw [<- QU];exact aaj.mpr ⟨x',yY,rfl⟩
      obtain ⟨x,hx,e2⟩:=aaj.mp this
      have:=R.cols x hx
      omega)
     refine ⟨_,rfl,_,rfl,_,rfl,d,_,rfl,gH.k (k:=.inl ((0:Int)+i)) KH (aaz (show s_.length<=1000 by omega) (by decide)),?_⟩
     rw [cQ u P8]
     have dn:d≠D:=fun z=>by rw [z,UM] at KH;cases KH
     have abg:∀l∈lv.eraseIdx j,l∈lv:=fun l h=>acw h
     have abh:∀l∈lv,l=lead\/l∈lv.eraseIdx j:=fun l h=>by
      obtain ⟨k,ek⟩:=aaF h
      rcases Nat.lt_trichotomy k j with z | z | z
      ·exact .inr (aaa (i:=k) (by rw [aca,if_pos z];exact ek))
      ·subst z
       rw [ej] at ek
       cases ek
       exact .inl rfl
      ·exact .inr (aaa (i:=k - 1) (by rw [aca,if_neg (by omega),show k - 1+1=k by omega];exact ek))
     have abi:(lv.eraseIdx j).length+1=lv.length:=by rw [ab2,if_pos hjl];omega
     have R2:=R.step f9 abg abh abi hj ML QU MN
     obtain ⟨ps',LP,O2⟩:=O.step R.piv ej (fun x hx=>R.zero lead f9 x.1 (R.cols x hx)) hj ML.len (fun k x e=>by
      obtain ⟨y,ey,k1,_⟩:=ML.to k x e
      exact ⟨y,ey,k1⟩) l5' fun k x e=>by
      obtain ⟨y,ey,k1,_⟩:=MN.to k x e
      exact ⟨y,ey,k1⟩
     have PN:∀x∈iw ++[(i,lead)],Pr os x.2:=fun x hx=>by
      rcases aaQ.mp hx with z | z
      ·obtain ⟨k,ek⟩:=aaF z
       have hk:k < iw.length:=(be.mp ek).1
       obtain ⟨x0,e0⟩:∃x0,nd[k]? =some x0:=⟨_,gE (by omega)⟩
       obtain ⟨y,ey,_,a2⟩:=SK k x0 e0
       rw [ek] at ey
       cases ey
       rcases (a2 (by omega)).2 with u | u
       ·show Pr os y
        rw [u]
        exact pN x0 (aaa e0)
       ·exact .inr u
      ·rw [aaT.mp z]
       exact pL lead f9
     have UN:=R2.cnt
     have R3:=R2.small O2 hB (k:=min m os.length) (by rw [aat] at UN ⊢;simp at UN ⊢;omega) (by omega) PN PL
     refine ⟨D,ys,_,iw ++[(i,lead)],xJ,_,_,_,_,rfl,f_ s4 qb,aj,aZ.of (by rw [aq (abb dn)];exact UM),hL4.put KH,(by rw [abH];exact (Oi.snoc ZF).put KH),by simp;omega,R3,⟨ps',LP,O2⟩,PN,PL⟩
  ·refine ⟨_,rfl,rfl,_,rfl,?_⟩
   refine bf (fun _=>?_) (fun z=>by simp at z)
   exact ⟨al,nC,kvs,nd,lv,_,_,_,_,rfl,s1.trans s2,s2 _ _ hd,s2.seq QT,DV.same s2,hN.same s2,by omega,R.skip hz,⟨ps,qs,O⟩,pN,pL⟩
 ·rintro σ H1 ⟨al,nC,kvs,nd,lv,o4,o5,o6,o7,rfl,s1,hd,QT,DV,hN,hni,R,⟨ps,qs,O⟩,pN,pL⟩
  refine ⟨_,rfl,_,rfl,(by show 2<=sizeLine;decide),fun p np=>?_⟩
  have sp:=aH np (.tup [.ref d,.ref al])
  have cnt:=R.cnt
  exact q p d al kvs nC nd lv _ (s1.trans sp) qb (s1.free np) aj (sp _ _ hd) (sp.seq QT) (hN.same sp) (DV.same sp) R
theorem L9 {t b:Int}{T B:Nat}(hb:b≠0)(h1:t.natAbs<=2^T)(h2:b.natAbs<=2^B):Sm T B (low t b):=⟨jV hb,m9 hb,aam (oa hb) h1,aam (og hb) h2⟩
theorem Jg {l:ν}{j:Nat}(h:l.length<=j):l.getD j 0=0:=by
 rw [aaU,aan h]
 rfl
theorem tf {n j:Nat}(h:j < n):FG n (j:Int)=some j:=by
 unfold FG
 simp
 omega
def mM (H:Hp)(r:Addr)(ls:Α)(bT:Ε):Prop:=H r=some (.lst (ls.map V.ref))/\ls.length=bT.length/\∀(i:Nat) (l:Addr) (vs:η),ls[i]? =some l->bT[i]? =some vs->H l=some (.lst vs)
theorem mM.same {H H' :Hp}{r:Addr}{ls:Α}{bT:Ε}(h:mM H r ls bT)(s:av H H'):mM H' r ls bT:=⟨s _ _ h.1,h.2.1,fun i l vs e1 e2=>s _ _ (h.2.2 i l vs e1 e2)⟩
def Shape (T B m:Nat)(bu:ξ):Prop:=∀qs∈bu,qs.length=m/\∀q∈qs,Sm T B q
def fJ (K:Frag)(H:Hp)(bT:Ε)(bu:ξ):Prop:=bT.length=bu.length/\∀(i:Nat) (vs:η) (qs:τ),bT[i]? =some vs->bu[i]? =some qs->eT K H vs qs
theorem fJ.same {H H' :Hp}{bT:Ε}{bu:ξ}(h:fJ K H bT bu)(s:av H H'):fJ K H' bT bu:=⟨h.1,fun i vs qs e1 e2=>(h.2 i vs qs e1 e2).same s⟩
theorem Jh {α:Type}{xs:List α}{x y:α}{j:Nat}(e:(xs++[x])[j]? =some y):(j < xs.length/\xs[j]? =some y)\/(j=xs.length/\x=y):=by
 by_cases c:j < xs.length
 ·rw [aaS c] at e
  exact .inl ⟨c,e⟩
 ·rw [aa3 (by omega)] at e
  by_cases z:j - xs.length=0
  ·rw [z] at e
   exact .inr ⟨by omega,aaZ e⟩
  ·rw [aan (by simp;omega)] at e
   cases e
theorem mM.snoc {H:Hp}{r D:Addr}{ls:Α}{bT:Ε}{us:η}(h:mM H r ls bT)(nr:r∉ls)(hD:H D=some (.lst us))(nD:D≠r):mM (upd H r (.lst (ls.map V.ref++[.ref D]))) r (ls++[D]) (bT++[us]):=by
 obtain ⟨m1,m2,m3⟩:=h
 refine ⟨by rw [aj,aa1];rfl,by simp [m2],fun j l vs e1 e2=>?_⟩
 rcases Jh e1 with ⟨c1,d1⟩ | ⟨c1,d1⟩ <;> rcases Jh e2 with ⟨c2,d2⟩ | ⟨c2,d2⟩
 ·have ne:l≠r:=fun z=>nr (by rw [<- z];exact aaa d1)
  rw [aq ne]
  exact m3 j l vs d1 d2
 ·omega
 ·omega
 ·subst d1 d2
  rw [aq nD]
  exact hD
def xR (bT:Ε)(j:Nat):List V:=bT.map fun vs=>vs.getD j .cI
def j6 (bT:Ε)(m:Nat):List (List V):=(abk m).map fun j=>xR bT j
inductive j7 (vs:η)(H:Hp)(Q:VK)(E_:XK):Prop where
 | mk (r:Addr) (ls:Α) (bT:List (List V:_)) (m:Int) (_:vs=[.ref r,.int m]) (_:mM H r ls bT) (_:0<=m) (_:m<=1000) (_:ls.length<=1000) (_:(∀vs∈bT,m<=(vs.length:Int))) (_:∀c cs H',av H H' ->mM H' c cs (j6 bT m.toNat)->Q (.ref c) H'):j7 vs H Q E_
theorem Ji:aG ["rows","many","columns","column"] zai (ag CS):=sq
theorem UO (D:Def K mg "turned" CS zai)(bG:mg "range"=none):Fn P w K mg base (a8 P w) 1 "turned" zai j7:=by
 refine D.ok Ji (fun vs H Q E h=>?_) (fun f bH A outer s H vs Q E hr h=>?_)
 ·obtain ⟨r,ls,bT,m,rfl,_⟩:=h
  rfl
 obtain ⟨r,ls,bT,m,rfl,M,m0,m1,hn,hv,q⟩:=h
 refine ⟨_,(ae (aA (i:=2) Ji.nd rfl (aav rfl) (cD aa))
  (ae (bF PassesOwn.never rfl (df rfl bG (ar (pv 1) aa)) (aD (i:=3) Ji.nd rfl (abu rfl)) (ak (bq (ip PySem.F.plainAttrs_list PySem.F.slot_list_append PySem.F.type_list_append di (pv 2) (ar (cY (tn:=zaH) (fr:=["column"]) (caps:=[3]) rfl ⟨rfl,by decide+kernel,rfl,by decide+kernel,by decide+kernel,rfl,⟨(by first | exact aav rfl | exact abu rfl),trivial⟩,⟨(by first | exact aav rfl | exact abu rfl),trivial⟩⟩ (bD (pv 0)) (fun _ _ _ _=>(aD (i:=0) (show (["row","column"]:List Str).Nodup from by decide+kernel) rfl (aav rfl))) (fun _ _ _ _=>dA) (fun _ _ _ _=>(bB (vb (K:=K) rfl) (pv 0) (pv 1) (fun _ _=>rfl)))) aa)))))
  (ak (aK (pv 2))))),?_⟩
 have l1:=M.2.1
 refine ⟨(by show 0<=sizeLine;decide),fun c nc=>?_⟩
 refine ⟨_,rfl,_,rfl,by omega,by omega,?_⟩
 refine dP (lo:=0) (n:=m.toNat) (fun i σ H' =>∃(o:Β) (cs:Α),σ=[some (.ref r),some (.int m),some (.ref c),o]/\av H H' /\mM H' c cs (j6 bT i)/\c∉cs) ⟨none,[],rfl,aH nc _,⟨aj,rfl,fun i l vs e=>by simp at e⟩,by simp⟩ ?_ ?_
 ·rintro i σ H' hi ⟨o,cs,rfl,s1,C,ncs⟩
  have M' :=M.same s1
  refine ⟨_,rfl,.inl ⟨rfl,_,aZ.of C.1⟩,?_⟩
  refine ⟨_,rfl,r,rfl,⟨_,aZ.of M'.1⟩,fun D nD=>?_⟩
  refine cR (cap:=[some (.int ((0:Int)+i))]) (K:=K) (a:=r) (xs:=ls.map V.ref) (fun k v _=>∃vs,bT[k]? =some vs/\v=vs.getD i .cI) nD (by rw [ir];exact aaz hn (by decide)) (fun H2 s2=>aZ.of (s2 _ _ M'.1)) (fun _ _ _ _ _ _ _ h=>h) ?_ ?_
  ·intro k u H2 R hu s2 kk
   rw [Wp] at hu
   obtain ⟨l,el,rfl⟩:=aaM.mp hu
   have hk:k < ls.length:=(be.mp el).1
   have ev:bT[k]? =some (bT[k]'(by omega)):=gE (by omega)
   have hl:=M'.2.2 k l _ el ev
   have KC :i < (bT[k]'(by omega)).length:=by
    have:=hv _ (aaa ev)
    omega
   have ea:je (bT[k]'(by omega)) ((0:Int)+(i:Int))=some ((bT[k]'(by omega)).getD i .cI):=by
    rw [abH]
    exact b8 (by rw [gE KC,aaU,gE KC];rfl)
   exact ⟨_,rfl,_,rfl,l,_,_,_,rfl,rfl,aZ.of (s2 _ _ hl),ea,kk _ _ (av.refl _) ⟨_,ev,rfl⟩⟩
  ·intro ys H2 hy hG s2 hD
   rw [ir] at hy
   have ey:ys=xR bT i:=by
    refine abt fun k=>?_
    unfold xR
    by_cases hk:k < ys.length
    ·have e1:ys[k]? =some ys[k]:=gE hk
     obtain ⟨vs,ev,e2⟩:=hG k _ e1
     rw [e1,e2,Wp,ev]
     rfl
    ·rw [aan (by omega),aan (by simp;omega)]
   subst ey
   have lc:cs.length=i:=by have:=C.2.1;simpa [j6] using this
   have nDc:D≠c:=fun z=>by rw [z,C.1] at nD;cases nD
   have fc:∀b o,H b=some o->b≠c:=fun b o e=>ao e nc
   refine ⟨c,_,_,rfl,rfl,s2 _ _ C.1,by rw [ir,lc];exact aaz (show i<=1000 by omega) (by decide),?_⟩
   refine ⟨_,cs++[D],rfl,fun b o e=>?_,?_,fun z=>?_⟩
   ·rw [aq (fc b o e)]
    exact s2 _ _ (s1 _ _ e)
   ·have e:j6 bT (i+1)=j6 bT i++[xR bT i]:=by simp [j6,acD]
    rw [e]
    exact (C.same s2).snoc ncs hD nDc
   ·rcases aaQ.mp z with y | y
    ·exact ncs y
    ·exact nDc (aaT.mp y).symm
 ·rintro σ H' ⟨o,cs,rfl,s1,C,ncs⟩
  exact ⟨_,rfl,q c cs H' s1 C⟩
def gC (bu:ξ)(j:Nat):List (Int×Int):=bu.map fun qs=>qs.getD j (0,1)
theorem QV {bu:ξ}{T B m j:Nat}(sh:Shape T B m bu)(hj:j < m):∀q∈gC bu j,Sm T B q:=fun q hq=>by
 unfold gC at hq
 obtain ⟨qs,hqs,rfl⟩:=aaj.mp hq
 obtain ⟨hl,hs⟩:=sh qs hqs
 rw [aaU,gE (by omega)]
 exact hs _ (aby _)
theorem Bd.of {b:Nat}{l:ν}(h:∀t∈l,t.natAbs<=2^b):Bd b l:=fun j=>by
 by_cases hj:j < l.length
 ·have e:l[j]? =some l[j]:=gE hj
  rw [getD_mem e]
  exact h _ (aby hj)
 ·rw [Jg (by omega)]
  exact abj _
abbrev Wl:=List Int×Int×Addr×Addr
inductive xS (K:Frag)(f:Int×Int->Int×Int->Int×Int)(vs:η)(H:Hp)(Q:VK)(E_:XK):Prop where
 | mk (u v:V) (x y:Int×Int) (_:vs=[u,v]) (_:oG K H u x) (_:oG K H v y) (_:Uy 100000 x) (_:Uy 100000 y) (_:gives H Q (f x y)):xS K f vs H Q E_
theorem UP:aG zad zad (ag xN):=sq
theorem UQ (hM:u4 CX)(D:Def K mg "difference_of" xN zad)(Jj:Fn P w K mg base CX 33 "lowest_terms" zaB gN):Fn P w K mg base CX 34 "difference_of" zad (xS K subQ):=by
 refine D.ok UP (fun vs H Q E h=>?_) (fun f bH A outer s H vs Q E hr h=>?_)
 ·obtain ⟨u,v,x,y,rfl,_⟩:=h
  rfl
 obtain ⟨u,v,x,y,rfl,⟨p1,rfl,h1⟩,⟨p2,rfl,h2⟩,k1,k2,q⟩:=h
 have px:=u5 (X:=mG CX P w K mg base zad "difference_of" (ag xN) f bH A outer s H E) hM
 refine ⟨_,(ak (aK (aE Jj hr.mo px (ar (aF b9 (aF bS (a9 (pv 0)) (a9 (pv 1))) (aF bS (a9 (pv 1)) (a9 (pv 0)))) (ar (aF bS (a9 (pv 0)) (a9 (pv 1))) aa))))),?_⟩
 have b1:=k1.top
 have b2:=k1.bot
 have b3:=k2.top
 have b4:=k2.bot
 have c:∀{i j:Int},intBits i<=100000->intBits j<=100000->iD i j:=fun a b=>⟨aam a (by decide),aam b (by decide)⟩
 refine ⟨_,rfl,p1,_,_,_,rfl,rfl,h1,me,_,rfl,p2,_,_,_,rfl,rfl,h2,mJ,_,_,rfl,rfl,c b1 b4,?_⟩
 refine ⟨_,rfl,p2,_,_,_,rfl,rfl,h2,me,_,rfl,p1,_,_,_,rfl,rfl,h1,mJ,_,_,rfl,rfl,c b3 b2,?_⟩
 refine ⟨_,_,rfl,rfl,?_⟩
 refine ⟨_,rfl,p1,_,_,_,rfl,rfl,h1,mJ,_,rfl,p2,_,_,_,rfl,rfl,h2,mJ,_,_,rfl,rfl,c b2 b4,?_⟩
 exact ⟨_,_,rfl,LV k1 k2,q⟩
inductive xT (K:Frag)(f:Rat->Rat->Rat)(vs:η)(H:Hp)(Q:VK)(E_:XK):Prop where
 | mk (u v:V) (x y:Rat) (_:vs=[u,v]) (_:nq K H u x) (_:nq K H v y) (_:Sz 100000 x) (_:Sz 100000 y) (_:gives H Q (qr (f x y))):xT K f vs H Q E_
theorem Jk {k:Nat}{r:Rat}(h:Sz k r):Uy k (qr r):=⟨eJ r,h.top,h.bot⟩
theorem QW {k:Nat}{x:Str}{ps:ρ}(F:Fn P w K mg base CX k x ps (xS K subQ)):Fn P w K mg base CX k x ps (xT K fun a b=>a - b):=by
 obtain ⟨f,fd,G,r⟩:=F.ex
 refine ⟨f,fd,G.imp fun vs H Q E h=>?_,r⟩
 obtain ⟨u,v,a,b,e,h1,h2,k1,k2,q⟩:=h
 refine ⟨u,v,qr a,qr b,e,h1,h2,Jk k1,Jk k2,?_⟩
 unfold subQ
 rw [IP]
 exact q
def Jl (K:Frag)(H:Hp)(Q:VK)(p:Rat×Rat):Prop:=∀(v:V) (H' :Hp),av H H' ->fY K H' v p->Q v H'
inductive xU (K:Frag)(f:Rat->Rat->Rat)(vs:η)(H:Hp)(Q:VK)(E_:XK):Prop where
 | mk (u v:V) (x y:Rat×Rat) (_:vs=[u,v]) (_:fY K H u x) (_:fY K H v y) (_:Sz 100000 x.1) (_:Sz 100000 x.2) (_:Sz 100000 y.1) (_:Sz 100000 y.2) (_:Jl K H Q (f x.1 y.1,f x.2 y.2)):xU K f vs H Q E_
theorem UR:aG zad zad (ag xO):=sq
theorem US (hM:u4 CX)(D:Def K mg "pair_difference" xO zad)(UT:Fn P w K mg base CX 34 "difference_of" zad (xT K fun a b=>a - b)):Fn P w K mg base CX 35 "pair_difference" zad (xU K fun a b=>a - b):=by
 refine D.ok UR (fun vs H Q E h=>?_) (fun f bH A outer s H vs Q E hr h=>?_)
 ·obtain ⟨u,v,x,y,rfl,_⟩:=h
  rfl
 obtain ⟨u,v,x,y,rfl,⟨p1,a1,a2,rfl,h1,n1,n2⟩,⟨p2,b1,b2,rfl,h2,m1,m2⟩,k1,k2,l1,l2,q⟩:=h
 have px:=u5 (X:=(mG (a8 P w) P w K mg base zad "pair_difference" (ag xO) f bH A outer s H E)) hM
 refine ⟨_,(ak (aK (a_ (ar (aE UT hr.mo px (ar (a9 (pv 0)) (ar (a9 (pv 1)) aa))) (ar (aE UT hr.mo px (ar (a9 (pv 0)) (ar (a9 (pv 1)) aa))) aa))))),?_⟩
 refine ⟨_,rfl,p1,_,_,_,rfl,rfl,h1,me,_,rfl,p2,_,_,_,rfl,rfl,h2,me,a1,b1,_,_,rfl,n1,m1,k1,l1,fun c1 H1 s1 e1=>?_⟩
 refine ⟨_,rfl,p1,_,_,_,rfl,rfl,Ty.av.cG s1 h1,mJ,_,rfl,p2,_,_,_,rfl,rfl,Ty.av.cG s1 h2,mJ,a2,b2,_,_,rfl,n2.same s1,m2.same s1,k2,l2,fun c2 H2 s2 e2=>?_⟩
 refine ⟨(by show 2<=sizeLine;decide),fun c3 n3=>?_⟩
 have s3:=aH n3 (.tup [.ref c1,.ref c2])
 exact q (.ref c3) _ (fun b o z=>s3 _ _ (s2 _ _ (s1 _ _ z))) ⟨c3,_,_,rfl,bQ.of aj,⟨c1,rfl,bQ.of (s3 _ _ (s2 _ _ e1))⟩,⟨c2,rfl,bQ.of (s3 _ _ e2)⟩⟩
inductive tj (K:Frag)(C:Addr)(vs:η)(H:Hp)(Q:VK)(E_:XK):Prop where
 | mk (a dx:Addr) (_:vs=[.ref a]) (_:H a=some (.ins C dx [])) (_:∀(pP pW pB:Addr) (H' :Hp),aT a H H' ->H pP=none->H pW=none->H pB=none->eg K H' C a dx pP pW pB [] [] [] [] []->Q .cI H'):tj K C vs H Q E_
theorem L_ {x:V}:gw "pin_places" x []=([("pin_places",x)]:List (Str×V)):=rfl
theorem L' {x y:V}:gw "pin_ways" y [("pin_places",x)]=([("pin_places",x),("pin_ways",y)]:List (Str×V)):=by
 simp only [gw]
 rw [if_neg (by decide)]
theorem Ma {x y z:V}:gw "bar_ends" z [("pin_places",x),("pin_ways",y)]=([("pin_places",x),("pin_ways",y),("bar_ends",z)]:List (Str×V)):=by
 simp only [gw]
 rw [if_neg (by decide),if_neg (by decide)]
theorem UU:aG zac zac (ag DI):=sq
theorem UW {f:Addr}{fd:FuncData}{C:Addr}(F:m6 K "__init__" "Frame.__init__" DI f fd)(fc:BY K C):cJ P w K mg base (a8 P w) 1 f fd zac (tj K C):=by
 refine cZ F UU (fun vs H Q E h=>?_) (fun bH A outer s H vs Q E hr h=>?_)
 ·obtain ⟨a,dx,rfl,_⟩:=h
  rfl
 obtain ⟨a,dx,rfl,ha,q⟩:=h
 refine ⟨_,(ae (se (pv 0) dD rfl)
  (ae (se (pv 0) dD rfl)
  (ak (se (pv 0) dD rfl)))),?_⟩
 intro pP nP
 have aP:a≠pP:=ao ha nP
 refine ⟨_,rfl,a,C,dx,_,rfl,(by rw [aq aP];exact ha),fc.cls,fc.pl,(by show 0 < 1000;decide),?_⟩
 rw [L_]
 generalize e1:upd (upd H pP (.dK [])) a (.ins C dx [("pin_places",.ref pP)])=H1
 have o1:H1 a=some (.ins C dx [("pin_places",.ref pP)]):=by rw [<- e1,aj]
 have p1:H1 pP=some (.dK []):=by rw [<- e1,aq (abb aP),aj]
 have k1:∀b o,b≠a->H b=some o->H1 b=some o:=fun b o n e=>by rw [<- e1,aq n,aq (ao e nP)];exact e
 intro pW nW
 have aW:a≠pW:=ao o1 nW
 refine ⟨_,rfl,a,C,dx,_,rfl,(by rw [aq aW];exact o1),fc.cls,fc.wy,(by show 1 < 1000;decide),?_⟩
 rw [L']
 generalize e2:upd (upd H1 pW (.dK [])) a (.ins C dx [("pin_places",.ref pP),("pin_ways",.ref pW)])=H2
 have PW:pP≠pW:=ao p1 nW
 have o2:H2 a=some (.ins C dx [("pin_places",.ref pP),("pin_ways",.ref pW)]):=by rw [<- e2,aj]
 have w2:H2 pW=some (.dK []):=by rw [<- e2,aq (abb aW),aj]
 have k2:∀b o,b≠a->H1 b=some o->H2 b=some o:=fun b o n e=>by rw [<- e2,aq n,aq (ao e nW)];exact e
 intro pB nB
 have aB:a≠pB:=ao o2 nB
 have p2:=k2 _ _ (abb aP) p1
 refine ⟨_,rfl,a,C,dx,_,rfl,(by rw [aq aB];exact o2),fc.cls,fc.br,(by show 2 < 1000;decide),?_⟩
 rw [Ma]
 have PB:pP≠pB:=ao p2 nB
 have WB:pW≠pB:=ao w2 nB
 have k3:∀b o,b≠a->H2 b=some o->(upd (upd H2 pB (.dK [])) a (.ins C dx [("pin_places",.ref pP),("pin_ways",.ref pW),("bar_ends",.ref pB)])) b=some o:=fun b o n e=>by rw [aq n,aq (ao e nB)];exact e
 have f1:∀b,b≠a->H1 b=none->H b=none:=fun b n e=>by
  cases z:H b with
  | none=>rfl
  | some o=>rw [k1 b o n z] at e;cases e
 have f2:∀b,b≠a->H2 b=none->H b=none:=fun b n e=>by
  cases z:H b with
  | none=>rfl
  | some o=>rw [k2 b o n (k1 b o n z)] at e;cases e
 refine q pP pW pB _ (fun b o n e=>k3 b o n (k2 b o n (k1 b o n e))) nP (f1 _ (abb aW) nW) (f2 _ (abb aB) nB) ⟨aj,k3 _ _ (abb aP) p2,k3 _ _ (abb aW) w2,?_,PW,PB,WB,.nil,.nil⟩
 rw [aq (abb aB),aj]
inductive hJ (K:Frag)(C:Addr)(vs:η)(H:Hp)(Q:VK)(E_:XK):Prop where
 | mk (a dx pP pW pB:Addr) (ps:Η) (bs:υ) (kP kW kB:δ) (_:vs=[.ref a]) (_:eg K H C a dx pP pW pB ps bs kP kW kB) (_:∀(l:Addr) (H' :Hp),av H H' ->H l=none->H' l=some (.lst ((bs.map (·.1)).map V.str))->Q (.ref l) H'):hJ K C vs H Q E_
theorem UX:aG zac zac (ag DO):=sq
theorem UY {f:Addr}{fd:FuncData}{C:Addr}(F:m6 K "bars" "Frame.bars" DO f fd)(fc:BY K C)(dN:mg "list"=none):cJ P w K mg base (a8 P w) 1 f fd zac (hJ K C):=by
 refine cZ F UX (fun vs H Q E h=>?_) (fun bH A outer s H vs Q E hr h=>?_)
 ·obtain ⟨a,dx,pP,pW,pB,ps,bs,kP,kW,kB,rfl,_⟩:=h
  rfl
 obtain ⟨a,dx,pP,pW,pB,ps,bs,kP,kW,kB,rfl,R,q⟩:=h
 refine ⟨_,(ak (aK (bN (jA rfl) rfl dN oi (ar (cv (pv 0) rfl) aa)))),?_⟩
 refine ⟨_,rfl,a,C,dx,_,_,rfl,R.obj,fc.cls,fc.br,rfl,pB,kB,rfl,.inl R.br,fun l nl=>?_⟩
 refine q l _ (aH nl _) nl ?_
 rw [aj]
 have e:kB.map (fun kv=>kV kv.1)=(bs.map (·.1)).map V.str:=by
  have z:kB.map (fun kv=>kV kv.1)=(kB.map (·.1)).map kV:=by rw [aa5];rfl
  rw [z,R.vt,aa5]
  rfl
 rw [e]
inductive fK (K:Frag)(C:Addr)(vs:η)(H:Hp)(Q:VK)(E_:XK):Prop where
 | mk (a dx pP pW pB:Addr) (ps:Η) (bs:υ) (kP kW kB:δ) (_:vs=[.ref a]) (_:eg K H C a dx pP pW pB ps bs kP kW kB) (_:∀(l:Addr) (H' :Hp),av H H' ->H l=none->H' l=some (.lst ((ps.map (·.1)).map V.str))->Q (.ref l) H'):fK K C vs H Q E_
theorem UZ:aG zac zac (ag DN):=sq
theorem U0 {f:Addr}{fd:FuncData}{C:Addr}(F:m6 K "pins" "Frame.pins" DN f fd)(fc:BY K C)(dN:mg "list"=none):cJ P w K mg base (a8 P w) 1 f fd zac (fK K C):=by
 refine cZ F UZ (fun vs H Q E h=>?_) (fun bH A outer s H vs Q E hr h=>?_)
 ·obtain ⟨a,dx,pP,pW,pB,ps,bs,kP,kW,kB,rfl,_⟩:=h
  rfl
 obtain ⟨a,dx,pP,pW,pB,ps,bs,kP,kW,kB,rfl,R,q⟩:=h
 refine ⟨_,(ak (aK (bN (jA rfl) rfl dN oi (ar (cv (pv 0) rfl) aa)))),?_⟩
 refine ⟨_,rfl,a,C,dx,_,_,rfl,R.obj,fc.cls,fc.pl,rfl,pP,kP,rfl,.inl R.pl,fun l nl=>?_⟩
 refine q l _ (aH nl _) nl ?_
 rw [aj]
 have e:kP.map (fun kv=>kV kv.1)=(ps.map (·.1)).map V.str:=by
  have z:kP.map (fun kv=>kV kv.1)=(kP.map (·.1)).map kV:=by rw [aa5];rfl
  rw [z,R.vv,aa5]
  rfl
 rw [e]
inductive dO (K:Frag)(C:Addr)(vs:η)(H:Hp)(Q:VK)(E_:XK):Prop where
 | mk (a dx pP pW pB:Addr) (ps:Η) (bs:υ) (kP kW kB:δ) (x:Str) (_:vs=[.ref a,.str x]) (_:eg K H C a dx pP pW pB ps bs kP kW kB) (_:x∈ps.map (·.1)) (_:Q .cI H):dO K C vs H Q E_
theorem U1:aG zae zae (ag DL):=sq
theorem U2 {f:Addr}{fd:FuncData}{C:Addr}(F:m6 K "check_pin" "Frame.check_pin" DL f fd)(fc:BY K C):cJ P w K mg base (a8 P w) 1 f fd zae (dO K C):=by
 refine cZ F U1 (fun vs H Q E h=>?_) (fun bH A outer s H vs Q E hr h=>?_)
 ·obtain ⟨a,dx,pP,pW,pB,ps,bs,kP,kW,kB,x,rfl,_⟩:=h
  rfl
 obtain ⟨a,dx,pP,pW,pB,ps,bs,kP,kW,kB,x,rfl,R,hx,q⟩:=h
 refine ⟨_,(ak (bw (kG (iZ (cX hr) (pv 1) (cv (pv 0) rfl))) (ak (c8)) aU)),?_⟩
 refine ⟨_,rfl,_,rfl,a,C,dx,_,_,rfl,R.obj,fc.cls,fc.pl,rfl,pP,_,rfl,gf.k (k:=.inr x) R.pl,_,rfl,?_⟩
 rw [R.pin x,decide_eq_true hx]
 exact q
inductive j8 (K:Frag)(C:Addr)(vs:η)(H:Hp)(Q:VK)(E_:XK):Prop where
 | mk (a dx pP pW pB:Addr) (ps:Η) (bs:υ) (kP kW kB:δ) (x:Str) (p:Pt) (_:vs=[.ref a,.str x]) (_:eg K H C a dx pP pW pB ps bs kP kW kB) (_:(ps.map (·.1)).Nodup) (_:(x,p)∈ps) (_:∀v,Spot K H v p->Q v H):j8 K C vs H Q E_
theorem U3:aG zae zae (ag DP):=sq
theorem U4 {f:Addr}{fd:FuncData}{C:Addr}(F:m6 K "place" "Frame.place" DP f fd)(fc:BY K C)(MC:bj P w K mg base (a8 P w) 1 C "check_pin" zae (dO K C)):cJ P w K mg base (a8 P w) 2 f fd zae (j8 K C):=by
 refine cZ F U3 (fun vs H Q E h=>?_) (fun bH A outer s H vs Q E hr h=>?_)
 ·obtain ⟨a,dx,pP,pW,pB,ps,bs,kP,kW,kB,x,p,rfl,_⟩:=h
  rfl
 obtain ⟨a,dx,pP,pW,pB,ps,bs,kP,kW,kB,x,p,rfl,R,nd,hx,q⟩:=h
 refine ⟨_,(ae (bq (bY (k:=1) (pv 0) hr.mo (pY P w) (ar (pv 1) aa)))
  (ak (aK (nh (cX hr) (cv (pv 0) rfl) (pv 1) (fun _ _=>rfl))))),?_⟩
 refine ⟨_,rfl,a,C,dx,_,_,_,rfl,R.obj,rfl,MC,_,rfl,a,dx,pP,pW,pB,ps,bs,kP,kW,kB,x,rfl,R,aaj.mpr ⟨_,hx,rfl⟩,?_⟩
 obtain ⟨v,ev,hv⟩:=R.place nd hx
 exact ⟨_,rfl,a,C,dx,_,_,rfl,R.obj,fc.cls,fc.pl,rfl,_,rfl,pP,v,rfl,(by rw [<- ev];exact gf.k (k:=.inr x) R.pl),q v hv⟩
inductive oN (K:Frag)(C:Addr)(vs:η)(H:Hp)(Q:VK)(E_:XK):Prop where
 | mk (a dx pP pW pB:Addr) (ps:Η) (bs:υ) (kP kW kB:δ) (x one other:Str) (_:vs=[.ref a,.str x]) (_:eg K H C a dx pP pW pB ps bs kP kW kB) (_:(bs.map (·.1)).Nodup) (_:(x,one,other)∈bs) (_:∀p,Rd H p (.tup [.str one,.str other])->Q (.ref p) H):oN K C vs H Q E_
theorem U5:aG zaI zaI (ag DR):=sq
theorem U6 {f:Addr}{fd:FuncData}{C:Addr}(F:m6 K "ends" "Frame.ends" DR f fd)(fc:BY K C):cJ P w K mg base (a8 P w) 1 f fd zaI (oN K C):=by
 refine cZ F U5 (fun vs H Q E h=>?_) (fun bH A outer s H vs Q E hr h=>?_)
 ·obtain ⟨a,dx,pP,pW,pB,ps,bs,kP,kW,kB,x,one,other,rfl,_⟩:=h
  rfl
 obtain ⟨a,dx,pP,pW,pB,ps,bs,kP,kW,kB,x,one,other,rfl,R,nd,hx,q⟩:=h
 refine ⟨_,(ae (bw (kG (iZ (cX hr) (pv 1) (cv (pv 0) rfl))) (ak (c8)) aU)
  (ak (aK (nh (cX hr) (cv (pv 0) rfl) (pv 1) (fun _ _=>rfl))))),?_⟩
 have hm:x∈bs.map (·.1):=aaj.mpr ⟨_,hx,rfl⟩
 refine ⟨_,rfl,_,rfl,a,C,dx,_,_,rfl,R.obj,fc.cls,fc.br,rfl,pB,_,rfl,gf.k (k:=.inr x) R.br,_,rfl,?_⟩
 rw [R.bar x,decide_eq_true hm]
 obtain ⟨p,ev,hv⟩:=R.ends nd hx
 exact ⟨_,rfl,a,C,dx,_,_,rfl,R.obj,fc.cls,fc.br,rfl,_,rfl,pB,.ref p,rfl,(by rw [<- ev];exact gf.k (k:=.inr x) R.br),q p hv⟩
inductive jD (K:Frag)(C:Addr)(vs:η)(H:Hp)(Q:VK)(E_:XK):Prop where
 | mk (a dx pP pW pB:Addr) (ps:Η) (bs:υ) (kP kW kB:δ) (pw:Θ) (x:Str) (ws:Ζ) (_:vs=[.ref a,.str x]) (_:eg K H C a dx pP pW pB ps bs kP kW kB) (_:qa K H pw kW) (_:(pw.map (·.1)).Nodup) (_:(x,ws)∈pw) (_:x∈ps.map (·.1)) (_:∀(l:Addr) (us:η) (H' :Hp),av H H' ->H l=none->H' l=some (.lst us)->g9 K H' us ws->Q (.ref l) H'):jD K C vs H Q E_
theorem U7:aG zae zae (ag DQ):=sq
theorem U8 {f:Addr}{fd:FuncData}{C:Addr}(F:m6 K "ways" "Frame.ways" DQ f fd)(fc:BY K C)(dN:mg "list"=none)(MC:bj P w K mg base (a8 P w) 1 C "check_pin" zae (dO K C)):cJ P w K mg base (a8 P w) 2 f fd zae (jD K C):=by
 refine cZ F U7 (fun vs H Q E h=>?_) (fun bH A outer s H vs Q E hr h=>?_)
 ·obtain ⟨a,dx,pP,pW,pB,ps,bs,kP,kW,kB,pw,x,ws,rfl,_⟩:=h
  rfl
 obtain ⟨a,dx,pP,pW,pB,ps,bs,kP,kW,kB,pw,x,ws,rfl,R,W,nd,hx,hp,q⟩:=h
 refine ⟨_,(ae (bq (bY (k:=1) (pv 0) hr.mo (pY P w) (ar (pv 1) aa)))
  (ak (aK (bN oq rfl dN oi (ar (nh (cX hr) (cv (pv 0) rfl) (pv 1) (fun _ _=>rfl)) aa))))),?_⟩
 refine ⟨_,rfl,a,C,dx,_,_,_,rfl,R.obj,rfl,MC,_,rfl,a,dx,pP,pW,pB,ps,bs,kP,kW,kB,x,rfl,R,hp,?_⟩
 obtain ⟨v,ev,l,us,el,hl,pt⟩:=g_ W nd hx
 have el' :v=.ref l:=el
 subst el'
 refine ⟨_,rfl,a,C,dx,_,_,rfl,R.obj,fc.cls,fc.wy,rfl,_,rfl,pW,.ref l,rfl,(by rw [<- ev];exact gf.k (k:=.inr x) R.wy),?_⟩
 exact ⟨l,us,rfl,aZ.of hl,fun l2 n2=>q l2 us _ (aH n2 _) n2 aj (pt.same (aH n2 _))⟩
def QX (K:Frag)(H:Hp)(Q:VK)(ws:Ζ):Prop:=∀(l:Addr) (us:η) (H' :Hp),av H H' ->H l=none->H' l=some (.lst us)->g9 K H' us ws->Q (.ref l) H'
theorem tm {x:Rat}(h:(qr x).1=0):x=0:=by
 have:=iq x
 unfold vl at this
 rw [h] at this
 have z:=BZ (r:=x)
 have e:((0:Int):Rat)=0:=by rfl
 rw [e] at this
 grind
inductive nG (K:Frag)(C:Addr)(vs:η)(H:Hp)(Q:VK)(E_:XK):Prop where
 | mk (a dx:Addr) (ux uy:V) (x y:Rat) (_:vs=[.ref a,ux,uy]) (_:H a=some (.ins C dx [])) (_:nq K H ux x) (_:nq K H uy y) (_:¬ (x=0/\y=0)) (_:∀p,H p=none->Q .cI (upd (upd H p (.tup [ux,uy])) a (.ins C dx [("way",.ref p)]))):nG K C vs H Q E_
theorem U9:aG zaw zaw (ag DS):=sq
theorem U_ {f:Addr}{fd:FuncData}{C:Addr}(F:m6 K "__init__" "Roller.__init__" DS f fd)(cl:uM K C)(nw:fV K C "way"):cJ P w K mg base (a8 P w) 1 f fd zaw (nG K C):=by
 refine cZ F U9 (fun vs H Q E h=>?_) (fun bH A outer s H vs Q E hr h=>?_)
 ·obtain ⟨a,dx,ux,uy,x,y,rfl,_⟩:=h
  rfl
 obtain ⟨a,dx,ux,uy,x,y,rfl,ha,⟨p1,rfl,h1⟩,⟨p2,rfl,h2⟩,nz,q⟩:=h
 have sz:(2:Nat)<=sizeLine:=by decide
 refine ⟨_,(ae (bw (PW.pt (r8 (aR du (a9 (pv 1)) ah (aX _)) (mW (aR du (a9 (pv 2)) ah (aX _))))) (ak (c8)) aU)
  (ak (se (pv 0) (a_ (ar (pv 1) (ar (pv 2) aa))) rfl))),?_⟩
 refine ⟨_,rfl,p1,_,_,_,rfl,rfl,h1,me,rfl,_,rfl,?_⟩
 refine bf (fun c1=>?_) (fun c1=>?_)
 ·have e1:(qr x).1=0:=by simpa using of_decide_eq_true c1
  refine ⟨_,rfl,p2,_,_,_,rfl,rfl,h2,me,rfl,_,rfl,?_⟩
  refine bf (fun c2=>?_) (fun c2=>?_)
  ·have e2:(qr y).1=0:=by simpa using of_decide_eq_true c2
   exact absurd ⟨tm e1,tm e2⟩ nz
  ·exact ⟨_,rfl,_,rfl,sz,fun p hp=>⟨_,rfl,a,C,dx,[],rfl,(by rw [aq (ao ha hp)];exact ha),cl,nw,(by show 0 < 1000;decide),q p hp⟩⟩
 ·refine Qe ?_
  exact ⟨_,rfl,_,rfl,sz,fun p hp=>⟨_,rfl,a,C,dx,[],rfl,(by rw [aq (ao ha hp)];exact ha),cl,nw,(by show 0 < 1000;decide),q p hp⟩⟩
inductive hU (K:Frag)(C:Addr)(vs:η)(H:Hp)(Q:VK)(E_:XK):Prop where
 | mk (a dx p:Addr) (w:Rat×Rat) (_:vs=[.ref a]) (_:H a=some (.ins C dx [("way",.ref p)])) (_:fY K H (.ref p) w) (_:QX K H Q [w]):hU K C vs H Q E_
theorem U':aG zac zac (ag DT):=sq
theorem Va {f:Addr}{fd:FuncData}{C:Addr}(F:m6 K "ways" "Roller.ways" DT f fd)(cl:uM K C)(nw:fV K C "way"):cJ P w K mg base (a8 P w) 1 f fd zac (hU K C):=by
 refine cZ F U' (fun vs H Q E h=>?_) (fun bH A outer s H vs Q E hr h=>?_)
 ·obtain ⟨a,dx,p,w,rfl,_⟩:=h
  rfl
 obtain ⟨a,dx,p,w,rfl,ha,hw,q⟩:=h
 refine ⟨_,(ak (aK (cD (ar (cv (pv 0) rfl) aa)))),?_⟩
 refine ⟨_,rfl,a,C,dx,_,.ref p,rfl,ha,cl,nw,(by simp),(by show 1<=sizeLine;decide),fun l hl=>?_⟩
 exact q l [.ref p] _ (aH hl _) hl aj (.cons (hw.same (aH hl _)) .nil)
inductive hV (K:Frag)(vs:η)(H:Hp)(Q:VK)(E_:XK):Prop where
 | mk (a:Addr) (_:vs=[.ref a]) (_:QX K H Q [(1,0),(0,1)]):hV K vs H Q E_
theorem tq:qr 1=(1,1):=by
 have:=oI 1
 simpa using this
theorem d0:qr 0=(0,1):=by
 have:=oI 0
 simpa using this
theorem zL {H:Hp}{p p1 p2:Addr}{a b:Rat}{x y:Int×Int}(ea:qr a=x)(eb:qr b=y)(h:H p=some (.tup [.ref p1,.ref p2]))(h1:H p1=some (.tup [.int x.1,.int x.2]))(h2:H p2=some (.tup [.int y.1,.int y.2])):fY K H (.ref p) (a,b):=
 ⟨p,.ref p1,.ref p2,rfl,bQ.of h,⟨p1,rfl,by rw [ea];exact bQ.of h1⟩,⟨p2,rfl,by rw [eb];exact bQ.of h2⟩⟩
theorem Vb:aG zac zac (ag DU):=sq
theorem Vc {f:Addr}{fd:FuncData}(F:m6 K "ways" "Fixed.ways" DU f fd):cJ P w K mg base (a8 P w) 1 f fd zac (hV K):=by
 refine cZ F Vb (fun vs H Q E h=>?_) (fun bH A outer s H vs Q E hr h=>?_)
 ·obtain ⟨a,rfl,_⟩:=h
  rfl
 obtain ⟨a,rfl,q⟩:=h
 have sz:(2:Nat)<=sizeLine:=by decide
 refine ⟨_,(ak (aK (cD (ar (a_ (ar (a_ (ar ah (ar ah aa))) (ar (a_ (ar ah (ar ah aa))) aa))) (ar (a_ (ar (a_ (ar ah (ar ah aa))) (ar (a_ (ar ah (ar ah aa))) aa))) aa))))),?_⟩
 refine ⟨sz,fun p1 n1=>?_⟩
 have s1:=aH n1 (.tup [.int 1,.int 1])
 have e1:upd H p1 (.tup [.int 1,.int 1]) p1=some (.tup [.int 1,.int 1]):=aj
 generalize upd H p1 (.tup [.int 1,.int 1])=H1 at s1 e1 ⊢
 refine ⟨sz,fun p2 n2=>?_⟩
 have s2:=aH n2 (.tup [.int 0,.int 1])
 have e2:upd H1 p2 (.tup [.int 0,.int 1]) p2=some (.tup [.int 0,.int 1]):=aj
 generalize upd H1 p2 (.tup [.int 0,.int 1])=H2 at s2 e2 ⊢
 refine ⟨sz,fun p3 n3=>?_⟩
 have s3:=aH n3 (.tup [.ref p1,.ref p2])
 have e3:upd H2 p3 (.tup [.ref p1,.ref p2]) p3=some (.tup [.ref p1,.ref p2]):=aj
 generalize upd H2 p3 (.tup [.ref p1,.ref p2])=H3 at s3 e3 ⊢
 refine ⟨sz,fun p4 n4=>?_⟩
 have s4:=aH n4 (.tup [.int 0,.int 1])
 have e4:upd H3 p4 (.tup [.int 0,.int 1]) p4=some (.tup [.int 0,.int 1]):=aj
 generalize upd H3 p4 (.tup [.int 0,.int 1])=H4 at s4 e4 ⊢
 refine ⟨sz,fun p5 n5=>?_⟩
 have s5:=aH n5 (.tup [.int 1,.int 1])
 have e5:upd H4 p5 (.tup [.int 1,.int 1]) p5=some (.tup [.int 1,.int 1]):=aj
 generalize upd H4 p5 (.tup [.int 1,.int 1])=H5 at s5 e5 ⊢
 refine ⟨sz,fun p6 n6=>?_⟩
 have s6:=aH n6 (.tup [.ref p4,.ref p5])
 have e6:upd H5 p6 (.tup [.ref p4,.ref p5]) p6=some (.tup [.ref p4,.ref p5]):=aj
 generalize upd H5 p6 (.tup [.ref p4,.ref p5])=H6 at s6 e6 ⊢
 refine ⟨sz,fun l nl=>?_⟩
 have s7:=aH nl (.lst [.ref p3,.ref p6])
 have e7:upd H6 l (.lst [.ref p3,.ref p6]) l=some (.lst [.ref p3,.ref p6]):=aj
 generalize upd H6 l (.lst [.ref p3,.ref p6])=H7 at s7 e7 ⊢
 have Oj:=s1.trans (s2.trans (s3.trans (s4.trans (s5.trans s6))))
 have w1:fY K H7 (.ref p3) (1,0):=zL tq d0 (s7 _ _ (s6 _ _ (s5 _ _ (s4 _ _ e3)))) (s7 _ _ (s6 _ _ (s5 _ _ (s4 _ _ (s3 _ _ (s2 _ _ e1)))))) (s7 _ _ (s6 _ _ (s5 _ _ (s4 _ _ (s3 _ _ e2)))))
 have w2:fY K H7 (.ref p6) (0,1):=zL d0 tq (s7 _ _ e6) (s7 _ _ (s6 _ _ (s5 _ _ e4))) (s7 _ _ (s6 _ _ e5))
 exact q l [.ref p3,.ref p6] H7 (Oj.trans s7) (Oj.free nl) e7 (.cons w1 (.cons w2 .nil))
def Jm (P:Program)(w:World)(K:Frag)(mg:ι)(base:Heap)(H:Hp)(hv:V)(ws:Ζ):Prop:=(hv=.cI/\ws=[])\/∃(h Ch Vd:Addr) (SM:List (Str×V)) (psh:ρ) (ZH:Sp),hv=.ref h/\H h=some (.ins Ch Vd SM)/\SM.lookup ("ways":Str)=none/\bj P w K mg base (a8 P w) 2 Ch "ways" psh ZH/\(∀H1,H1 h=some (.ins Ch Vd SM)->bx H H1->∀Q',QX K H1 Q' ws->ZH [.ref h] H1 Q' E0)
inductive cV (P:Program)(w:World)(K:Frag)(mg:ι)(base:Heap)(C:Addr)(vs:η)(H:Hp)(Q:VK)(E_:XK):Prop where
 | mk (a dx pP pW pB:Addr) (ps:Η) (bs:υ) (kP kW kB:δ) (pw:Θ) (x:Str) (u v hv:V) (p:Pt) (ws:Ζ) (_:vs=[.ref a,.str x,u,v,hv]) (_:eg K H C a dx pP pW pB ps bs kP kW kB) (_:qa K H pw kW) (_:pw.map (·.1)=ps.map (·.1)) (_:oG K H u p.1) (_:oG K H v p.2) (_:x∉ps.map (·.1)) (_:(∀z∈ps,z.2≠p)) (_:ps.length < 24) (_:Jm P w K mg base H hv ws) (_:∀(H' :Hp) (qp jo :δ),(∀b o,b≠pP->b≠pW->H b=some o->H' b=some o)->eg K H' C a dx pP pW pB (ps++[(x,p)]) bs qp jo kB->qa K H' (pw++[(x,ws)]) jo ->(∃l,jo =kW++[(.inr x,.ref l)]/\H l=none)->Q .cI H'):cV P w K mg base C vs H Q E_
theorem Jn:aG ["self","name","x","y","hold","pin","spot"] zan (ag mI):=sq
theorem Ve {f:Addr}{fd:FuncData}{C:Addr}(F:QH K "put_pin" "Frame.put_pin" mI f fd)(fc:BY K C){tkP:Tok}(QY:mg "MOST_PINS"=some (.int 24 tkP))(aL:mg "len"=none)(dN:mg "list"=none):cJ P w K mg base (a8 P w) 3 f fd zan (cV P w K mg base C):=by
 refine IK F Jn (fun vs H Q E h=>?_) (fun bH A outer s H vs Q E hr h=>?_)
 ·obtain ⟨a,dx,pP,pW,pB,ps,bs,kP,kW,kB,pw,x,u,v,hv,p,ws,rfl,_⟩:=h
  rfl
 obtain ⟨a,dx,pP,pW,pB,ps,bs,kP,kW,kB,pw,x,u,v,hvv,p,ws,rfl,R,W,ew,hu,hv,hx,hs,hl,hH,q⟩:=h
 refine ⟨_,(ae (bw (kG (HY (cX hr) (pv 1) (cv (pv 0) rfl))) (ak (c8)) aU)
  (ae (i0 (bF PassesOwn.never rfl (gJ (cv (pv 0) rfl)) (dy rfl (aS (aD (i:=5) Jn.nd rfl (aav rfl)) (aS (aD (i:=6) Jn.nd rfl (aav rfl)) b7))) (ak (bw (aR (sE hr.units) (pv 6) (a_ (ar (pv 2) (ar (pv 3) aa))) (aX _)) (ak (c8)) aU))))
  (ae (bw (aR uK (aC gK rfl aL bt (ar (cv (pv 0) rfl) aa)) (jO (v:=.int 24) rfl QY ⟨_,rfl⟩) (aX _)) (ak (c8)) aU)
  (ae (dj (cX hr) (cv (pv 0) rfl) (pv 1) (a_ (ar (pv 2) (ar (pv 3) aa))) rfl)
  (ak (dj (cX hr) (cv (pv 0) rfl) (pv 1) (uG (aR xn (pv 4) nO (aX _)) (cD aa) (bN oq rfl dN oi (ar (cp (k:=2) (pv 4) hr.mo (pY P w)) aa))) rfl)))))),?_⟩
 refine ⟨_,rfl,_,rfl,a,C,dx,_,_,rfl,R.obj,fc.cls,fc.pl,rfl,pP,_,rfl,gf.k (k:=.inr x) R.pl,_,rfl,?_⟩
 rw [R.pin x,decide_eq_false hx]
 have lk:kP.length=ps.length:=(Paired.length R.rp).symm
 refine ⟨_,rfl,a,C,dx,_,_,rfl,R.obj,fc.cls,fc.pl,rfl,pP,kP,rfl,R.pl,fun o=>?_⟩
 have k0:aT pP H (upd H pP (.fj o (.dK kP))):=fun b o' n e=>by rw [aq n];exact e
 refine dQ (d:=pP) (o:=o) (kvs:=kP) (fun t σ H' =>∃(o2 o3:Β),σ=[some (.ref a),some (.str x),some u,some v,some hvv,o2,o3]/\aT pP H H' /\H' pP=some (.fj o (.dK kP))) ⟨none,none,rfl,k0,aj⟩ (fun t σ H' _ h=>by
   obtain ⟨_,_,_,_,h⟩:=h
   exact h) ?_ ?_
 ·rintro t k y σ H6 p7 nE ⟨o2,o3,rfl,k6,FJ⟩ n7
  obtain ⟨z,ez,hz1,QN⟩:=aY (bR R.rp) nE
  have QZ :k=.inr z.1:=hz1
  subst QZ
  have s6:bx H H6:=fun b xs r=>by
   rcases r with r | ⟨o',r⟩
   ·exact .inl (k6 _ _ (fun e=>by rw [e,R.pl] at r;cases r) r)
   ·exact .inr ⟨o',k6 _ _ (fun e=>by rw [e,R.pl] at r;cases r) r⟩
  have s7:=aH n7 (.tup [kV (.inr z.1),y])
  have s67:bx H (upd H6 p7 (.tup [kV (.inr z.1),y])):=s6.trans (.of s7)
  refine ⟨p7,_,rfl,bQ.of aj,rfl,_,_,rfl,_,_,rfl,rfl,?_⟩
  refine ⟨_,rfl,_,rfl,_,rfl,(by show 2<=sizeLine;decide),fun t8 n8=>?_⟩
  have s8:=aH n8 (.tup [u,v])
  have Jo:bx H (upd (upd H6 p7 (.tup [kV (.inr z.1),y])) t8 (.tup [u,v])):=s67.trans (.of s8)
  refine ⟨dR z.2,dR p,.inl ⟨(Spot.bg QN Jo).is,(Spot.is (p:=p) ⟨t8,u,v,rfl,bQ.of aj,hu.bg Jo,hv.bg Jo⟩)⟩,ma _ _,kT _,?_⟩
  rw [vq]
  refine ⟨_,rfl,?_⟩
  refine bf (fun c=>absurd (of_decide_eq_true c) (hs z (aaa ez))) (fun _=>?_)
  exact ⟨_,_,rfl,fun b o' n e=>s8 _ _ (s7 _ _ (k6 b o' n e)),s8 _ _ (s7 _ _ FJ)⟩
 ·rintro σ H1 ⟨o2,o3,rfl,k1,hd1⟩
  refine ⟨pP,o,kP,hd1,fun o' u' z=>(by have z' :H pP=some (.fj o' u'):=z;rw [R.pl] at z';cases z'),?_⟩
  have s2:av H (upd H1 pP (.dK kP)):=fun b o' e=>by
   by_cases n:b=pP
   ·subst n
    rw [R.pl] at e
    rw [aj]
    exact e
   ·rw [aq n]
    exact k1 b o' n e
  generalize upd H1 pP (.dK kP)=H2 at s2 ⊢
  have R2:=R.same s2
  refine ⟨_,rfl,a,C,dx,_,_,rfl,R2.obj,fc.cls,fc.pl,rfl,pP,kP,rfl,.inl R2.pl,_,_,rfl,rfl,_,rfl,?_⟩
  refine bf (fun c=>?_) (fun _=>?_)
  ·have c' :(24:Int)<=(kP.length:Int):=of_decide_eq_true c
   omega
  refine ⟨_,rfl,_,rfl,(by show 2<=sizeLine;decide),fun t nt=>?_⟩
  have s3:=aH nt (.tup [u,v])
  have R3:=R2.same s3
  have ZE:=(hu.same s2).same s3
  have hv3:=(hv.same s2).same s3
  refine ⟨_,rfl,a,C,dx,_,_,rfl,R3.obj,fc.cls,fc.pl,rfl,_,rfl,pP,_,rfl,gH.k (k:=.inr x) R3.pl (aaz (show kP.length<=1000 by omega) (by decide)),?_⟩
  have e:putK kP (.inr x) (.ref t)=kP++[(.inr x,.ref t)]:=cQ _ (cH (by rw [R.vv];exact fun z=>hx (eI.mp z)))
  rw [e]
  have R4:=R3.QJ (x:=x) (p:=p) (t:=t) ⟨t,u,v,rfl,bQ.of aj,ZE,hv3⟩
  have k4:∀b o,b≠pP->H b=some o->(upd (upd H2 t (.tup [u,v])) pP (.dK (kP++[(.inr x,.ref t)]))) b=some o:=fun b o n e=>by rw [aq n];exact s3 _ _ (s2 _ _ e)
  generalize upd (upd H2 t (.tup [u,v])) pP (.dK (kP++[(.inr x,.ref t)]))=H4 at R4 k4 ⊢
  have lw:kW.length=ps.length:=by
   have e1:kW.length=pw.length:=(Paired.length W).symm
   have e2:=congrArg abX ew
   rw [ir,ir] at e2
   omega
  have t4:bx H H4:=fun b xs r=>by
   rcases r with r | ⟨o',r⟩
   ·exact .inl (k4 _ _ (fun e=>by rw [e,R.pl] at r;cases r) r)
   ·exact .inr ⟨o',k4 _ _ (fun e=>by rw [e,R.pl] at r;cases r) r⟩
  have W4:qa K H4 pw kW:=Paired.bP W fun _ _ z=>⟨z.1,by
   obtain ⟨l,us,e1,e2,e3⟩:=z.2
   exact ⟨l,us,e1,k4 _ _ (fun e=>by rw [e,R.pl] at e2;cases e2) e2,e3.bg t4⟩⟩
  have nb:∀l2,H4 l2=none->H l2=none:=fun l2 n=>by
   cases hq:H l2 with
   | none=>rfl
   | some o=>
    have:=k4 l2 o (fun z=>by have h:=R4.pl;rw [<- z,n] at h;cases h) hq
    rw [n] at this
    cases this
  refine ⟨_,rfl,rfl,_,rfl,?_⟩
  rcases hH with ⟨rfl,rfl⟩ | ⟨h,Ch,Vd,SM,psh,ZH,rfl,hh,hlk,MH,si⟩
  ·refine bf (fun _=>?_) (fun c=>absurd (by decide) c)
   refine ⟨by show 0<=sizeLine;decide,fun l2 n6=>?_⟩
   have s6:=aH n6 (.lst [])
   have R6:=R4.same s6
   have W6:=W4.same s6
   refine ⟨_,rfl,a,C,dx,_,_,rfl,R6.obj,fc.cls,fc.wy,rfl,_,rfl,pW,_,rfl,gH.k (k:=.inr x) R6.wy (aaz (show kW.length<=1000 by omega) (by decide)),?_⟩
   have ek:putK kW (.inr x) (.ref l2)=kW++[(.inr x,.ref l2)]:=cQ _ (cH (by rw [W.keys,ew];exact fun z=>hx (eI.mp z)))
   rw [ek]
   have ne6:l2≠pW:=fun z=>by have h:=R6.wy;rw [<- z,aj] at h;cases h
   exact q _ _ _ (fun b o n1 n2 e=>by rw [aq n2];exact s6 _ _ (k4 b o n1 e)) (R6.sS _) (Paired.snoc (W6.dict R6.wy) ⟨rfl,l2,[],rfl,by rw [aq ne6,aj],.nil⟩) ⟨l2,rfl,nb l2 n6⟩
  have h4:H4 h=some (.ins Ch Vd SM):=k4 _ _ (fun e=>by rw [e,R.pl] at hh;cases hh) hh
  refine bf (fun c=>absurd (of_decide_eq_true c) (fun z=>nomatch z)) (fun _=>?_)
  refine ⟨_,rfl,h,Ch,Vd,SM,psh,ZH,rfl,h4,hlk,MH,si H4 h4 t4 _ fun l1 us H5 s5 n5 e5 p5=>?_⟩
  refine ⟨l1,us,rfl,aZ.of e5,fun l2 n6=>?_⟩
  have s6:=aH n6 (.lst us)
  have R6:=(R4.same s5).same s6
  have W6:=(W4.same s5).same s6
  refine ⟨_,rfl,a,C,dx,_,_,rfl,R6.obj,fc.cls,fc.wy,rfl,_,rfl,pW,_,rfl,gH.k (k:=.inr x) R6.wy (aaz (show kW.length<=1000 by omega) (by decide)),?_⟩
  have ek:putK kW (.inr x) (.ref l2)=kW++[(.inr x,.ref l2)]:=cQ _ (cH (by rw [W.keys,ew];exact fun z=>hx (eI.mp z)))
  rw [ek]
  have FK:av H4 (upd H5 l2 (.lst us)):=fun b o z=>s6 _ _ (s5 _ _ z)
  refine q _ _ _ (fun b o n1 n2 e=>by rw [aq n2];exact FK _ _ (k4 b o n1 e)) (R6.sS _) ?_ ⟨l2,rfl,nb l2 (s5.free n6)⟩
  have ne6:l2≠pW:=fun z=>by have h:=R6.wy;rw [<- z,aj] at h;cases h
  exact Paired.snoc (W6.dict R6.wy) ⟨rfl,l2,us,rfl,by rw [aq ne6,aj],(p5.same s6).bg (.dict R6.wy)⟩
inductive hW (K:Frag)(C:Addr)(vs:η)(H:Hp)(Q:VK)(E_:XK):Prop where
 | mk (a dx pP pW pB:Addr) (ps:Η) (bs:υ) (kP kW kB:δ) (x one other:Str) (_:vs=[.ref a,.str x,.str one,.str other]) (_:eg K H C a dx pP pW pB ps bs kP kW kB) (_:x∉bs.map (·.1)) (_:one∈ps.map (·.1)) (_:other∈ps.map (·.1)) (_:one≠other) (_:bs.length < 60) (_:Q .cI H):hW K C vs H Q E_
theorem Vf:aG zaf zaf (ag DK):=sq
theorem Vg {f:Addr}{fd:FuncData}{C:Addr}(F:m6 K "check_bar" "Frame.check_bar" DK f fd)(fc:BY K C){tkB:Tok}(Q0:mg "MOST_BARS"=some (.int 60 tkB))(aL:mg "len"=none)
  (MC:bj P w K mg base (a8 P w) 1 C "check_pin" zae (dO K C)):cJ P w K mg base (a8 P w) 2 f fd zaf (hW K C):=by
 refine cZ F Vf (fun vs H Q E h=>?_) (fun bH A outer s H vs Q E hr h=>?_)
 ·obtain ⟨a,dx,pP,pW,pB,ps,bs,kP,kW,kB,x,one,other,rfl,_⟩:=h
  rfl
 obtain ⟨a,dx,pP,pW,pB,ps,bs,kP,kW,kB,x,one,other,rfl,R,hx,h1,h2,ne,hl,q⟩:=h
 refine ⟨_,(ae (bw (kG (HY (cX hr) (pv 1) (cv (pv 0) rfl))) (ak (c8)) aU)
  (ae (bq (bY (k:=1) (pv 0) hr.mo (pY P w) (ar (pv 2) aa)))
  (ae (bq (bY (k:=1) (pv 0) hr.mo (pY P w) (ar (pv 3) aa)))
  (ae (bw (aR du (pv 2) (pv 3) (aX _)) (ak (c8)) aU)
  (ak (bw (aR uK (aC gK rfl aL bt (ar (cv (pv 0) rfl) aa)) (jO (v:=.int 60) rfl Q0 ⟨_,rfl⟩) (aX _)) (ak (c8)) aU)))))),?_⟩
 refine ⟨_,rfl,_,rfl,a,C,dx,_,_,rfl,R.obj,fc.cls,fc.br,rfl,pB,_,rfl,gf.k (k:=.inr x) R.br,_,rfl,?_⟩
 rw [R.bar x,decide_eq_false hx]
 refine ⟨_,rfl,a,C,dx,_,_,_,rfl,R.obj,rfl,MC,_,rfl,a,dx,pP,pW,pB,ps,bs,kP,kW,kB,one,rfl,R,h1,?_⟩
 refine ⟨_,rfl,a,C,dx,_,_,_,rfl,R.obj,rfl,MC,_,rfl,a,dx,pP,pW,pB,ps,bs,kP,kW,kB,other,rfl,R,h2,?_⟩
 refine ⟨_,rfl,_,rfl,rfl,_,rfl,?_⟩
 refine bf (fun c=>absurd (by simpa [rg] using c) ne) (fun _=>?_)
 have lk:kB.length=bs.length:=(Paired.length R.rb).symm
 refine ⟨_,rfl,a,C,dx,_,_,rfl,R.obj,fc.cls,fc.br,rfl,pB,kB,rfl,.inl R.br,_,_,rfl,rfl,_,rfl,?_⟩
 refine bf (fun c=>?_) (fun _=>q)
 have c' :(60:Int)<=(kB.length:Int):=of_decide_eq_true c
 omega
inductive iG (K:Frag)(C:Addr)(vs:η)(H:Hp)(Q:VK)(E_:XK):Prop where
 | mk (a dx pP pW pB:Addr) (ps:Η) (bs:υ) (kP kW kB:δ) (x one other:Str) (_:vs=[.ref a,.str x,.str one,.str other]) (_:eg K H C a dx pP pW pB ps bs kP kW kB) (_:x∉bs.map (·.1)) (_:one∈ps.map (·.1)) (_:other∈ps.map (·.1)) (_:one≠other) (_:bs.length < 60) (_:∀(H' :Hp) (Ol :δ),aT pB H H' ->eg K H' C a dx pP pW pB ps (bs++[(x,one,other)]) kP kW Ol ->Q .cI H'):iG K C vs H Q E_
theorem Vh:aG zaf zaf (ag DJ):=sq
theorem Vi {f:Addr}{fd:FuncData}{C:Addr}(F:m6 K "put_bar" "Frame.put_bar" DJ f fd)(fc:BY K C)
  (MC:bj P w K mg base (a8 P w) 2 C "check_bar" zaf (hW K C)):cJ P w K mg base (a8 P w) 3 f fd zaf (iG K C):=by
 refine cZ F Vh (fun vs H Q E h=>?_) (fun bH A outer s H vs Q E hr h=>?_)
 ·obtain ⟨a,dx,pP,pW,pB,ps,bs,kP,kW,kB,x,one,other,rfl,_⟩:=h
  rfl
 obtain ⟨a,dx,pP,pW,pB,ps,bs,kP,kW,kB,x,one,other,rfl,R,hx,h1,h2,ne,hl,q⟩:=h
 refine ⟨_,(ae (bq (bY (k:=2) (pv 0) hr.mo (pY P w) (ar (pv 1) (ar (pv 2) (ar (pv 3) aa)))))
  (ak (dj (cX hr) (cv (pv 0) rfl) (pv 1) (a_ (ar (pv 2) (ar (pv 3) aa))) rfl))),?_⟩
 refine ⟨_,rfl,a,C,dx,_,_,_,rfl,R.obj,rfl,MC,_,rfl,_,rfl,_,rfl,a,dx,pP,pW,pB,ps,bs,kP,kW,kB,x,one,other,rfl,R,hx,h1,h2,ne,hl,?_⟩
 refine ⟨_,rfl,_,rfl,(by show 2<=sizeLine;decide),fun t nt=>?_⟩
 have s:=aH nt (.tup [.str one,.str other])
 have R' :=R.same s
 have lk:kB.length=bs.length:=(Paired.length R.rb).symm
 refine ⟨_,rfl,a,C,dx,_,_,rfl,R'.obj,fc.cls,fc.br,rfl,_,rfl,pB,_,rfl,gH.k (k:=.inr x) R'.br (aaz (show kB.length<=1000 by omega) (by decide)),?_⟩
 have e:putK kB (.inr x) (.ref t)=kB++[(.inr x,.ref t)]:=cQ _ (cH (by rw [R.vt];exact fun z=>hx (eI.mp z)))
 rw [e]
 refine q _ _ (fun b o n z=>?_) (R'.QI (.inl aj))
 rw [aq n]
 exact s _ _ z
inductive i8 (K:Frag)(C:Addr)(vs:η)(H:Hp)(Q:VK)(E_:XK):Prop where
 | mk (a dx pP pW pB:Addr) (ps:Η) (bs:υ) (kP kW kB:δ) (x:Str) (_:vs=[.ref a,.str x]) (_:eg K H C a dx pP pW pB ps bs kP kW kB) (_:x∈bs.map (·.1)) (_:∀(H' :Hp) (Ol :δ),aT pB H H' ->eg K H' C a dx pP pW pB ps (bs.filter fun b=>decide (b.1≠x)) kP kW Ol ->Q .cI H'):i8 K C vs H Q E_
theorem Vj:aG zay zay (ag DM):=sq
theorem Vk {f:Addr}{fd:FuncData}{C:Addr}(F:m6 K "take_bar" "Frame.take_bar" DM f fd)(fc:BY K C):cJ P w K mg base (a8 P w) 1 f fd zay (i8 K C):=by
 refine cZ F Vj (fun vs H Q E h=>?_) (fun bH A outer s H vs Q E hr h=>?_)
 ·obtain ⟨a,dx,pP,pW,pB,ps,bs,kP,kW,kB,x,rfl,_⟩:=h
  rfl
 obtain ⟨a,dx,pP,pW,pB,ps,bs,kP,kW,kB,x,rfl,R,hx,q⟩:=h
 refine ⟨_,(ae (bw (kG (iZ (cX hr) (pv 1) (cv (pv 0) rfl))) (ak (c8)) aU)
  (ak (bq (oz (cv (pv 0) rfl) (pv 1) ⟨rfl,rfl,rfl,rfl⟩)))),?_⟩
 refine ⟨_,rfl,_,rfl,a,C,dx,_,_,rfl,R.obj,fc.cls,fc.br,rfl,pB,_,rfl,gf.k (k:=.inr x) R.br,_,rfl,?_⟩
 rw [R.bar x,decide_eq_true hx]
 obtain ⟨v,ev⟩:=fS (kvs:=kB) (k:=.inr x) (by rw [R.vt];exact eI.mpr hx)
 refine ⟨_,rfl,a,C,dx,_,_,rfl,R.obj,fc.cls,fc.br,rfl,pB,rfl,.inl ⟨_,.inl R.br⟩,_,rfl,kB,.inr x,v,R.br,rfl,ev,?_⟩
 exact q _ _ (fun b o n z=>by rw [aq n];exact z) (R.LL x)
theorem DW {K:Frag}{H:Hp}{C a dx pP pW pB:Addr}{ps:Η}{bs:υ}{kP kW kB:δ}(R:eg K H C a dx pP pW pB ps bs kP kW kB)(x:Str):
  eg K (upd H pP (.dK (eE kP (.inr x)))) C a dx pP pW pB (ps.filter fun b=>decide (b.1≠x)) bs (eE kP (.inr x)) kW kB:=by
 have s:bx H (upd H pP (.dK (eE kP (.inr x)))):=.dict R.pl
 exact ⟨by rw [aq R.ab.1];exact R.obj,aj,by rw [aq (abb R.ne1)];exact R.wy,by rw [aq (abb R.ne2)];exact R.br,R.ne1,R.ne2,R.ne3,gk x (Paired.bP R.rp fun _ _ h=>⟨h.1,h.2.bg s⟩),
  Paired.bP R.rb fun _ _ h=>⟨h.1,by obtain ⟨p,e,k⟩:=h.2;exact ⟨p,e,s _ _ k⟩⟩⟩
inductive h7 (K:Frag)(C:Addr)(vs:η)(H:Hp)(Q:VK)(E:XK):Prop where
 | mk (a dx pP pW pB:Addr) (ps:Η) (bs:υ) (kP kW kB:δ) (pw:Θ) (x:Str) (_:vs=[.ref a,.str x]) (_:eg K H C a dx pP pW pB ps bs kP kW kB) (_:qa K H pw kW) (_:pw.map (·.1)=ps.map (·.1)) (_:x∈ps.map (·.1)) (_:(∀b∈bs,x≠b.2.1/\x≠b.2.2)) (_:∀(H' :Hp) (qp jo :δ),(∀b o,b≠pP->b≠pW->H b=some o->H' b=some o)->eg K H' C a dx pP pW pB (ps.filter fun b=>decide (b.1≠x)) bs qp jo kB->qa K H' (pw.filter fun b=>decide (b.1≠x)) jo ->(∀kv∈jo,kv∈kW)->Q .cI H'):h7 K C vs H Q E
theorem eK:aG ["self","name","bar","two"] zay (ag bW):=sq
theorem j9 {f:Addr}{fd:FuncData}{C:Addr}(F:m6 K "take_pin" "Frame.take_pin" bW f fd)(fc:BY K C)(MC:bj P w K mg base (a8 P w) 1 C "check_pin" zae (dO K C)):cJ P w K mg base (a8 P w) 2 f fd zay (h7 K C):=by
 refine cZ F eK (fun vs H Q E h=>?_) (fun bH A outer s H vs Q E hr h=>?_)
 ·obtain ⟨a,dx,pP,pW,pB,ps,bs,kP,kW,kB,pw,x,rfl,_⟩:=h
  rfl
 obtain ⟨a,dx,pP,pW,pB,ps,bs,kP,kW,kB,pw,x,rfl,R,W,ew,hx,hb,q⟩:=h
 refine ⟨_,(ae (bq (bY (k:=1) (pv 0) hr.mo (pY P w) (ar (pv 1) aa)))
  (ae (i0 (bF PassesOwn.never rfl (gJ (cv (pv 0) rfl)) (dy rfl (aS (aD (i:=2) eK.nd rfl (aav rfl)) (aS (aD (i:=3) eK.nd rfl (aav rfl)) b7))) (ak (bw (aR rh (pv 1) (pv 3) rfl) (ak (c8)) aU))))
  (ae (bq (oz (cv (pv 0) rfl) (pv 1) ⟨rfl,rfl,rfl,rfl⟩))
  (ak (bq (oz (cv (pv 0) rfl) (pv 1) ⟨rfl,rfl,rfl,rfl⟩)))))),?_⟩
 refine ⟨_,rfl,a,C,dx,_,_,_,rfl,R.obj,rfl,MC,_,rfl,a,dx,pP,pW,pB,ps,bs,kP,kW,kB,x,rfl,R,hx,?_⟩
 have lk:kB.length=bs.length:=(Paired.length R.rb).symm
 refine ⟨_,rfl,a,C,dx,_,_,rfl,R.obj,fc.cls,fc.br,rfl,pB,kB,rfl,R.br,fun o=>?_⟩
 have k0:aT pB H (upd H pB (.fj o (.dK kB))):=fun b o' n e=>by rw [aq n];exact e
 refine dQ (d:=pB) (o:=o) (kvs:=kB) (fun t σ H' =>∃(o2 o3:Β),σ=[some (.ref a),some (.str x),o2,o3]/\aT pB H H' /\H' pB=some (.fj o (.dK kB))) ⟨none,none,rfl,k0,aj⟩ (fun t σ H' _ h=>by
   obtain ⟨_,_,_,_,h⟩:=h
   exact h) ?_ ?_
 ·rintro t k y σ H6 p7 nE ⟨o2,o3,rfl,k6,FJ⟩ n7
  obtain ⟨z,ez,hz1,p,ep,QN⟩:=aY (bR R.rb) nE
  have QZ :k=.inr z.1:=hz1
  subst QZ
  have uw :y=.ref p:=ep
  subst uw
  have s6:bx H H6:=fun b xs r=>by
   rcases r with r | ⟨o',r⟩
   ·exact .inl (k6 _ _ (fun e=>by rw [e,R.br] at r;cases r) r)
   ·exact .inr ⟨o',k6 _ _ (fun e=>by rw [e,R.br] at r;cases r) r⟩
  have s7:=aH n7 (.tup [kV (.inr z.1),.ref p])
  have s67:bx H (upd H6 p7 (.tup [kV (.inr z.1),.ref p])):=s6.trans (.of s7)
  obtain ⟨n1,n2⟩:=hb z (aaa ez)
  refine ⟨p7,_,rfl,bQ.of aj,rfl,_,_,rfl,_,_,rfl,rfl,?_⟩
  refine ⟨_,rfl,_,rfl,p,[.str z.2.1,.str z.2.2],rfl,.inr (s67.cG (.inl QN)),rfl,rfl,_,rfl,?_⟩
  refine bf (fun c=>?_) (fun _=>⟨_,_,rfl,fun b o' n e=>s7 _ _ (k6 b o' n e),s7 _ _ FJ⟩)
  exfalso
  have c' :Sw (.str x) [.str z.2.1,.str z.2.2]=true:=c
  simp [Sw,rg] at c'
  rcases c' with c' | c'
  ·exact n1 c'.symm
  ·exact n2 c'.symm
 ·rintro σ H1 ⟨o2,o3,rfl,k1,hd1⟩
  refine ⟨pB,o,kB,hd1,fun o' u' z=>(by have z' :H pB=some (.fj o' u'):=z;rw [R.br] at z';cases z'),?_⟩
  have s2:av H (upd H1 pB (.dK kB)):=fun b o' e=>by
   by_cases n:b=pB
   ·subst n
    rw [R.br] at e
    rw [aj]
    exact e
   ·rw [aq n]
    exact k1 b o' n e
  generalize upd H1 pB (.dK kB)=H2 at s2 ⊢
  have R2:=R.same s2
  obtain ⟨v,ev⟩:=fS (kvs:=kP) (k:=.inr x) (by rw [R.vv];exact eI.mpr hx)
  have kk:kW.map (·.1)=(ps.map (·.1)).map (fun b=>(acp b:Key)):=by rw [fC W, <- ew,aa5];rfl
  obtain ⟨v2,ev2⟩:=fS (kvs:=kW) (k:=.inr x) (by rw [kk];exact eI.mpr hx)
  refine ⟨_,rfl,a,C,dx,_,_,rfl,R2.obj,fc.cls,fc.pl,rfl,pP,rfl,.inl ⟨_,.inl R2.pl⟩,_,rfl,kP,.inr x,v,R2.pl,rfl,ev,?_⟩
  have R3:=DW R2 x
  have k3:∀b o,b≠pP->H b=some o->(upd H2 pP (.dK (eE kP (.inr x)))) b=some o:=fun b o n e=>by rw [aq n];exact s2 _ _ e
  have k2:aT pP H2 (upd H2 pP (.dK (eE kP (.inr x)))):=fun b o n e=>by rw [aq n];exact e
  generalize upd H2 pP (.dK (eE kP (.inr x)))=H3 at R3 k3 k2 ⊢
  refine ⟨_,rfl,a,C,dx,_,_,rfl,R3.obj,fc.cls,fc.wy,rfl,pW,rfl,.inl ⟨_,.inl R3.wy⟩,_,rfl,kW,.inr x,v2,R3.wy,rfl,ev2,?_⟩
  have t3:bx H2 H3:=fun b xs r=>by
   rcases r with r | ⟨o',r⟩
   ·exact .inl (k2 _ _ (fun e=>by rw [e,R2.pl] at r;cases r) r)
   ·exact .inr ⟨o',k2 _ _ (fun e=>by rw [e,R2.pl] at r;cases r) r⟩
  have t4:bx H3 (upd H3 pW (.dK (eE kW (.inr x)))):=.dict R3.wy
  refine q _ _ _ (fun b o n1 n2 e=>by rw [aq n2];exact k3 b o n1 e) (R3.sS _) (gk x (Paired.bP (W.same s2) fun _ _ z=>⟨z.1,?_⟩)) (fun kv h=>by unfold eE at h;exact (abr.mp h).1)
  obtain ⟨l,us,z1,z2,z3⟩:=z.2
  exact ⟨l,us,z1,by rw [aq (fun e=>by rw [e,R2.wy] at z2;cases z2)];exact k2 _ _ (fun e=>by rw [e,R2.pl] at z2;cases z2) z2,(z3.bg t3).bg t4⟩
def Jp (p q:aJ):Rat×Rat:=(q.sp.1 - p.sp.1,q.sp.2 - p.sp.2)
inductive Jq (K:Frag)(C:Addr)(vs:η)(H:Hp)(Q:VK)(E_:XK):Prop where
 | mk (a:Addr) (pins:π) (bars:ς) (p q:aJ) (_:vs=[.ref a,.str p.nm,.str q.nm]) (_:vw K H C a pins bars) (_:c7 pins bars) (_:p∈pins) (_:q∈pins) (_:Jl K H Q (Jp p q)):Jq K C vs H Q E_
theorem Om {pins:π}(h:(pins.map (·.nm)).Nodup):((pins.map fun p=>(p.nm,jB p.sp)).map (·.1)).Nodup:=by
 rw [aa5]
 exact h
theorem zM {pins:π}(h:(pins.map (·.nm)).Nodup):((pins.map fun p=>(p.nm,p.ws)).map (·.1)).Nodup:=by
 rw [aa5]
 exact h
theorem Oo {bars:ς}(h:(bars.map (·.nm)).Nodup):((bars.map fun b=>(b.nm,b.one.nm,b.other.nm)).map (·.1)).Nodup:=by
 rw [aa5]
 exact h
theorem Vl:aG zal zal (ag CK):=sq
theorem Vm {C:Addr}(D:Def K mg "arm_between" CK zal)(MP:bj P w K mg base (a8 P w) 2 C "place" zae (j8 K C))(abp:Fn P w K mg base (a8 P w) 35 "pair_difference" zad (xU K fun a b=>a - b)):Fn P w K mg base (a8 P w) 36 "arm_between" zal (Jq K C):=by
 refine D.ok Vl (fun vs H Q E h=>?_) (fun f bH A outer s H vs Q E hr h=>?_)
 ·obtain ⟨a,pins,bars,p,q,rfl,_⟩:=h
  rfl
 obtain ⟨a,pins,bars,p,q,rfl,R,g,hp,hq,k⟩:=h
 obtain ⟨dx,pP,pW,pB,kP,kW,kB,R,W⟩:=R.ex
 refine ⟨_,(ak (aK (aE abp hr.mo (pY P w) (ar (bY (k:=2) (pv 0) hr.mo (pY P w) (ar (pv 2) aa)) (ar (bY (k:=2) (pv 0) hr.mo (pY P w) (ar (pv 1) aa)) aa))))),?_⟩
 refine ⟨_,rfl,a,C,dx,_,_,_,rfl,R.obj,rfl,MP,_,rfl,a,dx,pP,pW,pB,_,_,kP,kW,kB,q.nm,jB q.sp,rfl,R,Om g.np,aaj.mpr ⟨q,hq,rfl⟩,fun v1 h1=>?_⟩
 refine ⟨_,rfl,a,C,dx,_,_,_,rfl,R.obj,rfl,MP,_,rfl,a,dx,pP,pW,pB,_,_,kP,kW,kB,p.nm,jB p.sp,rfl,R,Om g.np,aaj.mpr ⟨p,hp,rfl⟩,fun v2 h2=>?_⟩
 have z1:=g.sz q hq
 have z2:=g.sz p hp
 exact ⟨v1,v2,q.sp,p.sp,rfl,h1,h2,z1.1.up (by decide),z1.2.1.up (by decide),z2.1.up (by decide),z2.2.1.up (by decide),k⟩
def mv (M:ω)(x:Str):Rat×Rat:=(M x).getD (0,0)
def gh (F:ω)(pins:π):List (Int×Int):=pins.flatMap fun p=>[qr (mv F p.nm).1,qr (mv F p.nm).2]
theorem j_ (F:ω):∀pins:List aJ,(gh F pins).length=2*pins.length
 | []=>rfl
 | p::ps=>by
  have:=j_ F ps
  unfold gh at this ⊢
  rw [aa_,aat,this]
  simp
  omega
theorem DX (F:ω)(ps:π)(p:aJ):gh F (ps++[p])=gh F ps++[qr (mv F p.nm).1,qr (mv F p.nm).2]:=by
 unfold gh
 rw [ab9]
 simp
def h8 (x:Str)(w:Rat×Rat):Str->Option (Rat×Rat):=fun y=>if y=x then some w else none
def jg (b:ba):Str->Option (Rat×Rat):=fun y=>if y=b.one.nm then some (Jp b.one b.other) else if y=b.other.nm then some (Jp b.other b.one) else none
def qt (pins:π)(p:aJ):List (List (Int×Int)):=p.ws.map fun w=>gh (h8 p.nm w) pins
def bO (pins:π)(bars:ς):List (List (Int×Int)):=(pins.flatMap fun p=>qt pins p)++bars.map fun b=>gh (jg b) pins
structure iH (K:Frag)(H:Hp)(r:Addr)(ls:Α)(bT:Ε)(bu:ξ):Prop where
 mi:mM H r ls bT
 num:fJ K H bT bu
 nr:r∉ls
theorem iH.same {H H' :Hp}{r:Addr}{ls:Α}{bT:Ε}{bu:ξ}(h:iH K H r ls bT bu)(s:av H H'):iH K H' r ls bT bu:=⟨h.mi.same s,h.num.same s,h.nr⟩
theorem xV {H:Hp}{bT:Ε}{bu:ξ}{us:η}{qs:τ}(h:fJ K H bT bu)(n:eT K H us qs):fJ K H (bT++[us]) (bu++[qs]):=by
 refine ⟨by simp [h.1],fun i u q' e1 e2=>?_⟩
 have l:=h.1
 by_cases c:i < bT.length
 ·rw [aaS c] at e1
  rw [aaS (by omega)] at e2
  exact h.2 i u q' e1 e2
 ·rw [aa3 (by omega)] at e1 e2
  by_cases z:i - bT.length=0
  ·rw [z] at e1
   rw [show i - bu.length=0 by omega] at e2
   cases e1
   cases e2
   exact n
  ·rw [aan (by simp;omega)] at e1
   cases e1
theorem Mb {H:Hp}{ls:Α}{bT:Ε}{l:Addr}{us:η}(hl:ls.length=bT.length)(h:∀(i:Nat) (l:Addr) (vs:η),ls[i]? =some l->bT[i]? =some vs->H l=some (.lst vs))(e:H l=some (.lst us)):
  ∀(i:Nat) (l' :Addr) (vs:η),(ls++[l])[i]? =some l' ->(bT++[us])[i]? =some vs->H l' =some (.lst vs):=fun i l' vs e1 e2=>by
 by_cases c:i < ls.length
 ·rw [aaS c] at e1
  rw [aaS (by omega)] at e2
  exact h i l' vs e1 e2
 ·rw [aa3 (by omega)] at e1 e2
  by_cases z:i - ls.length=0
  ·rw [z] at e1
   rw [show i - bT.length=0 by omega] at e2
   cases e1
   cases e2
   exact e
  ·rw [aan (by simp;omega)] at e1
   cases e1
theorem iH.push {H:Hp}{r l:Addr}{ls:Α}{bT:Ε}{bu:ξ}{us:η}{qs:τ}(h:iH K H r ls bT bu)(e:H l=some (.lst us))(ne:l≠r)(n:eT K H us qs):
  iH K (upd H r (.lst (ls.map V.ref++[.ref l]))) r (ls++[l]) (bT++[us]) (bu++[qs]):=by
 have st:bx H (upd H r (.lst (ls.map V.ref++[.ref l]))):=.list h.mi.1
 have hm:∀(i:Nat) (l' :Addr) (vs:η),ls[i]? =some l' ->bT[i]? =some vs->(upd H r (.lst (ls.map V.ref++[.ref l]))) l' =some (.lst vs):=fun i l' vs e1 e2=>by
  rw [aq (fun z:l' =r=>h.nr (by rw [<- z];exact aaa e1))]
  exact h.mi.2.2 i l' vs e1 e2
 refine ⟨⟨by rw [aj,aa1];rfl,by simp [h.mi.2.1],Mb h.mi.2.1 hm (by rw [aq ne];exact e)⟩,?_,?_⟩
 ·exact xV ⟨h.num.1,fun i vs qs e1 e2=>(h.num.2 i vs qs e1 e2).bg st⟩ (n.bg st)
 ·intro z
  rcases aaQ.mp z with z | z
  ·exact h.nr z
  ·exact ne (aaT.mp z).symm
inductive i_ (K:Frag)(C:Addr)(vs:η)(H:Hp)(Q:VK)(E_:XK):Prop where
 | mk (a d:Addr) (pins:π) (bars:ς) (kvs:δ) (F:ω) (_:vs=[.ref a,.ref d]) (_:vw K H C a pins bars) (_:pins.length<=100) (_:H d=some (.dK kvs)) (_:SH K H kvs F) (_:∀(l:Addr) (us:η) (H' :Hp),av H H' ->H l=none->H' l=some (.lst us)->eT K H' us (gh F pins)->Q (.ref l) H'):i_ K C vs H Q E_
theorem fm (pins:π):((pins.map fun p=>(p.nm,jB p.sp)).map (·.1))=pins.map (·.nm):=by rw [aa5];rfl
theorem Jr:aG ["F","draws","row","pin"] zaK (ag CL):=sq
theorem Vn {C aM:Addr}(hM:∀H:Hp,fY K H (.ref aM) (0,0))(Q3:mg "NO_MOVE"=some (.ref aM))(D:Def K mg "pair_row" CL zaK)(MP:bj P w K mg base (a8 P w) 1 C "pins" zac (fK K C)):Fn P w K mg base (a8 P w) 2 "pair_row" zaK (i_ K C):=by
 refine D.ok Jr (fun vs H Q E h=>?_) (fun f bH A outer s H vs Q E hr h=>?_)
 ·obtain ⟨a,d,pins,bars,kvs,F,rfl,_⟩:=h
  rfl
 obtain ⟨a,d,pins,bars,kvs,F,rfl,R,lp,hd,hP,q⟩:=h
 refine ⟨_,(ae (aA (i:=2) Jr.nd rfl (aav rfl) (cD aa))
  (ae (bF PassesOwn.never rfl (bD (cp (k:=1) (pv 0) hr.mo (pY P w))) (aD (i:=3) Jr.nd rfl (aav rfl)) (ak (bq (ip PySem.F.plainAttrs_list PySem.F.slot_list_extend PySem.F.type_list_extend LO (pv 2) (ar (IA (cX hr) (pv 1) (pv 3) (jO (v:=.ref aM) rfl Q3 rfl) ⟨rfl,rfl,rfl,rfl⟩) aa)))))
  (ak (aK (pv 2))))),?_⟩
 refine ⟨(by show 0<=sizeLine;decide),?_⟩
 intro l nl;generalize eX:upd _ l _=H1;have ⟨s1,el⟩:=nw nl eX;clear eX
 have R1:=R.same s1
 obtain ⟨dx,pP,pW,pB,kP,kW,kB,F1,W1⟩:=R1.ex
 refine ⟨_,rfl,a,C,dx,_,_,_,rfl,F1.obj,rfl,MP,a,dx,pP,pW,pB,_,_,kP,kW,kB,rfl,F1,fun lp H2 s2 rN ka=>?_⟩
 rw [fm] at ka
 have qu:=s1.trans s2
 have Mc:lp≠l:=fun z=>by rw [z,el] at rN;cases rN
 refine ⟨lp,rfl,⟨_,aZ.of ka⟩,cC (K:=K) (a:=lp) (xs:=(pins.map (·.nm)).map V.str) (fun i σ H' =>∃(o3:Β) (us:η),σ=[some (.ref a),some (.ref d),some (.ref l),o3]/\av H H' /\H' lp=some (.lst ((pins.map (·.nm)).map V.str))/\H' l=some (.lst us)/\eT K H' us (gh F (pins.take i))) ⟨none,[],rfl,qu,ka,s2 _ _ el,⟨rfl,fun i u q e=>by simp at e⟩⟩ (fun i σ H' _ h=>by
   obtain ⟨_,_,_,_,h,_⟩:=h
   exact aZ.of h) ?_ ?_⟩
 ·rintro i z σ H4 hi ⟨o3,us,rfl,s4,l4,e4,n4⟩
  rw [Wp,Wp] at hi
  obtain ⟨x,hx,rfl⟩:=aaM.mp hi
  obtain ⟨p,hp,rfl⟩:=aaM.mp hx
  have il:i < pins.length:=(be.mp hp).1
  have d4:=s4 _ _ hd
  have g1:fY K H4 ((dJ kvs (.inr p.nm)).getD (.ref aM)) (mv F p.nm):=(hP.same s4).aa0 (hM H4)
  obtain ⟨b,u1,u2,eb,hb,h1,h2⟩:=g1
  have lu:us.length<=200:=by
   have:=n4.1
   rw [j_,abd] at this
   omega
  refine ⟨_,rfl,.inl ⟨rfl,_,aZ.of e4⟩,_,rfl,d,rfl,.inl ⟨_,.inl d4⟩,_,rfl,_,gf.k (k:=.inr p.nm) d4,l,b,us,[u1,u2],rfl,by rw [eb],e4,hb,by simp;omega,?_⟩
  have st:bx H4 (upd H4 l (.lst (us++[u1,u2]))):=.list e4
  refine ⟨_,us++[u1,u2],rfl,fun c o z=>?_,?_,aj,?_⟩
  ·rw [aq (ao z nl)]
   exact s4 _ _ z
  ·rw [aq Mc]
   exact l4
  ·rw [take_snoc hp,DX]
   have a1:=eT.snoc (K:=K) (n4.bg st) (nq.bg h1 st)
   have a2:=eT.snoc (K:=K) a1 (nq.bg h2 st)
   simpa using a2
 ·rintro σ H4 ⟨o3,us,rfl,s4,l4,e4,n4⟩
  rw [ir,ir,abS] at n4
  exact ⟨_,rfl,q l us H4 s4 nl e4 n4⟩
inductive oO (K:Frag)(C:Addr)(vs:η)(H:Hp)(Q:VK)(E_:XK):Prop where
 | mk (a:Addr) (pins:π) (bars:ς) (b:ba) (_:vs=[.ref a,.str b.one.nm,.str b.other.nm]) (_:vw K H C a pins bars) (_:c7 pins bars) (_:b.one∈pins) (_:b.other∈pins) (_:b.one.nm≠b.other.nm) (_:∀(l:Addr) (us:η) (H' :Hp),av H H' ->H l=none->H' l=some (.lst us)->eT K H' us (gh (jg b) pins)->Q (.ref l) H'):oO K C vs H Q E_
theorem Q4 (k:Key)(v:V):cL [] [(k,v)]=[(k,v)]:=rfl
theorem Q6 {k j:Key}(v u:V)(h:k≠j):cL [] [(k,v),(j,u)]=[(k,v),(j,u)]:=by
 show putK [(k,v)] j u=_
 rw [cQ]
 ·rfl
 ·rw [cF h]
  rfl
theorem Vo:aG zal zal (ag CM):=sq
theorem Vp {C:Addr}(D:Def K mg "bar_row" CM zal)(Vq:Fn P w K mg base (a8 P w) 36 "arm_between" zal (Jq K C))(Q7:Fn P w K mg base (a8 P w) 2 "pair_row" zaK (i_ K C)):Fn P w K mg base (a8 P w) 37 "bar_row" zal (oO K C):=by
 refine D.ok Vo (fun vs H Q E h=>?_) (fun f bH A outer s H vs Q E hr h=>?_)
 ·obtain ⟨a,pins,bars,b,rfl,_⟩:=h
  rfl
 obtain ⟨a,pins,bars,b,rfl,R,g,m1,m2,ne,q⟩:=h
 refine ⟨_,(ak (aK (aE Q7 hr.mo pX (ar (pv 0) (ar (zo (ou (pv 1) (aE Vq hr.mo pX (ar (pv 0) (ar (pv 1) (ar (pv 2) aa)))) (ou (pv 2) (aE Vq hr.mo pX (ar (pv 0) (ar (pv 2) (ar (pv 1) aa)))) zm)) rfl rfl (aiK _ _) (by decide)) aa))))),?_⟩
 refine ⟨_,rfl,fun d nd=>?_⟩
 have s1:=aH nd (.dK [])
 have e1:(upd H d (.dK [])) d=some (.dK []):=aj
 generalize upd H d (.dK [])=H1 at s1 e1 ⊢
 refine ⟨_,rfl,_,rfl,_,rfl,_,rfl,a,pins,bars,b.one,b.other,rfl,R.same s1,g,m1,m2,fun v1 H2 s2 h2=>?_⟩
 refine ⟨_,rfl,_,rfl,_,rfl,_,rfl,a,pins,bars,b.other,b.one,rfl,(R.same s1).same s2,g,m2,m1,fun v2 H3 s3 h3=>?_⟩
 have e3:=s3 _ _ (s2 _ _ e1)
 refine ⟨e3,[(.inr b.one.nm,v1),(.inr b.other.nm,v2)],rfl,(by show 2<=15;decide),?_⟩
 rw [Q6 _ _ (fun z=>ne (abV z))]
 have st:bx H3 (upd H3 d (.dK [(.inr b.one.nm,v1),(.inr b.other.nm,v2)])):=.dict e3
 have e4:(upd H3 d (.dK [(.inr b.one.nm,v1),(.inr b.other.nm,v2)])) d=some (.dK [(.inr b.one.nm,v1),(.inr b.other.nm,v2)]):=aj
 have s4:av H (upd H3 d (.dK [(.inr b.one.nm,v1),(.inr b.other.nm,v2)])):=fun c o z=>by
  rw [aq (ao z nd)]
  exact s3 _ _ (s2 _ _ (s1 _ _ z))
 generalize upd H3 d (.dK [(.inr b.one.nm,v1),(.inr b.other.nm,v2)])=H4 at st e4 s4 ⊢
 refine ⟨a,d,pins,bars,_,jg b,rfl,R.same s4,aam g.lp (by decide),e4,fun x=>?_,fun l us H5 s5 n5 e5 nm=>q l us H5 (s4.trans s5) (s4.free n5) e5 nm⟩
 by_cases c1:x=b.one.nm
 ·subst c1
  exact .inr ⟨v1,Jp b.one b.other,eG rfl,by unfold jg;rw [if_pos rfl],(h2.same s3).bg st⟩
 ·by_cases c2:x=b.other.nm
  ·subst c2
   exact .inr ⟨v2,Jp b.other b.one,by rw [cF (fun z=>c1 (abV z).symm),eG rfl],by unfold jg;rw [if_neg c1,if_pos rfl],h3.bg st⟩
  ·exact .inl ⟨by rw [cF (fun z=>c1 (abV z).symm),cF (fun z=>c2 (abV z).symm)];rfl,by unfold jg;rw [if_neg c1,if_neg c2]⟩
inductive e_ (K:Frag)(C:Addr)(vs:η)(H:Hp)(Q:VK)(E_:XK):Prop where
 | mk (a:Addr) (pins:π) (bars:ς) (_:vs=[.ref a]) (_:vw K H C a pins bars) (_:c7 pins bars) (_:∀(r:Addr) (ls:Α) (bT:Ε) (H' :Hp),av H H' ->H r=none->iH K H' r ls bT (bO pins bars)->Q (.ref r) H'):e_ K C vs H Q E_
theorem kb (bars:ς):((bars.map fun b=>(b.nm,b.one.nm,b.other.nm)).map (·.1))=bars.map (·.nm):=by rw [aa5];rfl
theorem fE (pins:π)(h:∀p∈pins,p.ws.length<=2):(pins.flatMap fun p=>p.ws).length<=2*pins.length:=by
 induction pins with
 | nil=>simp
 | cons p ps ih=>
  have h1:=h p aaK
  have h2:=ih fun q hq=>h q (aaE _ hq)
  rw [aa_,aat,abf]
  omega
theorem oP (all pins:π):(pins.flatMap fun p=>qt all p).length=(pins.flatMap fun p=>p.ws).length:=by
 induction pins with
 | nil=>rfl
 | cons p ps ih=>
  rw [aa_,aa_,aat,aat,ih]
  unfold qt
  rw [ir]
theorem fe (pins:π)(bars:ς):(bO pins bars).length=(pins.flatMap fun p=>p.ws).length+bars.length:=by
 unfold bO
 rw [aat,oP,ir]
theorem rO:aG ["F","rows","pin","way","bar","two"] zao (ag CN):=sq
theorem Vr {C:Addr}(D:Def K mg "draw_rows" CN zao)(MP:bj P w K mg base (a8 P w) 1 C "pins" zac (fK K C))(MW:bj P w K mg base (a8 P w) 2 C "ways" zae (jD K C))(MB:bj P w K mg base (a8 P w) 1 C "bars" zac (hJ K C))(ME:bj P w K mg base (a8 P w) 1 C "ends" zaI (oN K C))
  (Q7:Fn P w K mg base (a8 P w) 2 "pair_row" zaK (i_ K C)) (abq:Fn P w K mg base (a8 P w) 37 "bar_row" zal (oO K C)):Fn P w K mg base (a8 P w) 38 "draw_rows" zao (e_ K C):=by
 refine D.ok rO (fun vs H Q E h=>?_) (fun f bH A outer s H vs Q E hr h=>?_)
 ·obtain ⟨a,pins,bars,rfl,_⟩:=h
  rfl
 obtain ⟨a,pins,bars,rfl,R,g,q⟩:=h
 refine ⟨_,(ae (aA (i:=1) rO.nd rfl (aav rfl) (cD aa))
  (ae (bF PassesOwn.never rfl (bD (cp (k:=1) (pv 0) hr.mo (pY P w))) (aD (i:=2) rO.nd rfl (aav rfl)) (ak (bF PassesOwn.never rfl (bD (bY (k:=2) (pv 0) hr.mo (pY P w) (ar (pv 2) aa))) (aD (i:=3) rO.nd rfl (aav rfl)) (ak (bq (ip PySem.F.plainAttrs_list PySem.F.slot_list_append PySem.F.type_list_append di (pv 1) (ar (aE Q7 hr.mo (pY P w) (ar (pv 0) (ar (zo (ou (pv 2) (pv 3) zm) rfl rfl (aiK _ _) (by decide)) aa))) aa)))))))
  (ae (bF PassesOwn.never rfl (bD (cp (k:=1) (pv 0) hr.mo (pY P w))) (aD (i:=4) rO.nd rfl (aav rfl)) (ae (aA (i:=5) rO.nd rfl (aav rfl) (bY (k:=1) (pv 0) hr.mo (pY P w) (ar (pv 4) aa)))
   (ak (bq (ip PySem.F.plainAttrs_list PySem.F.slot_list_append PySem.F.type_list_append di (pv 1) (ar (aE abq hr.mo (pY P w) (ar (pv 0) (ar (a9 (pv 5)) (ar (a9 (pv 5)) aa)))) aa))))))
  (ak (aK (pv 1)))))),?_⟩
 refine ⟨(by show 0<=sizeLine;decide),?_⟩
 intro r nr;generalize eX:upd _ r _=H1;have ⟨s1,er⟩:=nw nr eX;clear eX
 have big:(40:Nat)<=sizeLine:=by decide
 have wl:=fE pins g.lw
 have gl:=g.lp
 have R0:iH K H1 r [] [] []:=⟨⟨er,rfl,fun i l vs e=>by simp at e⟩,⟨rfl,fun i vs qs e=>by simp at e⟩,by simp⟩
 have R1:=R.same s1
 obtain ⟨dx,pP,pW,pB,kP,kW,kB,F1,W1⟩:=R1.ex
 refine ⟨_,rfl,a,C,dx,_,_,_,rfl,F1.obj,rfl,MP,a,dx,pP,pW,pB,_,_,kP,kW,kB,rfl,F1,fun lp H2 s2 rN ka=>?_⟩
 rw [fm] at ka
 have qu:=s1.trans s2
 have Mc:lp≠r:=fun z=>by rw [z,er] at rN;cases rN
 refine ⟨lp,rfl,⟨_,aZ.of ka⟩,cC (K:=K) (a:=lp) (xs:=(pins.map (·.nm)).map V.str) (fun i σ H' =>∃(o2 o3:Β) (ls:Α) (bT:Ε),σ=[some (.ref a),some (.ref r),o2,o3,none,none]/\av H H' /\H' lp=some (.lst ((pins.map (·.nm)).map V.str))/\iH K H' r ls bT ((pins.take i).flatMap fun p=>qt pins p)) ⟨none,none,[],[],rfl,qu,ka,R0.same s2⟩ (fun i σ H' _ h=>by
   obtain ⟨_,_,_,_,_,_,h,_⟩:=h
   exact aZ.of h) ?_ ?_⟩
 ·rintro i z σ H4 hi ⟨o2,o3,ls,bT,rfl,s4,l4,RR⟩
  rw [Wp,Wp] at hi
  obtain ⟨x,hx,rfl⟩:=aaM.mp hi
  obtain ⟨p,hp,rfl⟩:=aaM.mp hx
  have mp:p∈pins:=aaa hp
  have R4:=R.same s4
  obtain ⟨dx,pP,pW,pB,kP,kW,kB,F4,W4⟩:=R4.ex
  have Vs:p.nm∈(pins.map fun p=>(p.nm,jB p.sp)).map (·.1):=by rw [fm];exact aaj.mpr ⟨p,mp,rfl⟩
  refine ⟨_,rfl,a,C,dx,_,_,_,rfl,F4.obj,rfl,MW,_,rfl,a,dx,pP,pW,pB,_,_,kP,kW,kB,_,p.nm,p.ws,rfl,F4,W4,zM g.np,aaj.mpr ⟨p,mp,rfl⟩,Vs,fun m us H5 s5 n5 e5 p5=>?_⟩
  have lu:us.length=p.ws.length:=Paired.length p5
  have SN:=s4.trans s5
  have mr:m≠r:=fun z=>by rw [z,RR.mi.1] at n5;cases n5
  refine ⟨m,rfl,⟨_,aZ.of e5⟩,cC (K:=K) (a:=m) (xs:=us) (fun j σ H' =>∃(o3:Β) (ls:Α) (bT:Ε),σ=[some (.ref a),some (.ref r),some (.str p.nm),o3,none,none]/\av H H' /\H' lp=some (.lst ((pins.map (·.nm)).map V.str))/\H' m=some (.lst us)/\g9 K H' us p.ws/\iH K H' r ls bT (((pins.take i).flatMap fun p=>qt pins p)++(p.ws.take j).map fun w=>gh (h8 p.nm w) pins)) ⟨o3,ls,bT,rfl,SN,s5 _ _ l4,e5,p5,by simpa using RR.same s5⟩ (fun j σ H' _ h=>by
    obtain ⟨_,_,_,_,_,_,h,_⟩:=h
    exact aZ.of h) ?_ ?_⟩
  ·rintro j u σ H6 hu ⟨o3,ls,bT,rfl,s6,l6,e6,p6,vK⟩
   obtain ⟨w,ew,hw⟩:=aY p6 hu
   have jl:=(be.mp hu).1
   refine ⟨_,rfl,.inl ⟨rfl,_,aZ.of vK.mi.1⟩,_,rfl,fun d nd=>?_⟩
   have t1:=aH nd (.dK [])
   have d1:(upd H6 d (.dK [])) d=some (.dK []):=aj
   generalize upd H6 d (.dK [])=H7 at t1 d1 ⊢
   refine ⟨_,rfl,_,rfl,d1,[(.inr p.nm,u)],rfl,(by show 1<=15;decide),?_⟩
   rw [Q4]
   have st:bx H7 (upd H7 d (.dK [(.inr p.nm,u)])):=.dict d1
   have d8:(upd H7 d (.dK [(.inr p.nm,u)])) d=some (.dK [(.inr p.nm,u)]):=aj
   have t8:av H6 (upd H7 d (.dK [(.inr p.nm,u)])):=fun c o z=>by
    rw [aq (ao z nd)]
    exact t1 _ _ z
   have ZI:=(hw.same t1).bg st
   generalize upd H7 d (.dK [(.inr p.nm,u)])=H8 at d8 t8 ZI ⊢
   have s8:=s6.trans t8
   refine ⟨a,d,pins,bars,_,h8 p.nm w,rfl,R.same s8,aam g.lp (by decide),d8,fun x=>?_,fun l fH H9 t9 n9 e9 nm=>?_⟩
   ·by_cases c1:x=p.nm
    ·subst c1
     exact .inr ⟨u,w,eG rfl,by unfold h8;rw [if_pos rfl],ZI⟩
    ·exact .inl ⟨by rw [cF (fun z=>c1 (abV z).symm)];rfl,by unfold h8;rw [if_neg c1]⟩
   have t69:=t8.trans t9
   have SO:=vK.same t69
   have lr:l≠r:=fun z=>by rw [z,t8 _ _ vK.mi.1] at n9;cases n9
   have ZJ:ls.length<=18:=by
    have h1:=vK.mi.2.1
    have h2:=vK.num.1
    rw [aat,ir,abd,oP] at h2
    have h3:((pins.take i).flatMap fun p=>p.ws).length+p.ws.length<=(pins.flatMap fun p=>p.ws).length:=by
     have e:pins=pins.take i++p::pins.drop (i+1):=by
      have lt:=(be.mp hp).1
      have e2:=(be.mp hp).2
      rw [<- e2,ah5,acG]
     have e3:=congrArg (fun l:List aJ=>(l.flatMap fun p=>p.ws).length) e
     simp only [ab9,aa_,aat] at e3
     omega
    omega
   refine ⟨r,_,_,rfl,rfl,SO.mi.1,(by rw [ir];omega),?_⟩
   have RN:=SO.push e9 lr nm
   have tr:bx H9 (upd H9 r (.lst (ls.map V.ref++[.ref l]))):=.list SO.mi.1
   have kk:∀b o,b≠r->H6 b=some o->(upd H9 r (.lst (ls.map V.ref++[.ref l]))) b=some o:=fun b o n e=>by rw [aq n];exact t69 _ _ e
   refine ⟨_,ls++[l],bT++[fH],rfl,fun b o e=>?_,kk _ _ Mc l6,kk _ _ mr e6,(p6.same t69).bg tr,?_⟩
   ·exact kk _ _ (ao e nr) (s6 _ _ e)
   ·rw [take_snoc ew,aa1, <- acH]
    exact RN
  ·rintro σ H6 ⟨o3,ls,bT,rfl,s6,l6,e6,p6,vK⟩
   refine ⟨_,_,ls,bT,rfl,s6,l6,?_⟩
   rw [lu,abS] at vK
   rw [take_snoc hp,ab9]
   simpa [qt] using vK
 ·rintro σ H4 ⟨o2,o3,ls,bT,rfl,s4,l4,RR⟩
  rw [ir,ir,abS] at RR
  have R4:=R.same s4
  obtain ⟨dx,pP,pW,pB,kP,kW,kB,F4,W4⟩:=R4.ex
  refine ⟨_,rfl,a,C,dx,_,_,_,rfl,F4.obj,rfl,MB,a,dx,pP,pW,pB,_,_,kP,kW,kB,rfl,F4,fun lb H5 s5 Vt xW=>?_⟩
  rw [kb] at xW
  have bne:lb≠r:=fun z=>by rw [z,RR.mi.1] at Vt;cases Vt
  refine ⟨lb,rfl,⟨_,aZ.of xW⟩,cC (K:=K) (a:=lb) (xs:=(bars.map (·.nm)).map V.str) (fun i σ H' =>∃(o4 o5:Β) (ls:Α) (bT:Ε),σ=[some (.ref a),some (.ref r),o2,o3,o4,o5]/\av H H' /\H' lb=some (.lst ((bars.map (·.nm)).map V.str))/\iH K H' r ls bT ((pins.flatMap fun p=>qt pins p)++(bars.take i).map fun b=>gh (jg b) pins)) ⟨none,none,ls,bT,rfl,s4.trans s5,xW,by simpa using RR.same s5⟩ (fun i σ H' _ h=>by
    obtain ⟨_,_,_,_,_,_,h,_⟩:=h
    exact aZ.of h) ?_ ?_⟩
  ·rintro i z σ H6 hi ⟨o4,o5,ls,bT,rfl,s6,l6,vK⟩
   rw [Wp,Wp] at hi
   obtain ⟨x,hx,rfl⟩:=aaM.mp hi
   obtain ⟨b,hb,rfl⟩:=aaM.mp hx
   have mb:b∈bars:=aaa hb
   have il:=(be.mp hb).1
   have R6:=R.same s6
   obtain ⟨dx,pP,pW,pB,kP,kW,kB,F6,W6⟩:=R6.ex
   refine ⟨_,rfl,a,C,dx,_,_,_,rfl,F6.obj,rfl,ME,_,rfl,a,dx,pP,pW,pB,_,_,kP,kW,kB,b.nm,b.one.nm,b.other.nm,rfl,F6,Oo g.nb,aaj.mpr ⟨b,mb,rfl⟩,fun p rd=>?_⟩
   have tp:bQ K H6 p [.str b.one.nm,.str b.other.nm]:=.inl rd
   obtain ⟨m1,m2,m3⟩:=g.ends b mb
   refine ⟨_,rfl,.inl ⟨rfl,_,aZ.of vK.mi.1⟩,_,rfl,_,rfl,p,_,_,_,rfl,rfl,tp,me,_,rfl,p,_,_,_,rfl,rfl,tp,mJ,?_⟩
   refine ⟨a,pins,bars,b,rfl,R6,g,m1,m2,m3,fun l fH H9 t9 n9 e9 nm=>?_⟩
   have SO:=vK.same t9
   have lr:l≠r:=fun z=>by rw [z,vK.mi.1] at n9;cases n9
   have ZJ:ls.length<=78:=by
    have h1:=vK.mi.2.1
    have h2:=vK.num.1
    rw [aat,ir,abd,oP] at h2
    have:=g.lb
    omega
   refine ⟨r,_,_,rfl,rfl,SO.mi.1,(by rw [ir];exact aaz (show ls.length<=1000 by omega) (by decide)),?_⟩
   have RN:=SO.push e9 lr nm
   have kk:∀c o,c≠r->H6 c=some o->(upd H9 r (.lst (ls.map V.ref++[.ref l]))) c=some o:=fun c o n e=>by rw [aq n];exact t9 _ _ e
   refine ⟨_,_,ls++[l],bT++[fH],rfl,fun c o e=>kk _ _ (ao e nr) (s6 _ _ e),kk _ _ bne l6,?_⟩
   rw [take_snoc hb,aa1, <- acH]
   exact RN
  ·rintro σ H6 ⟨o4,o5,ls,bT,rfl,s6,l6,vK⟩
   rw [ir,ir,abS] at vK
   exact ⟨_,rfl,q r ls bT H6 s6 nr vK⟩
theorem Js {xs:η}{i j:Nat}(h:i<=j)(hj:j<=xs.length):fu xs (some (i:Int)) (some (j:Int))=(xs.drop i).take (j - i):=by
 unfold fu
 rw [HT.mZ,HT.mZ,ahh hj,ahh (show i<=xs.length by omega)]
def aI (pins:π):Nat:=(pins.flatMap fun p=>p.ws).length
theorem xX (ps:π)(p:aJ):aI (ps++[p])=aI ps+p.ws.length:=by
 unfold aI
 rw [ab9,aat]
 simp
theorem xY {pins:π}{i:Nat}{p:aJ}(h:pins[i]? =some p):aI (pins.take i)+p.ws.length<=aI pins:=by
 have e:pins=pins.take i++p::pins.drop (i+1):=by
  have lt:=(be.mp h).1
  have e2:=(be.mp h).2
  rw [<- e2,ah5,acG]
 have e3:=congrArg (fun l:List aJ=>(l.flatMap fun p=>p.ws).length) e
 simp only [ab9,aa_,aat] at e3
 unfold aI
 omega
inductive Md (K:Frag)(C:Addr)(vs:η)(H:Hp)(Q:VK)(E_:XK):Prop where
 | mk (a nl:Addr) (pins:π) (bars:ς) (us:η) (_:vs=[.ref a,.ref nl]) (_:vw K H C a pins bars) (_:c7 pins bars) (_:H nl=some (.lst us)) (_:us.length=aI pins+bars.length) (_:∀(p:Addr) (H' :Hp),av H H' ->Q (.ref p) H'):Md K C vs H Q E_
theorem oQ:aG ["F","numbers","pushes","at","pin","behind","pulls"] zaq (ag CO):=sq
theorem Vu {C:Addr}(D:Def K mg "pulls_and_pushes" CO zaq)(aL:mg "len"=none)(xZ:mg "dict"=none)(j4:mg "zip"=none)(MP:bj P w K mg base (a8 P w) 1 C "pins" zac (fK K C))(MW:bj P w K mg base (a8 P w) 2 C "ways" zae (jD K C))(MB:bj P w K mg base (a8 P w) 1 C "bars" zac (hJ K C)):
  Fn P w K mg base (a8 P w) 3 "pulls_and_pushes" zaq (Md K C):=by
 refine D.ok oQ (fun vs H Q E h=>?_) (fun f bH A outer s H vs Q E hr h=>?_)
 ·obtain ⟨a,nl,pins,bars,us,rfl,_⟩:=h
  rfl
 obtain ⟨a,nl,pins,bars,us,rfl,R,g,hn,lu,q⟩:=h
 have wl:aI pins<=2*pins.length:=fE pins g.lw
 have gl:=g.lp
 have gb:=g.lb
 refine ⟨_,(ae (aA (i:=2) oQ.nd rfl (aav rfl) dD)
  (ae (aA (i:=3) oQ.nd rfl (aav rfl) ah)
  (ae (bF PassesOwn.never rfl (bD (cp (k:=1) (pv 0) hr.mo (pY P w))) (aD (i:=4) oQ.nd rfl (aav rfl)) (ae (aA (i:=5) oQ.nd rfl (aav rfl) (aF bI (pv 3) (aC au rfl aL bt (ar (bY (k:=2) (pv 0) hr.mo (pY P w) (ar (pv 4) aa)) aa))))
   (ae (dj (cX hr) (pv 2) (pv 4) (cE gY (pv 1) (cA (pv 3)) (cA (pv 5))) rfl)
   (ak (aA (i:=3) oQ.nd rfl (aav rfl) (pv 5))))))
  (ae (aA (i:=6) oQ.nd rfl (aav rfl) (IV rfl rfl xZ rfl j4 (ar (cp (k:=1) (pv 0) hr.mo (pY P w)) (ar (cE gY (pv 1) (cA (pv 3)) fk) aa))))
  (ak (aK (a_ (ar (pv 6) (ar (pv 2) aa))))))))),?_⟩
 intro dU nU
 have s1:=aH nU (.dK [])
 have e1:(upd H dU (.dK [])) dU=some (.dK []):=aj
 generalize upd H dU (.dK [])=H1 at s1 e1 ⊢
 have R1:=R.same s1
 obtain ⟨dx,pP,pW,pB,kP,kW,kB,F1,W1⟩:=R1.ex
 refine ⟨_,rfl,a,C,dx,_,_,_,rfl,F1.obj,rfl,MP,a,dx,pP,pW,pB,_,_,kP,kW,kB,rfl,F1,fun lp H2 s2 rN ka=>?_⟩
 rw [fm] at ka
 have qu:=s1.trans s2
 have Mc:lp≠dU:=fun z=>by rw [z,e1] at rN;cases rN
 refine ⟨lp,rfl,⟨_,aZ.of ka⟩,cC (K:=K) (a:=lp) (xs:=(pins.map (·.nm)).map V.str) (fun i σ H' =>∃(o4 o5:Β) (kU:δ),σ=[some (.ref a),some (.ref nl),some (.ref dU),some (.int (aI (pins.take i):Int)),o4,o5,none]/\av H H' /\H' lp=some (.lst ((pins.map (·.nm)).map V.str))/\H' dU=some (.dK kU)/\kU.length<=i) ⟨none,none,[],rfl,qu,ka,s2 _ _ e1,aas _⟩ (fun i σ H' _ h=>by
   obtain ⟨_,_,_,_,_,h,_⟩:=h
   exact aZ.of h) ?_ ?_⟩
 ·rintro i z σ H4 hi ⟨o4,o5,kU,rfl,s4,l4,e4,lk⟩
  rw [Wp,Wp] at hi
  obtain ⟨x,hx,rfl⟩:=aaM.mp hi
  obtain ⟨p,hp,rfl⟩:=aaM.mp hx
  have mp:p∈pins:=aaa hp
  have il:i < pins.length:=(be.mp hp).1
  have R4:=R.same s4
  obtain ⟨dx,pP,pW,pB,kP,kW,kB,F4,W4⟩:=R4.ex
  have Vs:p.nm∈(pins.map fun p=>(p.nm,jB p.sp)).map (·.1):=by rw [fm];exact aaj.mpr ⟨p,mp,rfl⟩
  refine ⟨_,rfl,_,rfl,a,C,dx,_,_,_,rfl,F4.obj,rfl,MW,_,rfl,a,dx,pP,pW,pB,_,_,kP,kW,kB,_,p.nm,p.ws,rfl,F4,W4,zM g.np,aaj.mpr ⟨p,mp,rfl⟩,Vs,fun m vs H5 s5 n5 e5 p5=>?_⟩
  have lv:vs.length=p.ws.length:=Paired.length p5
  refine ⟨m,_,rfl,.inl (aZ.of e5),_,_,rfl,rfl,?_⟩
  have tk:=take_snoc hp
  have wn:aI (pins.take (i+1))=aI (pins.take i)+p.ws.length:=by rw [tk,xX]
  have wt:=xY hp
  have eb:(aI (pins.take i):Int)+((vs.length:Nat):Int)=((aI (pins.take (i+1)):Nat):Int):=by rw [wn,lv];omega
  have Vv:=s4.trans s5
  have ZK:=Vv _ _ hn
  dsimp only
  rw [eb]
  refine ⟨_,rfl,_,rfl,_,rfl,_,rfl,_,rfl,nl,_,rfl,aZ.of ZK,?_⟩
  rw [Js (by omega) (by omega)]
  intro m2 n6;generalize eX:upd _ m2 _=H6;have ⟨s6,e6⟩:=nw n6 eX;clear eX
  have e46:=s6 _ _ (s5 _ _ e4)
  refine ⟨_,rfl,_,rfl,dU,_,rfl,gH.k (k:=.inr p.nm) e46 (aaz (show kU.length<=1000 by omega) (by decide)),?_⟩
  have FK:=s5.trans s6
  have lpk:=fw kU (.inr p.nm) (.ref m2)
  refine ⟨_,rfl,_,_,putK kU (.inr p.nm) (.ref m2),rfl,fun b o e=>?_,?_,aj,by omega⟩
  ·rw [aq (ao e nU)]
   exact FK _ _ (s4 _ _ e)
  ·rw [aq Mc]
   exact FK _ _ l4
 ·rintro σ H4 ⟨o4,o5,kU,rfl,s4,l4,e4,lk⟩
  have R4:=R.same s4
  obtain ⟨dx,pP,pW,pB,kP,kW,kB,F4,W4⟩:=R4.ex
  refine ⟨_,rfl,a,C,dx,_,_,_,rfl,F4.obj,rfl,MB,a,dx,pP,pW,pB,_,_,kP,kW,kB,rfl,F4,fun lb H5 s5 Vt xW=>?_⟩
  rw [kb] at xW
  have Vv:=s4.trans s5
  refine ⟨_,rfl,_,rfl,_,rfl,nl,_,rfl,aZ.of (Vv _ _ hn),?_⟩
  have hw:aI pins<=us.length:=by omega
  rw [ir,ir,abS,i6 hw]
  intro m2 n6;generalize eX:upd _ m2 _=H6;have ⟨s6,e6⟩:=nw n6 eX;clear eX
  have eks:(bars.map (·.nm)).map V.str=(bars.map fun b=>(acp b.nm:Key)).map kV:=by
   rw [aa5,aa5]
   rfl
  rw [eks] at xW
  refine ⟨lb,m2,bars.map fun b=>(acp b.nm:Key),us.drop (aI pins),rfl,s6 _ _ xW,e6,by rw [ir];omega,fun dT H7 s7 n7 e7=>?_⟩
  refine ⟨_,rfl,_,rfl,(by show 2<=sizeLine;decide),?_⟩
  intro pt n8;generalize eX:upd _ pt _=H8;have ⟨s8,e8⟩:=nw n8 eX;clear eX
  have s58:=(s5.trans s6).trans (s7.trans s8)
  have s08:=s4.trans s58
  exact q pt H8 s08
inductive kc (K:Frag)(C:Addr)(vs:η)(H:Hp)(Q:VK)(E_:XK):Prop where
 | mk (a nl:Addr) (pins:π) (bars:ς) (us:η) (_:vs=[.ref a,.ref nl]) (_:vw K H C a pins bars) (_:c7 pins bars) (_:H nl=some (.lst us)) (_:us.length=2*pins.length) (_:∀(d:Addr) (H' :Hp),av H H' ->Q (.ref d) H'):kc K C vs H Q E_
theorem zN:aG ["F","numbers","motion","at","pin"] zaq (ag CP):=sq
theorem Vw {C:Addr}(D:Def K mg "motion_from" CP zaq)(cq:mg "enumerate"=none)(MP:bj P w K mg base (a8 P w) 1 C "pins" zac (fK K C)):
  Fn P w K mg base (a8 P w) 2 "motion_from" zaq (kc K C):=by
 refine D.ok zN (fun vs H Q E h=>?_) (fun f bH A outer s H vs Q E hr h=>?_)
 ·obtain ⟨a,nl,pins,bars,us,rfl,_⟩:=h
  rfl
 obtain ⟨a,nl,pins,bars,us,rfl,R,g,hn,lu,q⟩:=h
 have gl:=g.lp
 refine ⟨_,(ae (aA (i:=2) zN.nd rfl (aav rfl) dD)
  (ae (bF PassesOwn.never rfl (sQ rfl cq (ar (cp (k:=1) (pv 0) hr.mo (pY P w)) aa)) (dy rfl (aS (aD (i:=3) zN.nd rfl (aav rfl)) (aS (aD (i:=4) zN.nd rfl (aav rfl)) b7))) (ak (dj (cX hr) (pv 2) (pv 4) (a_ (ar (bB bc (pv 1) (aF bS ah (pv 3)) (fun _ _=>rfl)) (ar (bB bc (pv 1) (aF bI (aF bS ah (pv 3)) ah) (fun _ _=>rfl)) aa))) rfl)))
  (ak (aK (pv 2))))),?_⟩
 intro d nd
 have s1:=aH nd (.dK [])
 have e1:(upd H d (.dK [])) d=some (.dK []):=aj
 generalize upd H d (.dK [])=H1 at s1 e1 ⊢
 have R1:=R.same s1
 obtain ⟨dx,pP,pW,pB,kP,kW,kB,F1,W1⟩:=R1.ex
 refine ⟨_,rfl,a,C,dx,_,_,_,rfl,F1.obj,rfl,MP,a,dx,pP,pW,pB,_,_,kP,kW,kB,rfl,F1,fun lp H2 s2 rN ka=>?_⟩
 rw [fm] at ka
 have qu:=s1.trans s2
 have Mc:lp≠d:=fun z=>by rw [z,e1] at rN;cases rN
 refine ⟨lp,rfl,⟨_,aZ.of ka⟩,vo (K:=K) (a:=lp) (xs:=(pins.map (·.nm)).map V.str) (fun i σ H' =>∃(o3 o4:Β) (kM:δ),σ=[some (.ref a),some (.ref nl),some (.ref d),o3,o4]/\av H H' /\H' lp=some (.lst ((pins.map (·.nm)).map V.str))/\H' d=some (.dK kM)/\kM.length<=i) ⟨none,none,[],rfl,qu,ka,s2 _ _ e1,aas _⟩ (fun i σ H' _ h=>by
   obtain ⟨_,_,_,_,_,h,_⟩:=h
   exact aZ.of h) ?_ ?_⟩
 ·rintro i z σ H4 p9 hi ⟨o3,o4,kM,rfl,s4,l4,e4,lk⟩ n9
  rw [Wp,Wp] at hi
  obtain ⟨x,hx,rfl⟩:=aaM.mp hi
  obtain ⟨p,hp,rfl⟩:=aaM.mp hx
  have il:i < pins.length:=(be.mp hp).1
  have t9:=aH n9 (.tup [.int (i:Int),.str p.nm])
  have e9:(upd H4 p9 (.tup [.int (i:Int),.str p.nm])) p9=some (.tup [.int (i:Int),.str p.nm]):=aj
  generalize upd H4 p9 (.tup [.int (i:Int),.str p.nm])=H5 at t9 e9 ⊢
  refine ⟨p9,_,rfl,bQ.of e9,rfl,_,_,rfl,_,_,rfl,rfl,?_⟩
  have Vv:=s4.trans t9
  have ZK:=Vv _ _ hn
  have l1:2*i < us.length:=by omega
  have l2:2*i+1 < us.length:=by omega
  have c2:iD 2 (i:Int):=⟨by decide+kernel,aam (intBits_le_64 (by omega) (by omega)) (by decide)⟩
  have a1:je us (2*(i:Int))=some us[2*i]:=by
   have:=b8 (xs:=us) (j:=2*i) (gE l1)
   rw [show ((2*i:Nat):Int)=2*(i:Int) by omega] at this
   exact this
  have a2:je us (2*(i:Int)+1)=some us[2*i+1]:=by
   have:=b8 (xs:=us) (j:=2*i+1) (gE l2)
   rw [show ((2*i+1:Nat):Int)=2*(i:Int)+1 by omega] at this
   exact this
  refine ⟨_,rfl,_,rfl,_,_,rfl,rfl,c2,nl,_,_,_,rfl,rfl,aZ.of ZK,a1,?_⟩
  refine ⟨_,rfl,_,rfl,_,_,rfl,rfl,c2,_,_,rfl,rfl,nl,_,_,_,rfl,rfl,aZ.of ZK,a2,(by show 2<=sizeLine;decide),?_⟩
  intro t n6;generalize eX:upd _ t _=H6;have ⟨s6,e6⟩:=nw n6 eX;clear eX
  have e46:=s6 _ _ (t9 _ _ e4)
  refine ⟨_,rfl,_,rfl,d,_,rfl,gH.k (k:=.inr p.nm) e46 (aaz (show kM.length<=1000 by omega) (by decide)),?_⟩
  have lp9:=fw kM (.inr p.nm) (.ref t)
  have kk:∀b o,b≠d->H4 b=some o->(upd H6 d (.dK (putK kM (.inr p.nm) (.ref t)))) b=some o:=fun b o n e=>by rw [aq n];exact s6 _ _ (t9 _ _ e)
  exact ⟨_,_,_,rfl,fun b o e=>kk b o (ao e nd) (s4 _ _ e),kk _ _ Mc l4,aj,by omega⟩
 ·rintro σ H4 ⟨o3,o4,kM,rfl,s4,_⟩
  exact ⟨_,rfl,q d _ s4⟩
def dt (a b:Rat×Rat):Rat:=a.1*b.1+a.2*b.2
def sP (as bs:List Rat):Rat:=(ab' (·*·) as bs).sum
theorem jE (bs:List Rat):sP [] bs=0:=by simp [sP]
theorem eL (a b:Rat)(as bs:List Rat):sP (a::as) (b::bs)=a*b+sP as bs:=by simp [sP]
theorem oR:∀{a c:List Rat} (b d:List Rat),a.length=c.length->sP (a++b) (c++d)=sP a c+sP b d
 | [],[],b,d,_=>by
  rw [ahC,ahC,jE]
  grind
 | x::a,y::c,b,d,h=>by
  rw [ahv,ahv,eL,eL,oR b d (by simpa using h)]
  grind
 | [],_::_,_,_,h=>by simp at h
 | _::_,[],_,_,h=>by simp at h
theorem x3 (x:Str)(w:Rat×Rat)(y:Str):mv (h8 x w) y=if y=x then w else (0,0):=by
 unfold mv h8
 by_cases e:y=x
 ·rw [if_pos e,if_pos e]
  rfl
 ·rw [if_neg e,if_neg e]
  rfl
def iI (bars:ς)(T:Str->Rat)(U:Ρ)(p:aJ)(c:Rat×Rat->Rat):Rat:=sP (U p.nm) (p.ws.map c)+(bars.map fun b=>T b.nm*c (mv (jg b) p.nm)).sum
theorem zO:∀(as:List Rat) {α:Type} (l:List α),sP as (l.map fun _=>(0:Rat))=0
 | [],_,_=>jE _
 | _::_,_,[]=>by simp [sP]
 | a::as,_,x::l=>by
  rw [aaR,eL,zO as l]
  grind
theorem zP {U:Ρ}{c:Rat×Rat->Rat}(c0:c (0,0)=0)(p:aJ):∀(ps:π),(ps.map (·.nm)).Nodup->(∀q∈ps,(U q.nm).length=q.ws.length)->(∀q∈ps,q.nm=p.nm->q=p)->
  sP (ps.flatMap fun q=>U q.nm) (ps.flatMap fun q=>q.ws.map fun w=>c (mv (h8 q.nm w) p.nm))=if p.nm∈ps.map (·.nm) then sP (U p.nm) (p.ws.map c) else 0
 | [],_,_,_=>by simp [sP]
 | q::ps,nd,hl,inj=>by
  rw [aaR,abe] at nd
  have ih:=zP c0 p ps nd.2 (fun r hr=>hl r (aaE _ hr)) fun r hr=>inj r (aaE _ hr)
  rw [aa_,aa_,oR _ _ (by rw [hl q aaK,ir]),ih,aaR]
  by_cases e:q.nm=p.nm
  ·have eq:q=p:=inj q aaK e
   subst eq
   have ec:(q.ws.map fun w=>c (mv (h8 q.nm w) q.nm))=q.ws.map c:=abI fun w _=>by rw [x3,if_pos rfl]
   rw [if_neg nd.1,if_pos aaK,ec]
   grind
  ·have ec:(q.ws.map fun w=>c (mv (h8 q.nm w) p.nm))=q.ws.map fun _=>(0:Rat):=abI fun w _=>by rw [x3,if_neg (fun z=>e z.symm)];exact c0
   rw [ec,zO]
   by_cases hm:p.nm∈ps.map (·.nm)
   ·rw [if_pos hm,if_pos (aaE _ hm)]
    grind
   ·rw [if_neg hm,if_neg (fun z=>by
     rcases aa8.mp z with z | z
     ·exact e z.symm
     ·exact hm z)]
    grind
theorem Jt {α:Type}(f g:α->Rat):∀l:List α,sP (l.map f) (l.map g)=(l.map fun x=>f x*g x).sum
 | []=>by simp [sP]
 | x::l=>by rw [aaR,aaR,eL,Jt f g l,aaR,ahY]
theorem Me {pins:π}{bars:ς}{T:Str->Rat}{U:Ρ}{L:ω}{c:Rat×Rat->Rat}(c0:c (0,0)=0)(nd:(pins.map (·.nm)).Nodup)(hl:∀q∈pins,(U q.nm).length=q.ws.length){p:aJ}(hp:p∈pins)(y:Rat):
  sP ((pins.flatMap fun q=>U q.nm)++bars.map (fun b=>T b.nm)++[y]) (((pins.flatMap fun q=>q.ws.map fun w=>c (mv (h8 q.nm w) p.nm))++bars.map fun b=>c (mv (jg b) p.nm))++[c (mv L p.nm)])=iI bars T U p c+y*c (mv L p.nm):=by
 have l1:(pins.flatMap fun q=>U q.nm).length=(pins.flatMap fun q=>q.ws.map fun w=>c (mv (h8 q.nm w) p.nm)).length:=by
  clear hp nd
  induction pins with
  | nil=>rfl
  | cons q ps ih=>rw [aa_,aa_,aat,aat,ih fun r hr=>hl r (aaE _ hr),hl q aaK,ir]
 rw [oR _ _ (by rw [aat,aat,l1,ir,ir]),oR _ _ l1,zP c0 p pins nd hl fun q hq e=>QM (nm:=aJ.nm) nd hq hp e,if_pos (aaj.mpr ⟨p,hp,rfl⟩),Jt,eL,jE]
 unfold iI
 grind
theorem tu (F:ω):∀{pins:π} {k:Nat} {p:aJ},pins[k]? =some p->vl ((gh F pins).getD (2*k) (0,1))=(mv F p.nm).1/\vl ((gh F pins).getD (2*k+1) (0,1))=(mv F p.nm).2
 | q::ps,0,p,h=>by
  cases h
  unfold gh
  rw [aa_]
  exact ⟨iq _,iq _⟩
 | q::ps,k+1,p,h=>by
  have ih:=tu F (pins:=ps) (k:=k) (p:=p) (by simpa using h)
  unfold gh at ih ⊢
  rw [aa_]
  exact ih
theorem DY (pins:π)(bars:ς)(L:ω){k:Nat}{p:aJ}(h:pins[k]? =some p)(j:Nat)(c:Rat×Rat->Rat)(hj:∀F,vl ((gh F pins).getD j (0,1))=c (mv F p.nm)):
  (gC (bO pins bars++[gh L pins]) j).map vl=((pins.flatMap fun q=>q.ws.map fun w=>c (mv (h8 q.nm w) p.nm))++bars.map fun b=>c (mv (jg b) p.nm))++[c (mv L p.nm)]:=by
 have flat:∀ps:List aJ,((ps.flatMap fun q=>qt pins q).map fun qs=>vl (qs.getD j (0,1)))=ps.flatMap fun q=>q.ws.map fun w=>c (mv (h8 q.nm w) p.nm):=fun ps=>by
  induction ps with
  | nil=>rfl
  | cons q ps ih=>
   rw [aa_,aa_,aa1,ih]
   congr 1
   unfold qt
   rw [aa5]
   exact abI fun w _=>hj _
 unfold gC bO
 rw [aa5,aa1,aa1,aaR,ad_]
 congr 1
 ·congr 1
  ·exact flat pins
  ·rw [aa5]
   exact abI fun b _=>hj _
 ·rw [<- hj]
  rfl
theorem ke {k:Nat}(h:1<=k):Sz k 0:=by
 have:=oJ (i:=0) (k:=k) (by simpa using aiR k) h
 simpa using this
theorem Vx {T B:Nat}{q:Int×Int}(h:Sm T B q):q=qr (vl q):=rH h.pos h.low
theorem Oq {k:Nat}{r:Rat}(h:Sz k r)(h2:k<=90):Sm 90 90 (qr r):=
 ⟨eJ r,sT r,acq (aa6 (intBits_le_iff.mp h.top) (abo (by decide) h2)),acq (aa6 (intBits_le_iff.mp h.bot) (abo (by decide) h2))⟩
theorem zQ {F:ω}(h:∀x,Sz 90 (mv F x).1/\Sz 90 (mv F x).2)(pins:π):∀q∈gh F pins,Sm 90 90 q:=fun q hq=>by
 unfold gh at hq
 obtain ⟨p,_,hq⟩:=ag_.mp hq
 have z:=h p.nm
 rcases aa8.mp hq with e | hq
 ·rw [e]
  exact Oq z.1 (aas _)
 ·rw [aaT.mp hq]
  exact Oq z.2 (aas _)
theorem Q8 {x:Str}{w:Rat×Rat}(h:Sz 90 w.1/\Sz 90 w.2)(y:Str):Sz 90 (mv (h8 x w) y).1/\Sz 90 (mv (h8 x w) y).2:=by
 rw [x3]
 by_cases c:y=x
 ·rw [if_pos c]
  exact h
 ·rw [if_neg c]
  exact ⟨ke (by decide),ke (by decide)⟩
theorem Q9 {pins:π}{bars:ς}(g:c7 pins bars){b:ba}(hb:b∈bars)(y:Str):Sz 90 (mv (jg b) y).1/\Sz 90 (mv (jg b) y).2:=by
 obtain ⟨m1,m2,_⟩:=g.ends b hb
 have z1:=g.sz _ m1
 have z2:=g.sz _ m2
 unfold mv jg
 by_cases c1:y=b.one.nm
 ·rw [if_pos c1]
  exact ⟨(z2.1.sub z1.1).up (by decide),(z2.2.1.sub z1.2.1).up (by decide)⟩
 ·rw [if_neg c1]
  by_cases c2:y=b.other.nm
  ·rw [if_pos c2]
   exact ⟨(z1.1.sub z2.1).up (by decide),(z1.2.1.sub z2.2.1).up (by decide)⟩
  ·rw [if_neg c2]
   exact ⟨ke (by decide),ke (by decide)⟩
theorem ff {pins:π}{bars:ς}(g:c7 pins bars):∀qs∈bO pins bars,qs.length=2*pins.length/\∀q∈qs,Sm 90 90 q:=fun qs hq=>by
 unfold bO at hq
 rcases aaQ.mp hq with h | h
 ·obtain ⟨p,hp,h⟩:=ag_.mp h
  unfold qt at h
  obtain ⟨w,hw,rfl⟩:=aaj.mp h
  have z:=(g.sz p hp).2.2 w hw
  exact ⟨j_ _ _,zQ (Q8 ⟨z.1.up (by decide),z.2.up (by decide)⟩) pins⟩
 ·obtain ⟨b,hb,rfl⟩:=aaj.mp h
  exact ⟨j_ _ _,zQ (Q9 g hb) pins⟩
theorem vL {H:Hp}{T B:Nat}:∀{us:η} {qs:τ},eT K H us qs->(∀q∈qs,Sm T B q)->Paired (nq K H) us (qs.map vl)
 | [],[],_,_=>.nil
 | u::us,q::qs,h,hs=>by
  refine .cons ?_ (vL ⟨by simpa using h.1,fun i u q e1 e2=>h.2 (i+1) u q (by simpa using e1) (by simpa using e2)⟩ fun r hr=>hs r (aaE _ hr))
  have n:=h.2 0 u q rfl rfl
  show oG K H u (qr (vl q))
  rw [<- Vx (hs q aaK)]
  exact n
 | [],_::_,h,_=>(nomatch h.1)
 | _::_,[],h,_=>(nomatch h.1)
theorem cB {α:Type}{l:List α}(h:l.Nodup){i j:Nat}{x:α}(hi:l[i]? =some x)(hj:l[j]? =some x):i=j:=by
 obtain ⟨i1,i2⟩:=be.mp hi
 obtain ⟨j1,j2⟩:=be.mp hj
 exact (aiG h).mp (i2.trans j2.symm)
theorem Ln.ks {H H' :Hp}{v:V}{l:ν}{d:Addr}{kvs:δ}(h:Ln H v l)(r:Rd H d (.dK kvs))(k:aT d H H'):Ln H' v l:=by
 obtain ⟨p,e,z⟩:=h
 refine ⟨p,e,k p _ (fun y=>?_) z⟩
 rw [y] at z
 rcases r with r | ⟨o,r⟩ <;> (rw [r] at z;cases z)
theorem nv.ks {H H' :Hp}{kvs UI:δ}{nd:θ}{d:Addr}(h:nv H kvs nd)(r:Rd H d (.dK UI))(k:aT d H H'):nv H' kvs nd:=⟨h.1,fun i kv x e1 e2=>⟨(h.2 i kv x e1 e2).1,(h.2 i kv x e1 e2).2.ks r k⟩⟩
theorem aT.step {d:Addr}{H H' H2:Hp}(k:aT d H H')(s:av H' H2):aT d H H2:=fun b o n e=>s _ _ (k b o n e)
theorem aT.put {d x:Addr}{H H' :Hp}{o:HO}(k:aT d H H')(n:H x=none):aT d H (upd H' x o):=fun b o' nb e=>by
 rw [aq (fun z=>by rw [z,n] at e;cases e)]
 exact k b o' nb e
inductive tw (K:Frag)(vs:η)(H:Hp)(Q:VK)(E_:XK):Prop where
 | mk (d:Addr) (c m L b:Nat) (kvs:δ) (nd:θ) (os lv:List (List Int:_)) (_:vs=[.ref d,.int (c:Int),.int (m:Int)]) (_:Rd H d (.dK kvs)) (_:nv H kvs nd) (_:Red os L m b nd lv) (_:m<=L) (_:m<=900) (_:c < m) (_:∀(x:Addr) (us:η) (o:Obj) (H' :Hp),aT d H H' ->H' d=some (.fj o (.dK kvs))->H x=none->H' x=some (.lst us)->us.length=m->Q (.ref x) H'):tw K vs H Q E_
theorem fo:aG ["needed","column","many","numbers","place","line"] zaz (ag dk):=sq
theorem qv {aN aO:Addr}(Q_:mg "NOUGHT"=some (.ref aN))(Ra:mg "ONE"=some (.ref aO))(D:Def K mg "spare_list" dk zaz)(Jj:Fn P w K mg base (a8 P w) 33 "lowest_terms" zaB gN):Fn P w K mg base (a8 P w) 34 "spare_list" zaz (tw K):=by
 refine D.ok fo (fun vs H Q E h=>?_) (fun f bH A outer s H vs Q E hr h=>?_)
 ·obtain ⟨d,c,m,L,b,kvs,nd,os,lv,rfl,_⟩:=h
  rfl
 obtain ⟨d,c,m,L,b,kvs,nd,os,lv,rfl,rd,Mf,R,hmL,hm,hc,q⟩:=h
 refine ⟨_,(ae (aA (i:=3) fo.nd rfl (aav rfl) (aF GZ (cD (ar (jO (v:=.ref aN) rfl Q_ rfl) aa)) (pv 2)))
  (ae (nQ (jO (v:=.ref aO) rfl Ra rfl) (r9 (pv 3) (pv 1) set_list))
  (ae (bF PassesOwn.never rfl (rG (pv 0)) (dy rfl (aS (aD (i:=4) fo.nd rfl (aav rfl)) (aS (aD (i:=5) fo.nd rfl (aav rfl)) b7))) (ak (nQ (aE Jj hr.mo pX (ar (jP gW (bB bc (pv 5) (pv 1) (fun _ _=>rfl))) (ar (bB bc (pv 5) (pv 4) (fun _ _=>rfl)) aa))) (r9 (pv 3) (pv 4) set_list))))
  (ak (aK (pv 3)))))),?_⟩
 refine ⟨(by show 1<=sizeLine;decide),fun p3 n3=>?_⟩
 have s3:=aH n3 (.lst [V.ref aN])
 refine ⟨_,rfl,p3,_,_,rfl,rfl,aj,by omega,by omega,aam (show 1*(m:Int).toNat<=1000 by omega) (by decide),fun x n4=>?_⟩
 have er:(aa2 (m:Int).toNat [V.ref aN]).flatten=aa2 m (V.ref aN):=by simp
 rw [er]
 have s4:=aH n4 (.lst (aa2 m (V.ref aN)))
 have nx:H x=none:=s3.free n4
 have xd:d≠x:=by
  rcases rd with r | ⟨o,r⟩
  ·exact ao r nx
  ·exact ao r nx
 refine ⟨_,rfl,_,rfl,x,_,_,c,rfl,rfl,aj,by rw [acE];exact tf hc,?_⟩
 have s5:av H (upd (upd (upd H p3 (.lst [V.ref aN])) x (.lst (aa2 m (V.ref aN)))) x (.lst ((aa2 m (V.ref aN)).set c (V.ref aO)))):=f_ (s3.trans s4) nx
 have Mg:Rd (upd (upd (upd H p3 (.lst [V.ref aN])) x (.lst (aa2 m (V.ref aN)))) x (.lst ((aa2 m (V.ref aN)).set c (V.ref aO)))) d (.dK kvs):=by
  rcases rd with r | ⟨o,r⟩
  ·exact .inl (s5 _ _ r)
  ·exact .inr ⟨o,s5 _ _ r⟩
 have x5:upd (upd (upd H p3 (.lst [V.ref aN])) x (.lst (aa2 m (V.ref aN)))) x (.lst ((aa2 m (V.ref aN)).set c (V.ref aO))) x=some (.lst ((aa2 m (V.ref aN)).set c (V.ref aO))):=aj
 generalize upd (upd (upd H p3 (.lst [V.ref aN])) x (.lst (aa2 m (V.ref aN)))) x (.lst ((aa2 m (V.ref aN)).set c (V.ref aO)))=H5 at*
 have Ot:=Mf.same s5
 refine ⟨_,rfl,d,kvs,rfl,Mg,fun o=>?_⟩
 have k5:aT d H (upd H5 d (.fj o (.dK kvs))):=fun b o' n e=>by rw [aq n];exact s5 _ _ e
 have k55:aT d H5 (upd H5 d (.fj o (.dK kvs))):=fun b o' n e=>by rw [aq n];exact e
 refine dQ (d:=d) (o:=o) (kvs:=kvs) (fun t σ H' =>∃(o4 o5:Β) (FL:η),σ=[some (.ref d),some (.int (c:Int)),some (.int (m:Int)),some (.ref x),o4,o5]/\aT d H H' /\H' d=some (.fj o (.dK kvs))/\H' x=some (.lst FL)/\FL.length=m)
  ⟨none,none,(aa2 m (V.ref aN)).set c (V.ref aO),rfl,k5,aj,by rw [aq (abb xd)];exact x5,by simp⟩ (fun t σ H' _ h=>by
   obtain ⟨_,_,_,_,_,h,_⟩:=h
   exact h) ?_ ?_
 ·rintro t k v σ H6 p7 nE ⟨o4,o5,FL,rfl,k6,FJ,Vy,l2⟩ n7
  have ht:t < kvs.length:=(be.mp nE).1
  have Vz:=Mf.1
  obtain ⟨y,ey⟩:∃y,nd[t]? =some y:=⟨_,gE (by omega)⟩
  obtain ⟨k1,k2⟩:=Mf.2 t _ y nE ey
  have k1' :k=.inl (y.1:Int):=k1
  subst k1'
  obtain ⟨b',eb,ix⟩:=k2
  have FN :v=.ref b' :=eb
  subst FN
  have Ou:=aaa ey
  have hyl:=R.mK y Ou
  have hyc:=R.cols y Ou
  have s7:=aH n7 (.tup [kV (.inl (y.1:Int)),.ref b'])
  have Ov:=s7 _ _ (k6 _ _ (fun z=>by rw [z] at ix;rcases rd with r | ⟨o,r⟩ <;> (rw [r] at ix;cases ix)) ix)
  refine ⟨p7,_,rfl,bQ.of aj,rfl,_,_,rfl,_,_,rfl,rfl,?_⟩
  refine ⟨_,rfl,_,rfl,b',_,_,_,rfl,rfl,aZ.of Ov,rL (by omega),_,rfl,_,rfl,_,rfl,b',_,_,_,rfl,rfl,aZ.of Ov,rL (by omega),?_⟩
  refine ⟨_,_,rfl,R.here y Ou,fun p8 H8 s8 e8=>?_⟩
  have Jo:=s7.trans s8
  refine ⟨_,rfl,_,rfl,x,FL,_,y.1,rfl,rfl,Jo _ _ Vy,tf (by rw [l2];exact hyc),?_⟩
  exact ⟨_,_,FL.set y.1 (.ref p8),rfl,aT.put (aT.step k6 Jo) nx,by rw [aq xd];exact Jo _ _ FJ,aj,by rw [ah9];exact l2⟩
 ·rintro σ H6 ⟨o4,o5,FL,rfl,k6,FJ,Vy,l2⟩
  exact ⟨_,rfl,q x FL o H6 k6 FJ nx Vy l2⟩
theorem bQ.ks {K:Frag}{H H' :Hp}{a d:Addr}{xs:η}{kvs:δ}(h:bQ K H a xs)(r:Rd H d (.dK kvs))(k:aT d H H'):bQ K H' a xs:=by
 have ne:∀{u:HO},H a=some u->(∀o,u≠.fj o (.dK kvs))->u≠.dK kvs->a≠d:=fun {u} e n1 n2 z=>by
  rw [z] at e
  rcases r with r | ⟨o,r⟩
  ·rw [r] at e
   cases e
   exact n2 rfl
  ·rw [r] at e
   cases e
   exact n1 o rfl
 rcases h with (h | ⟨o,h⟩) | h
 ·exact .inl (.inl (k _ _ (ne h (fun o z=>nomatch z) (fun z=>nomatch z)) h))
 ·exact .inl (.inr ⟨o,k _ _ (ne h (fun o z=>by cases z) (fun z=>nomatch z)) h⟩)
 ·exact .inr h
theorem eT.ks {K:Frag}{H H' :Hp}{us:η}{qs:τ}{d:Addr}{kvs:δ}(h:eT K H us qs)(r:Rd H d (.dK kvs))(k:aT d H H'):eT K H' us qs:=⟨h.1,fun i u q e1 e2=>by
 obtain ⟨p,e,z⟩:=h.2 i u q e1 e2
 exact ⟨p,e,bQ.ks z r k⟩⟩
def x4 (K:Frag)(H:Hp)(kvs:δ)(ss:Μ):Prop:=kvs.length=ss.length/\∀(i:Nat) (kv:Key×V) (x:Nat×List (Int×Int)),kvs[i]? =some kv->ss[i]? =some x->kv.1=.inl (x.1:Int)/\∃p us,kv.2=.ref p/\H p=some (.lst us)/\eT K H us x.2
theorem x4.same {H H' :Hp}{kvs:δ}{ss:Μ}(h:x4 K H kvs ss)(s:av H H'):x4 K H' kvs ss:=⟨h.1,fun i kv x e1 e2=>by
 obtain ⟨a,p,us,b,c,d⟩:=h.2 i kv x e1 e2
 exact ⟨a,p,us,b,s _ _ c,d.same s⟩⟩
theorem x4.ks {H H' :Hp}{kvs UI:δ}{ss:Μ}{d:Addr}(h:x4 K H kvs ss)(r:Rd H d (.dK UI))(k:aT d H H'):x4 K H' kvs ss:=⟨h.1,fun i kv x e1 e2=>by
 obtain ⟨a,p,us,b,c,d'⟩:=h.2 i kv x e1 e2
 refine ⟨a,p,us,b,k _ _ (fun z=>?_) c,eT.ks d' r k⟩
 rw [z] at c
 rcases r with r | ⟨o,r⟩ <;> (rw [r] at c;cases c)⟩
theorem x4.snoc {H:Hp}{kvs:δ}{ss:Μ}(h:x4 K H kvs ss){c:Nat}{p:Addr}{us:η}{qs:τ}(hp:H p=some (.lst us))(hn:eT K H us qs):x4 K H (kvs++[(.inl (c:Int),.ref p)]) (ss++[(c,qs)]):=by
 have hl:=h.1
 refine ⟨by simp [hl],fun j kv x e1 e2=>?_⟩
 by_cases z:j < kvs.length
 ·rw [aaS z] at e1
  rw [aaS (by omega)] at e2
  exact h.2 j kv x e1 e2
 ·rw [aa3 (by omega)] at e1 e2
  rw [<- hl] at e2
  by_cases y:j - kvs.length=0
  ·rw [y] at e1 e2
   cases e1
   cases e2
   exact ⟨rfl,p,us,rfl,hp,hn⟩
  ·rw [aan (by simp;omega)] at e1
   cases e1
theorem x4.keys {H:Hp}{kvs:δ}{ss:Μ}(h:x4 K H kvs ss):kvs.map (·.1)=ss.map (fun x=>(ahG (x.1:Int):Key)):=by
 refine abt fun i=>?_
 have hl:=h.1
 rw [Wp,Wp]
 by_cases hi:i < ss.length
 ·have e:ss[i]? =some ss[i]:=gE hi
  have e2:kvs[i]? =some (kvs[i]'(by omega)):=gE (by omega)
  rw [e,e2]
  simp only [ah_]
  rw [(h.2 i _ _ e2 e).1]
 ·rw [aan (by omega),aan (by omega)]
  rfl
def KI (T B m:Nat)(qs:τ)(w:Wl):Prop:=ve w.1 qs w.2.1/\0 < w.2.1/\w.2.1.natAbs<=2^(B*m)/\∀t∈w.1,t.natAbs<=2^(T+B*m)
def rP (T B m:Nat)(bu:ξ)(os:ζ):Prop:=os.length=bu.length/\∀(i:Nat) (o:ν) (qs:τ),os[i]? =some o->bu[i]? =some qs->∃b:Int,0 < b/\ve o qs b
def free (nd:θ)(j:Nat):Bool:=nd.all fun y=>decide (y.1≠j)
theorem eM {nd:θ}{j:Nat}:free nd j=true ↔ ∀y∈nd,y.1≠j:=by
 unfold free
 rw [List.all_eq_true]
 exact ⟨fun h y hy=>of_decide_eq_true (h y hy),fun h y hy=>decide_eq_true (h y hy)⟩
def KJ (H:Hp)(m:Nat)(kvs:δ)(cs:Δ):Prop:=kvs.length=cs.length/\∀(i:Nat) (kv:Key×V) (c:Nat),kvs[i]? =some kv->cs[i]? =some c->kv.1=.inl (c:Int)/\∃p us,kv.2=.ref p/\H p=some (.lst us)/\us.length=m
theorem KJ.mono {H H' :Hp}{m:Nat}{kvs:δ}{cs:Δ}(h:KJ H m kvs cs)(k:∀b xs,H b=some (.lst xs)->H' b=some (.lst xs)):KJ H' m kvs cs:=⟨h.1,fun i kv c e1 e2=>by
 obtain ⟨a,p,us,b,d,e⟩:=h.2 i kv c e1 e2
 exact ⟨a,p,us,b,k _ _ d,e⟩⟩
theorem KJ.snoc {H:Hp}{m:Nat}{kvs:δ}{cs:Δ}{i:Nat}{p:Addr}{us:η}(h:KJ H m kvs cs)(hp:H p=some (.lst us))(hl:us.length=m):KJ H m (kvs++[(.inl (i:Int),.ref p)]) (cs++[i]):=⟨by simp [h.1],fun j kv c e1 e2=>by
 have l:=h.1
 by_cases z:j < kvs.length
 ·rw [aaS z] at e1
  rw [aaS (by omega)] at e2
  exact h.2 j kv c e1 e2
 ·rw [aa3 (by omega)] at e1 e2
  rw [<- l] at e2
  by_cases y:j - kvs.length=0
  ·rw [y] at e1 e2
   cases e1
   cases e2
   exact ⟨rfl,p,us,rfl,hp,hl⟩
  ·rw [aan (by simp;omega)] at e1
   cases e1⟩
inductive kg (K:Frag)(vs:η)(H:Hp)(Q:VK)(E_:XK):Prop where
 | mk (r:Addr) (m:Nat) (ls:Α) (bT:List (List V:_)) (bu:ξ) (T B Z:Nat) (_:vs=[.ref r,.int (m:Int)]) (_:mM H r ls bT) (_:fJ K H bT bu) (_:Shape T B m bu) (_:m<=100) (_:bu.length<=100) (_:T<=20000) (_:B*m<=8000) (_:B<=8000) (_:bb (T+B*m) (min m bu.length)<=Z) (_:Z<=29000000) (_:∀(sd:Addr) (kvs:δ) (cs:Δ) (os lv:ζ) (nd:θ) (H' :Hp),av H H' ->H sd=none->H' sd=some (.dK kvs)->KJ H' m kvs cs->rP T B m bu os->Red os m m Z nd lv->cs=(abk m).filter (free nd)->Q (.ref sd) H'):kg K vs H Q E_
theorem dq:aG ["rows","many","needed","spare","column"] zai (ag b_):=sq
theorem k7 (D:Def K mg "spare_columns" b_ zai)(bG:mg "range"=none)(Rb:Fn P w K mg base (a8 P w) 2 "whole_row" zaH (LW K))(Rc:Fn P w K mg base (a8 P w) 35 "reduced" zaE (i7 K))(tD:Fn P w K mg base (a8 P w) 34 "spare_list" zaz (tw K)):Fn P w K mg base (a8 P w) 36 "spare_columns" zai (kg K):=by
 refine D.ok dq (fun vs H Q E h=>?_) (fun f bH A outer s H vs Q E hr h=>?_)
 ·obtain ⟨r,m,ls,bT,bu,T,B,Z,rfl,_⟩:=h
  rfl
 obtain ⟨r,m,ls,bT,bu,T,B,Z,rfl,M,NN,sh,hm,hn,hT,hB,ZA,hZ,hZ1,q⟩:=h
 refine ⟨_,(ae (aA (i:=2) dq.nd rfl (aav rfl) (a9 (aE Rc hr.mo pX (ar (cY (tn:=zaH) (fr:=[]) (caps:=[]) rfl ⟨rfl,by decide+kernel,rfl,by decide+kernel,by decide+kernel,rfl,trivial,trivial⟩ (bD (pv 0)) (fun _ _ _ _=>(aD (i:=0) (show (zaH:List Str).Nodup from by decide+kernel) rfl (aav rfl))) (fun _ _ _ _=>dA) (fun _ _ _ _=>(bB (eC (K:=K) rfl) (aE Rb hr.mo (rB (by first | assumption | exact a8.qj) rfl) (ar (pv 0) aa)) ah (fun _ _=>rfl)))) (ar (pv 1) aa)))))
  (ae (aA (i:=3) dq.nd rfl (aav rfl) dD)
  (ae (bF PassesOwn.never rfl (df rfl bG (ar (pv 1) aa)) (aD (i:=4) dq.nd rfl (aav rfl)) (ak (bw (kG (iZ (cX hr) (pv 4) (pv 2))) (ak (dj (cX hr) (pv 3) (pv 4) (aE tD hr.mo pX (ar (pv 2) (ar (pv 4) (ar (pv 1) aa)))) rfl)) aU)))
  (ak (aK (pv 3)))))),?_⟩
 have l1:=M.2.1
 have l2:=NN.1
 refine ⟨_,rfl,r,rfl,⟨_,aZ.of M.1⟩,fun D1 n1=>?_⟩
 refine jz (cap:=[]) (K:=K) (a:=r) (xs:=ls.map V.ref) (fun i v H=>∃w:Wl,v=.ref w.2.2.1/\w.2.2.1≠D1/\H w.2.2.1=some (.lst (w.1.map V.int))/\∀qs,bu[i]? =some qs->KI T B m qs w) n1 (by rw [ir];exact aaz (show ls.length<=1000 by omega) (by decide)) (fun H2 s2=>aZ.of (s2 _ _ M.1)) ?_ ?_ ?_
 ·rintro i v H2 H3 ys hD ks ⟨w,e1,e2,e3,e4⟩
  exact ⟨w,e1,e2,ks _ _ e2 e3,e4⟩
 ·rintro i x H2 RR ex s2 ⟨ys0,hD0⟩ kk
  rw [Wp] at ex
  obtain ⟨l,el,rfl⟩:=aaM.mp ex
  have hi:i < ls.length:=(be.mp el).1
  obtain ⟨qs,eq⟩:∃qs,bu[i]? =some qs:=⟨_,gE (by omega)⟩
  obtain ⟨vs,ev⟩:∃vs,bT[i]? =some vs:=⟨_,gE (by omega)⟩
  have hl:=M.2.2 i l vs el ev
  have hq:=NN.2 i vs qs ev eq
  obtain ⟨lq,sq⟩:=sh qs (aaa eq)
  refine ⟨_,rfl,l,qs,T,B,rfl,⟨_,aZ.of (s2 _ _ hl),hq.same s2⟩,sq,hT,by rw [lq];omega,ZA,by omega,fun p3 VA ts b H3 s3 nl hp3 hl3 hb VB wh VC=>?_⟩
  rw [lq] at VB VC
  refine ⟨p3,_,_,_,rfl,rfl,bQ.of hp3,me,kk _ _ s3 ⟨(ts,b,VA,p3),rfl,fun z=>?_,hl3,fun LP e1=>?_⟩⟩
  ·rw [show VA =D1 from z,hD0] at nl
   cases nl
  ·rw [eq] at e1
   cases e1
   exact ⟨wh,hb,VB,VC⟩
 intro zs H2 hz hG s2 SQ
 rw [ir] at hz
 obtain ⟨ws,lw,hw⟩:=gO (P:=fun i v (w:Wl)=>v=.ref w.2.2.1/\w.2.2.1≠D1/\H2 w.2.2.1=some (.lst (w.1.map V.int))/\∀qs,bu[i]? =some qs->KI T B m qs w) zs hG
 have wp:∀(i:Nat) (w:Wl),ws[i]? =some w->∃v qs,zs[i]? =some v/\bu[i]? =some qs/\v=.ref w.2.2.1/\H2 w.2.2.1=some (.lst (w.1.map V.int))/\KI T B m qs w:=fun i w e=>by
  have hi:i < ws.length:=(be.mp e).1
  obtain ⟨v,ev⟩:∃v,zs[i]? =some v:=⟨_,gE (by omega)⟩
  obtain ⟨qs,eq⟩:∃qs,bu[i]? =some qs:=⟨_,gE (by omega)⟩
  obtain ⟨h1,_,h3,h4⟩:=hw i v w ev e
  exact ⟨v,qs,ev,eq,h1,h3,h4 qs eq⟩
 have hLl:qm H2 zs (ws.map (·.1)):=⟨by simp [lw],fun i u l e1 e2=>by
  rw [Wp] at e2
  obtain ⟨w,ew,rfl⟩:=aaM.mp e2
  obtain ⟨v,qs,ev,_,e,h,_⟩:=wp i w ew
  rw [e1] at ev
  cases ev
  exact ⟨_,e,h⟩⟩
 have abA:∀l∈ws.map (·.1),l.length=m:=fun l hl=>by
  obtain ⟨w,hw',rfl⟩:=aaj.mp hl
  obtain ⟨i,e⟩:=aaF hw'
  obtain ⟨v,qs,_,eq,_,_,wh,_⟩:=wp i w e
  rw [wh.1,(sh qs (aaa eq)).1]
 have wbd:∀l∈ws.map (·.1),Bd (T+B*m) l:=fun l hl=>by
  obtain ⟨w,hw',rfl⟩:=aaj.mp hl
  obtain ⟨i,e⟩:=aaF hw'
  obtain ⟨v,qs,_,eq,_,_,_,_,_,h⟩:=wp i w e
  exact Bd.of h
 have hlm:(ws.map (·.1)).length=bu.length:=by rw [ir];omega
 have abD:rP T B m bu (ws.map (·.1)):=⟨hlm,fun i o qs e1 e2=>by
  rw [Wp] at e1
  obtain ⟨w,ew,rfl⟩:=aaM.mp e1
  obtain ⟨v,LP,_,eq,_,_,wh,wb,_⟩:=wp i w ew
  rw [e2] at eq
  cases eq
  exact ⟨_,wb,wh⟩⟩
 refine ⟨_,rfl,D1,zs,ws.map (·.1),m,m,T+B*m,rfl,aZ.of SQ,hLl,abA,aas _,by omega,by omega,wbd,by rw [hlm];omega,fun p d a' kvs fH nd lv H3 s3 qb np hp hd QT Mf hL1 R=>?_⟩
 rw [hlm] at R
 have RZ:=R.up hZ
 refine ⟨p,_,_,_,rfl,rfl,bQ.of hp,me,?_⟩
 refine fun sd x6=>?_
 have t4:=aH x6 (.dK [])
 have DZ:=(s2.trans s3).trans t4
 have Hd:H d=none:=s2.free qb
 have uC:H sd=none:=(s2.trans s3).free x6
 have ds:d≠sd:=ao hd x6
 refine ⟨_,rfl,_,rfl,by omega,by omega,?_⟩
 refine dP (lo:=0) (n:=m) (fun i σ H' =>∃(o4:Β) (eO:δ) (cs:Δ),σ=[some (.ref r),some (.int (m:Int)),some (.ref d),some (.ref sd),o4]/\av H H' /\Rd H' d (.dK kvs)/\H' sd=some (.dK eO)/\nv H' kvs nd/\KJ H' m eO cs/\cs=(abk i).filter (free nd))
  ⟨none,[],[],rfl,DZ,.inl (t4 _ _ hd),aj,Mf.same t4,⟨rfl,fun i kv x e=>by simp at e⟩,by simp⟩ ?_ ?_
 ·rintro i σ H5 hi ⟨o4,eO,cs,rfl,s5,Mg,qc,Ot,Rf,SR⟩
  have nk:(kvs.map (·.1)).Nodup:=by
   rw [Ot.keys]
   exact keys_nodup R.asc
  by_cases fr:free nd i=true
  ·have ZL :=eM.mp fr
   have P8:dJ kvs (.inl ((0:Int)+i))=none:=j5 (fun z=>by
    rw [Ot.keys] at z
    obtain ⟨x',yY,e⟩:=aaj.mp z
    have e1:(x'.1:Int)=0+i:=ahj e
    exact ZL x' yY (by omega))
   refine ⟨_,rfl,_,rfl,d,none,rfl,.inl ⟨kvs,.inl ((0:Int)+i),Mg,rfl,P8.symm⟩,_,rfl,?_⟩
   refine bf (fun _=>?_) (fun c=>absurd rfl c)
   refine ⟨_,rfl,_,rfl,_,rfl,d,i,m,m,Z,kvs,nd,ws.map (·.1),lv,by rw [abH];rfl,Mg,Ot,RZ,aas _,by omega,hi,fun x us o H6 k6 FJ nx Vy Vz=>?_⟩
   have Rg:H6 sd=some (.dK eO):=k6 _ _ (abb ds) qc
   have KL:=Rf.1
   have ZJ:cs.length<=m:=by
    have:=congrArg abX SR
    have h2:=abz (free nd) (abk i)
    rw [abJ] at h2
    omega
   refine ⟨_,rfl,_,rfl,sd,_,rfl,gH.k (k:=.inl ((0:Int)+i)) Rg (aaz (show eO.length<=1000 by omega) (by decide)),?_⟩
   have abE:dJ eO (.inl ((0:Int)+i))=none:=j5 (fun z=>by
    obtain ⟨kv,Ow,e⟩:=aaj.mp z
    obtain ⟨j,ej⟩:=aaF Ow
    have hj:=(be.mp ej).1
    obtain ⟨cc,ec⟩:∃cc,cs[j]? =some cc:=⟨_,gE (by have:=Rf.1;omega)⟩
    have e1:=(Rf.2 j kv _ ej ec).1
    rw [e] at e1
    have e2:(0:Int)+i=(cc:Int):=ahj e1
    have mc:=aaa ec
    rw [SR] at mc
    have:=abl.mp (abr.mp mc).1
    omega)
   rw [cQ _ abE,abH]
   have s6:av H H6:=fun b o' e=>k6 _ _ (ao e Hd) (s5 _ _ e)
   have ZM:aT sd H6 (upd H6 sd (.dK (eO++[(.inl (i:Int),.ref x)]))):=fun b o' n e=>by rw [aq n];exact e
   have nl:∀{Ha:Hp} {dd:Addr} {kM:δ} {b:Addr} {xs:η},Rd Ha dd (.dK kM)->Ha b=some (.lst xs)->b≠dd:=fun {Ha dd kM b xs} r e z=>by
    rw [z] at e
    rcases r with r | ⟨o,r⟩ <;> (rw [r] at e;cases e)
   refine ⟨_,_,cs++[i],rfl,f_ s6 uC,.inr ⟨o,by rw [aq ds];exact FJ⟩,aj,(Ot.ks Mg k6).ks (.inl Rg) ZM,((Rf.mono fun b xs e=>k6 _ _ (nl Mg e) e).snoc Vy Vz).mono fun b xs e=>ZM _ _ (nl (.inl Rg) e) e,?_⟩
   rw [SR,acD,aci]
   simp [fr]
  ·have nf:∃y∈nd,y.1=i:=by
    apply abc
    intro z
    exact fr (eM.mpr fun y hy e=>z ⟨y,hy,e⟩)
   obtain ⟨y,hy,ey⟩:=nf
   obtain ⟨t,et⟩:=aaF hy
   obtain ⟨v,ev,_⟩:=Ot.at et
   have vat:=nA nk ev
   refine ⟨_,rfl,_,rfl,d,some v,rfl,.inl ⟨kvs,.inl ((0:Int)+i),Mg,rfl,by rw [abH, <- ey];exact vat.symm⟩,_,rfl,?_⟩
   refine bf (fun c=>nomatch c) (fun _=>?_)
   refine ⟨_,_,cs,rfl,s5,Mg,qc,Ot,Rf,?_⟩
   rw [SR,acD,aci]
   simp [fr]
 ·rintro σ H5 ⟨o4,eO,cs,rfl,s5,Mg,qc,Ot,Rf,SR⟩
  exact ⟨_,rfl,q sd eO cs _ lv nd H5 s5 uC qc Rf abD RZ SR⟩
def fsum (l:Δ)(f:Nat->Rat):Rat:=(l.map f).sum
theorem vM (f:Nat->Rat):fsum [] f=0:=rfl
theorem bo (a:Nat)(l:Δ)(f:Nat->Rat):fsum (a::l) f=f a+fsum l f:=by simp [fsum]
theorem iJ (p:Nat->Bool)(f:Nat->Rat):∀l:List Nat,fsum l f=fsum (l.filter p) f+fsum (l.filter fun i=> !p i) f
 | []=>by simp [fsum];grind
 | a::l=>by
  have ih:=iJ p f l
  cases h:p a
  ·rw [abC (by simp [h]),abB (by simp [h]),bo,bo,ih]
   grind
  ·rw [abB h,abC (by simp [h]),bo,bo,ih]
   grind
theorem fT (f:Nat->Rat):∀l:List Nat,(∀i∈l,f i=0)->fsum l f=0
 | [],_=>rfl
 | a::l,h=>by
  rw [bo,h a aaK,fT f l (fun i hi=>h i (aaE _ hi))]
  grind
theorem oT (f:Nat->Rat)(j:Nat):∀l:List Nat,l.Nodup->j∈l->(∀i∈l,i≠j->f i=0)->fsum l f=f j
 | [],_,h,_=>nomatch h
 | a::l,n,h,z=>by
  rw [abe] at n
  rw [bo]
  by_cases e:a=j
  ·subst e
   rw [fT f l (fun i hi=>z i (aaE _ hi) (fun y=>n.1 (by rw [<- y];exact hi)))]
   grind
  ·have hj:j∈l:=by
    rcases aa8.mp h with y | y
    ·exact absurd y.symm e
    ·exact y
   rw [z a aaK e,oT f j l n.2 hj (fun i hi=>z i (aaE _ hi))]
   grind
theorem cM {f g:Nat->Rat}:∀l:List Nat,(∀i∈l,f i=g i)->fsum l f=fsum l g
 | [],_=>rfl
 | a::l,h=>by rw [bo,bo,h a aaK,cM l (fun i hi=>h i (aaE _ hi))]
theorem iK (c:Rat)(f:Nat->Rat):∀l:List Nat,fsum l (fun i=>c*f i)=c*fsum l f
 | []=>by simp [fsum]
 | a::l=>by
  rw [bo,bo,iK c f l]
  grind
theorem Ju (g:Nat->Nat)(f:Nat->Rat)(l:Δ):fsum (l.map g) f=fsum l (fun i=>f (g i)):=by
 unfold fsum
 rw [aa5]
 rfl
theorem jF:∀(n:Nat) (f:Nat->Rat),sumTo n f=fsum (abk n) f
 | 0,_=>rfl
 | n+1,f=>by
  rw [ah2,bo,Ju, <- jF n]
  rfl
structure x8 (nd:θ)(c:Nat)(z:Nat->Rat):Prop where
 one:z c=1
 at' :∀y∈nd,z y.1=(-(y.2.getD c 0):Int) / ((y.2.getD y.1 0:Int):Rat)
 no:∀j,j≠c->(∀y∈nd,y.1≠j)->z j=0
theorem x8.sol {os lv:ζ}{L m b c:Nat}{nd:θ}{z:Nat->Rat}(R:Red os L m b nd lv)(hc:c < m)(h:x8 nd c z)(fr:∀y∈nd,y.1≠c):∀o∈os,ev o z=0:=by
 refine (R.sol z).mp ⟨fun x hx=>?_,fun l hl=>?_⟩
 ·have e:z=fun j=>(if j=c then 1 else 0)+(if j=c then 0 else z j):=by
   funext j
   by_cases q:j=c
   ·rw [if_pos q,if_pos q,q,h.one]
    grind
   ·rw [if_neg q,if_neg q]
    grind
  rw [e,IE,sN x.2 (fun j=>if j=c then 1 else 0) c (fun j hj=>by rw [if_neg hj];grind),sN x.2 (fun j=>if j=c then 0 else z j) x.1 (fun j hj=>?_)]
  ·have hh:=eD (R.here x hx)
   rw [if_pos rfl,if_neg (fr x hx),h.at' x hx]
   push_cast
   grind
  ·by_cases q:j=c
   ·rw [if_pos q]
    grind
   ·rw [if_neg q]
    by_cases y:∃u∈nd,u.1=j
    ·obtain ⟨u,hu,rfl⟩:=y
     rw [R.off x hx u hu (abb hj)]
     simp
    ·rw [h.no j q (fun u hu e=>y ⟨u,hu,e⟩)]
     grind
 ·refine ni l z fun j=>?_
  by_cases hj:j < m
  ·rw [R.zero l hl j hj]
   simp
  ·rw [h.no j (by omega) (fun y hy e=>by have:=R.cols y hy;omega)]
   grind
theorem x8.behind {os lv:ζ}{L m b c:Nat}{nd:θ}{z:Nat->Rat}(R:Red os L m b nd lv)(h:x8 nd c z){j:Nat}(hj:c < j):z j=0:=by
 by_cases q:∃y∈nd,y.1=j
 ·obtain ⟨y,hy,rfl⟩:=q
  rw [h.at' y hy,R.low y hy c hj]
  simp [Rat.div_def]
 ·exact h.no j (by omega) (fun y hy e=>q ⟨y,hy,e⟩)
theorem oU:∀(m:Nat) (f g:Nat->Rat),(∀j,j < m->f j=g j)->Ty.sumTo m f=Ty.sumTo m g
 | 0,_,_,_=>rfl
 | m+1,f,g,h=>by
  simp only [Ty.sumTo]
  rw [h 0 (by omega),oU m (fun i=>f (i+1)) (fun i=>g (i+1)) (fun j hj=>h (j+1) (by omega))]
theorem Rh {ts:ν}{qs:τ}{b:Int}{m:Nat}(h:ve ts qs b)(hm:qs.length=m)(z:Nat->Rat):ev ts z=(b:Rat)*sumTo m (fun j=>vl (qs.getD j (0,1))*z j):=by
 have hl:=h.1
 rw [vp m ts z (by omega), <- kR]
 refine oU m _ _ fun j hj=>?_
 have e1:ts[j]? =some (ts[j]'(by omega)):=gE (by omega)
 have e2:qs[j]? =some (qs[j]'(by omega)):=gE (by omega)
 have w:=h.2 j _ _ e1 e2
 rw [getD_mem e1,w,aaU,e2]
 show _=(b:Rat)*(vl (qs[j]'(by omega))*z j)
 grind
theorem tE {ts:ν}{qs:τ}{b:Int}{m:Nat}(h:ve ts qs b)(hb:0 < b)(hm:qs.length=m)(z:Nat->Rat):ev ts z=0 ↔ sumTo m (fun j=>vl (qs.getD j (0,1))*z j)=0:=by
 rw [Rh h hm z]
 have ix :=eD (show b≠0 by omega)
 constructor <;> intro q <;> grind
theorem ja {T B m:Nat}{bu:ξ}{os:ζ}(gj:rP T B m bu os)(len:∀qs∈bu,qs.length=m)(z:Nat->Rat):(∀o∈os,ev o z=0) ↔ ∀qs∈bu,sumTo m (fun j=>vl (qs.getD j (0,1))*z j)=0:=by
 have hl:=gj.1
 constructor
 ·intro h qs hq
  obtain ⟨i,e⟩:=aaF hq
  have hi:i < bu.length:=(be.mp e).1
  have e1:os[i]? =some (os[i]'(by omega)):=gE (by omega)
  obtain ⟨b,hb,wh⟩:=gj.2 i _ qs e1 e
  exact (tE wh hb (len qs hq) z).mp (h _ (aaa e1))
 ·intro h o ho
  obtain ⟨i,e⟩:=aaF ho
  have hi:i < os.length:=(be.mp e).1
  have e1:bu[i]? =some (bu[i]'(by omega)):=gE (by omega)
  obtain ⟨b,hb,wh⟩:=gj.2 i o _ e e1
  exact (tE wh hb (len _ (aaa e1)) z).mpr (h _ (aaa e1))
theorem x9 (pins:π)(bars:ς){k:Nat}{p:aJ}(h:pins[k]? =some p)(j:Nat)(c:Rat×Rat->Rat)(hj:∀F,vl ((gh F pins).getD j (0,1))=c (mv F p.nm)):
  (gC (bO pins bars) j).map vl=(pins.flatMap fun q=>q.ws.map fun w=>c (mv (h8 q.nm w) p.nm))++bars.map fun b=>c (mv (jg b) p.nm):=by
 have:=DY pins bars (fun _=>none) h j c hj
 unfold gC at this ⊢
 rw [aa1,aa1] at this
 exact (List.append_inj' this rfl).1
theorem Jv {pins:π}{bars:ς}{T:Str->Rat}{U:Ρ}{c:Rat×Rat->Rat}(c0:c (0,0)=0)(nd:(pins.map (·.nm)).Nodup)(hl:∀q∈pins,(U q.nm).length=q.ws.length){p:aJ}(hp:p∈pins):
  sP ((pins.flatMap fun q=>U q.nm)++bars.map (fun b=>T b.nm)) ((pins.flatMap fun q=>q.ws.map fun w=>c (mv (h8 q.nm w) p.nm))++bars.map fun b=>c (mv (jg b) p.nm))=iI bars T U p c:=by
 have l1:(pins.flatMap fun q=>U q.nm).length=(pins.flatMap fun q=>q.ws.map fun w=>c (mv (h8 q.nm w) p.nm)).length:=by
  clear hp nd
  induction pins with
  | nil=>rfl
  | cons q ps ih=>rw [aa_,aa_,aat,aat,ih fun r hr=>hl r (aaE _ hr),hl q aaK,ir]
 have:=Me (L:=fun _=>none) (bars:=bars) (T:=T) c0 nd hl hp 0
 rw [oR _ _ (by rw [aat,aat,l1,ir,ir]),eL,jE] at this
 grind
theorem oV {pins:π}{U:Ρ}(hl:∀q∈pins,(U q.nm).length=q.ws.length):(pins.flatMap fun q=>U q.nm).length=aI pins:=by
 unfold aI
 induction pins with
 | nil=>rfl
 | cons q ps ih=>rw [aa_,aa_,aat,aat,ih fun r hr=>hl r (aaE _ hr),hl q aaK]
def x_ (pins:π)(bars:ς)(T:Str->Rat)(U:Ρ):Prop:=∀p∈pins,iI bars T U p (·.1)=0/\iI bars T U p (·.2)=0
theorem D_ {pins:π}{bars:ς}(g:c7 pins bars){T:Str->Rat}{U:Ρ}(hl:∀q∈pins,(U q.nm).length=q.ws.length)(h:∀j,j < 2*pins.length->sP ((pins.flatMap fun q=>U q.nm)++bars.map (fun b=>T b.nm)) ((gC (bO pins bars) j).map vl)=0):x_ pins bars T U:=fun p hp=>by
 obtain ⟨k,ek⟩:=aaF hp
 have hk:=(be.mp ek).1
 have one:∀(j:Nat) (c:Rat×Rat->Rat),j < 2*pins.length->c (0,0)=0->(∀F,vl ((gh F pins).getD j (0,1))=c (mv F p.nm))->iI bars T U p c=0:=fun j c hj c0 hc=>by
  have:=h j hj
  rw [x9 pins bars ek j c hc,Jv c0 g.np hl hp] at this
  exact this
 exact ⟨one (2*k) (·.1) (by omega) rfl fun F=>(tu F ek).1,one (2*k+1) (·.2) (by omega) rfl fun F=>(tu F ek).2⟩
theorem Jw:∀(rs:List Rat) (qs:τ),rs.length=qs.length->Ty.sumTo qs.length (fun j=>vl (qs.getD j (0,1))*rs.getD j 0)=sP rs (qs.map vl)
 | [],[],_=>by simp [Ty.sumTo,sP]
 | r::rs,q::qs,h=>by
  rw [aaR,eL, <- Jw rs qs (by simpa using h),abf]
  show vl q*r+Ty.sumTo qs.length (fun j=>vl (qs.getD j (0,1))*rs.getD j 0)=_
  grind
def vN (pins:π)(bars:ς)(T:Str->Rat)(U:Ρ):List Rat:=(pins.flatMap fun q=>U q.nm)++bars.map (fun b=>T b.nm)
theorem Jx {pins:π}{bars:ς}{T:Str->Rat}{U:Ρ}(hl:∀q∈pins,(U q.nm).length=q.ws.length){k:Nat}{b:ba}(e:bars[k]? =some b):(vN pins bars T U)[aI pins+k]? =some (T b.nm):=by
 unfold vN
 rw [aa3 (by rw [oV hl];omega),oV hl,Nat.add_sub_cancel_left,Wp,e]
 rfl
def D' (ws:Ζ):Prop:=∀us:List Rat,us.length=ws.length->sP us (ws.map (·.1))=0->sP us (ws.map (·.2))=0->∀u∈us,u=0
theorem Mh {pins:π}{bars:ς}{T:Str->Rat}{U:Ρ}(wi:∀p∈pins,D' p.ws)(hl:∀q∈pins,(U q.nm).length=q.ws.length)(no:x_ pins bars T U){c:Nat}(h1:(vN pins bars T U)[c]? =some 1)(h0:∀j r,c < j->(vN pins bars T U)[j]? =some r->r=0):aI pins<=c:=by
 rcases Nat.lt_or_ge c (aI pins) with z | z
 ·exfalso
  have tz:∀b∈bars,T b.nm=0:=fun b hb=>by
   obtain ⟨k,ek⟩:=aaF hb
   exact h0 _ _ (by omega) (Jx (T:=T) hl ek)
  have f0:∀(p:aJ) (cc:Rat×Rat->Rat),iI bars T U p cc=sP (U p.nm) (p.ws.map cc):=fun p cc=>by
   unfold iI
   have:(bars.map fun b=>T b.nm*cc (mv (jg b) p.nm))=bars.map fun _=>(0:Rat):=abI fun b hb=>by rw [tz b hb];grind
   rw [this]
   have s0:∀l:List ba,(l.map fun _=>(0:Rat)).sum=0:=fun l=>by
    induction l with
    | nil=>rfl
    | cons a l ih=>rw [aaR,ahY,ih];grind
   rw [s0]
   grind
  have uz:∀p∈pins,∀u∈U p.nm,u=0:=fun p hp=>wi p hp (U p.nm) (hl p hp) (by rw [<- f0];exact (no p hp).1) (by rw [<- f0];exact (no p hp).2)
  have m1:(1:Rat)∈pins.flatMap fun q=>U q.nm:=by
   have e:=h1
   unfold vN at e
   rw [aaS (by rw [oV hl];exact z)] at e
   exact aaa e
  obtain ⟨p,hp,hu⟩:=ag_.mp m1
  have:=uz p hp 1 hu
  grind
 ·exact z
def unit (n i:Nat):List Int:=(aa2 n 0).set i 1
inductive ya (vs:η)(H:Hp)(Q:VK)(E_:XK):Prop where
 | mk (i n:Nat) (_:vs=[.int (i:Int),.int (n:Int)]) (_:i < n) (_:n<=900) (_:∀(p:Addr) (H' :Hp),av H H' ->H p=none->H' p=some (.lst ((unit n i).map V.int))->Q (.ref p) H'):ya vs H Q E_
theorem kh:aG ["at","many","line"] zaO (ag dS):=sq
theorem tF (D:Def K mg "unit_line" dS zaO):Fn P w K mg base (a8 P w) 1 "unit_line" zaO ya:=by
 refine D.ok kh (fun vs H Q E h=>?_) (fun f bH A outer s H vs Q E hr h=>?_)
 ·obtain ⟨i,n,rfl,_⟩:=h
  rfl
 obtain ⟨i,n,rfl,hi,hn,q⟩:=h
 refine ⟨_,(ae (aA (i:=2) kh.nd rfl (aav rfl) (aF GZ (cD (ar ah aa)) (pv 1)))
  (ae (nQ ah (r9 (pv 2) (pv 0) set_list))
  (ak (aK (pv 2))))),?_⟩
 refine ⟨(by show 1<=sizeLine;decide),fun p3 n3=>?_⟩
 have s3:=aH n3 (.lst [V.int 0])
 refine ⟨_,rfl,p3,_,_,rfl,rfl,aj,by omega,by omega,aam (show 1*(n:Int).toNat<=1000 by omega) (by decide),fun x n4=>?_⟩
 have er:(aa2 (n:Int).toNat [V.int 0]).flatten=aa2 n (V.int 0):=by simp
 rw [er]
 have s4:=aH n4 (.lst (aa2 n (V.int 0)))
 have nx:H x=none:=s3.free n4
 refine ⟨_,rfl,_,rfl,x,_,_,i,rfl,rfl,aj,by rw [acE];exact tf hi,?_⟩
 refine ⟨_,rfl,q x _ (f_ (s3.trans s4) nx) nx ?_⟩
 rw [aj]
 unfold unit
 rw [List.map_set]
 simp
def k8 (m n:Nat)(ws:List Wl)(es:ζ):Prop:=es.length=n/\ws.length=n/\∀(i:Nat) (w:Wl),ws[i]? =some w->es[i]? =some (w.1++unit n i)
def dB (m:Nat)(ws:List Wl)(x:Nat×List Int):List (Int×Int):=ab' (fun (s:Int) (w:Wl)=>low (s*w.2.1) (x.2.getD x.1 0)) (x.2.drop m) ws
inductive ki (K:Frag)(vs:η)(H:Hp)(Q:VK)(E_:XK):Prop where
 | mk (r:Addr) (m:Nat) (ls:Α) (bT:List (List V:_)) (bu:ξ) (T B Z:Nat) (_:vs=[.ref r,.int (m:Int)]) (_:mM H r ls bT) (_:fJ K H bT bu) (_:Shape T B m bu) (_:m<=100) (_:bu.length<=100) (_:T<=20000) (_:B*m<=8000) (_:B<=8000) (_:bb (T+B*m) (min m bu.length)<=Z) (_:Z<=29000000) (_:∀(dd:Addr) (kvs:δ) (ss:Μ) (ws:List Wl) (es lv:ζ) (nd:θ) (H' :Hp),av H H' ->H dd=none->H' dd=some (.dK kvs)->x4 K H' kvs ss->k8 m bu.length ws es->(∀(i:Nat) (w:Wl) (qs:τ),ws[i]? =some w->bu[i]? =some qs->KI T B m qs w)->Red es (m+bu.length) m Z nd lv->ss=nd.map (fun x=>(x.1,dB m ws x))->Q (.ref dd) H'):ki K vs H Q E_
theorem oW:∀{l:Δ} {m:Nat},l.Nodup->(∀c∈l,c < m)->l.length<=m:=fun {l m} h1 h2=>by
 have:=List.Nodup.length_le_of_subset h1 (l₂:=abk m) (fun c hc=>abl.mpr (h2 c hc))
 simpa using this
theorem EA {l:ν}{m:Nat}(h:m<=l.length):fu (l.map V.int) (some (m:Int)) none=(l.drop m).map V.int:=by
 rw [i6 (by rw [ir];exact h),List.map_drop]
theorem bM:aG ["rows","many","wholes","lines","needed","column","line","shares"] zai (ag bV):=sq
theorem kj (D:Def K mg "needed_columns" bV zai)(aL:mg "len"=none)(j4:mg "zip"=none)(cq:mg "enumerate"=none)(Rb:Fn P w K mg base (a8 P w) 2 "whole_row" zaH (LW K))(vO:Fn P w K mg base (a8 P w) 1 "unit_line" zaO ya)(Rc:Fn P w K mg base (a8 P w) 35 "reduced" zaE (i7 K))(Jj:Fn P w K mg base (a8 P w) 33 "lowest_terms" zaB gN):Fn P w K mg base (a8 P w) 36 "needed_columns" zai (ki K):=by
 refine D.ok bM (fun vs H Q E h=>?_) (fun f bH A outer s H vs Q E hr h=>?_)
 ·obtain ⟨r,m,ls,bT,bu,T,B,Z,rfl,_⟩:=h
  rfl
 obtain ⟨r,m,ls,bT,bu,T,B,Z,rfl,M,NN,sh,hm,hn,hT,hB,ZA,hZ,hZ1,q⟩:=h
 refine ⟨_,(ae (aA (i:=2) bM.nd rfl (abu rfl) (cY (tn:=zaH) (fr:=[]) (caps:=[]) rfl ⟨rfl,by decide+kernel,rfl,by decide+kernel,by decide+kernel,rfl,trivial,trivial⟩ (bD (pv 0)) (fun _ _ _ _=>(aD (i:=0) (show (zaH:List Str).Nodup from by decide+kernel) rfl (aav rfl))) (fun _ _ _ _=>dA) (fun _ _ _ _=>(aE Rb hr.mo (rB (by first | assumption | exact a8.qj) rfl) (ar (pv 0) aa)))))
  (ae (zk (i:=3) bM.nd rfl (aav rfl) (tn:=["at","whole"]) (fr:=["wholes"]) (caps:=[2]) rfl ⟨rfl,by decide+kernel,rfl,by decide+kernel,by decide+kernel,rfl,⟨(by first | exact aav rfl | exact abu rfl),trivial⟩,⟨(by first | exact aav rfl | exact abu rfl),trivial⟩⟩ (sQ rfl cq (ar (pv 2) aa)) (fun _ _ _ _=>(sL (K:=K) (n:=2) rfl rfl (aS (aD (i:=0) (show (["at","whole","wholes"]:List Str).Nodup from by decide+kernel) rfl (aav rfl)) (aS (aD (i:=1) (show (["at","whole","wholes"]:List Str).Nodup from by decide+kernel) rfl (aav rfl)) b7)))) (fun _ _ _ _=>dA) (fun _ _ _ _=>(aF xy (bB (eC (K:=K) rfl) (pv 1) ah (fun _ _=>rfl)) (aE vO hr.mo (rB (by first | assumption | exact a8.qj) rfl) (ar (pv 0) (ar (aC (gA (K:=K) rfl) rfl aL bt (ar (pv 2) aa)) aa))))))
  (ae (aA (i:=4) bM.nd rfl (aav rfl) dD)
  (ae (bF PassesOwn.never rfl (rG (a9 (aE Rc hr.mo pX (ar (pv 3) (ar (pv 1) aa))))) (dy rfl (aS (aD (i:=5) bM.nd rfl (abu rfl)) (aS (aD (i:=6) bM.nd rfl (abu rfl)) b7))) (ae (aA (i:=7) bM.nd rfl (aav rfl) (cE gY (pv 6) (cA (pv 1)) fk))
   (ak (dj (cX hr) (pv 4) (pv 5) (cY (tn:=["share","whole"]) (fr:=["line","column"]) (caps:=[6,5]) rfl ⟨rfl,by decide+kernel,rfl,by decide+kernel,by decide+kernel,rfl,⟨(by first | exact aav rfl | exact abu rfl),⟨(by first | exact aav rfl | exact abu rfl),trivial⟩⟩,⟨(by first | exact aav rfl | exact abu rfl),⟨(by first | exact aav rfl | exact abu rfl),trivial⟩⟩⟩ (HP rfl j4 (ar (pv 7) (ar (pv 2) aa))) (fun _ _ _ _=>(sL (K:=K) (n:=2) rfl rfl (aS (aD (i:=0) (show (zaJ:List Str).Nodup from by decide+kernel) rfl (aav rfl)) (aS (aD (i:=1) (show (zaJ:List Str).Nodup from by decide+kernel) rfl (aav rfl)) b7)))) (fun _ _ _ _=>dA) (fun _ _ _ _=>(aE Jj hr.mo (rB (by first | assumption | exact a8.qj) rfl) (ar (aF nj (pv 0) (bB (eC (K:=K) rfl) (pv 1) ah (fun _ _=>rfl))) (ar (bB (vb (K:=K) rfl) (pv 2) (pv 3) (fun _ _=>rfl)) aa))))) rfl))))
  (ak (aK (pv 4))))))),?_⟩
 have l1:=M.2.1
 have l2:=NN.1
 refine ⟨_,rfl,r,rfl,⟨_,aZ.of M.1⟩,fun D1 n1=>?_⟩
 refine jz (cap:=[]) (K:=K) (a:=r) (xs:=ls.map V.ref) (fun i v H=>∃w:Wl,v=.ref w.2.2.2/\w.2.2.1≠D1/\H w.2.2.2=some (.tup [.ref w.2.2.1,.int w.2.1])/\H w.2.2.1=some (.lst (w.1.map V.int))/\∀qs,bu[i]? =some qs->KI T B m qs w) n1 (by rw [ir];exact aaz (show ls.length<=1000 by omega) (by decide)) (fun H2 s2=>aZ.of (s2 _ _ M.1)) ?_ ?_ ?_
 ·rintro i v H2 H3 ys hD ks ⟨w,e1,e2,e3,e4,e5⟩
  exact ⟨w,e1,e2,ks _ _ (fun z=>by rw [z,hD] at e3;cases e3) e3,ks _ _ e2 e4,e5⟩
 ·rintro i x H2 RR ex s2 ⟨ys0,hD0⟩ kk
  rw [Wp] at ex
  obtain ⟨l,el,rfl⟩:=aaM.mp ex
  have hi:i < ls.length:=(be.mp el).1
  obtain ⟨qs,eq⟩:∃qs,bu[i]? =some qs:=⟨_,gE (by omega)⟩
  obtain ⟨vs,ev⟩:∃vs,bT[i]? =some vs:=⟨_,gE (by omega)⟩
  have hl:=M.2.2 i l vs el ev
  have hq:=NN.2 i vs qs ev eq
  obtain ⟨lq,sq⟩:=sh qs (aaa eq)
  refine ⟨_,rfl,l,qs,T,B,rfl,⟨_,aZ.of (s2 _ _ hl),hq.same s2⟩,sq,hT,by rw [lq];omega,ZA,by omega,fun p3 VA ts b H3 s3 nl hp3 hl3 hb VB wh VC=>?_⟩
  rw [lq] at VB VC
  refine kk _ _ s3 ⟨(ts,b,VA,p3),rfl,fun z=>?_,hp3,hl3,fun LP e1=>?_⟩
  ·rw [show VA =D1 from z,hD0] at nl
   cases nl
  ·rw [eq] at e1
   cases e1
   exact ⟨wh,hb,VB,VC⟩
 intro zs H2 hz hG s2 SQ
 rw [ir] at hz
 obtain ⟨ws,lw,hw⟩:=gO (P:=fun i v (w:Wl)=>v=.ref w.2.2.2/\w.2.2.1≠D1/\H2 w.2.2.2=some (.tup [.ref w.2.2.1,.int w.2.1])/\H2 w.2.2.1=some (.lst (w.1.map V.int))/\∀qs,bu[i]? =some qs->KI T B m qs w) zs hG
 have lwn:ws.length=bu.length:=by omega
 have wp:∀(i:Nat) (w:Wl),ws[i]? =some w->∃qs,zs[i]? =some (.ref w.2.2.2)/\bu[i]? =some qs/\H2 w.2.2.2=some (.tup [.ref w.2.2.1,.int w.2.1])/\H2 w.2.2.1=some (.lst (w.1.map V.int))/\KI T B m qs w/\w.1.length=m:=fun i w e=>by
  have hi:i < ws.length:=(be.mp e).1
  obtain ⟨v,ev⟩:∃v,zs[i]? =some v:=⟨_,gE (by omega)⟩
  obtain ⟨qs,eq⟩:∃qs,bu[i]? =some qs:=⟨_,gE (by omega)⟩
  obtain ⟨h1,_,h3,h4,h5⟩:=hw i v w ev e
  have h6:=h5 qs eq
  exact ⟨qs,by rw [ev,h1],eq,h3,h4,h6,by rw [h6.1.1,(sh qs (aaa eq)).1]⟩
 refine ⟨_,rfl,D1,rfl,⟨_,aZ.of SQ⟩,fun D2 n2=>?_⟩
 refine xD (cap:=[some (.ref D1)]) (K:=K) (a:=D1) (xs:=zs) (fun k v H=>∃e:List Int,∃p:Addr,v=.ref p/\p≠D2/\H p=some (.lst (e.map V.int))/\∀w,ws[k]? =some w->e=w.1++unit bu.length k) n2 (aaz (show zs.length<=1000 by omega) (by decide)) (fun H3 s3=>aZ.of (s3 _ _ SQ)) ?_ ?_ ?_
 ·rintro k v H3 H4 ys hD ks ⟨e,p,e1,e2,e3,e4⟩
  exact ⟨e,p,e1,e2,ks _ _ e2 e3,e4⟩
 ·rintro k x H3 RR ex s3 ⟨ys0,Jf⟩ kk
  have hk:k < zs.length:=(be.mp ex).1
  obtain ⟨w,ew⟩:∃w,ws[k]? =some w:=⟨_,gE (by omega)⟩
  obtain ⟨qs,ez,eq,h3,h4,h5,h6⟩:=wp k w ew
  rw [ex] at ez
  cases ez
  refine ⟨_,rfl,w.2.2.2,_,_,_,rfl,rfl,bQ.of (s3 _ _ h3),me,_,rfl,_,rfl,D1,_,rfl,.inl (aZ.of (s3 _ _ SQ)),k,bu.length,by rw [show zs.length=bu.length by omega];rfl,by omega,by omega,fun pu Hu su nu hu=>?_⟩
  refine ⟨w.2.2.1,pu,_,_,rfl,rfl,su _ _ (s3 _ _ h4),hu,aam (show _<=1000 by simp [unit];omega) (by decide),fun pn nn=>?_⟩
  refine kk _ _ (su.trans (aH nn _)) ⟨w.1++unit bu.length k,pn,rfl,fun z=>?_,by rw [aj,aa1],fun w' ew' =>by rw [ew] at ew';cases ew';rfl⟩
  have:=su _ _ Jf
  rw [z,this] at nn
  cases nn
 intro ys H3 hy VD s3 ZN
 obtain ⟨es,le,hes⟩:=gO (P:=fun k v (e:ν)=>∃p:Addr,v=.ref p/\p≠D2/\H3 p=some (.lst (e.map V.int))/\∀w,ws[k]? =some w->e=w.1++unit bu.length k) ys VD
 have hE:k8 m bu.length ws es:=⟨by omega,lwn,fun i w e=>by
  have hi:i < ws.length:=(be.mp e).1
  have e1:ys[i]? =some (ys[i]'(by omega)):=gE (by omega)
  have e2:es[i]? =some (es[i]'(by omega)):=gE (by omega)
  obtain ⟨p,_,_,_,h⟩:=hes i _ _ e1 e2
  rw [e2,h w e]⟩
 have hLl:qm H3 ys es:=⟨le.symm,fun i u l e1 e2=>by
  obtain ⟨p,h1,_,h3,_⟩:=hes i u l e1 e2
  exact ⟨p,h1,h3⟩⟩
 have VE:∀l∈es,l.length=m+bu.length/\Bd (T+B*m) l:=fun l hl=>by
  obtain ⟨i,e⟩:=aaF hl
  have hi:i < es.length:=(be.mp e).1
  obtain ⟨w,ew⟩:∃w,ws[i]? =some w:=⟨_,gE (by omega)⟩
  have e2:=hE.2.2 i w ew
  rw [e] at e2
  cases e2
  obtain ⟨qs,_,_,_,_,h5,h6⟩:=wp i w ew
  refine ⟨by rw [aat,h6];simp [unit],Bd.of fun t ht=>?_⟩
  rcases aaQ.mp ht with z | z
  ·exact h5.2.2.2 t z
  ·unfold unit at z
   rcases List.mem_or_eq_of_mem_set z with y | y
   ·rw [(List.mem_replicate.mp y).2]
    exact abj _
   ·rw [y]
    exact ahN
 refine fun dd ndd=>?_
 have t4:=aH ndd (.dK [])
 refine ⟨_,rfl,_,rfl,D2,ys,es,m+bu.length,m,T+B*m,rfl,aZ.of (t4 _ _ ZN),hLl.same t4,fun l hl=>(VE l hl).1,by omega,by omega,by omega,fun l hl=>(VE l hl).2,by rw [hE.1];omega,fun p d a' kvs fH nd lv H5 s5 qb np hp hd QT Mf hL1 R=>?_⟩
 rw [hE.1] at R
 have RZ:=R.up hZ
 have s25:=(s3.trans t4).trans s5
 have SN:=s2.trans s25
 have Hd:H d=none:=((s2.trans s3).trans t4).free qb
 have Hdd:H dd=none:=(s2.trans s3).free ndd
 have Ri:H5 dd=some (.dK []):=s5 _ _ aj
 have ds:d≠dd:=fun z=>by rw [z,aj] at qb;cases qb
 refine ⟨p,_,_,_,rfl,rfl,bQ.of hp,me,d,kvs,rfl,.inl hd,fun o=>?_⟩
 refine dQ (d:=d) (o:=o) (kvs:=kvs) (fun t σ H' =>∃(o5 o6 o7:Β) (eO:δ),σ=[some (.ref r),some (.int (m:Int)),some (.ref D1),some (.ref D2),some (.ref dd),o5,o6,o7]/\av H H' /\H' d=some (.fj o (.dK kvs))/\H' dd=some (.dK eO)/\(∀b o',b≠d->b≠dd->H5 b=some o' ->H' b=some o')/\x4 K H' eO ((nd.take t).map fun x=>(x.1,dB m ws x)))
  ⟨none,none,none,[],rfl,f_ SN Hd,aj,by rw [aq (abb ds)];exact Ri,fun b o' n1 n2 e=>by rw [aq n1];exact e,⟨by simp,fun i kv x e=>by simp at e⟩⟩ (fun t σ H' _ h=>by
   obtain ⟨_,_,_,_,_,_,h,_⟩:=h
   exact h) ?_ ?_
 ·rintro t k v σ H6 p7 nE ⟨o5,o6,o7,eO,rfl,s6,FJ,Rj,k6,SS⟩ n7
  have ht:t < kvs.length:=(be.mp nE).1
  have Vz:=Mf.1
  obtain ⟨y,ey⟩:∃y,nd[t]? =some y:=⟨_,gE (by omega)⟩
  obtain ⟨k1,k2⟩:=Mf.2 t _ y nE ey
  have k1' :k=.inl (y.1:Int):=k1
  subst k1'
  obtain ⟨b',eb,ix⟩:=k2
  have FN :v=.ref b' :=eb
  subst FN
  have k6L:∀{b:Addr} {xs:η},H5 b=some (.lst xs)->H6 b=some (.lst xs):=fun {b xs} e=>k6 _ _ (fun z=>by rw [z,hd] at e;cases e) (fun z=>by rw [z,Ri] at e;cases e) e
  have k6T:∀{b:Addr} {xs:η},H5 b=some (.tup xs)->H6 b=some (.tup xs):=fun {b xs} e=>k6 _ _ (fun z=>by rw [z,hd] at e;cases e) (fun z=>by rw [z,Ri] at e;cases e) e
  have Ou:=aaa ey
  have hyl:=R.mK y Ou
  have hyc:=R.cols y Ou
  have s7:=aH n7 (.tup [kV (.inl (y.1:Int)),.ref b'])
  have Ov:=s7 _ _ (k6L ix)
  refine ⟨p7,_,rfl,bQ.of aj,rfl,_,_,rfl,_,_,rfl,rfl,?_⟩
  refine ⟨_,rfl,_,rfl,_,rfl,b',_,rfl,aZ.of Ov,fun ps nps=>?_⟩
  rw [EA (by omega)]
  have t8:=aH nps (.lst ((y.2.drop m).map V.int))
  have Jo:=s7.trans t8
  have VF:=Jo _ _ (k6L (s25 _ _ SQ))
  refine ⟨_,rfl,_,rfl,ps,D1,rfl,⟨_,aZ.of aj⟩,⟨_,aZ.of VF⟩,fun D9 n9=>?_⟩
  have ldr:(y.2.drop m).length=bu.length:=by rw [abG];omega
  refine vc (cap:=[some (.ref b'),some (kV (.inl (y.1:Int)))]) (K:=K) (xs:=(y.2.drop m).map V.int) (ys:=zs) (fun k v H=>∃s w,(y.2.drop m)[k]? =some s/\ws[k]? =some w/\Nm H v (low (s*w.2.1) (y.2.getD y.1 0))) n9 (aaz (show ((y.2.drop m).map V.int).length<=1000 by rw [ir];omega) (by decide)) (by rw [ir];omega) (fun H8 s8=>aZ.of (s8 _ _ aj)) (fun H8 s8=>aZ.of (s8 _ _ VF)) ?_ ?_ ?_
  ·rintro k v H8 H9 ys9 hD ks ⟨s,w,e1,e2,e3⟩
   exact ⟨s,w,e1,e2,e3.kept hD ks⟩
  ·intro k x z H8 RR ex ez s8 kk
   rw [Wp] at ex
   obtain ⟨sv,FQ,rfl⟩:=aaM.mp ex
   have hk:k < zs.length:=(be.mp ez).1
   obtain ⟨w,ew⟩:∃w,ws[k]? =some w:=⟨_,gE (by omega)⟩
   obtain ⟨qs,ez',eq,h3,h4,h5,h6⟩:=wp k w ew
   rw [ez] at ez'
   cases ez'
   have ZI:=s8 _ _ (Jo _ _ (k6T (s25 _ _ h3)))
   have hb8:=s8 _ _ (t8 _ _ Ov)
   have bs:sv.natAbs<=2^Z:=(RZ.Jd y Ou).mem (aij (aaa FQ))
   refine ⟨_,rfl,_,rfl,w.2.2.2,_,_,_,rfl,rfl,bQ.of ZI,mJ,_,_,rfl,rfl,jZ bs h5.2.2.1 (by omega),_,rfl,_,rfl,b',_,_,_,rfl,rfl,aZ.of hb8,rL (by omega),?_⟩
   exact ⟨_,_,rfl,R.here y Ou,fun p8 H9 s9 e9=>kk _ _ s9 ⟨sv,w,FQ,ew,p8,rfl,e9⟩⟩
  intro us9 H9 h9 VG s9 hD9
  rw [ir] at h9
  have kF:=Jo.trans s9
  have VH:=kF _ _ Rj
  have KL:=SS.1
  have lnd:nd.length<=m:=by
   have a:=R.cnt
   have:=abw.mpr (R.asc.imp fun {a b} h=>aa' h)
   have z:=oW this (fun c hc=>by
    obtain ⟨x,hx,rfl⟩:=aaj.mp hc
    exact R.cols x hx)
   rw [ir] at z
   exact z
  have lsm:eO.length<=100:=by
   rw [KL,ir,abd]
   omega
  refine ⟨_,rfl,_,rfl,dd,_,rfl,gH.k (k:=.inl (y.1:Int)) VH (aaz (show eO.length<=1000 by omega) (by decide)),?_⟩
  have P8:dJ eO (.inl (y.1:Int))=none:=j5 (fun z=>by
   rw [SS.keys] at z
   obtain ⟨x',yY,e⟩:=aaj.mp z
   obtain ⟨x,hx,rfl⟩:=aaj.mp yY
   have e1:(x.1:Int)=y.1:=ahj e
   obtain ⟨i,hi⟩:=aaF hx
   rw [List.getElem?_take] at hi
   by_cases hit:i < t
   ·rw [if_pos hit] at hi
    have a:=List.pairwise_iff_getElem.mp R.asc i t (by rw [ir];exact (be.mp hi).1) (by rw [ir];exact (be.mp ey).1) hit
    simp only [List.getElem_map] at a
    have BK :=(be.mp hi).2
    have KN :=(be.mp ey).2
    rw [BK,KN] at a
    omega
   ·rw [if_neg hit] at hi
    cases hi)
  rw [cQ _ P8]
  have ZM:aT dd H9 (upd H9 dd (.dK (eO++[(.inl (y.1:Int),.ref D9)]))):=fun b o' n e=>by rw [aq n];exact e
  have hq9:eT K H9 us9 (dB m ws y):=⟨by unfold dB;rw [ahf];omega,fun i u q' e1 e2=>by
   obtain ⟨sv,w,a1,a2,p,a3,a4⟩:=VG i u e1
   unfold dB at e2
   rw [abP,a1,a2] at e2
   cases e2
   exact ⟨p,a3,bQ.of a4⟩⟩
  refine ⟨_,_,_,_,rfl,f_ (s6.trans kF) Hdd,by rw [aq ds];exact kF _ _ FJ,aj,fun b o' n1 n2 e=>by rw [aq n2];exact kF _ _ (k6 _ _ n1 n2 e),?_⟩
  rw [List.take_succ,ey]
  rw [aa1]
  exact ((SS.same kF).snoc hD9 hq9).ks (.inl VH) ZM
 ·rintro σ H6 ⟨o5,o6,o7,eO,rfl,s6,FJ,Rj,k6,SS⟩
  have Vz:=Mf.1
  rw [Vz,ab_ (aas _)] at SS
  exact ⟨_,rfl,q dd eO _ ws es lv nd H6 s6 Hdd Rj SS hE (fun i w qs e1 e2=>by
   obtain ⟨LP,_,eq,_,_,h5,_⟩:=wp i w e1
   rw [e2] at eq
   cases eq
   exact h5) RZ rfl⟩
theorem x8.ex (c:Nat):∀{nd:θ},(nd.map (·.1)).Pairwise (· < ·)->(∀y∈nd,y.1≠c)->∃z,x8 nd c z
 | [],_,_=>⟨fun j=>if j=c then 1 else 0,if_pos rfl,(fun y hy=>nomatch hy),fun j h _=>if_neg h⟩
 | x::r,a,f=>by
  rw [aaR,ahO] at a
  obtain ⟨z,hz⟩:=x8.ex c a.2 (fun y hy=>f y (aaE _ hy))
  refine ⟨fun j=>if j=x.1 then (-(x.2.getD c 0):Int) / ((x.2.getD x.1 0:Int):Rat) else z j,?_,fun y hy=>?_,fun j h1 h2=>?_⟩
  ·show (if c=x.1 then _ else z c)=1
   rw [if_neg (abb (f x aaK))]
   exact hz.one
  ·rcases aa8.mp hy with q | q
   ·subst q
    exact if_pos rfl
   ·have:=a.1 y.1 (aaj.mpr ⟨y,q,rfl⟩)
    show (if y.1=x.1 then _ else z y.1)=_
    rw [if_neg (by omega)]
    exact hz.at' y q
  ·show (if j=x.1 then _ else z j)=0
   rw [if_neg (abb (h2 x aaK))]
   exact hz.no j h1 (fun y hy=>h2 y (aaE _ hy))
theorem iL {os lv:ζ}{L m b c:Nat}{nd:θ}{z:Nat->Rat}(R:Red os L m b nd lv)(z1:z c≠0)(zb:∀j,c < j->z j=0)(hz:∀o∈os,ev o z=0):∀y∈nd,y.1≠c:=by
 intro y hy e
 have e0:=((R.sol z).mpr hz).1 y hy
 rw [sN y.2 z c (fun j hj=>?_)] at e0
 ·have hh:=eD (R.here y hy)
  rw [e] at hh
  grind
 ·by_cases q:j < c
  ·rw [R.low y hy j (by rw [e];exact q)]
   simp
  ·rw [zb j (by omega)]
   grind
theorem nH:∀{l1 l2:Δ},l1.Pairwise (· < ·)->l2.Pairwise (· < ·)->(∀c,c∈l1 ↔ c∈l2)->l1=l2
 | [],[],_,_,_=>rfl
 | [],b::l2,_,_,h=>absurd ((h b).mpr aaK) (by simp)
 | a::l1,[],_,_,h=>absurd ((h a).mp aaK) (by simp)
 | a::l1,b::l2,p,q,h=>by
  rw [ahO] at p q
  have e:a=b:=by
   have h1:=(h a).mp aaK
   have h2:=(h b).mpr aaK
   rcases aa8.mp h1 with z | z
   ·exact z
   ·rcases aa8.mp h2 with y | y
    ·exact y.symm
    ·have:=p.1 b y
     have:=q.1 a z
     omega
  subst e
  rw [nH p.2 q.2 (fun c=>⟨fun hc=>?_,fun hc=>?_⟩)]
  ·have:=p.1 c hc
   rcases aa8.mp ((h c).mp (aaE _ hc)) with z | z
   ·omega
   ·exact z
  ·have:=q.1 c hc
   rcases aa8.mp ((h c).mpr (aaE _ hc)) with z | z
   ·omega
   ·exact z
theorem Jy:∀(l r:ν) (z:Nat->Rat),(∀j,l.length<=j->z j=0)->ev (l++r) z=ev l z
 | [],r,z,h=>by
  rw [ahC,ni r z (fun j=>by rw [h j (abj _)];grind)]
  rfl
 | a::l,r,z,h=>by
  rw [ahv]
  simp only [ev]
  rw [Jy l r (fun i=>z (i+1)) (fun j hj=>h (j+1) (by simp;omega))]
theorem oX {T B m:Nat}{bu:ξ}{ws:List Wl}{es:ζ}(gj:k8 m bu.length ws es)(wl:∀(i:Nat) (w:Wl) (qs:τ),ws[i]? =some w->bu[i]? =some qs->KI T B m qs w)(len:∀qs∈bu,qs.length=m)(z:Nat->Rat)(hz:∀j,m<=j->z j=0):(∀o∈es,ev o z=0) ↔ ∀qs∈bu,sumTo m (fun j=>vl (qs.getD j (0,1))*z j)=0:=by
 obtain ⟨l1,l2,l3⟩:=gj
 have row:∀i,i < bu.length->∃w qs,ws[i]? =some w/\bu[i]? =some qs/\es[i]? =some (w.1++unit bu.length i)/\(ev (w.1++unit bu.length i) z=0 ↔ sumTo m (fun j=>vl (qs.getD j (0,1))*z j)=0):=fun i hi=>by
  have e1:ws[i]? =some (ws[i]'(by omega)):=gE (by omega)
  have e2:bu[i]? =some (bu[i]'(by omega)):=gE (by omega)
  obtain ⟨wh,hb,_⟩:=wl i _ _ e1 e2
  have hq:=len _ (aaa e2)
  refine ⟨_,_,e1,e2,l3 i _ e1,?_⟩
  rw [Jy _ _ z (fun j hj=>hz j (by rw [wh.1] at hj;omega))]
  exact tE wh hb hq z
 constructor
 ·intro h qs hq
  obtain ⟨i,e⟩:=aaF hq
  obtain ⟨w,LP,_,e2,e3,k⟩:=row i (be.mp e).1
  rw [e] at e2
  cases e2
  exact k.mp (h _ (aaa e3))
 ·intro h o ho
  obtain ⟨i,e⟩:=aaF ho
  obtain ⟨w,LP,_,e2,e3,k⟩:=row i (by have:=(be.mp e).1;omega)
  rw [e] at e3
  cases e3
  exact k.mpr (h _ (aaa e2))
inductive tG (K:Frag)(vs:η)(H:Hp)(Q:VK)(E_:XK):Prop where
 | mk (l:Addr) (us:η) (rs:List Rat) (_:vs=[.ref l]) (_:H l=some (.lst us)) (_:Paired (nq K H) us rs) (_:us.length<=100) (_:∀(l' :Addr) (fH :η) (H' :Hp),av H H' ->H' l' =some (.lst fH)->Paired (nq K H') fH (rs.map fun r=> -r)->Q (.ref l') H'):tG K vs H Q E_
theorem rQ {α:Type}{R:V->α->Prop}:∀{us:η} {zs:List α},us.length=zs.length->(∀(i:Nat) (u:V),us[i]? =some u->∃z,zs[i]? =some z/\R u z)->Paired R us zs
 | [],[],_,_=>.nil
 | u::us,z::zs,l,h=>by
  obtain ⟨z',e,hz⟩:=h 0 u rfl
  cases e
  exact .cons hz (rQ (by simpa using l) fun i u e=>h (i+1) u (by simpa using e))
theorem VI:aG zaN zaN (ag CQ):=sq
theorem VJ (D:Def K mg "signs_turned" CQ zaN):Fn P w K mg base (a8 P w) 1 "signs_turned" zaN (tG K):=by
 refine D.ok VI (fun vs H Q E h=>?_) (fun f bH A outer s H vs Q E hr h=>?_)
 ·obtain ⟨l,us,rs,rfl,_⟩:=h
  rfl
 obtain ⟨l,us,rs,rfl,hl,pp,ln,q⟩:=h
 have lu:=Paired.length pp
 refine ⟨_,(ak (aK (cY (tn:=["number"]) (fr:=[]) (caps:=[]) rfl ⟨rfl,by decide+kernel,rfl,by decide+kernel,by decide+kernel,rfl,trivial,trivial⟩ (bD (pv 0)) (fun _ _ _ _=>(aD (i:=0) (show (["number"]:List Str).Nodup from by decide+kernel) rfl (aav rfl))) (fun _ _ _ _=>dA) (fun _ _ _ _=>(a_ (ar (jP gW (bB (eC (K:=K) rfl) (pv 0) ah (fun _ _=>rfl))) (ar (bB (eC (K:=K) rfl) (pv 0) ah (fun _ _=>rfl)) aa))))))),?_⟩
 refine ⟨_,rfl,l,rfl,⟨_,aZ.of hl⟩,fun D1 n1=>?_⟩
 refine cR (cap:=[]) (K:=K) (a:=l) (xs:=us) (fun i v H' =>∃r,rs[i]? =some r/\nq K H' v (-r)) n1 (aaz ln (by decide)) (fun H2 s2=>aZ.of (s2 _ _ hl)) (fun i v H6 H7 ys e ks ⟨r,h1,h2⟩=>⟨r,h1,h2.bg (bx.ks e ks)⟩) ?_ ?_
 ·intro i u H2 R hu s2 k
  obtain ⟨r,er,hr⟩:=aY pp hu
  obtain ⟨p,rfl,hq⟩:oG K H2 u (qr r):=hr.same s2
  refine ⟨_,rfl,p,_,_,_,rfl,rfl,hq,me,_,rfl,_,rfl,p,_,_,_,rfl,rfl,hq,mJ,(by show 2<=sizeLine;decide),?_⟩
  intro p3 n3;generalize eX:upd _ p3 _=H3;have ⟨s3,e3⟩:=nw n3 eX;clear eX
  refine k _ _ s3 ⟨r,er,p3,rfl,?_⟩
  rw [QK]
  exact bQ.of e3
 ·intro ys H2 ly hy s2 hD
  refine q D1 ys H2 s2 hD (rQ (by rw [ly,lu,ir]) fun i v e=>?_)
  obtain ⟨r,er,hr⟩:=hy i v e
  exact ⟨-r,by rw [Wp,er];rfl,hr⟩
theorem EB {l1 l2:Δ}(h:l1.Perm l2)(f:Nat->Rat):fsum l1 f=fsum l2 f:=by
 induction h with
 | nil=>rfl
 | cons a _ ih=>rw [bo,bo,ih]
 | swap a b l=>
  rw [bo,bo,bo,bo]
  grind
 | trans _ _ ih1 ih2=>exact ih1.trans ih2
theorem oY (f g:Nat->Rat):∀l:List Nat,fsum l (fun i=>f i+g i)=fsum l f+fsum l g
 | []=>by simp [fsum];grind
 | a::l=>by
  rw [bo,bo,bo,oY f g l]
  grind
theorem rR (F:Nat->Nat->Rat)(l2:Δ):∀l1:List Nat,fsum l1 (fun a=>fsum l2 (fun b=>F a b))=fsum l2 (fun b=>fsum l1 (fun a=>F a b))
 | []=>by
  rw [vM,fT _ l2 (fun i _=>vM _)]
 | a::l1=>by
  rw [bo,rR F l2 l1, <- oY]
  refine cM _ fun b _=>?_
  rw [bo]
theorem fL:∀(n:Nat) (es:List (Nat->Rat)) (ps:Δ),es.length=n->ps.Nodup->es.length < ps.length->∃x:Nat->Rat,(∀j,j∉ps->x j=0)/\(∃p∈ps,x p≠0)/\∀e∈es,fsum ps (fun p=>e p*x p)=0
 | _,[],ps,_,_,h=>by
  cases ps with
  | nil=>simp at h
  | cons p0 ps=>
   refine ⟨fun j=>if j=p0 then 1 else 0,fun j hj=>if_neg (fun z=>hj (by rw [z];exact aaK)),⟨p0,aaK,?_⟩,(fun e he=>nomatch he)⟩
   show (if p0=p0 then (1:Rat) else 0)≠0
   rw [if_pos rfl]
   decide
 | 0,e::es,ps,l,nd,h=>by simp at l
 | n+1,e::es,ps,l,nd,h=>by
  by_cases z:∀p∈ps,e p=0
  ·obtain ⟨x,h1,h2,h3⟩:=fL n es ps (by simpa using l) nd (by simp at h;omega)
   refine ⟨x,h1,h2,fun f hf=>?_⟩
   rcases aa8.mp hf with y | y
   ·rw [y]
    refine fT _ _ fun p hp=>?_
    rw [z p hp]
    grind
   ·exact h3 f y
  ·obtain ⟨p0,Zu,ne⟩:∃p0,p0∈ps/\e p0≠0:=by
    apply abc
    intro y
    exact z fun p hp=>abc fun q=>y ⟨p,hp,q⟩
   have pe:=List.perm_cons_erase Zu
   have iw :(p0::ps.erase p0).Nodup:=pe.nodup_iff.mp nd
   rw [abe] at iw
   have le:=pe.length_eq
   rw [abf] at le
   obtain ⟨x,h1,⟨p1,hp1,nz⟩,h3⟩:=fL n (es.map fun f=>fun p=>f p - f p0 / e p0*e p) (ps.erase p0) (by rw [ir];simpa using l) iw.2 (by rw [ir];simp at h;omega)
   have off:∀p∈ps.erase p0,p≠p0:=fun p hp y=>by
    subst y
    exact iw.1 hp
   have sm:∀f:Nat->Rat,fsum ps (fun p=>f p*(if p=p0 then -(fsum (ps.erase p0) fun p=>e p*x p) / e p0 else x p))=f p0*(-(fsum (ps.erase p0) fun p=>e p*x p) / e p0)+fsum (ps.erase p0) (fun p=>f p*x p):=fun f=>by
    rw [EB pe,bo,if_pos rfl]
    congr 1
    refine cM _ fun p hp=>?_
    rw [if_neg (off p hp)]
   refine ⟨fun p=>if p=p0 then -(fsum (ps.erase p0) fun p=>e p*x p) / e p0 else x p,fun j hj=>?_,⟨p1,aid hp1,?_⟩,fun f hf=>?_⟩
   ·show (if j=p0 then _ else x j)=0
    rw [if_neg (fun y=>hj (by rw [y];exact Zu))]
    exact h1 j (fun y=>hj (aid y))
   ·show (if p1=p0 then _ else x p1)≠0
    rw [if_neg (off p1 hp1)]
    exact nz
   ·rw [sm f]
    rcases aa8.mp hf with y | y
    ·rw [y]
     grind
    ·have k:=h3 _ (aaj.mpr ⟨f,y,rfl⟩)
     have k2:fsum (ps.erase p0) (fun p=>(f p - f p0 / e p0*e p)*x p)=fsum (ps.erase p0) (fun p=>f p*x p)+(-(f p0 / e p0))*fsum (ps.erase p0) (fun p=>e p*x p):=by
      rw [<- iK, <- oY]
      refine cM _ fun p _=>?_
      grind
     have k' :fsum (ps.erase p0) (fun p=>(f p - f p0 / e p0*e p)*x p)=0:=k
     rw [k2] at k'
     grind
theorem qw (es:List (Nat->Rat))(ps:Δ)(nd:ps.Nodup)(h:es.length < ps.length):∃x:Nat->Rat,(∀j,j∉ps->x j=0)/\(∃p∈ps,x p≠0)/\∀e∈es,fsum ps (fun p=>e p*x p)=0:=fL _ es ps rfl nd h
theorem zR {x:Nat->Rat}:∀(m:Nat),(∀j,m<=j->x j=0)->(∃p,x p≠0)->∃c,c < m/\x c≠0/\∀j,c < j->x j=0
 | 0,h,⟨p,hp⟩=>absurd (h p (abj _)) hp
 | m+1,h,hp=>by
  by_cases z:x m=0
  ·obtain ⟨c,h1,h2,h3⟩:=zR m (fun j hj=>by
    by_cases y:j=m
    ·rw [y];exact z
    ·exact h j (by omega)) hp
   exact ⟨c,by omega,h2,h3⟩
  ·exact ⟨m,by omega,z,fun j hj=>h j (by omega)⟩
def aQ (bu:ξ)(i j:Nat):Rat:=vl ((bu.getD i []).getD j (0,1))
def Rk (m:Nat)(bu:ξ)(N:Nat):Prop:=∃(T B b:Nat) (os lv:ζ) (nd:θ),rP T B m bu os/\(∀qs∈bu,qs.length=m)/\Red os m m b nd lv/\nd.length=N
def Fac (n m:Nat)(a:Nat->Nat->Rat)(k:Nat):Prop:=∃(cs:Δ) (B C:Nat->Nat->Rat),cs.length=k/\∀i j,i < n->j < m->a i j=fsum cs (fun c=>B i c*C c j)
theorem tH {bu:ξ}{i:Nat}{qs:τ}(e:bu[i]? =some qs)(j:Nat):aQ bu i j=vl (qs.getD j (0,1)):=by
 unfold aQ
 rw [aaU (l:=bu),e]
 rfl
theorem rS {bu:ξ}{m:Nat}{z:Nat->Rat}:(∀qs∈bu,sumTo m (fun j=>vl (qs.getD j (0,1))*z j)=0) ↔ ∀i,i < bu.length->sumTo m (fun j=>aQ bu i j*z j)=0:=by
 constructor
 ·intro h i hi
  have e:bu[i]? =some bu[i]:=gE hi
  have k:=h _ (aaa e)
  rw [<- k]
  congr 1
  funext j
  rw [tH e]
 ·intro h qs hq
  obtain ⟨i,e⟩:=aaF hq
  have k:=h i (be.mp e).1
  rw [<- k]
  congr 1
  funext j
  rw [tH e]
theorem iM {m:Nat}{nd:θ}(hc:∀y∈nd,y.1 < m)(asc:(nd.map (·.1)).Pairwise (· < ·)):nd.map (·.1)=(abk m).filter (fun i=> !free nd i):=by
 refine nH asc (ahs.filter _) fun c=>⟨fun h=>?_,fun h=>?_⟩
 ·obtain ⟨y,hy,rfl⟩:=aaj.mp h
  refine abr.mpr ⟨abl.mpr (hc y hy),?_⟩
  cases q:free nd y.1
  ·rfl
  ·exact absurd rfl (eM.mp q y hy)
 ·obtain ⟨_,h2⟩:=abr.mp h
  apply abc
  intro nc
  have:free nd c=true:=eM.mpr fun y hy e=>nc (aaj.mpr ⟨y,hy,e⟩)
  rw [this] at h2
  cases h2
theorem Rk.Oh {m N:Nat}{bu:ξ}(h:Rk m bu N):Fac bu.length m (aQ bu) N:=by
 obtain ⟨T,B,b,os,lv,nd,gj,len,R,rfl⟩:=h
 have nod:(nd.map (·.1)).Nodup:=abw.mpr (R.asc.imp fun {a b} h=>aa' h)
 have zz:∀j,∃z:Nat->Rat,(∀y∈nd,y.1≠j)->x8 nd j z:=fun j=>by
  by_cases q:∀y∈nd,y.1≠j
  ·obtain ⟨z,hz⟩:=x8.ex j R.asc q
   exact ⟨z,fun _=>hz⟩
  ·exact ⟨fun _=>0,fun y=>absurd y q⟩
 obtain ⟨z,hz⟩:=Classical.axiomOfChoice zz
 refine ⟨nd.map (·.1),aQ bu,fun c j=>if free nd j=true then -(z j c) else if c=j then 1 else 0,ir _,fun i j hi hj=>?_⟩
 by_cases fr:free nd j=true
 ·have ZL :=eM.mp fr
  have hzj:=hz j ZL
  have k:=rS.mp ((ja gj len _).mp (hzj.sol R hj ZL)) i hi
  rw [jF,iJ (free nd), <- iM R.cols R.asc] at k
  have e1:fsum ((abk m).filter (free nd)) (fun c=>aQ bu i c*z j c)=aQ bu i j*z j j:=by
   refine oT _ j _ (ahu.filter _) (abr.mpr ⟨abl.mpr hj,fr⟩) fun c hc ne=>?_
   rw [hzj.no c ne (eM.mp (abr.mp hc).2)]
   grind
  rw [e1,hzj.one] at k
  have e2:fsum (nd.map (·.1)) (fun c=>aQ bu i c*(if free nd j=true then -(z j c) else if c=j then 1 else 0))=(-1)*fsum (nd.map (·.1)) (fun c=>aQ bu i c*z j c):=by
   rw [<- iK]
   refine cM _ fun c _=>?_
   rw [if_pos fr]
   grind
  rw [e2]
  grind
 ·have nf:∃y∈nd,y.1=j:=by
   apply abc
   intro z
   exact fr (eM.mpr fun y hy e=>z ⟨y,hy,e⟩)
  obtain ⟨y,hy,ey⟩:=nf
  rw [oT _ j _ nod (by rw [<- ey];exact aaj.mpr ⟨y,hy,rfl⟩) (fun c _ ne=>by
   show aQ bu i c*(if free nd j=true then -(z j c) else if c=j then 1 else 0)=0
   rw [if_neg fr,if_neg ne]
   grind)]
  show aQ bu i j=aQ bu i j*(if free nd j=true then -(z j j) else if j=j then 1 else 0)
  rw [if_neg fr,if_pos rfl]
  grind
theorem Rk.le {m N k:Nat}{bu:ξ}(h:Rk m bu N)(f:Fac bu.length m (aQ bu) k):N<=k:=by
 obtain ⟨T,B,b,os,lv,nd,gj,len,R,rfl⟩:=h
 obtain ⟨cs,BB,C,rfl,Oh⟩:=f
 apply abc
 intro lt
 have nod:(nd.map (·.1)).Nodup:=abw.mpr (R.asc.imp fun {a b} h=>aa' h)
 obtain ⟨x,h1,⟨p,hp,hpz⟩,h3⟩:=qw (cs.map fun c=>C c) (nd.map (·.1)) nod (by rw [ir,ir];omega)
 have VL:∀c,c∈nd.map (·.1)->c < m:=fun c hc=>by
  obtain ⟨y,hy,rfl⟩:=aaj.mp hc
  exact R.cols y hy
 obtain ⟨c,cm,cz,cb⟩:=zR (x:=x) m (fun j hj=>h1 j (fun z=>by have:=VL j z;omega)) ⟨p,hpz⟩
 have cin:c∈nd.map (·.1):=abc fun z=>cz (h1 c z)
 obtain ⟨y,hy,rfl⟩:=aaj.mp cin
 refine iL R cz cb ((ja gj len x).mpr (rS.mpr fun i hi=>?_)) y hy rfl
 rw [jF,iJ (free nd), <- iM R.cols R.asc,fT _ ((abk m).filter (free nd)) (fun j hj=>by
  rw [h1 j (fun z=>by
   obtain ⟨u,hu,e⟩:=aaj.mp z
   exact eM.mp (abr.mp hj).2 u hu e)]
  grind)]
 have e1:fsum (nd.map (·.1)) (fun j=>aQ bu i j*x j)=fsum (nd.map (·.1)) (fun j=>fsum cs (fun c=>BB i c*C c j*x j)):=by
  refine cM _ fun j hj=>?_
  rw [Oh i j hi (VL j hj)]
  have:=iK (x j) (fun c=>BB i c*C c j) cs
  rw [show fsum cs (fun c=>BB i c*C c j)*x j=x j*fsum cs (fun c=>BB i c*C c j) by grind, <- this]
  refine cM _ fun c _=>?_
  grind
 rw [e1,rR,fT _ cs (fun c hc=>?_)]
 ·grind
 ·have k:=h3 (C c) (aaj.mpr ⟨c,hc,rfl⟩)
  have:fsum (nd.map (·.1)) (fun a=>BB i c*C c a*x a)=BB i c*fsum (nd.map (·.1)) (fun p=>C c p*x p):=by
   rw [<- iK]
   refine cM _ fun a _=>?_
   grind
  rw [this,k]
  grind
theorem Rk.turn {m m' N N' :Nat}{bu Rl :ξ}(h:Rk m bu N)(h' :Rk m' Rl N')(e:∀i j,i < Rl.length->j < m' ->j < bu.length/\i < m/\aQ Rl i j=aQ bu j i):N' <=N:=by
 obtain ⟨cs,B,C,l,k⟩:=h.Oh
 refine h'.le ⟨cs,fun i c=>C c i,fun c j=>B j c,l,fun i j hi hj=>?_⟩
 obtain ⟨e1,e2,e3⟩:=e i j hi hj
 rw [e3,k _ _ e1 e2]
 exact cM _ fun c _=>by grind
theorem Rk.turned {m N N' :Nat}{bu:ξ}(h:Rk m bu N)(h' :Rk bu.length ((abk m).map fun j=>gC bu j) N'):N' =N:=by
 have at' :∀i j,i < m->j < bu.length->aQ ((abk m).map fun j=>gC bu j) i j=aQ bu j i:=fun i j hi hj=>by
  have e:bu[j]? =some bu[j]:=gE hj
  rw [tH (qs:=gC bu i) (by rw [Wp,aik hi];rfl),tH e]
  unfold gC
  rw [aaU,Wp,e]
  rfl
 refine Nat.le_antisymm (h.turn h' fun i j hi hj=>?_) (h'.turn h fun i j hi hj=>?_)
 ·rw [ir,abJ] at hi
  exact ⟨hj,hi,at' i j hi hj⟩
 ·exact ⟨by rw [ir,abJ];exact hj,hi,(at' j i hj hi).symm⟩
theorem EC {H:Hp}{bT:Ε}{bu:ξ}{T B m j:Nat}(h:fJ K H bT bu)(sh:Shape T B m bu)(hj:j < m):eT K H (xR bT j) (gC bu j):=by
 refine ⟨by simp [xR,gC,h.1],fun i u q e1 e2=>?_⟩
 unfold xR at e1
 unfold gC at e2
 rw [Wp] at e1 e2
 obtain ⟨vs,ev,rfl⟩:=aaM.mp e1
 obtain ⟨qs,eq,rfl⟩:=aaM.mp e2
 have N:=h.2 i vs qs ev eq
 have hl:=(sh qs (aaa eq)).1
 have lN:=N.1
 refine N.2 j _ _ ?_ ?_
 ·rw [aaU,gE (by omega)];rfl
 ·rw [aaU,gE (by omega)];rfl
def eQ (pins:π)(bars:ς):List (List (Int×Int)):=(abk (2*pins.length)).map fun j=>gC (bO pins bars) j
theorem iN {α β:Type}{F:α->β->Prop}:∀{l₁:List α} {l₂:List β} {a:α} {b:β},Paired F l₁ l₂->F a b->Paired F (l₁++[a]) (l₂++[b])
 | _,_,_,_,.nil,h=>.cons h .nil
 | _,_,_,_,.cons h t,h' =>.cons h (iN t h')
theorem km {pins:π}{bars:ς}:∀qs∈eQ pins bars,qs.length=aI pins+bars.length:=fun qs hq=>by
 have dl:(bO pins bars).length=aI pins+bars.length:=fe pins bars
 obtain ⟨i,_,rfl⟩:=aaj.mp hq
 unfold gC
 rw [ir,dl]
theorem jb (pins:π)(bars:ς):(eQ pins bars).length=2*pins.length:=by unfold eQ;simp
theorem vP {H:Hp}{pins:π}{bars:ς}{bT:Ε}(g:c7 pins bars)(h:fJ K H bT (bO pins bars)):fJ K H (j6 bT (2*pins.length)) (eQ pins bars):=⟨by unfold j6 eQ;simp,fun i vs qs e1 e2=>by
 unfold j6 at e1
 unfold eQ at e2
 rw [Wp] at e1 e2
 obtain ⟨j,ej,rfl⟩:=aaM.mp e1
 rw [ej] at e2
 cases e2
 exact EC h (ff g) (abl.mp (aaa ej))⟩
theorem oZ {pins:π}{bars:ς}(g:c7 pins bars):Shape 90 90 (aI pins+bars.length) (eQ pins bars):=fun qs hq=>by
 refine ⟨km qs hq,?_⟩
 obtain ⟨j,hj,rfl⟩:=aaj.mp hq
 exact QV (ff g) (abl.mp hj)
theorem zT {pins:π}{bars:ς}(g:c7 pins bars):bb (90+90*(aI pins+bars.length)) (min (aI pins+bars.length) (eQ pins bars).length)<=140000:=by
 have gl:=g.lp
 have gb:=g.lb
 have wl:aI pins<=2*pins.length:=fE pins g.lw
 unfold bb
 rw [jb]
 have h1:min (aI pins+bars.length) (2*pins.length)+1<=19:=by omega
 have h2:90+90*(aI pins+bars.length)+11<=7121:=by omega
 exact aam (abF h1 h2) (by decide)
theorem zU {pins:π}{bars:ς}{H:Hp}{bT:Ε}(g:c7 pins bars)(h:fJ K H bT (bO pins bars)):∀vs∈bT,((2*pins.length:Nat):Int)<=(vs.length:Int):=fun vs hv=>by
 obtain ⟨i,ei⟩:=aaF hv
 have hi:=(be.mp ei).1
 have l1:=h.1
 obtain ⟨qs,eq⟩:∃qs,(bO pins bars)[i]? =some qs:=⟨_,gE (by omega)⟩
 have l2:=(h.2 i vs qs ei eq).1
 have l3:=(ff g qs (aaa eq)).1
 omega
def Jz (m:Nat)(bu:ξ)(j:Nat):Prop:=∃z:Nat->Rat,z j≠0/\(∀i,j < i->z i=0)/\∀qs∈bu,Ty.sumTo m (fun i=>vl (qs.getD i (0,1))*z i)=0
def Nd (m:Nat)(bu:ξ)(cs:Δ):Prop:=cs.Pairwise (· < ·)/\∀c,c∈cs ↔ c < m/\¬ Jz m bu c
theorem Nd.eq {m:Nat}{bu:ξ}{cs yd :Δ}(h:Nd m bu cs)(h' :Nd m bu yd):cs=yd :=nH h.1 h'.1 fun c=>(h.2 c).trans (h'.2 c).symm
section
variable {m Z:Nat}{bu:ξ}{nd:θ}
theorem Ox (asc:(nd.map (·.1)).Pairwise (· < ·))(cl:∀y∈nd,y.1 < m)(h:∀j,j < m->((∀y∈nd,y.1≠j) ↔ Jz m bu j)):Nd m bu (nd.map (·.1)):=by
 refine ⟨asc,fun c=>⟨fun hc=>?_,fun hc=>?_⟩⟩
 ·obtain ⟨y,hy,rfl⟩:=aaj.mp hc
  exact ⟨cl y hy,fun f=>(h y.1 (cl y hy)).mpr f y hy rfl⟩
 ·apply abc
  intro no
  exact hc.2 ((h c hc.1).mp fun y hy e=>no (aaj.mpr ⟨y,hy,e⟩))
theorem VM {T B:Nat}{os lv:ζ}(gj:rP T B m bu os)(len:∀qs∈bu,qs.length=m)(R:Red os m m Z nd lv):Nd m bu (nd.map (·.1)):=Ox R.asc R.cols fun j hj=>by
 constructor
 ·intro fr
  obtain ⟨z,hz⟩:=x8.ex j R.asc fr
  exact ⟨z,by rw [hz.one];decide,fun i hi=>x8.behind R hz hi,(ja gj len z).mp (x8.sol R hj hz fr)⟩
 ·rintro ⟨z,z1,zb,hz⟩
  exact iL R z1 zb ((ja gj len z).mpr hz)
theorem VN {ws:List Wl}{es lv:ζ}(gj:k8 m bu.length ws es)(wl:∀(i:Nat) (w:Wl) (qs:τ),ws[i]? =some w->bu[i]? =some qs->KI 90 90 m qs w)(len:∀qs∈bu,qs.length=m)(R:Red es (m+bu.length) m Z nd lv):Nd m bu (nd.map (·.1)):=Ox R.asc R.cols fun j hj=>by
 constructor
 ·intro fr
  obtain ⟨z,hz⟩:=x8.ex j R.asc fr
  have zb:∀i,j < i->z i=0:=fun i hi=>x8.behind R hz hi
  exact ⟨z,by rw [hz.one];decide,zb,(oX gj wl len z (fun i hi=>zb i (by omega))).mp (x8.sol R hj hz fr)⟩
 ·rintro ⟨z,z1,zb,hz⟩
  exact iL R z1 zb ((oX gj wl len z (fun i hi=>zb i (by omega))).mpr hz)
end
theorem jG {α:Type}(p:α->Bool):∀l:List α,(l.filter p).length+(l.filter fun x=> !p x).length=l.length
 | []=>rfl
 | a::l=>by
  have ih:=jG p l
  cases h:p a
  ·rw [abC (by simp [h]),abB (by simp [h])]
   simp only [abf]
   omega
  ·rw [abB h,abC (by simp [h])]
   simp only [abf]
   omega
theorem rT {T B m Z:Nat}{bu:ξ}{os lv:ζ}{nd:θ}(gj:rP T B m bu os)(len:∀qs∈bu,qs.length=m)(R:Red os m m Z nd lv):((abk m).filter (free nd)).length+(nd.map (·.1)).length=m/\Rk m bu (nd.map (·.1)).length:=by
 have h:=jG (free nd) (abk m)
 rw [<- iM R.cols R.asc,abJ] at h
 exact ⟨h,T,B,Z,os,lv,nd,gj,len,R,by rw [ir]⟩
theorem mj {f g:aJ->List Rat}:∀{l:π},(∀x∈l,f x=g x)->l.flatMap f=l.flatMap g
 | [],_=>rfl
 | x::l,h=>by rw [aa_,aa_,h x aaK,mj fun y hy=>h y (aaE _ hy)]
theorem o_:∀(pins:π) (l:List Rat),(pins.map (·.nm)).Nodup->l.length=aI pins->∃U:Str->List Rat,(∀q∈pins,(U q.nm).length=q.ws.length)/\(pins.flatMap fun q=>U q.nm)=l
 | [],l,_,h=>⟨fun _=>[],(fun q hq=>nomatch hq),by
  have:l=[]:=ab4.mp h
  rw [this]
  rfl⟩
 | q::ps,l,nd,h=>by
  rw [aaR,abe] at nd
  have hw:aI (q::ps)=q.ws.length+aI ps:=by
   unfold aI
   rw [aa_,aat]
  obtain ⟨U,h1,h2⟩:=o_ ps (l.drop q.ws.length) nd.2 (by rw [abG];omega)
  have ne:∀r∈ps,r.nm≠q.nm:=fun r hr z=>nd.1 (by rw [<- z];exact aaj.mpr ⟨r,hr,rfl⟩)
  refine ⟨fun x=>if x=q.nm then l.take q.ws.length else U x,fun r hr=>?_,?_⟩
  ·rcases aa8.mp hr with e | hr
   ·rw [e]
    show (if q.nm=q.nm then l.take q.ws.length else U q.nm).length=_
    rw [if_pos rfl,abd]
    omega
   ·show (if r.nm=q.nm then l.take q.ws.length else U r.nm).length=_
    rw [if_neg (ne r hr)]
    exact h1 r hr
  ·rw [aa_]
   show (if q.nm=q.nm then l.take q.ws.length else U q.nm)++_=l
   rw [if_pos rfl,mj (g:=fun r=>U r.nm) (fun r hr=>if_neg (ne r hr)),h2,acG]
theorem pd:∀(bars:ς) (l:List Rat),(bars.map (·.nm)).Nodup->l.length=bars.length->∃T:Str->Rat,(bars.map fun b=>T b.nm)=l
 | [],l,_,h=>⟨fun _=>0,(ab4.mp h).symm⟩
 | b::bs,[],_,h=>(nomatch h)
 | b::bs,r::l,nd,h=>by
  rw [aaR,abe] at nd
  obtain ⟨T,hT⟩:=pd bs l nd.2 (by simpa using h)
  refine ⟨fun x=>if x=b.nm then r else T x,?_⟩
  rw [aaR]
  show (if b.nm=b.nm then r else T b.nm)::_=r::l
  rw [if_pos rfl]
  congr 1
  refine Eq.trans (abI fun c hc=>?_) hT
  exact if_neg fun z=>nd.1 (by rw [<- z];exact aaj.mpr ⟨c,hc,rfl⟩)
theorem vQ {pins:π}{bars:ς}(g:c7 pins bars)(wi:∀p∈pins,D' p.ws){j:Nat}(hj:j < aI pins+bars.length)(h:Jz (aI pins+bars.length) (eQ pins bars) j):aI pins<=j:=by
 obtain ⟨z,z1,zb,hz⟩:=h
 let l:List Rat:=(abk (aI pins+bars.length)).map fun i=>z i / z j
 have ll:l.length=aI pins+bars.length:=by simp [l]
 have la:∀i,i < aI pins+bars.length->l[i]? =some (z i / z j):=fun i hi=>by
  show ((abk (aI pins+bars.length)).map fun i=>z i / z j)[i]? =_
  rw [Wp,aik hi]
  rfl
 obtain ⟨U,u1,u2⟩:=o_ pins (l.take (aI pins)) g.np (by rw [abd];omega)
 obtain ⟨T,hT⟩:=pd bars (l.drop (aI pins)) g.nb (by rw [abG];omega)
 have e:vN pins bars T U=l:=by
  unfold vN
  rw [u2,hT,acG]
 have no:x_ pins bars T U:=D_ g u1 fun c hc=>by
  have lq:(gC (bO pins bars) c).length=aI pins+bars.length:=by
   unfold gC
   rw [ir]
   exact fe pins bars
  have:=hz (gC (bO pins bars) c) (aaj.mpr ⟨c,abl.mpr hc,rfl⟩)
  show sP (vN pins bars T U) _=0
  rw [<- Jw _ _ (by rw [lq,e];exact ll),lq,e]
  have e2:Ty.sumTo (aI pins+bars.length) (fun i=>vl ((gC (bO pins bars) c).getD i (0,1))*l.getD i 0)=Ty.sumTo (aI pins+bars.length) (fun i=>(1 / z j)*(vl ((gC (bO pins bars) c).getD i (0,1))*z i)):=oU _ _ _ fun i hi=>by
   have hl:l.getD i 0=z i / z j:=by rw [aaU,la i hi];rfl
   rw [hl]
   grind
  rw [e2,kR,this]
  grind
 refine Mh (T:=T) wi u1 no ?_ fun i r hi er=>?_
 ·rw [e,la j hj]
  congr 1
  grind
 ·rw [e] at er
  have KC :i < aI pins+bars.length:=by
   have:=(be.mp er).1
   omega
  rw [la i KC] at er
  have:=aaZ er
  rw [<- this,zb i hi]
  grind
theorem JA {cs:Δ}{w:Nat}(asc:cs.Pairwise (· < ·))(h:∀c,c < w->c∈cs):(cs.filter fun c=>decide (w<=c)).length+w=cs.length:=by
 have e:cs.filter (fun c=> !decide (w<=c))=abk w:=nH (asc.filter _) ahs fun c=>by
  rw [abr,abl]
  constructor
  ·rintro ⟨_,h2⟩
   simp at h2
   exact h2
  ·exact fun h2=>⟨h c h2,by simpa using h2⟩
 have:=jG (fun c=>decide (w<=c)) cs
 rw [e,abJ] at this
 exact this
theorem pf {pins:π}{bars:ς}(g:c7 pins bars):∀qs∈bO pins bars,qs.length=2*pins.length:=fun qs hq=>(ff g qs hq).1
def vR (u:HO):Prop:=(∀xs,u≠.tup xs)/\∀o xs,u≠.fj o (.tup xs)
theorem Oy {kvs:δ}:vR (.dK kvs):=⟨fun _ z=>(nomatch z),fun _ _ z=>(nomatch z)⟩
theorem JB {kvs:ψ}:vR (.dT kvs):=⟨fun _ z=>(nomatch z),fun _ _ z=>(nomatch z)⟩
theorem fD {H H' :Hp}{d:Addr}{u:HO}(e:H d=some u)(n:vR u)(k:aT d H H'):bx H H' :=fun b xs z=>by
 rcases z with z | ⟨o',z⟩
 ·exact .inl (k _ _ (fun c=>by rw [c,e] at z;cases z;exact n.1 _ rfl) z)
 ·exact .inr ⟨o',k _ _ (fun c=>by rw [c,e] at z;cases z;exact n.2 _ _ rfl) z⟩
def d3 (pins:π):List (Str×Nat):=pins.flatMap fun p=>[(p.nm,0),(p.nm,1)]
theorem fU:∀pins:List aJ,(d3 pins).length=2*pins.length
 | []=>rfl
 | p::ps=>by
  have:=fU ps
  unfold d3 at this ⊢
  rw [aa_,aat,this]
  simp
  omega
def gu (H:Hp)(v:V)(x:Str×Nat):Prop:=∃t,v=.ref t/\H t=some (.tup [.str x.1,.int (x.2:Int)])
theorem gu.same {H H' :Hp}{v:V}{x:Str×Nat}(h:gu H v x)(s:av H H'):gu H' v x:=by
 obtain ⟨t,a,b⟩:=h
 exact ⟨t,a,s _ _ b⟩
theorem gu.ks {H H' :Hp}{v:V}{x:Str×Nat}{d:Addr}{u:HO}(h:gu H v x)(e:H d=some u)(n:vR u)(k:aT d H H'):gu H' v x:=by
 obtain ⟨t,a,b⟩:=h
 exact ⟨t,a,k _ _ (fun z=>by rw [z,e] at b;cases b;exact n.1 _ rfl) b⟩
inductive nI (K:Frag)(C:Addr)(vs:η)(H:Hp)(Q:VK)(E_:XK):Prop where
 | mk (a:Addr) (pins:π) (bars:ς) (_:vs=[.ref a]) (_:vw K H C a pins bars) (_:c7 pins bars) (_:∀(r:Addr) (us:η) (H' :Hp),av H H' ->H r=none->H' r=some (.lst us)->Paired (gu H') us (d3 pins)->Q (.ref r) H'):nI K C vs H Q E_
theorem ye (ps:π)(p:aJ):d3 (ps++[p])=d3 ps++[(p.nm,0),(p.nm,1)]:=by
 unfold d3
 rw [ab9]
 simp
theorem iO:aG ["F","pairs","pin"] zao (ag eU):=sq
theorem vS {C:Addr}(D:Def K mg "pairs_of" eU zao)(MP:bj P w K mg base (a8 P w) 1 C "pins" zac (fK K C)):Fn P w K mg base (a8 P w) 2 "pairs_of" zao (nI K C):=by
 refine D.ok iO (fun vs H Q E h=>?_) (fun f bH A outer s H vs Q E hr h=>?_)
 ·obtain ⟨a,pins,bars,rfl,_⟩:=h
  rfl
 obtain ⟨a,pins,bars,rfl,R,g,q⟩:=h
 refine ⟨_,(ae (aA (i:=1) iO.nd rfl (aav rfl) (cD aa))
  (ae (bF PassesOwn.never rfl (bD (cp (k:=1) (pv 0) hr.mo (pY P w))) (aD (i:=2) iO.nd rfl (aav rfl)) (ak (bq (ip PySem.F.plainAttrs_list PySem.F.slot_list_extend PySem.F.type_list_extend BD (pv 1) (ar (cD (ar (a_ (ar (pv 2) (ar ah aa))) (ar (a_ (ar (pv 2) (ar ah aa))) aa))) aa)))))
  (ak (aK (pv 1))))),?_⟩
 refine ⟨(by show 0<=sizeLine;decide),?_⟩
 intro r nr;generalize eX:upd _ r _=H1;have ⟨s1,er⟩:=nw nr eX;clear eX
 have big:(40:Nat)<=sizeLine:=by decide
 have L2:2<=sizeLine:=by decide
 have gl:=g.lp
 have R1:=R.same s1
 obtain ⟨dx,pP,pW,pB,kP,kW,kB,F1,W1⟩:=R1.ex
 refine ⟨_,rfl,a,C,dx,_,_,_,rfl,F1.obj,rfl,MP,a,dx,pP,pW,pB,_,_,kP,kW,kB,rfl,F1,fun lp H2 s2 rN ka=>?_⟩
 rw [fm] at ka
 have Mc:lp≠r:=fun z=>by rw [z,er] at rN;cases rN
 refine ⟨lp,rfl,⟨_,aZ.of ka⟩,cC (K:=K) (a:=lp) (xs:=(pins.map (·.nm)).map V.str) (fun i σ H' =>∃(o2:Β) (us:η),σ=[some (.ref a),some (.ref r),o2]/\av H H' /\H' lp=some (.lst ((pins.map (·.nm)).map V.str))/\H' r=some (.lst us)/\Paired (gu H') us (d3 (pins.take i))) ⟨none,[],rfl,s1.trans s2,ka,s2 _ _ er,.nil⟩ (fun i σ H' _ h=>by
   obtain ⟨_,_,_,_,h,_⟩:=h
   exact aZ.of h) ?_ ?_⟩
 ·rintro i z σ H4 hi ⟨o2,us,rfl,s4,l4,r4,p4⟩
  rw [Wp,Wp] at hi
  obtain ⟨x,hx,rfl⟩:=aaM.mp hi
  obtain ⟨p,hp,rfl⟩:=aaM.mp hx
  have il:=(be.mp hp).1
  have lu:us.length<=18:=by
   have h1:=Paired.length p4
   rw [fU,abd] at h1
   omega
  refine ⟨_,rfl,.inl ⟨rfl,_,aZ.of r4⟩,_,rfl,L2,?_⟩
  intro t5 n5;generalize eX:upd _ t5 _=H5;have ⟨s5,e5⟩:=nw n5 eX;clear eX
  refine ⟨_,rfl,L2,?_⟩
  intro t6 n6;generalize eX:upd _ t6 _=H6;have ⟨s6,e6⟩:=nw n6 eX;clear eX
  refine ⟨L2,?_⟩
  intro l7 n7;generalize eX:upd _ l7 _=H7;have ⟨s7,e7⟩:=nw n7 eX;clear eX
  have ZO:=s5.trans (s6.trans s7)
  have r7:=ZO _ _ r4
  refine ⟨r,l7,us,_,rfl,rfl,r7,e7,(by simp;omega),?_⟩
  have ks:aT r H7 (upd H7 r (.lst (us++[.ref t5,.ref t6]))):=aT.upd
  have nt:vR (.lst us):=⟨fun _ z=>(nomatch z),fun _ _ z=>(nomatch z)⟩
  refine ⟨_,us++[.ref t5,.ref t6],rfl,fun b o e=>?_,?_,aj,?_⟩
  ·rw [aq (ao e nr)]
   exact ZO _ _ (s4 _ _ e)
  ·rw [aq Mc]
   exact ZO _ _ l4
  ·rw [take_snoc hp,ye]
   have p5:=iN (iN (Paired.bP p4 fun _ _ z=>z.same ZO) (show gu H7 (.ref t5) (p.nm,0) from ⟨t5,rfl,(s6.trans s7) _ _ e5⟩)) (show gu H7 (.ref t6) (p.nm,1) from ⟨t6,rfl,s7 _ _ e6⟩)
   rw [acH,acH] at p5
   exact Paired.bP p5 fun _ _ z=>z.ks r7 nt ks
 ·rintro σ H4 ⟨o2,us,rfl,s4,l4,r4,p4⟩
  rw [ir,ir,abS] at p4
  exact ⟨_,rfl,q r us H4 s4 nr r4 p4⟩
inductive zV (K:Frag)(C:Addr)(vs:η)(H:Hp)(Q:VK)(E_:XK):Prop where
 | mk (a:Addr) (pins:π) (bars:ς) (_:vs=[.ref a]) (_:vw K H C a pins bars) (_:c7 pins bars) (_:(∀p∈pins,D' p.ws)) (_:∀(d:Addr) (kvs:δ) (cs:Δ) (H' :Hp),av H H' ->H' d=some (.dK kvs)->Nd (aI pins+bars.length) (eQ pins bars) cs->Rk (aI pins+bars.length) (eQ pins bars) cs.length->(∀c,c < aI pins->c∈cs)->kvs.length+cs.length=aI pins+bars.length->Q (.ref d) H'):zV K C vs H Q E_
theorem cN:aG ["F","rows","bars","ways","spares","column","numbers"] zao (ag dW):=sq
theorem tI {C:Addr}(D:Def K mg "spares_of" dW zao)(aL:mg "len"=none)(MP:bj P w K mg base (a8 P w) 1 C "pins" zac (fK K C))(MB:bj P w K mg base (a8 P w) 1 C "bars" zac (hJ K C))
  (yf:Fn P w K mg base (a8 P w) 38 "draw_rows" zao (e_ K C)) (Rm:Fn P w K mg base (a8 P w) 1 "turned" zai j7) (fM:Fn P w K mg base (a8 P w) 36 "spare_columns" zai (kg K)) (Rn:Fn P w K mg base (a8 P w) 3 "pulls_and_pushes" zaq (Md K C)):
  Fn P w K mg base (a8 P w) 39 "spares_of" zao (zV K C):=by
 refine D.ok cN (fun vs H Q E h=>?_) (fun f bH A outer s H vs Q E hr h=>?_)
 ·obtain ⟨a,pins,bars,rfl,_⟩:=h
  rfl
 obtain ⟨a,pins,bars,rfl,R,g,wi,q⟩:=h
 have gl:=g.lp
 have gb:=g.lb
 have wl:aI pins<=2*pins.length:=fE pins g.lw
 have lcq:=jb pins bars
 have dl:(bO pins bars).length=aI pins+bars.length:=fe pins bars
 refine ⟨_,(ae (aA (i:=1) cN.nd rfl (aav rfl) (aE yf hr.mo (pY P w) (ar (pv 0) aa)))
  (ae (aA (i:=2) cN.nd rfl (aav rfl) (cp (k:=1) (pv 0) hr.mo (pY P w)))
  (ae (aA (i:=3) cN.nd rfl (aav rfl) (aF b9 (aC au rfl aL bt (ar (pv 1) aa)) (aC au rfl aL bt (ar (pv 2) aa))))
  (ae (aA (i:=4) cN.nd rfl (aav rfl) dD)
  (ae (i0 (bF PassesOwn.never rfl (gJ (aE fM hr.mo (pY P w) (ar (aE Rm hr.mo (pY P w) (ar (pv 1) (ar (aF bS ah (aC au rfl aL bt (ar (cp (k:=1) (pv 0) hr.mo (pY P w)) aa))) aa))) (ar (aC au rfl aL bt (ar (pv 1) aa)) aa)))) (dy rfl (aS (aD (i:=5) cN.nd rfl (aav rfl)) (aS (aD (i:=6) cN.nd rfl (aav rfl)) b7))) (ak (dj (cX hr) (pv 4) (bB bc (pv 2) (aF b9 (pv 5) (pv 3)) (fun _ _=>rfl)) (aE Rn hr.mo (pY P w) (ar (pv 0) (ar (pv 6) aa))) rfl))))
  (ak (aK (pv 4)))))))),?_⟩
 refine ⟨_,rfl,a,pins,bars,rfl,R,g,fun r ls bT H1 s1 nr RR=>?_⟩
 obtain ⟨dx,pP,pW,pB,kP,kW,kB,F0,W0⟩:=R.ex
 have F1:=F0.same s1
 refine ⟨_,rfl,a,C,dx,_,_,_,rfl,F1.obj,rfl,MB,a,dx,pP,pW,pB,_,_,kP,kW,kB,rfl,F1,fun lb H2 s2 Vt xW=>?_⟩
 rw [kb] at xW
 have VO:=RR.same s2
 refine ⟨_,rfl,r,_,rfl,.inl (aZ.of VO.mi.1),_,rfl,lb,_,rfl,.inl (aZ.of xW),_,_,rfl,rfl,?_⟩
 intro d qb;generalize eX:upd _ d _=H3;have ⟨s3,e3⟩:=nw qb eX;clear eX
 have RR3:=VO.same s3
 have F3:=F1.same (s2.trans s3)
 have tJ:=s1.trans (s2.trans s3)
 have nmp:((pins.map fun p=>(p.nm,jB p.sp)).map (·.1))=pins.map (·.nm):=by rw [aa5];rfl
 have VP:ls.length=aI pins+bars.length:=by rw [RR.mi.2.1,RR.num.1,dl]
 refine ⟨_,rfl,_,rfl,a,C,dx,_,_,_,rfl,F3.obj,rfl,MP,a,dx,pP,pW,pB,_,_,kP,kW,kB,rfl,F3,fun lp H4 s4 rN ka=>?_⟩
 rw [nmp] at ka
 have Ro:=RR3.same s4
 have sz4:((pins.map (·.nm)).map V.str).length=pins.length:=by rw [ir,ir]
 have c2:iD 2 ((pins.length:Nat):Int):=⟨by decide+kernel,aam (intBits_le_64 (by omega) (by omega)) (by decide)⟩
 refine ⟨lp,_,rfl,.inl (aZ.of ka),_,_,rfl,rfl,(by rw [ir,ir];exact c2),?_⟩
 have em:(2*((((pins.map (·.nm)).map V.str).length:Nat):Int))=((2*pins.length:Nat):Int):=by rw [sz4];omega
 refine ⟨r,ls,bT,((2*pins.length:Nat):Int),congrArg (fun i:Int=>[V.ref r,V.int i]) em,Ro.mi,by omega,by omega,by omega,zU g Ro.num,fun c cs H5 s5 M5=>?_⟩
 rw [ahS] at M5
 have VQ:=Ro.same s5
 refine ⟨_,rfl,r,_,rfl,.inl (aZ.of VQ.mi.1),?_⟩
 have emm:(((ls.map V.ref).length:Nat):Int)=((aI pins+bars.length:Nat):Int):=by rw [ir,VP]
 refine ⟨c,aI pins+bars.length,cs,_,eQ pins bars,90,90,140000,congrArg (fun i:Int=>[V.ref c,V.int i]) emm,M5,vP g VQ.num,oZ g,by omega,by omega,by decide,by omega,by decide,zT g,by decide,fun sd eO yd os lv nd H6 s6 x6 qc JC gj RZ CH=>?_⟩
 have eW:((((ls.map V.ref).length:Nat):Int) - ((((bars.map (·.nm)).map V.str).length:Nat):Int))=(aI pins:Int):=by
  rw [ir,ir,ir,VP]
  omega
 have FK:=s4.trans (s5.trans s6)
 have Rp:=tJ.trans FK
 have uC:H sd=none:=(tJ.trans (s4.trans s5)).free x6
 have Hd:H d=none:=(s1.trans s2).free qb
 have Rr:=FK _ _ e3
 have yg:=FK _ _ (s3 _ _ xW)
 have yh:d≠sd:=fun z=>by
  have:=(s4.trans s5) _ _ e3
  rw [z,x6] at this
  cases this
 refine ⟨sd,eO,rfl,qc,fun o=>?_⟩
 have k0:aT sd H6 (upd H6 sd (.fj o (.dK eO))):=aT.upd
 have KL:eO.length=yd.length:=JC.1
 have ndS:=VM gj km RZ
 have ZJ:yd.length<=aI pins+bars.length:=by
  have:=congrArg abX CH
  have h2:=abz (free nd) (abk (aI pins+bars.length))
  rw [abJ] at h2
  omega
 have ndc:yd.Nodup:=by
  rw [CH]
  exact ahu.filter _
 have wcs:∀c∈yd,c < aI pins+bars.length/\aI pins<=c:=fun c hc=>by
  rw [CH] at hc
  obtain ⟨h1,h2⟩:=abr.mp hc
  have dz :=abl.mp h1
  refine ⟨dz,vQ g wi dz ?_⟩
  apply abc
  intro no
  obtain ⟨y,hy,e⟩:=aaj.mp ((ndS.2 c).mpr ⟨dz,no⟩)
  exact eM.mp h2 y hy e
 refine dQ (d:=sd) (o:=o) (kvs:=eO) (fun t σ H' =>∃(o5 o6:Β) (kvs:δ),σ=[some (.ref a),some (.ref r),some (.ref lb),some (.int ((((ls.map V.ref).length:Nat):Int) - ((((bars.map (·.nm)).map V.str).length:Nat):Int))),some (.ref d),o5,o6]/\av H H' /\H' lb=some (.lst ((bars.map (·.nm)).map V.str))/\KJ H' (aI pins+bars.length) eO yd /\H' sd=some (.fj o (.dK eO))/\H' d=some (.dK kvs)/\kvs.length=t/\∀k∈kvs.map (·.1),∃c∈yd.take t,∃x,(bars.map (·.nm))[c - aI pins]? =some x/\k=.inr x) ⟨none,none,[],rfl,fun b o' e=>k0 _ _ (ao e uC) (Rp _ _ e),k0 _ _ (fun z=>by rw [z,qc] at yg;cases yg) yg,JC.mono fun b xs e=>k0 _ _ (fun z=>by rw [z,qc] at e;cases e) e,aj,k0 _ _ yh Rr,rfl,fun k h=>nomatch h⟩ (fun t σ H' _ h=>by
   obtain ⟨_,_,_,_,_,_,_,h,_⟩:=h
   exact h) ?_ ?_
 ·rintro t k y σ H7 p7 nE ⟨o5,o6,kvs,rfl,s7,mN,vT,xc,d7,xf,xg⟩ n7
  have ht:t < eO.length:=(be.mp nE).1
  obtain ⟨x,ex⟩:∃x,yd[t]? =some x:=⟨_,gE (by omega)⟩
  have mx:=aaa ex
  obtain ⟨ek,lx,us,ey,Rt,Oz⟩:=vT.2 t (k,y) x nE ex
  have Ru :k=.inl (x:Int):=ek
  have uB :y=.ref lx:=ey
  subst Ru
  subst uB
  have t7:=aH n7 (.tup [kV (.inl (x:Int)),.ref lx])
  have e7:(upd H7 p7 (.tup [kV (.inl (x:Int)),.ref lx])) p7=some (.tup [kV (.inl (x:Int)),.ref lx]):=aj
  generalize upd H7 p7 (.tup [kV (.inl (x:Int)),.ref lx])=H8 at t7 e7 ⊢
  have s8:=s7.trans t7
  refine ⟨p7,_,rfl,bQ.of e7,rfl,_,_,rfl,_,_,rfl,rfl,?_⟩
  obtain ⟨cx,wc⟩:=wcs x mx
  refine ⟨_,rfl,_,rfl,a,lx,pins,bars,us,rfl,R.same s8,g,t7 _ _ Rt,Oz,fun p H9 s9=>?_⟩
  obtain ⟨b,eb⟩:∃b,bars[x - aI pins]? =some b:=⟨_,gE (by omega)⟩
  have kF:=t7.trans s9
  have d9:=kF _ _ d7
  have ai:je ((bars.map (·.nm)).map V.str) ((x:Int) - ((((ls.map V.ref).length:Nat):Int) - ((((bars.map (·.nm)).map V.str).length:Nat):Int)))=some (.str b.nm):=by
   rw [eW,show (x:Int) - (aI pins:Int)=((x - aI pins:Nat):Int) by omega]
   exact b8 (by rw [Wp,Wp,eb];rfl)
  refine ⟨_,rfl,_,rfl,_,rfl,_,rfl,_,_,rfl,rfl,lb,_,_,_,rfl,rfl,aZ.of (kF _ _ mN),ai,d,_,rfl,gH.k (k:=.inr b.nm) d9 (aaz (show kvs.length<=1000 by omega) (by decide)),?_⟩
  have f1:(bars.map (·.nm))[x - aI pins]? =some b.nm:=by rw [Wp,eb];rfl
  have zW:(acp b.nm:Key)∉kvs.map (·.1):=fun z=>by
   obtain ⟨c,hc,x',AR,e'⟩:=xg _ z
   have e'' :b.nm=x' :=abV e'
   rw [<- e''] at AR
   have e5:=cB g.nb f1 AR
   obtain ⟨_,wc'⟩:=wcs c (List.mem_of_mem_take hc)
   obtain ⟨i,ei⟩:=aaF hc
   have hi:i < t:=by
    have:=(be.mp ei).1
    rw [abd] at this
    omega
   rw [abK hi,show c=x by omega] at ei
   have:=cB ndc ei ex
   omega
  rw [cQ _ (cH zW)]
  have ks:aT d H9 (upd H9 d (.dK (kvs++[(.inr b.nm,.ref p)]))):=aT.upd
  refine ⟨_,_,kvs++[(.inr b.nm,.ref p)],rfl,fun b' o' e=>?_,?_,?_,?_,aj,by rw [aat,xf];rfl,fun k hk=>?_⟩
  ·exact ks _ _ (ao e Hd) (s9 _ _ (s8 _ _ e))
  ·exact ks _ _ (fun z=>by rw [z,d7] at mN;cases mN) (kF _ _ mN)
  ·exact vT.mono fun b xs e=>ks _ _ (fun z=>by rw [z,d7] at e;cases e) (kF _ _ e)
  ·exact ks _ _ (abb yh) (kF _ _ xc)
  ·rw [aa1] at hk
   rw [take_snoc ex]
   rcases aaQ.mp hk with h | h
   ·obtain ⟨j,hj,z⟩:=xg _ h
    exact ⟨j,aaQ.mpr (.inl hj),z⟩
   ·exact ⟨x,aaQ.mpr (.inr aaK),b.nm,f1,by simpa using h⟩
 ·rintro σ H7 ⟨o5,o6,kvs,rfl,s7,mN,vT,xc,d7,xf,xg⟩
  have kS:aT sd H7 (upd H7 sd (.dK eO)):=aT.upd
  refine ⟨sd,o,eO,xc,fun o' u' z=>(by have z' :H sd=some (.fj o' u'):=z;rw [uC] at z';cases z'),_,rfl,?_⟩
  obtain ⟨c1,c2⟩:=rT gj km RZ
  refine q d kvs _ _ (fun b' o' e=>kS _ _ (ao e uC) (s7 _ _ e)) (kS _ _ yh d7) ndS c2 (fun c hc=>(ndS.2 c).mpr ⟨by omega,fun f=>?_⟩) (by rw [xf,KL,CH];exact c1)
  have:=vQ g wi (by omega) f
  omega
theorem ED {pins:π}{x:Str×Nat}(h:x∈d3 pins):x.1∈pins.map (·.nm)/\x.2<=1:=by
 unfold d3 at h
 obtain ⟨p,hp,h⟩:=ag_.mp h
 rcases aa8.mp h with e | h
 ·rw [e]
  exact ⟨aaj.mpr ⟨p,hp,rfl⟩,abj _⟩
 ·rw [aaT.mp h]
  exact ⟨aaj.mpr ⟨p,hp,rfl⟩,aas _⟩
theorem jH {α β:Type}{R:α->β->Prop}:∀{us:List α} {l:List β},Paired R us l->∀{i:Nat} {b:β},l[i]? =some b->∃u,us[i]? =some u/\R u b
 | _,_,.nil,i,b,e=>by simp at e
 | _,_,.cons h t,0,b,e=>by
  cases e
  exact ⟨_,rfl,h⟩
 | _,_,.cons h t,i+1,b,e=>by
  obtain ⟨u,a,c⟩:=jH t (i:=i) (b:=b) (by simpa using e)
  exact ⟨u,by simpa using a,c⟩
theorem rV {pins:π}(np:(pins.map (·.nm)).Nodup):(d3 pins).Nodup:=by
 induction pins with
 | nil=>exact aif
 | cons p ps ih=>
  rw [aaR,abe] at np
  have e:d3 (p::ps)=[(p.nm,0),(p.nm,1)]++d3 ps:=rfl
  rw [e,acL]
  refine ⟨by simp,ih np.2,fun a ha b hb z=>np.1 ?_⟩
  have h1:=(ED hb).1
  rw [<- z] at h1
  rcases aa8.mp ha with y | y
  ·rw [y] at h1
   exact h1
  ·rw [aaT.mp y] at h1
   exact h1
def k_ (x:Str×Nat):List Key:=[.inr x.1,.inl (x.2:Int)]
theorem vU {x y:Str×Nat}(h:k_ x=k_ y):x=y:=by
 unfold k_ at h
 injection h with h1 h2
 injection h2 with h2 _
 have h3:=ahj h2
 exact ahy (abV h1) (by omega)
inductive tK (K:Frag)(C:Addr)(vs:η)(H:Hp)(Q:VK)(E_:XK):Prop where
 | mk (a:Addr) (pins:π) (bars:ς) (_:vs=[.ref a]) (_:vw K H C a pins bars) (_:c7 pins bars) (_:∀(d:Addr) (kvs:ψ) (cs:Δ) (H' :Hp),av H H' ->H' d=some (.dT kvs)->Nd (2*pins.length) (bO pins bars) cs->Rk (2*pins.length) (bO pins bars) cs.length->kvs.length+cs.length=2*pins.length->Q (.ref d) H'):tK K C vs H Q E_
theorem dE:aG ["F","pairs","motions","column","numbers"] zao (ag dm):=sq
theorem qz {C:Addr}(D:Def K mg "motions_of" dm zao)(aL:mg "len"=none)
  (jI:Fn P w K mg base (a8 P w) 2 "pairs_of" zao (nI K C)) (yf:Fn P w K mg base (a8 P w) 38 "draw_rows" zao (e_ K C)) (fM:Fn P w K mg base (a8 P w) 36 "spare_columns" zai (kg K)) (Rv:Fn P w K mg base (a8 P w) 2 "motion_from" zaq (kc K C)):
  Fn P w K mg base (a8 P w) 39 "motions_of" zao (tK K C):=by
 refine D.ok dE (fun vs H Q E h=>?_) (fun f bH A outer s H vs Q E hr h=>?_)
 ·obtain ⟨a,pins,bars,rfl,_⟩:=h
  rfl
 obtain ⟨a,pins,bars,rfl,R,g,q⟩:=h
 have gl:=g.lp
 have gb:=g.lb
 have wl:(pins.flatMap fun p=>p.ws).length<=2*pins.length:=fE pins g.lw
 have dl:(bO pins bars).length=(pins.flatMap fun p=>p.ws).length+bars.length:=fe pins bars
 refine ⟨_,(ae (aA (i:=1) dE.nd rfl (aav rfl) (aE jI hr.mo pX (ar (pv 0) aa)))
  (ae (aA (i:=2) dE.nd rfl (aav rfl) vi)
  (ae (i0 (bF PassesOwn.never rfl (gJ (aE fM hr.mo pX (ar (aE yf hr.mo pX (ar (pv 0) aa)) (ar (aC au rfl aL bt (ar (pv 1) aa)) aa)))) (dy rfl (aS (aD (i:=3) dE.nd rfl (aav rfl)) (aS (aD (i:=4) dE.nd rfl (aav rfl)) b7))) (ak (dj (cX hr) (pv 2) (bB bc (pv 1) (pv 3) (fun _ _=>rfl)) (aE Rv hr.mo pX (ar (pv 0) (ar (pv 4) aa))) rfl))))
  (ak (aK (pv 2)))))),?_⟩
 refine ⟨_,rfl,a,pins,bars,rfl,R,g,fun r us H1 s1 nr er pr=>?_⟩
 intro d qb;generalize eX:upd _ d _=H2;have ⟨s2,e2⟩:=nw qb eX;clear eX
 have qu:=s1.trans s2
 have VR:us.length=2*pins.length:=by rw [Paired.length pr,fU]
 refine ⟨_,rfl,a,pins,bars,rfl,R.same qu,g,fun rr ls bT H3 s3 nrr RR=>?_⟩
 have r3:=s3 _ _ (s2 _ _ er)
 refine ⟨_,rfl,r,_,rfl,.inl (aZ.of r3),?_⟩
 have sh:Shape 90 90 (2*pins.length) (bO pins bars):=ff g
 have zz:bb (90+90*(2*pins.length)) (min (2*pins.length) (bO pins bars).length)<=33000:=by
  unfold bb
  have h1:min (2*pins.length) (bO pins bars).length+1<=19:=by omega
  have h2:90+90*(2*pins.length)+11<=1721:=by omega
  exact aam (abF h1 h2) (by decide)
 refine ⟨rr,2*pins.length,ls,bT,bO pins bars,90,90,33000,(by rw [VR];rfl),RR.mi,RR.num,sh,by omega,by omega,by decide,by omega,by decide,zz,by decide,fun sd eO cs os lv nd H6 s6 x6 qc JC gj RZ CH=>?_⟩
 have Rw:=s3.trans s6
 have Rp:=qu.trans Rw
 have uC:H sd=none:=(qu.trans s3).free x6
 have Hd:H d=none:=s1.free qb
 have Rr:=Rw _ _ e2
 have Rx:=s6 _ _ r3
 have yh:d≠sd:=fun z=>by
  have:=s3 _ _ e2
  rw [z,x6] at this
  cases this
 refine ⟨sd,eO,rfl,qc,fun o=>?_⟩
 have k0:aT sd H6 (upd H6 sd (.fj o (.dK eO))):=aT.upd
 have KL:eO.length=cs.length:=JC.1
 have ZJ:cs.length<=2*pins.length:=by
  have:=congrArg abX CH
  have h2:=abz (free nd) (abk (2*pins.length))
  rw [abJ] at h2
  omega
 have ndc:cs.Nodup:=by
  rw [CH]
  exact ahu.filter _
 have pr6:Paired (gu H6) us (d3 pins):=Paired.bP pr fun _ _ z=>z.same (s2.trans Rw)
 refine dQ (d:=sd) (o:=o) (kvs:=eO) (fun t σ H' =>∃(o3 o4:Β) (kvs:ψ),σ=[some (.ref a),some (.ref r),some (.ref d),o3,o4]/\av H H' /\H' r=some (.lst us)/\Paired (gu H') us (d3 pins)/\KJ H' (2*pins.length) eO cs/\H' sd=some (.fj o (.dK eO))/\H' d=some (.dT kvs)/\kvs.length=t/\∀k∈kvs.map (·.1),∃j∈cs.take t,∃x,(d3 pins)[j]? =some x/\k=k_ x) ⟨none,none,[],rfl,fun b o' e=>k0 _ _ (ao e uC) (Rp _ _ e),k0 _ _ (fun z=>by rw [z,qc] at Rx;cases Rx) Rx,Paired.bP pr6 fun _ _ z=>z.ks qc Oy k0,JC.mono fun b xs e=>k0 _ _ (fun z=>by rw [z,qc] at e;cases e) e,aj,k0 _ _ yh Rr,rfl,fun k h=>nomatch h⟩ (fun t σ H' _ h=>by
   obtain ⟨_,_,_,_,_,_,_,_,h,_⟩:=h
   exact h) ?_ ?_
 ·rintro t k y σ H7 p7 nE ⟨o3,o4,kvs,rfl,s7,JD,Ry,vT,xc,d7,xf,xg⟩ n7
  have ht:t < eO.length:=(be.mp nE).1
  obtain ⟨x,ex⟩:∃x,cs[t]? =some x:=⟨_,gE (by omega)⟩
  have mx:=aaa ex
  obtain ⟨ek,lx,xs,ey,Rt,Oz⟩:=vT.2 t (k,y) x nE ex
  have Ru :k=.inl (x:Int):=ek
  have uB :y=.ref lx:=ey
  subst Ru
  subst uB
  have t7:=aH n7 (.tup [kV (.inl (x:Int)),.ref lx])
  have e7:(upd H7 p7 (.tup [kV (.inl (x:Int)),.ref lx])) p7=some (.tup [kV (.inl (x:Int)),.ref lx]):=aj
  generalize upd H7 p7 (.tup [kV (.inl (x:Int)),.ref lx])=H8 at t7 e7 ⊢
  have s8:=s7.trans t7
  refine ⟨p7,_,rfl,bQ.of e7,rfl,_,_,rfl,_,_,rfl,rfl,?_⟩
  have cx:x < 2*pins.length:=by
   rw [CH] at mx
   exact abl.mp (abr.mp mx).1
  refine ⟨_,rfl,_,rfl,a,lx,pins,bars,xs,rfl,R.same s8,g,t7 _ _ Rt,Oz,fun dM H9 s9=>?_⟩
  have kF:=t7.trans s9
  have d9:=kF _ _ d7
  obtain ⟨pq,Mi⟩:∃pq,(d3 pins)[x]? =some pq:=⟨_,gE (by rw [fU];exact cx)⟩
  obtain ⟨u,eu,tp,rfl,htp⟩:=jH Ry Mi
  have ht9:H9 tp=some (.tup ((k_ pq).map kV)):=kF _ _ htp
  have ai:je us (x:Int)=some (.ref tp):=b8 eu
  refine ⟨_,rfl,_,rfl,_,rfl,r,_,_,_,rfl,rfl,aZ.of (kF _ _ JD),ai,d,_,rfl,gH.t d9 ht9 (aaz (show kvs.length<=1000 by omega) (by decide)),?_⟩
  have ks:aT d H9 (upd H9 d (.dT (putK kvs (k_ pq) (.ref dM)))):=aT.upd
  have zW:k_ pq∉kvs.map (·.1):=fun z=>by
   obtain ⟨j,hj,x',AR,e'⟩:=xg _ z
   rw [vU e'] at Mi
   have e5:=cB (rV g.np) Mi AR
   obtain ⟨i,ei⟩:=aaF hj
   have hi:i < t:=by
    have:=(be.mp ei).1
    rw [abd] at this
    omega
   rw [abK hi, <- e5] at ei
   have:=cB ndc ei ex
   omega
  rw [cQ _ (cH zW)] at ks ⊢
  refine ⟨_,_,kvs++[(k_ pq,.ref dM)],rfl,fun b' o' e=>?_,?_,Paired.bP Ry fun _ _ z=>(z.same kF).ks d9 JB ks,?_,?_,aj,by rw [aat,xf];rfl,fun k hk=>?_⟩
  ·exact ks _ _ (ao e Hd) (s9 _ _ (s8 _ _ e))
  ·exact ks _ _ (fun z=>by rw [z,d7] at JD;cases JD) (kF _ _ JD)
  ·exact vT.mono fun b xs e=>ks _ _ (fun z=>by rw [z,d7] at e;cases e) (kF _ _ e)
  ·exact ks _ _ (abb yh) (kF _ _ xc)
  ·rw [aa1] at hk
   rw [take_snoc ex]
   rcases aaQ.mp hk with h | h
   ·obtain ⟨j,hj,z⟩:=xg _ h
    exact ⟨j,aaQ.mpr (.inl hj),z⟩
   ·exact ⟨x,aaQ.mpr (.inr aaK),pq,Mi,by simpa using h⟩
 ·rintro σ H7 ⟨o3,o4,kvs,rfl,s7,JD,Ry,vT,xc,d7,xf,xg⟩
  have kS:aT sd H7 (upd H7 sd (.dK eO)):=aT.upd
  refine ⟨sd,o,eO,xc,fun o' u' z=>(by have z' :H sd=some (.fj o' u'):=z;rw [uC] at z';cases z'),_,rfl,?_⟩
  obtain ⟨c1,c2⟩:=rT gj (pf g) RZ
  exact q d kvs _ _ (fun b' o' e=>kS _ _ (ao e uC) (s7 _ _ e)) (kS _ _ yh d7) (VM gj (pf g) RZ) c2 (by rw [xf,KL,CH];exact c1)
theorem EE {m k Z:Nat}{ws:List Wl}{es lv:ζ}{nd:θ}(gj:k8 m k ws es)(R:Red es (m+k) m Z nd lv){x:Nat×List Int}(hx:x∈nd):(dB m ws x).length=k:=by
 have l1:=R.mK x hx
 have l2:=gj.2.1
 unfold dB
 rw [ahf,abG]
 omega
inductive tL (K:Frag)(C:Addr)(vs:η)(H:Hp)(Q:VK)(E_:XK):Prop where
 | mk (a:Addr) (pins:π) (bars:ς) (_:vs=[.ref a]) (_:vw K H C a pins bars) (_:c7 pins bars) (_:∀(d:Addr) (kvs:δ) (cs:Δ) (H' :Hp),av H H' ->H' d=some (.dK kvs)->Nd (aI pins+bars.length) (eQ pins bars) cs->kvs.length=(cs.filter fun c=>decide (aI pins<=c)).length->Q (.ref d) H'):tL K C vs H Q E_
theorem JE {pins:π}{bars:ς}{ws:List Wl}{es lv:ζ}{nd:θ}{m:Nat}(hm:m<=78)(gj:k8 m (eQ pins bars).length ws es)(wl:∀(i:Nat) (w:Wl) (qs:τ),ws[i]? =some w->(eQ pins bars)[i]? =some qs->KI 90 90 m qs w)(R:Red es (m+(eQ pins bars).length) m 140000 nd lv){x:Nat×List Int}(hx:x∈nd):(dB m ws x).length=2*pins.length/\∀q∈dB m ws x,Sm 150000 150000 q:=by
 have l1:=R.mK x hx
 have l2:=gj.2.1
 have l3:=jb pins bars
 refine ⟨by unfold dB;rw [ahf,abG];omega,fun q hq=>?_⟩
 obtain ⟨i,ei⟩:=aaF hq
 unfold dB at ei
 rw [abP] at ei
 cases FQ :(x.2.drop m)[i]? with
 | none=>rw [FQ] at ei;cases ei
 | some sv=>
  cases ew:ws[i]? with
  | none=>rw [FQ,ew] at ei;cases ei
  | some w=>
   rw [FQ,ew] at ei
   cases ei
   have hi:=(be.mp ew).1
   obtain ⟨qs,eq⟩:∃qs,(eQ pins bars)[i]? =some qs:=⟨_,gE (by omega)⟩
   have h5:=(wl i w qs ew eq).2.2.1
   have bs:sv.natAbs<=2^140000:=(R.Jd x hx).mem (aij (aaa FQ))
   have bh:(x.2.getD x.1 0).natAbs<=2^140000:=by
    have hc:=R.cols x hx
    have e:x.2[x.1]? =some (x.2[x.1]'(by omega)):=gE (by omega)
    rw [aaU,e]
    exact (R.Jd x hx).mem (aaa e)
   refine L9 (R.here x hx) ?_ (aam bh (abo (by decide) (by decide)))
   rw [ab0]
   refine aam (abF bs h5) ?_
   rw [<- ahz]
   exact abo (by decide) (by omega)
theorem de:aG ["F","rows","bars","ways","needs","column","shares"] zao (ag eV):=sq
theorem vV {C:Addr}(D:Def K mg "needs_of" eV zao)(aL:mg "len"=none)(MP:bj P w K mg base (a8 P w) 1 C "pins" zac (fK K C))(MB:bj P w K mg base (a8 P w) 1 C "bars" zac (hJ K C))
  (yf:Fn P w K mg base (a8 P w) 38 "draw_rows" zao (e_ K C)) (Rm:Fn P w K mg base (a8 P w) 1 "turned" zai j7) (fg:Fn P w K mg base (a8 P w) 36 "needed_columns" zai (ki K)) (Rv:Fn P w K mg base (a8 P w) 2 "motion_from" zaq (kc K C)) (abT:Fn P w K mg base (a8 P w) 1 "signs_turned" zaN (tG K)):
  Fn P w K mg base (a8 P w) 39 "needs_of" zao (tL K C):=by
 refine D.ok de (fun vs H Q E h=>?_) (fun f bH A outer s H vs Q E hr h=>?_)
 ·obtain ⟨a,pins,bars,rfl,_⟩:=h
  rfl
 obtain ⟨a,pins,bars,rfl,R,g,q⟩:=h
 have gl:=g.lp
 have gb:=g.lb
 have wl:aI pins<=2*pins.length:=fE pins g.lw
 have lcq:=jb pins bars
 have dl:(bO pins bars).length=aI pins+bars.length:=fe pins bars
 refine ⟨_,(ae (aA (i:=1) de.nd rfl (aav rfl) (aE yf hr.mo (pY P w) (ar (pv 0) aa)))
  (ae (aA (i:=2) de.nd rfl (aav rfl) (cp (k:=1) (pv 0) hr.mo (pY P w)))
  (ae (aA (i:=3) de.nd rfl (aav rfl) (aF b9 (aC au rfl aL bt (ar (pv 1) aa)) (aC au rfl aL bt (ar (pv 2) aa))))
  (ae (aA (i:=4) de.nd rfl (aav rfl) dD)
  (ae (i0 (bF PassesOwn.never rfl (gJ (aE fg hr.mo (pY P w) (ar (aE Rm hr.mo (pY P w) (ar (pv 1) (ar (aF bS ah (aC au rfl aL bt (ar (cp (k:=1) (pv 0) hr.mo (pY P w)) aa))) aa))) (ar (aC au rfl aL bt (ar (pv 1) aa)) aa)))) (dy rfl (aS (aD (i:=5) de.nd rfl (aav rfl)) (aS (aD (i:=6) de.nd rfl (aav rfl)) b7))) (ak (bw (aR uK (pv 5) (pv 3) (aX _)) (ak (dj (cX hr) (pv 4) (bB bc (pv 2) (aF b9 (pv 5) (pv 3)) (fun _ _=>rfl)) (aE Rv hr.mo (pY P w) (ar (pv 0) (ar (aE abT hr.mo (pY P w) (ar (pv 6) aa)) aa))) rfl)) aU))))
  (ak (aK (pv 4)))))))),?_⟩
 refine ⟨_,rfl,a,pins,bars,rfl,R,g,fun r ls bT H1 s1 nr RR=>?_⟩
 obtain ⟨dx,pP,pW,pB,kP,kW,kB,F0,W0⟩:=R.ex
 have F1:=F0.same s1
 refine ⟨_,rfl,a,C,dx,_,_,_,rfl,F1.obj,rfl,MB,a,dx,pP,pW,pB,_,_,kP,kW,kB,rfl,F1,fun lb H2 s2 Vt xW=>?_⟩
 rw [kb] at xW
 have VO:=RR.same s2
 refine ⟨_,rfl,r,_,rfl,.inl (aZ.of VO.mi.1),_,rfl,lb,_,rfl,.inl (aZ.of xW),_,_,rfl,rfl,?_⟩
 intro d qb;generalize eX:upd _ d _=H3;have ⟨s3,e3⟩:=nw qb eX;clear eX
 have RR3:=VO.same s3
 have F3:=F1.same (s2.trans s3)
 have tJ:=s1.trans (s2.trans s3)
 have nmp:((pins.map fun p=>(p.nm,jB p.sp)).map (·.1))=pins.map (·.nm):=by rw [aa5];rfl
 have VP:ls.length=aI pins+bars.length:=by rw [RR.mi.2.1,RR.num.1,dl]
 refine ⟨_,rfl,_,rfl,a,C,dx,_,_,_,rfl,F3.obj,rfl,MP,a,dx,pP,pW,pB,_,_,kP,kW,kB,rfl,F3,fun lp H4 s4 rN ka=>?_⟩
 rw [nmp] at ka
 have Ro:=RR3.same s4
 have sz4:((pins.map (·.nm)).map V.str).length=pins.length:=by rw [ir,ir]
 have c2:iD 2 ((pins.length:Nat):Int):=⟨by decide+kernel,aam (intBits_le_64 (by omega) (by omega)) (by decide)⟩
 refine ⟨lp,_,rfl,.inl (aZ.of ka),_,_,rfl,rfl,(by rw [ir,ir];exact c2),?_⟩
 have em:(2*((((pins.map (·.nm)).map V.str).length:Nat):Int))=((2*pins.length:Nat):Int):=by rw [sz4];omega
 refine ⟨r,ls,bT,((2*pins.length:Nat):Int),congrArg (fun i:Int=>[V.ref r,V.int i]) em,Ro.mi,by omega,by omega,by omega,zU g Ro.num,fun c cs H5 s5 M5=>?_⟩
 rw [ahS] at M5
 have VQ:=Ro.same s5
 refine ⟨_,rfl,r,_,rfl,.inl (aZ.of VQ.mi.1),?_⟩
 have emm:(((ls.map V.ref).length:Nat):Int)=((aI pins+bars.length:Nat):Int):=by rw [ir,VP]
 refine ⟨c,aI pins+bars.length,cs,_,eQ pins bars,90,90,140000,congrArg (fun i:Int=>[V.ref c,V.int i]) emm,M5,vP g VQ.num,oZ g,by omega,by omega,by decide,by omega,by decide,zT g,by decide,fun sd eO ss ws es lv nd H6 s6 x6 qc JC gj ZP RZ VS=>?_⟩
 have eW:((((ls.map V.ref).length:Nat):Int) - ((((bars.map (·.nm)).map V.str).length:Nat):Int))=(aI pins:Int):=by
  rw [ir,ir,ir,VP]
  omega
 have FK:=s4.trans (s5.trans s6)
 have Rp:=tJ.trans FK
 have uC:H sd=none:=(tJ.trans (s4.trans s5)).free x6
 have Hd:H d=none:=(s1.trans s2).free qb
 have Rr:=FK _ _ e3
 have yg:=FK _ _ (s3 _ _ xW)
 have yh:d≠sd:=fun z=>by
  have:=(s4.trans s5) _ _ e3
  rw [z,x6] at this
  cases this
 refine ⟨sd,eO,rfl,qc,fun o=>?_⟩
 have k0:aT sd H6 (upd H6 sd (.fj o (.dK eO))):=aT.upd
 have KL:eO.length=nd.length:=by rw [JC.1,VS,ir]
 have lnd:nd.length<=aI pins+bars.length:=by
  have z:=oW (abw.mpr (RZ.asc.imp fun {a b} h=>aa' h)) (fun c hc=>by
   obtain ⟨x,hx,rfl⟩:=aaj.mp hc
   exact RZ.cols x hx)
  rw [ir] at z
  exact z
 have asc:=abw.mpr (RZ.asc.imp fun {a b} h=>aa' h)
 refine dQ (d:=sd) (o:=o) (kvs:=eO) (fun t σ H' =>∃(o5 o6:Β) (kvs:δ),σ=[some (.ref a),some (.ref r),some (.ref lb),some (.int ((((ls.map V.ref).length:Nat):Int) - ((((bars.map (·.nm)).map V.str).length:Nat):Int))),some (.ref d),o5,o6]/\av H H' /\H' lb=some (.lst ((bars.map (·.nm)).map V.str))/\x4 K H' eO ss/\H' sd=some (.fj o (.dK eO))/\H' d=some (.dK kvs)/\kvs.length=(((nd.map (·.1)).take t).filter fun c=>decide (aI pins<=c)).length/\∀k∈kvs.map (·.1),∃c∈(nd.map (·.1)).take t,aI pins<=c/\∃x,(bars.map (·.nm))[c - aI pins]? =some x/\k=.inr x) ⟨none,none,[],rfl,fun b o' e=>k0 _ _ (ao e uC) (Rp _ _ e),k0 _ _ (fun z=>by rw [z,qc] at yg;cases yg) yg,JC.ks (.inl qc) k0,aj,k0 _ _ yh Rr,by simp,fun k h=>nomatch h⟩ (fun t σ H' _ h=>by
   obtain ⟨_,_,_,_,_,_,_,h,_⟩:=h
   exact h) ?_ ?_
 ·rintro t k y σ H7 p7 nE ⟨o5,o6,kvs,rfl,s7,mN,vT,xc,d7,xf,xg⟩ n7
  have ht:t < eO.length:=(be.mp nE).1
  obtain ⟨x,ex⟩:∃x,nd[t]? =some x:=⟨_,gE (by omega)⟩
  have mx:=aaa ex
  have OA:(nd.map (·.1))[t]? =some x.1:=by rw [Wp,ex];rfl
  have exs:ss[t]? =some (x.1,dB (aI pins+bars.length) ws x):=by rw [VS,Wp,ex];rfl
  obtain ⟨ek,lx,us,ey,Rt,Oz⟩:=vT.2 t (k,y) _ nE exs
  have Ru :k=.inl (x.1:Int):=ek
  have uB :y=.ref lx:=ey
  subst Ru
  subst uB
  have t7:=aH n7 (.tup [kV (.inl (x.1:Int)),.ref lx])
  have e7:(upd H7 p7 (.tup [kV (.inl (x.1:Int)),.ref lx])) p7=some (.tup [kV (.inl (x.1:Int)),.ref lx]):=aj
  generalize upd H7 p7 (.tup [kV (.inl (x.1:Int)),.ref lx])=H8 at t7 e7 ⊢
  have s8:=s7.trans t7
  have cx:=RZ.cols x mx
  refine ⟨p7,_,rfl,bQ.of e7,rfl,_,_,rfl,_,_,rfl,rfl,?_⟩
  refine ⟨_,rfl,_,rfl,_,_,rfl,rfl,_,rfl,?_⟩
  refine bf (fun c0=>?_) (fun c0=>?_)
  ·have wc:aI pins<=x.1:=by
    have c1:=of_decide_eq_true c0
    rw [eW] at c1
    omega
   obtain ⟨lsh,smx⟩:=JE (by omega) gj ZP RZ mx
   have VR:us.length<=100:=by
    have:us.length=(dB (aI pins+bars.length) ws x).length:=Oz.1
    omega
   refine ⟨_,rfl,_,rfl,lx,us,(dB (aI pins+bars.length) ws x).map vl,rfl,t7 _ _ Rt,vL (Oz.same t7) smx,VR,fun l' fH H9 s9 hl9 pr9=>?_⟩
   have s89:=s8.trans s9
   refine ⟨a,l',pins,bars,fH,rfl,R.same s89,g,hl9,by rw [Paired.length pr9,ir,ir];exact lsh,fun dM TZ TY=>?_⟩
   obtain ⟨b,eb⟩:∃b,bars[x.1 - aI pins]? =some b:=⟨_,gE (by omega)⟩
   have tM:=t7.trans (s9.trans TY)
   have d9:=tM _ _ d7
   have ai:je ((bars.map (·.nm)).map V.str) ((x.1:Int) - ((((ls.map V.ref).length:Nat):Int) - ((((bars.map (·.nm)).map V.str).length:Nat):Int)))=some (.str b.nm):=by
    rw [eW,show (x.1:Int) - (aI pins:Int)=((x.1 - aI pins:Nat):Int) by omega]
    exact b8 (by rw [Wp,Wp,eb];rfl)
   have lo:kvs.length<=t:=by
    have h2:=abz (fun c=>decide (aI pins<=c)) ((nd.map (·.1)).take t)
    rw [abd] at h2
    omega
   refine ⟨_,rfl,_,rfl,_,rfl,_,rfl,_,_,rfl,rfl,lb,_,_,_,rfl,rfl,aZ.of (tM _ _ mN),ai,d,_,rfl,gH.k (k:=.inr b.nm) d9 (aaz (show kvs.length<=1000 by omega) (by decide)),?_⟩
   have f1:(bars.map (·.nm))[x.1 - aI pins]? =some b.nm:=by rw [Wp,eb];rfl
   have zW:(acp b.nm:Key)∉kvs.map (·.1):=fun z=>by
    obtain ⟨c,hc,wc',x',AR,e'⟩:=xg _ z
    have e'' :b.nm=x' :=abV e'
    rw [<- e''] at AR
    have e5:=cB g.nb f1 AR
    obtain ⟨i,ei⟩:=aaF hc
    have hi:i < t:=by
     have:=(be.mp ei).1
     rw [abd] at this
     omega
    rw [abK hi,show c=x.1 by omega] at ei
    have:=cB asc ei OA
    omega
   rw [cQ _ (cH zW)]
   have ks:aT d TZ (upd TZ d (.dK (kvs++[(.inr b.nm,.ref dM)]))):=aT.upd
   refine ⟨_,_,kvs++[(.inr b.nm,.ref dM)],rfl,fun b' o' e=>?_,?_,(vT.same tM).ks (.inl d9) ks,?_,aj,?_,fun k hk=>?_⟩
   ·exact ks _ _ (ao e Hd) (tM _ _ (s7 _ _ e))
   ·exact ks _ _ (fun z=>by rw [z,d7] at mN;cases mN) (tM _ _ mN)
   ·exact ks _ _ (abb yh) (tM _ _ xc)
   ·rw [take_snoc OA,aci,show [x.1].filter (fun c=>decide (aI pins<=c))=[x.1] by simp [wc],aat,aat,xf]
    rfl
   ·rw [aa1] at hk
    rw [take_snoc OA]
    rcases aaQ.mp hk with h | h
    ·obtain ⟨j,hj,z⟩:=xg _ h
     exact ⟨j,aaQ.mpr (.inl hj),z⟩
    ·exact ⟨x.1,aaQ.mpr (.inr aaK),wc,b.nm,f1,by simpa using h⟩
  ·have wc:¬ aI pins<=x.1:=fun z=>c0 (decide_eq_true (by rw [eW];omega))
   refine ⟨_,_,kvs,rfl,s8,t7 _ _ mN,vT.same t7,t7 _ _ xc,t7 _ _ d7,?_,fun k hk=>?_⟩
   ·rw [take_snoc OA,aci,show [x.1].filter (fun c=>decide (aI pins<=c))=[] by simp [wc],ahB]
    exact xf
   ·obtain ⟨j,hj,z⟩:=xg _ hk
    rw [take_snoc OA]
    exact ⟨j,aaQ.mpr (.inl hj),z⟩
 ·rintro σ H7 ⟨o5,o6,kvs,rfl,s7,mN,vT,xc,d7,xf,xg⟩
  have kS:aT sd H7 (upd H7 sd (.dK eO)):=aT.upd
  refine ⟨sd,o,eO,xc,fun o' u' z=>(by have z' :H sd=some (.fj o' u'):=z;rw [uC] at z';cases z'),_,rfl,?_⟩
  refine q d kvs _ _ (fun b' o' e=>kS _ _ (ao e uC) (s7 _ _ e)) (kS _ _ yh d7) (VN gj ZP km RZ) ?_
  rw [xf,ab_ (by rw [ir,KL];exact aas _)]
inductive tN (K:Frag)(C:Addr)(vs:η)(H:Hp)(Q:VK)(E_:XK):Prop where
 | mk (a:Addr) (pins:π) (bars:ς) (_:vs=[.ref a]) (_:vw K H C a pins bars) (_:c7 pins bars) (_:∀(d:Addr) (kvs:ψ) (cs:Δ) (H' :Hp),av H H' ->H' d=some (.dT kvs)->Nd (2*pins.length) (bO pins bars) cs->kvs.length=cs.length->Q (.ref d) H'):tN K C vs H Q E_
theorem fF:aG ["F","pairs","stays","column","shares"] zao (ag eY):=sq
theorem vW {C:Addr}(D:Def K mg "stays_of" eY zao)(aL:mg "len"=none)
  (jI:Fn P w K mg base (a8 P w) 2 "pairs_of" zao (nI K C)) (yf:Fn P w K mg base (a8 P w) 38 "draw_rows" zao (e_ K C)) (fg:Fn P w K mg base (a8 P w) 36 "needed_columns" zai (ki K)) (Rn:Fn P w K mg base (a8 P w) 3 "pulls_and_pushes" zaq (Md K C)):
  Fn P w K mg base (a8 P w) 39 "stays_of" zao (tN K C):=by
 refine D.ok fF (fun vs H Q E h=>?_) (fun f bH A outer s H vs Q E hr h=>?_)
 ·obtain ⟨a,pins,bars,rfl,_⟩:=h
  rfl
 obtain ⟨a,pins,bars,rfl,R,g,q⟩:=h
 have gl:=g.lp
 have gb:=g.lb
 have wl:(pins.flatMap fun p=>p.ws).length<=2*pins.length:=fE pins g.lw
 have dl:(bO pins bars).length=(pins.flatMap fun p=>p.ws).length+bars.length:=fe pins bars
 refine ⟨_,(ae (aA (i:=1) fF.nd rfl (aav rfl) (aE jI hr.mo pX (ar (pv 0) aa)))
  (ae (aA (i:=2) fF.nd rfl (aav rfl) vi)
  (ae (i0 (bF PassesOwn.never rfl (gJ (aE fg hr.mo pX (ar (aE yf hr.mo pX (ar (pv 0) aa)) (ar (aC au rfl aL bt (ar (pv 1) aa)) aa)))) (dy rfl (aS (aD (i:=3) fF.nd rfl (aav rfl)) (aS (aD (i:=4) fF.nd rfl (aav rfl)) b7))) (ak (dj (cX hr) (pv 2) (bB bc (pv 1) (pv 3) (fun _ _=>rfl)) (aE Rn hr.mo pX (ar (pv 0) (ar (pv 4) aa))) rfl))))
  (ak (aK (pv 2)))))),?_⟩
 refine ⟨_,rfl,a,pins,bars,rfl,R,g,fun r us H1 s1 nr er pr=>?_⟩
 intro d qb;generalize eX:upd _ d _=H2;have ⟨s2,e2⟩:=nw qb eX;clear eX
 have qu:=s1.trans s2
 have VR:us.length=2*pins.length:=by rw [Paired.length pr,fU]
 refine ⟨_,rfl,a,pins,bars,rfl,R.same qu,g,fun rr ls bT H3 s3 nrr RR=>?_⟩
 have r3:=s3 _ _ (s2 _ _ er)
 refine ⟨_,rfl,r,_,rfl,.inl (aZ.of r3),?_⟩
 have sh:Shape 90 90 (2*pins.length) (bO pins bars):=ff g
 have zz:bb (90+90*(2*pins.length)) (min (2*pins.length) (bO pins bars).length)<=33000:=by
  unfold bb
  have h1:min (2*pins.length) (bO pins bars).length+1<=19:=by omega
  have h2:90+90*(2*pins.length)+11<=1721:=by omega
  exact aam (abF h1 h2) (by decide)
 refine ⟨rr,2*pins.length,ls,bT,bO pins bars,90,90,33000,(by rw [VR];rfl),RR.mi,RR.num,sh,by omega,by omega,by decide,by omega,by decide,zz,by decide,fun sd eO ss ws es lv nd H6 s6 x6 qc JC gj ZP RZ VS=>?_⟩
 have Rw:=s3.trans s6
 have Rp:=qu.trans Rw
 have uC:H sd=none:=(qu.trans s3).free x6
 have Hd:H d=none:=s1.free qb
 have Rr:=Rw _ _ e2
 have Rx:=s6 _ _ r3
 have yh:d≠sd:=fun z=>by
  have:=s3 _ _ e2
  rw [z,x6] at this
  cases this
 refine ⟨sd,eO,rfl,qc,fun o=>?_⟩
 have k0:aT sd H6 (upd H6 sd (.fj o (.dK eO))):=aT.upd
 have KL:eO.length=nd.length:=by rw [JC.1,VS,ir]
 have asc:=abw.mpr (RZ.asc.imp fun {a b} h=>aa' h)
 have lnd:nd.length<=2*pins.length:=by
  have z:=oW asc (fun c hc=>by
   obtain ⟨x,hx,rfl⟩:=aaj.mp hc
   exact RZ.cols x hx)
  rw [ir] at z
  exact z
 have pr6:Paired (gu H6) us (d3 pins):=Paired.bP pr fun _ _ z=>z.same (s2.trans Rw)
 refine dQ (d:=sd) (o:=o) (kvs:=eO) (fun t σ H' =>∃(o3 o4:Β) (kvs:ψ),σ=[some (.ref a),some (.ref r),some (.ref d),o3,o4]/\av H H' /\H' r=some (.lst us)/\Paired (gu H') us (d3 pins)/\x4 K H' eO ss/\H' sd=some (.fj o (.dK eO))/\H' d=some (.dT kvs)/\kvs.length=t/\∀k∈kvs.map (·.1),∃j∈(nd.map (·.1)).take t,∃x,(d3 pins)[j]? =some x/\k=k_ x) ⟨none,none,[],rfl,fun b o' e=>k0 _ _ (ao e uC) (Rp _ _ e),k0 _ _ (fun z=>by rw [z,qc] at Rx;cases Rx) Rx,Paired.bP pr6 fun _ _ z=>z.ks qc Oy k0,JC.ks (.inl qc) k0,aj,k0 _ _ yh Rr,rfl,fun k h=>nomatch h⟩ (fun t σ H' _ h=>by
   obtain ⟨_,_,_,_,_,_,_,_,h,_⟩:=h
   exact h) ?_ ?_
 ·rintro t k y σ H7 p7 nE ⟨o3,o4,kvs,rfl,s7,JD,Ry,vT,xc,d7,xf,xg⟩ n7
  have ht:t < eO.length:=(be.mp nE).1
  obtain ⟨x,ex⟩:∃x,nd[t]? =some x:=⟨_,gE (by omega)⟩
  have mx:=aaa ex
  have exs:ss[t]? =some (x.1,dB (2*pins.length) ws x):=by rw [VS,Wp,ex];rfl
  obtain ⟨ek,lx,xs,ey,Rt,Oz⟩:=vT.2 t (k,y) _ nE exs
  have Ru :k=.inl (x.1:Int):=ek
  have uB :y=.ref lx:=ey
  subst Ru
  subst uB
  have t7:=aH n7 (.tup [kV (.inl (x.1:Int)),.ref lx])
  have e7:(upd H7 p7 (.tup [kV (.inl (x.1:Int)),.ref lx])) p7=some (.tup [kV (.inl (x.1:Int)),.ref lx]):=aj
  generalize upd H7 p7 (.tup [kV (.inl (x.1:Int)),.ref lx])=H8 at t7 e7 ⊢
  have s8:=s7.trans t7
  refine ⟨p7,_,rfl,bQ.of e7,rfl,_,_,rfl,_,_,rfl,rfl,?_⟩
  have cx:=RZ.cols x mx
  have OA:(nd.map (·.1))[t]? =some x.1:=by rw [Wp,ex];rfl
  have wn:(pins.flatMap fun p=>p.ws).length=aI pins:=rfl
  have lxs:xs.length=aI pins+bars.length:=by
   have h1:xs.length=(dB (2*pins.length) ws x).length:=Oz.1
   rw [h1,EE gj RZ mx,dl,wn]
  refine ⟨_,rfl,_,rfl,a,lx,pins,bars,xs,rfl,R.same s8,g,t7 _ _ Rt,lxs,fun p H9 s9=>?_⟩
  have kF:=t7.trans s9
  have d9:=kF _ _ d7
  obtain ⟨pq,Mi⟩:∃pq,(d3 pins)[x.1]? =some pq:=⟨_,gE (by rw [fU];exact cx)⟩
  obtain ⟨u,eu,tp,rfl,htp⟩:=jH Ry Mi
  have ht9:H9 tp=some (.tup ((k_ pq).map kV)):=kF _ _ htp
  have ai:je us (x.1:Int)=some (.ref tp):=b8 eu
  refine ⟨_,rfl,_,rfl,_,rfl,r,_,_,_,rfl,rfl,aZ.of (kF _ _ JD),ai,d,_,rfl,gH.t d9 ht9 (aaz (show kvs.length<=1000 by omega) (by decide)),?_⟩
  have zW:k_ pq∉kvs.map (·.1):=fun z=>by
   obtain ⟨j,hj,x',AR,e'⟩:=xg _ z
   rw [vU e'] at Mi
   have e5:=cB (rV g.np) Mi AR
   obtain ⟨i,ei⟩:=aaF hj
   have hi:i < t:=by
    have:=(be.mp ei).1
    rw [abd] at this
    omega
   rw [abK hi, <- e5] at ei
   have:=cB asc ei OA
   omega
  rw [cQ _ (cH zW)]
  have ks:aT d H9 (upd H9 d (.dT (kvs++[(k_ pq,.ref p)]))):=aT.upd
  refine ⟨_,_,kvs++[(k_ pq,.ref p)],rfl,fun b' o' e=>?_,?_,Paired.bP Ry fun _ _ z=>(z.same kF).ks d9 JB ks,?_,?_,aj,by rw [aat,xf];rfl,fun k hk=>?_⟩
  ·exact ks _ _ (ao e Hd) (s9 _ _ (s8 _ _ e))
  ·exact ks _ _ (fun z=>by rw [z,d7] at JD;cases JD) (kF _ _ JD)
  ·refine ⟨vT.1,fun i kv x e1 e2=>?_⟩
   obtain ⟨c1,c2,c3,c4,c5,c6⟩:=vT.2 i kv x e1 e2
   exact ⟨c1,c2,c3,c4,ks _ _ (fun z=>by rw [z,d7] at c5;cases c5) (kF _ _ c5),(c6.same kF).bg (fD d9 JB ks)⟩
  ·exact ks _ _ (abb yh) (kF _ _ xc)
  ·rw [aa1] at hk
   rw [take_snoc OA]
   rcases aaQ.mp hk with h | h
   ·obtain ⟨j,hj,z⟩:=xg _ h
    exact ⟨j,aaQ.mpr (.inl hj),z⟩
   ·exact ⟨x.1,aaQ.mpr (.inr aaK),pq,Mi,by simpa using h⟩
 ·rintro σ H7 ⟨o3,o4,kvs,rfl,s7,JD,Ry,vT,xc,d7,xf,xg⟩
  have kS:aT sd H7 (upd H7 sd (.dK eO)):=aT.upd
  refine ⟨sd,o,eO,xc,fun o' u' z=>(by have z' :H sd=some (.fj o' u'):=z;rw [uC] at z';cases z'),_,rfl,?_⟩
  exact q d kvs _ _ (fun b' o' e=>kS _ _ (ao e uC) (s7 _ _ e)) (kS _ _ yh d7) (VN gj ZP (pf g) RZ) (by rw [xf,KL,ir])
def Rz (pins:π)(bars:ς)(s m:Nat):Prop:=∃cs yd :List Nat,Nd (aI pins+bars.length) (eQ pins bars) cs/\(∀c,c < aI pins->c∈cs)/\s+cs.length=aI pins+bars.length/\Nd (2*pins.length) (bO pins bars) yd /\m+yd.length=2*pins.length/\cs.length=yd.length
theorem Rz.one {pins:π}{bars:ς}{s m s' m' :Nat}(h:Rz pins bars s m)(h' :Rz pins bars s' m'):s' =s/\m' =m:=by
 obtain ⟨c1,c2,a1,a2,a3,a4,a5,a6⟩:=h
 obtain ⟨d1,d2,b1,b2,b3,b4,b5,b6⟩:=h'
 rw [b1.eq a1] at b3
 rw [b4.eq a4] at b5
 omega
theorem ph:∀pins:List aJ,(pins.map fun p=>((p.ws.length:Nat):Int)).sum=((aI pins:Nat):Int)
 | []=>rfl
 | p::ps=>by
  rw [aaR,ahY,ph ps]
  unfold aI
  rw [aa_,aat]
  omega
inductive pj (K:Frag)(C:Addr)(vs:η)(H:Hp)(Q:VK)(E_:XK):Prop where
 | mk (a:Addr) (pins:π) (bars:ς) (_:vs=[.ref a]) (_:vw K H C a pins bars) (_:c7 pins bars) (_:(∀p∈pins,D' p.ws)) (_:∀(t:Addr) (s m:Nat) (H' :Hp),av H H' ->H' t=some (.tup [.int (pins.length:Int),.int (aI pins:Int),.int (bars.length:Int),.int (s:Int),.int (m:Int)])->Rz pins bars s m->Q (.ref t) H'):pj K C vs H Q E_
theorem kq:aG ["F","ways"] zao (ag dX):=sq
theorem tO {C:Addr}(D:Def K mg "counts_of" dX zao)(aL:mg "len"=none)(rW:mg "sum"=none)(MP:bj P w K mg base (a8 P w) 1 C "pins" zac (fK K C))(MB:bj P w K mg base (a8 P w) 1 C "bars" zac (hJ K C))(MW:bj P w K mg base (a8 P w) 2 C "ways" zae (jD K C))
  (iP:Fn P w K mg base (a8 P w) 39 "spares_of" zao (zV K C)) (h_:Fn P w K mg base (a8 P w) 39 "motions_of" zao (tK K C)):
  Fn P w K mg base (a8 P w) 40 "counts_of" zao (pj K C):=by
 refine D.ok kq (fun vs H Q E h=>?_) (fun f bH A outer s H vs Q E hr h=>?_)
 ·obtain ⟨a,pins,bars,rfl,_⟩:=h
  rfl
 obtain ⟨a,pins,bars,rfl,R,g,wi,q⟩:=h
 have gl:=g.lp
 have gb:=g.lb
 have wl:aI pins<=2*pins.length:=fE pins g.lw
 have dl:(bO pins bars).length=aI pins+bars.length:=fe pins bars
 obtain ⟨dx,pP,pW,pB,kP,kW,kB,F0,W0⟩:=R.ex
 refine ⟨_,(ae (aA (i:=1) kq.nd rfl (aav rfl) (aC (va rfl) rfl rW Oa (ar (cY (tn:=["pin"]) (fr:=zao) (caps:=[0]) rfl ⟨rfl,by decide+kernel,rfl,by decide+kernel,by decide+kernel,rfl,⟨(by first | exact aav rfl | exact abu rfl),trivial⟩,⟨(by first | exact aav rfl | exact abu rfl),trivial⟩⟩ (bD (cp (k:=1) (pv 0) hr.mo (pY P w))) (fun _ _ _ _=>(aD (i:=0) (show (["pin","F"]:List Str).Nodup from by decide+kernel) rfl (aav rfl))) (fun _ _ _ _=>dA) (fun _ _ _ _=>(aC (gA (K:=K) rfl) rfl aL bt (ar (LR (P:=P) (w:=w) (K:=K) (mg:=mg) (base:=base) (CX:=a8 P w) rfl rfl rfl rfl rfl (k:=2) (pv 1) hr.mo (rB (by first | assumption | exact a8.qj) rfl) (ar (pv 0) aa)) aa)))) aa)))
  (ak (aK (a_ (ar (aC au rfl aL bt (ar (cp (k:=1) (pv 0) hr.mo (pY P w)) aa)) (ar (pv 1) (ar (aC au rfl aL bt (ar (cp (k:=1) (pv 0) hr.mo (pY P w)) aa)) (ar (aC gK rfl aL bt (ar (aE iP hr.mo (pY P w) (ar (pv 0) aa)) aa)) (ar (aC jC rfl aL bt (ar (aE h_ hr.mo (pY P w) (ar (pv 0) aa)) aa)) aa))))))))),?_⟩
 refine ⟨_,rfl,a,C,dx,_,_,_,rfl,F0.obj,rfl,MP,a,dx,pP,pW,pB,_,_,kP,kW,kB,rfl,F0,fun lp H1 s1 rN ka=>?_⟩
 rw [fm] at ka
 refine ⟨lp,rfl,⟨_,aZ.of ka⟩,fun D2 n2=>?_⟩
 refine cR (cap:=[some (.ref a)]) (K:=K) (a:=lp) (xs:=(pins.map (·.nm)).map V.str) (fun i v _=>∃p,pins[i]? =some p/\v=.int ((p.ws.length:Nat):Int)) n2 (by rw [ir,ir];exact aaz (show pins.length<=1000 by omega) (by decide)) (fun H5 s5=>aZ.of (s5 _ _ ka)) (fun _ _ _ _ _ _ _ h=>h) ?_ ?_
 ·intro i u H5 RR hu s5 k
  rw [Wp,Wp] at hu
  obtain ⟨x,hx,rfl⟩:=aaM.mp hu
  obtain ⟨p,hp,rfl⟩:=aaM.mp hx
  have mp:=aaa hp
  have R5:=R.same (s1.trans s5)
  obtain ⟨dx,pP,pW,pB,kP,kW,kB,F5,W5⟩:=R5.ex
  have Vs:p.nm∈(pins.map fun p=>(p.nm,jB p.sp)).map (·.1):=by rw [fm];exact aaj.mpr ⟨p,mp,rfl⟩
  refine ⟨_,rfl,a,C,dx,_,_,_,rfl,F5.obj,rfl,MW,_,rfl,a,dx,pP,pW,pB,_,_,kP,kW,kB,_,p.nm,p.ws,rfl,F5,W5,zM g.np,aaj.mpr ⟨p,mp,rfl⟩,Vs,fun m vs H6 s6 n6 e6 p6=>?_⟩
  have lv:vs.length=p.ws.length:=Paired.length p6
  exact ⟨m,_,rfl,.inl (aZ.of e6),k _ _ s6 ⟨p,hp,by rw [lv]⟩⟩
 intro ys H2 ly hr2 s2 hD
 have ey:ys=(pins.map fun p=>((p.ws.length:Nat):Int)).map V.int:=by
  refine abt fun i=>?_
  rw [ir,ir] at ly
  by_cases hi:i < ys.length
  ·obtain ⟨p,ep,e⟩:=hr2 i _ (gE hi)
   rw [gE hi,e,Wp,Wp,ep]
   rfl
  ·rw [aan (by omega),aan (by rw [ir,ir];omega)]
 rw [ey] at hD
 refine ⟨D2,_,rfl,aZ.of hD,?_⟩
 rw [ph]
 have qu:=s1.trans s2
 have F2:=F0.same qu
 refine ⟨_,rfl,a,C,dx,_,_,_,rfl,F2.obj,rfl,MP,a,dx,pP,pW,pB,_,_,kP,kW,kB,rfl,F2,fun l3 H3 s3 n3 e3=>?_⟩
 rw [fm] at e3
 refine ⟨l3,_,rfl,.inl (aZ.of e3),_,rfl,?_⟩
 have tJ:=qu.trans s3
 have F3:=F0.same tJ
 refine ⟨_,rfl,a,C,dx,_,_,_,rfl,F3.obj,rfl,MB,a,dx,pP,pW,pB,_,_,kP,kW,kB,rfl,F3,fun l4 H4 s4 n4 e4=>?_⟩
 rw [kb] at e4
 refine ⟨l4,_,rfl,.inl (aZ.of e4),?_⟩
 have DZ:=tJ.trans s4
 refine ⟨_,rfl,a,pins,bars,rfl,R.same DZ,g,wi,fun d5 kv5 cs5 H5 s5 e5 nd5 rk5 w5 l5=>?_⟩
 refine ⟨d5,kv5,rfl,.inl e5,?_⟩
 have SN:=DZ.trans s5
 refine ⟨_,rfl,a,pins,bars,rfl,R.same SN,g,fun d6 kv6 cs6 H6 s6 e6 nd6 rk6 l6=>?_⟩
 refine ⟨d6,kv6,rfl,.inl e6,(by show 5<=sizeLine;decide),?_⟩
 intro t7 n7;generalize eX:upd _ t7 _=H7;have ⟨s7,e7⟩:=nw n7 eX;clear eX
 rw [ir,ir,ir,ir] at e7
 rw [<- dl] at rk5
 exact q t7 _ _ H7 (SN.trans (s6.trans s7)) e7 ⟨cs5,cs6,nd5,w5,l5,nd6,l6,rk6.turned rk5⟩
def cell (ns:ν)(k:Int):Int:=if k < (ns.length:Int) then (ns[k.toNat]?).getD 0 else ((((k+5)*(k+5)*48271).fmod 2147483647)*(((k+5)*(k+5)*48271).fmod 2147483647)).fmod 2147483629
theorem jc {x m:Int}(h:0 < m):0<=x.fmod m/\x.fmod m < m:=⟨acy x h,ahL x h⟩
inductive lh (K:Frag)(vs:η)(H:Hp)(Q:VK)(E_:XK):Prop where
 | mk (a:Addr) (ns:ν) (k:Int) (_:vs=[.ref a,.int k]) (_:aZ K H a (ns.map V.int)) (_:0<=k) (_:k<=1000) (_:Q (.int (cell ns k)) H):lh K vs H Q E_
theorem cell_in {ns:ν}{k:Int}(h0:0<=k)(h:k < (ns.length:Int)):je (ns.map V.int) k=some (.int (cell ns k)):=by
 have hk:k.toNat < ns.length:=by omega
 have ek:k=((k.toNat:Nat):Int):=by omega
 have q:je (ns.map V.int) ((k.toNat:Nat):Int)=some (.int (cell ns k)):=b8 (by
  unfold cell
  rw [if_pos h,Wp,gE hk]
  rfl)
 rw [<- ek] at q
 exact q
theorem jJ {i:Int}{k:Nat}(h:i.natAbs < 2^k):intBits i<=k:=intBits_le_iff.mpr h
theorem OB:aG ["_law_script","_law_k","_law_part"] zap (ag CZ):=sq
theorem VT (D:Def K mg "_law_cell_at" CZ zap)(aL:mg "len"=none):Fn P w K mg base CX 1 "_law_cell_at" zap (lh K):=by
 refine D.ok OB (fun vs H Q E h=>?_) (fun f bH A outer s H vs Q E hr h=>?_)
 ·obtain ⟨a,ns,k,rfl,_⟩:=h
  rfl
 obtain ⟨a,ns,k,rfl,hS,h0,h1,q⟩:=h
 refine ⟨_,(ae (bw (aR lV (pv 1) (aC au rfl aL bt (ar (pv 0) aa)) (aX _)) (ak (aK (bB bc (pv 0) (pv 1) (fun _ _=>rfl)))) aU)
  (ae (aA (i:=2) OB.nd rfl (aav rfl) (aF dF (aF bS (aF bS (aF bI (pv 1) ah) (aF bI (pv 1) ah)) ah) ah))
  (ak (aK (aF dF (aF bS (pv 2) (pv 2)) ah))))),?_⟩
 have hl:(ns.map V.int).length=ns.length:=ir _
 refine ⟨_,rfl,_,rfl,a,_,rfl,.inl hS,_,_,rfl,rfl,_,rfl,?_⟩
 refine bf (fun c=>?_) (fun c=>?_)
 ·have c' :k < (((ns.map V.int).length:Nat):Int):=of_decide_eq_true c
  rw [hl] at c'
  exact ⟨_,rfl,_,rfl,a,_,k,_,rfl,rfl,hS,cell_in h0 c',q⟩
 ·have c' :¬ k < (((ns.map V.int).length:Nat):Int):=of_decide_eq_false (ahq.mpr c)
  rw [hl] at c'
  have b5:intBits (k+5)<=11:=jJ (by show _ < 2048;omega)
  have e1:=jc (x:=(k+5)*(k+5)*48271) (m:=2147483647) (by decide)
  have bp:intBits (((k+5)*(k+5)*48271).fmod 2147483647)<=31:=jJ (by show _ < 2147483648;omega)
  refine ⟨_,rfl,_,_,rfl,rfl,_,rfl,_,_,rfl,rfl,_,_,rfl,rfl,⟨aam b5 (by decide),aam b5 (by decide)⟩,?_⟩
  refine ⟨_,_,rfl,rfl,⟨aam (intBits_mul_le b5 b5) (by decide),by decide+kernel⟩,_,_,rfl,rfl,nz (by decide),?_⟩
  refine ⟨_,rfl,_,rfl,_,_,rfl,rfl,⟨aam bp (by decide),aam bp (by decide)⟩,_,_,rfl,rfl,nz (by decide),?_⟩
  have e:cell ns k=((((k+5)*(k+5)*48271).fmod 2147483647)*(((k+5)*(k+5)*48271).fmod 2147483647)).fmod 2147483629:=by
   unfold cell
   rw [if_neg c']
  rw [e] at q
  exact q
def field (c p m:Int):Int:=(((c.fmod p+11)*48271).fmod p).fmod m
theorem aV {c p m:Int}(h:0 < m):0<=field c p m/\field c p m < m:=jc h
inductive dG (vs:η)(H:Hp)(Q:VK)(E_:XK):Prop where
 | mk (c p m:Int) (_:vs=[.int c,.int p,.int m]) (_:0 < p) (_:p<=2000000) (_:0 < m) (_:Q (.int (field c p m)) H):dG vs H Q E_
theorem VU:aG zab zab (ag C_):=sq
theorem VW (D:Def K mg "_law_field" C_ zab):Fn P w K mg base CX 1 "_law_field" zab dG:=by
 refine D.ok VU (fun vs H Q E h=>?_) (fun f bH A outer s H vs Q E hr h=>?_)
 ·obtain ⟨c,p,m,rfl,_⟩:=h
  rfl
 obtain ⟨c,p,m,rfl,hp,T',hm,q⟩:=h
 refine ⟨_,(ak (aK (aF dF (aF dF (aF bS (aF bI (aF dF (pv 0) (pv 1)) ah) ah) (pv 1)) (pv 2)))),?_⟩
 have e1:=jc (x:=c) hp
 refine ⟨_,rfl,_,rfl,_,_,rfl,rfl,nz (by omega),_,_,rfl,rfl,_,_,rfl,rfl,⟨aam (jJ (k:=22) (by show _ < 4194304;omega)) (by decide),by decide+kernel⟩,?_⟩
 exact ⟨_,rfl,_,_,rfl,rfl,nz (by omega),_,rfl,_,_,rfl,rfl,nz (by omega),q⟩
inductive fq (vs:η)(H:Hp)(Q:VK)(E_:XK):Prop where
 | mk (t b:Int) (_:vs=[.int t,.int b]) (_:0 < b) (_:gives H Q (low t b)):fq vs H Q E_
theorem zX:aG ["_law_top","_law_bottom","_law_one","_law_other"] zas (ag C'):=sq
theorem VX (ht:P.given.tree=none)(D:Def K mg "_law_lowest" C' zas)(rM:mg "abs"=none):Fn P w K mg base (a8 P w) 33 "_law_lowest" zas fq:=by
 refine D.ok zX (fun vs H Q E h=>?_) (fun f bH A outer s H vs Q E hr h=>?_)
 ·obtain ⟨t,b,rfl,_⟩:=h
  rfl
 obtain ⟨t,b,rfl,hb,q⟩:=h
 refine ⟨_,(ae (aA (i:=2) zX.nd rfl (aav rfl) (aC uL rfl rM N5 (ar (pv 0) aa)))
  (ae (aA (i:=3) zX.nd rfl (aav rfl) (pv 1))
  (ae (nR PassesOwn.never (aR y8 (pv 3) ah (aX _)) (ak (PV (i:=2) (j:=3) rfl zX.nd rfl rfl (by decide) rfl rfl (ar (pv 3) (ar (aF dF (pv 2) (pv 3)) aa)) rfl)))
  (ak (aK (a_ (ar (aF (fX ht (Ty.cg.py hr (by decide)) rfl rfl rfl rfl rfl) (pv 0) (pv 2)) (ar (aF (fX ht (Ty.cg.py hr (by decide)) rfl rfl rfl rfl rfl) (pv 1) (pv 2)) aa)))))))),?_⟩
 refine ⟨_,rfl,t,rfl,?_⟩
 refine ⟨_,rfl,?_⟩
 refine uJ (fun σ H' =>∃x y:Int,σ=[some (.int t),some (.int b),some (.int x),some (.int y)]/\H' =H/\0<=x/\0<=y/\abx x y=abx t b) (fun σ _=>match σ with | [_,_,_,some (.int y)]=>y.natAbs | _=>0) ⟨_,b,rfl,rfl,?_,by omega,?_⟩ ?_ ?_
 ·split <;> omega
 ·split
  ·exact Int.neg_gcd
  ·rfl
 ·rintro σ H' ⟨x,y,rfl,rfl,hx,hy,g⟩
  refine ⟨_,rfl,rfl,_,rfl,?_⟩
  refine bf (fun c=>?_) (fun c=>?_)
  ·have Jf:y≠0:=by
    intro z
    subst z
    simp at c
   refine ⟨_,rfl,_,rfl,_,rfl,_,_,rfl,rfl,Jf,_,_,rfl,?_⟩
   exact ⟨⟨_,_,rfl,rfl,hy,acy _ (by omega),by rw [uV];exact g⟩,rm Jf⟩
  ·have Jf:y=0:=by
    have:=ahq.mpr c
    simp at this
    exact this
   subst Jf
   have e:x=sg t b:=by
    rw [ais] at g
    unfold sg
    rw [if_neg (by omega)]
    unfold gz
    rw [<- g]
    omega
   subst e
   have hbn:b≠0:=by omega
   have c:=n_ (t:=t) hbn
   refine ⟨_,rfl,_,rfl,_,_,rfl,rfl,c,_,rfl,_,rfl,_,_,rfl,rfl,c,(by show 2<=sizeLine;decide),fun p hp=>?_⟩
   exact q p _ (aH hp _) aj
 ·rintro σ H' Q1 Q2 h ⟨v,e1,e2,k,ek,z⟩
  exact ⟨v,e1,e2,k,ek,h _ _ z⟩
structure Ns (n:Nat)(q:Int×Int):Prop where
 top:q.1.natAbs<=2^n
 bot:q.2.natAbs<=2^n
def JF (x y:Int×Int):Int×Int:=(x.1*y.2+y.1*x.2,x.2*y.2)
inductive yi (K:Frag)(f:Int×Int->Int×Int->Int×Int)(vs:η)(H:Hp)(Q:VK)(E_:XK):Prop where
 | mk (u v:V) (x y:Int×Int) (m n:Nat) (_:vs=[u,v]) (_:oG K H u x) (_:oG K H v y) (_:Ns m x) (_:Ns n y) (_:m+n<=130000000) (_:gives H Q (f x y)):yi K f vs H Q E_
theorem VY:aG zau zau (ag DA):=sq
theorem VZ (D:Def K mg "_law_sum" DA zau):Fn P w K mg base (a8 P w) 1 "_law_sum" zau (yi K JF):=by
 refine D.ok VY (fun vs H Q E h=>?_) (fun f bH A outer s H vs Q E hr h=>?_)
 ·obtain ⟨u,v,x,y,m,n,rfl,_⟩:=h
  rfl
 obtain ⟨u,v,x,y,m,n,rfl,⟨p1,rfl,h1⟩,⟨p2,rfl,h2⟩,zx,zy,l,q⟩:=h
 refine ⟨_,(ak (aK (a_ (ar (aF bI (aF nj (a9 (pv 0)) (a9 (pv 1))) (aF nj (a9 (pv 1)) (a9 (pv 0)))) (ar (aF nj (a9 (pv 0)) (a9 (pv 1))) aa))))),?_⟩
 refine ⟨_,rfl,p1,_,_,_,rfl,rfl,h1,me,_,rfl,p2,_,_,_,rfl,rfl,h2,mJ,_,_,rfl,rfl,jZ zx.top zy.bot (by omega),?_⟩
 refine ⟨_,rfl,p2,_,_,_,rfl,rfl,h2,me,_,rfl,p1,_,_,_,rfl,rfl,h1,mJ,_,_,rfl,rfl,jZ zy.top zx.bot (by omega),?_⟩
 refine ⟨_,_,rfl,rfl,?_⟩
 refine ⟨_,rfl,p1,_,_,_,rfl,rfl,h1,mJ,_,rfl,p2,_,_,_,rfl,rfl,h2,mJ,_,_,rfl,rfl,jZ zx.bot zy.bot (by omega),(by show 2<=sizeLine;decide),?_⟩
 intro p3 n3;generalize eX:upd _ p3 _=H3;have ⟨s3,e3⟩:=nw n3 eX;clear eX
 exact q p3 H3 s3 e3
def nameOf (st a k:Int):Str:=if st=0 then Txt.mul "p" (k+1) else if st=1 then Txt.mul "p" a++⟨#[(je (Str.ofString "bcdefghijklmnoqrs").cps.toList k).getD 0]⟩++Txt.mul "p" (5 - a) else Txt.slice "12345" none (some a)++(toString k:String)
theorem vX:∀st:Fin 3,∀a:Fin 6,∀k:Fin 17,∀j:Fin 17,k≠j->nameOf (st.val:Int) (a.val:Int) (k.val:Int)≠nameOf (st.val:Int) (a.val:Int) (j.val:Int):=by decide+kernel
theorem RA:∀n:Fin 20,MulOk "p" (n.val:Int):=by
 intro n
 unfold MulOk
 revert n
 decide+kernel
theorem RB:∀k:Fin 17,je (Str.ofString "bcdefghijklmnoqrs").cps.toList (k.val:Int)=some ((je (Str.ofString "bcdefghijklmnoqrs").cps.toList (k.val:Int)).getD 0):=by decide+kernel
theorem JG:∀a:Fin 6,∀k:Fin 17,(Txt.mul "p" (a.val:Int)).length+(⟨#[(je (Str.ofString "bcdefghijklmnoqrs").cps.toList (k.val:Int)).getD 0]⟩:Str).length<=1000/\
  (Txt.mul "p" (a.val:Int)++(⟨#[(je (Str.ofString "bcdefghijklmnoqrs").cps.toList (k.val:Int)).getD 0]⟩:Str)).length+(Txt.mul "p" (5 - (a.val:Int))).length<=1000/\(Txt.slice "12345" none (some (a.val:Int))).length+(Str.ofString (toString (k.val:Int))).length<=1000:=by decide+kernel
inductive tP (vs:η)(H:Hp)(Q:VK)(E_:XK):Prop where
 | mk (c k:Int) (_:vs=[.int c,.int k]) (_:0<=k) (_:k < 17) (_:Q (.str (nameOf (field c 3001 3) (field c 4001 6) k)) H):tP vs H Q E_
theorem JH:aG zaC zax (ag xP):=sq
theorem V0 (hM:u4 CX)(D:Def K mg "_law_name" xP zax)(fO:mg "str"=none)(cw:Fn P w K mg base CX 1 "_law_field" zab dG):Fn P w K mg base CX 2 "_law_name" zax tP:=by
 refine D.ok JH (fun vs H Q E h=>?_) (fun f bH A outer s H vs Q E hr h=>?_)
 ·obtain ⟨c,k,rfl,_⟩:=h
  rfl
 obtain ⟨c,k,rfl,h0,h12,q⟩:=h
 have px:=u5 (X:=mG CX P w K mg base zaC "_law_name" (ag xP) f bH A outer s H E) hM
 refine ⟨_,(ae (aA (i:=2) JH.nd rfl (aav rfl) (aE cw hr.mo px (ar (pv 0) (ar ah (ar ah aa)))))
  (ae (aA (i:=3) JH.nd rfl (aav rfl) (aE cw hr.mo px (ar (pv 0) (ar ah (ar ah aa)))))
  (ae (bw (aR du (pv 2) ah (aX _)) (ak (aK (aF sI fG (aF bI (pv 1) ah)))) aU)
  (ae (bw (aR du (pv 2) ah (aX _)) (ak (aK (aF cu (aF cu (aF sI fG (pv 3)) (bB P_ fG (pv 1) (fun _ _=>rfl))) (aF sI fG (aF b9 ah (pv 3)))))) aU)
  (ak (aK (aF cu (cE Qp fG fk (cA (pv 3))) (bN cf rfl fO lZ (ar (pv 1) aa))))))))),?_⟩
 have i1:=aV (c:=c) (p:=3001) (m:=3) (by decide)
 have i2:=aV (c:=c) (p:=4001) (m:=6) (by decide)
 refine ⟨_,rfl,_,_,_,rfl,by decide,by decide,by decide,?_⟩
 refine ⟨_,rfl,_,_,_,rfl,by decide,by decide,by decide,?_⟩
 generalize field c 3001 3=st at i1 q ⊢
 generalize field c 4001 6=a at i2 q ⊢
 obtain ⟨kn,rfl⟩:∃n:Nat,k=(n:Int):=⟨k.toNat,by omega⟩
 obtain ⟨an,rfl⟩:∃n:Nat,a=(n:Int):=⟨a.toNat,by omega⟩
 have mk:∀i:Int,0<=i->i < 20->MulOk "p" i:=fun i a b=>by
  have:=RA ⟨i.toNat,by omega⟩
  rwa [show ((⟨i.toNat,by omega⟩:Fin 20).val:Int)=i by show ((i.toNat:Nat):Int)=i;omega] at this
 refine ⟨_,rfl,rfl,_,rfl,?_⟩
 refine bf (fun z=>?_) (fun z=>?_)
 ·have z' :st=0:=by simpa [rg] using z
  subst z'
  refine ⟨_,rfl,_,_,rfl,rfl,_,_,rfl,rfl,mk _ (by omega) (by omega),?_⟩
  exact q
 have z' :¬ st=0:=by simpa [rg] using z
 have nl:=JG ⟨an,by omega⟩ ⟨kn,by omega⟩
 refine ⟨_,rfl,rfl,_,rfl,?_⟩
 refine bf (fun z3=>?_) (fun z3=>?_)
 ·have z3' :st=1:=by simpa [rg] using z3
  subst z3'
  refine ⟨_,rfl,_,_,rfl,rfl,mk _ (by omega) (by omega),_,rfl,_,_,_,rfl,rfl,(by decide+kernel),RB ⟨kn,by omega⟩,?_⟩
  refine ⟨_,_,rfl,rfl,aam nl.1 (by decide),_,rfl,_,_,rfl,rfl,_,_,rfl,rfl,mk _ (by omega) (by omega),_,_,rfl,rfl,aam nl.2.1 (by decide),?_⟩
  exact q
 ·have z3' :¬ st=1:=by simpa [rg] using z3
  refine ⟨_,rfl,_,rfl,_,rfl,(by decide+kernel),?_⟩
  have lg:(kn:Int).natAbs.log2 < 1920:=aaz (ahw _) (by show kn < 1920;omega)
  refine ⟨_,rfl,_,rfl,lg,_,_,rfl,rfl,aam nl.2.2 (by decide),?_⟩
  have e:nameOf st (an:Int) (kn:Int)=Txt.slice "12345" none (some (an:Int))++Str.ofString (toString (kn:Int)):=by
   unfold nameOf
   rw [if_neg z',if_neg z3']
  rw [e] at q
  exact q
def iQ (ws:Ζ):Prop:=ws=[]\/(∃x y:Rat,ws=[(x,y)]/\¬ (x=0/\y=0)/\Sz 22 x/\Sz 22 y)\/ws=[(1,0),(0,1)]
theorem pk {K:Frag}{H:Hp}{p:Addr}(i:Int)(h:H p=some (.tup [.int i,.int 1])):nq K H (.ref p) (i:Rat):=⟨p,rfl,by rw [oI];exact bQ.of h⟩
theorem mm {K:Frag}{H:Hp}{p:Addr}{r:Rat}(h:H p=some (.tup [.int (qr r).1,.int (qr r).2])):nq K H (.ref p) r:=⟨p,rfl,bQ.of h⟩
theorem mq {K:Frag}{H:Hp}{p:Addr}{u v:V}{r s:Rat}(h:H p=some (.tup [u,v]))(h1:nq K H u r)(h2:nq K H v s):fY K H (.ref p) (r,s):=⟨p,u,v,rfl,bQ.of h,h1,h2⟩
theorem kr {k:Nat}{i:Int}(h:i.natAbs < 1048576)(hk:20<=k):Sz k (i:Rat):=oJ (aa6 h (show 2^20<=2^k from abo (by decide) hk)) (by omega)
theorem jd {t b:Int}(h:0 < b)(h1:t.natAbs < 1048576)(h2:b < 1048576):Sz 20 ((t:Rat) / (b:Rat)):=IQ (af_ h) (intBits_le_iff.mpr (by show _ < 1048576;omega)) (intBits_le_iff.mpr (by show _ < 1048576;omega))
theorem vY {i:Int}(h:i<=500002):(i:Rat)<=500002:=by
 have:=acB.mpr h
 simpa using this
theorem nJ {t b:Int}(hb:0 < b)(h:t<=500002):(t:Rat) / (b:Rat)<=500002:=by
 have ix :(0:Rat) < (b:Rat):=by
  have:=ah6.mpr hb
  simpa using this
 have h1:t<=500002*b:=by
  have:(500002:Int)*1<=500002*b:=Int.mul_le_mul_of_nonneg_left (by omega) (by decide)
  omega
 have h2:(t:Rat)<=500002*(b:Rat):=by
  have:=acB.mpr h1
  simpa using this
 have e:(t:Rat) / (b:Rat)*(b:Rat)=(t:Rat):=by
  have zl:(b:Rat)≠0:=by grind
  grind
 generalize (t:Rat) / (b:Rat)=z at e
 by_cases c:z<=500002
 ·exact c
 ·have c' :500002 < z:=by grind
  have:=Rat.mul_lt_mul_of_pos_right c' ix
  grind
theorem JI {i:Int}(h:i<=500002)(h2: -500002<=i): -500002<=(i:Rat)/\(i:Rat)<=500002:=by
 refine ⟨?_,vY h⟩
 have:=acB.mpr h2
 simpa using this
theorem zY {t b:Int}(hb:0 < b)(h:t<=500002)(h2: -500002<=t): -500002<=(t:Rat) / (b:Rat)/\(t:Rat) / (b:Rat)<=500002:=by
 refine ⟨?_,nJ hb h⟩
 have:=nJ (t:= -t) hb (by omega)
 have e:((-t:Int):Rat) / (b:Rat)= -((t:Rat) / (b:Rat)):=by
  push_cast
  grind
 rw [e] at this
 grind
inductive tQ (K:Frag)(vs:η)(H:Hp)(Q:VK)(E_:XK):Prop where
 | mk (c k:Int) (_:vs=[.int c,.int k]) (_:∀(p:Addr) (x y:Rat) (H' :Hp),av H H' ->Sz 20 x->Sz 20 y->x<=500002->(-500002<=y/\y<=500002)->fY K H' (.ref p) (x,y)->Q (.ref p) H'):tQ K vs H Q E_
theorem JJ:aG ["_law_cell","_law_kind","_law_x"] zaA (ag DB):=sq
theorem V1 (D:Def K mg "_law_spot" DB zaA)(cw:Fn P w K mg base (a8 P w) 1 "_law_field" zab dG)(yj:Fn P w K mg base (a8 P w) 33 "_law_lowest" zas fq):Fn P w K mg base (a8 P w) 34 "_law_spot" zaA (tQ K):=by
 refine D.ok JJ (fun vs H Q E h=>?_) (fun f bH A outer s H vs Q E hr h=>?_)
 ·obtain ⟨c,k,rfl,_⟩:=h
  rfl
 obtain ⟨c,k,rfl,q⟩:=h
 have L2:2<=sizeLine:=by decide
 refine ⟨_,(ae (bw (aR du (pv 1) ah (aX _)) (ak (aK (a_ (ar (a_ (ar (aE cw hr.mo pX (ar (pv 0) (ar ah (ar ah aa)))) (ar ah aa))) (ar (a_ (ar (aE cw hr.mo pX (ar (pv 0) (ar ah (ar ah aa)))) (ar ah aa))) aa))))) aU)
  (ae (bw (aR du (pv 1) ah (aX _)) (ae (aA (i:=2) JJ.nd rfl (aav rfl) (aE yj hr.mo pX (ar (aF b9 (aE cw hr.mo pX (ar (pv 0) (ar ah (ar ah aa)))) ah) (ar (aF bI ah (aE cw hr.mo pX (ar (pv 0) (ar ah (ar ah aa))))) aa))))
   (ak (aK (a_ (ar (pv 2) (ar (aE yj hr.mo pX (ar (aF b9 (aE cw hr.mo pX (ar (pv 0) (ar ah (ar ah aa)))) ah) (ar (aF bI ah (aE cw hr.mo pX (ar (pv 0) (ar ah (ar ah aa))))) aa))) aa)))))) aU)
  (ae (aA (i:=2) JJ.nd rfl (aav rfl) (aE yj hr.mo pX (ar (aF b9 (aE cw hr.mo pX (ar (pv 0) (ar ah (ar ah aa)))) ah) (ar (aF bI ah (aE cw hr.mo pX (ar (pv 0) (ar ah (ar ah aa))))) aa))))
  (ak (aK (a_ (ar (pv 2) (ar (aE yj hr.mo pX (ar (aF b9 (aE cw hr.mo pX (ar (pv 0) (ar ah (ar ah aa)))) ah) (ar (aF bI ah (aE cw hr.mo pX (ar (pv 0) (ar ah (ar ah aa))))) aa))) aa)))))))),?_⟩
 refine ⟨_,rfl,rfl,_,rfl,?_⟩
 refine bf (fun _=>?_) (fun _=>?_)
 ·have i1:=aV (c:=c) (p:=1009) (m:=4) (by decide)
  have i2:=aV (c:=c) (p:=2003) (m:=4) (by decide)
  refine ⟨_,rfl,_,_,_,rfl,by decide,by decide,by decide,L2,?_⟩
  intro p1 n1;generalize eX:upd _ p1 _=H1;have ⟨s1,e1⟩:=nw n1 eX;clear eX
  refine ⟨_,rfl,_,_,_,rfl,by decide,by decide,by decide,L2,?_⟩
  intro p2 n2;generalize eX:upd _ p2 _=H2;have ⟨s2,e2⟩:=nw n2 eX;clear eX
  refine ⟨L2,?_⟩
  intro p3 n3;generalize eX:upd _ p3 _=H3;have ⟨s3,e3⟩:=nw n3 eX;clear eX
  exact q p3 _ _ H3 ((s1.trans s2).trans s3) (kr (by omega) (by decide)) (kr (by omega) (by decide)) (vY (by omega)) (JI (by omega) (by omega)) (mq e3 (((pk _ e1).same s2).same s3) ((pk _ e2).same s3))
 refine ⟨_,rfl,rfl,_,rfl,?_⟩
 refine bf (fun _=>?_) (fun _=>?_)
 ·have i1:=aV (c:=c) (p:=1009) (m:=13) (by decide)
  have i2:=aV (c:=c) (p:=3001) (m:=3) (by decide)
  have i3:=aV (c:=c) (p:=2003) (m:=13) (by decide)
  have i4:=aV (c:=c) (p:=4001) (m:=2) (by decide)
  refine ⟨_,rfl,_,_,_,rfl,by decide,by decide,by decide,_,_,rfl,rfl,_,rfl,_,_,_,rfl,by decide,by decide,by decide,_,_,rfl,rfl,_,_,rfl,by omega,fun p1 H1 s1 e1=>?_⟩
  rw [g7 (by omega)] at e1
  refine ⟨_,rfl,_,rfl,_,_,_,rfl,by decide,by decide,by decide,_,_,rfl,rfl,_,rfl,_,_,_,rfl,by decide,by decide,by decide,_,_,rfl,rfl,_,_,rfl,by omega,fun p2 H2 s2 e2=>⟨L2,?_⟩⟩
  rw [g7 (by omega)] at e2
  intro p3 n3;generalize eX:upd _ p3 _=H3;have ⟨s3,e3⟩:=nw n3 eX;clear eX
  exact q p3 _ _ H3 ((s1.trans s2).trans s3) (jd (by omega) (by omega) (by omega)) (jd (by omega) (by omega) (by omega)) (nJ (by omega) (by omega)) (zY (by omega) (by omega) (by omega)) (mq e3 (((mm e1).same s2).same s3) ((mm e2).same s3))
 ·have i1:=aV (c:=c) (p:=1000003) (m:=1000003) (by decide)
  have i2:=aV (c:=c) (p:=3001) (m:=997) (by decide)
  have i3:=aV (c:=c) (p:=1000033) (m:=1000003) (by decide)
  have i4:=aV (c:=c) (p:=4001) (m:=997) (by decide)
  refine ⟨_,rfl,_,_,_,rfl,by decide,by decide,by decide,_,_,rfl,rfl,_,rfl,_,_,_,rfl,by decide,by decide,by decide,_,_,rfl,rfl,_,_,rfl,by omega,fun p1 H1 s1 e1=>?_⟩
  rw [g7 (by omega)] at e1
  refine ⟨_,rfl,_,rfl,_,_,_,rfl,by decide,by decide,by decide,_,_,rfl,rfl,_,rfl,_,_,_,rfl,by decide,by decide,by decide,_,_,rfl,rfl,_,_,rfl,by omega,fun p2 H2 s2 e2=>⟨L2,?_⟩⟩
  rw [g7 (by omega)] at e2
  intro p3 n3;generalize eX:upd _ p3 _=H3;have ⟨s3,e3⟩:=nw n3 eX;clear eX
  exact q p3 _ _ H3 ((s1.trans s2).trans s3) (jd (by omega) (by omega) (by omega)) (jd (by omega) (by omega) (by omega)) (nJ (by omega) (by omega)) (zY (by omega) (by omega) (by omega)) (mq e3 (((mm e1).same s2).same s3) ((mm e2).same s3))
inductive nK (K:Frag)(vs:η)(H:Hp)(Q:VK)(E_:XK):Prop where
 | mk (c:Int) (_:vs=[.int c]) (_:∀(l:Addr) (us:η) (ws:Ζ) (H' :Hp),iQ ws->av H H' ->H l=none->H' l=some (.lst us)->g9 K H' us ws->Q (.ref l) H'):nK K vs H Q E_
theorem Mj {r:Rat}:(qr r).1=0 ↔ r=0:=⟨tm,fun e=>by rw [e,d0]⟩
theorem vZ:aG ["_law_cell","_law_kind","_law_x","_law_y"] zaL (ag DC):=sq
theorem V2 (D:Def K mg "_law_ways" DC zaL)(cw:Fn P w K mg base (a8 P w) 1 "_law_field" zab dG)(yj:Fn P w K mg base (a8 P w) 33 "_law_lowest" zas fq):Fn P w K mg base (a8 P w) 34 "_law_ways" zaL (nK K):=by
 refine D.ok vZ (fun vs H Q E h=>?_) (fun f bH A outer s H vs Q E hr h=>?_)
 ·obtain ⟨c,rfl,_⟩:=h
  rfl
 obtain ⟨c,rfl,q⟩:=h
 have L0:0<=sizeLine:=by decide
 have L1:1<=sizeLine:=by decide
 have L2:2<=sizeLine:=by decide
 refine ⟨_,(ae (aA (i:=1) vZ.nd rfl (aav rfl) (aE cw hr.mo pX (ar (pv 0) (ar ah (ar ah aa)))))
  (ae (bw (aR lV (pv 1) ah (aX _)) (ak (aK (cD aa))) aU)
  (ae (bw (aR lV (pv 1) ah (aX _)) (ak (aK (cD (ar (a_ (ar (a_ (ar ah (ar ah aa))) (ar (a_ (ar ah (ar ah aa))) aa))) (ar (a_ (ar (a_ (ar ah (ar ah aa))) (ar (a_ (ar ah (ar ah aa))) aa))) aa))))) aU)
  (ae (aA (i:=2) vZ.nd rfl (aav rfl) (aE yj hr.mo pX (ar (aF b9 (aE cw hr.mo pX (ar (pv 0) (ar ah (ar ah aa)))) ah) (ar (aF bI ah (aE cw hr.mo pX (ar (pv 0) (ar ah (ar ah aa))))) aa))))
  (ae (aA (i:=3) vZ.nd rfl (aav rfl) (aE yj hr.mo pX (ar (aF b9 (aE cw hr.mo pX (ar (pv 0) (ar ah (ar ah aa)))) ah) (ar (aF bI ah (aE cw hr.mo pX (ar (pv 0) (ar ah (ar ah aa))))) aa))))
  (ae (bw (PW.pt (r8 (aR du (a9 (pv 2)) ah (aX _)) (mW (aR du (a9 (pv 3)) ah (aX _))))) (ak (aA (i:=3) vZ.nd rfl (aav rfl) (a_ (ar ah (ar ah aa))))) aU)
  (ak (aK (cD (ar (a_ (ar (pv 2) (ar (pv 3) aa))) aa)))))))))),?_⟩
 refine ⟨_,rfl,_,_,_,rfl,by decide,by decide,by decide,?_⟩
 refine ⟨_,rfl,_,_,rfl,rfl,_,rfl,?_⟩
 refine bf (fun _=>?_) (fun _=>?_)
 ·refine ⟨L0,?_⟩
  intro l nl;generalize eX:upd _ l _=H1;have ⟨s1,e1⟩:=nw nl eX;clear eX
  exact q l [] [] H1 (.inl rfl) s1 nl e1 .nil
 refine ⟨_,rfl,_,_,rfl,rfl,_,rfl,?_⟩
 refine bf (fun _=>?_) (fun _=>?_)
 ·refine ⟨L2,?_⟩
  intro p1 n1;generalize eX:upd _ p1 _=H1;have ⟨s1,e1⟩:=nw n1 eX;clear eX
  refine ⟨L2,?_⟩
  intro p2 n2;generalize eX:upd _ p2 _=H2;have ⟨s2,e2⟩:=nw n2 eX;clear eX
  refine ⟨L2,?_⟩
  intro p3 n3;generalize eX:upd _ p3 _=H3;have ⟨s3,e3⟩:=nw n3 eX;clear eX
  refine ⟨L2,?_⟩
  intro p4 n4;generalize eX:upd _ p4 _=H4;have ⟨s4,e4⟩:=nw n4 eX;clear eX
  refine ⟨L2,?_⟩
  intro p5 n5;generalize eX:upd _ p5 _=H5;have ⟨s5,e5⟩:=nw n5 eX;clear eX
  refine ⟨L2,?_⟩
  intro p6 n6;generalize eX:upd _ p6 _=H6;have ⟨s6,e6⟩:=nw n6 eX;clear eX
  refine ⟨L2,?_⟩
  intro p7 n7;generalize eX:upd _ p7 _=H7;have ⟨s7,e7⟩:=nw n7 eX;clear eX
  have sh:=s1.trans (s2.trans (s3.trans (s4.trans (s5.trans s6))))
  have w1:fY K H7 (.ref p3) (1,0):=zL tq d0 (s7 _ _ (s6 _ _ (s5 _ _ (s4 _ _ e3)))) (s7 _ _ (s6 _ _ (s5 _ _ (s4 _ _ (s3 _ _ (s2 _ _ e1)))))) (s7 _ _ (s6 _ _ (s5 _ _ (s4 _ _ (s3 _ _ e2)))))
  have w2:fY K H7 (.ref p6) (0,1):=zL d0 tq (s7 _ _ e6) (s7 _ _ (s6 _ _ (s5 _ _ e4))) (s7 _ _ (s6 _ _ e5))
  exact q p7 _ [(1,0),(0,1)] _ (.inr (.inr rfl)) (sh.trans s7) (sh.free n7) e7 (.cons w1 (.cons w2 .nil))
 have i1:=aV (c:=c) (p:=6007) (m:=7) (by decide)
 have i2:=aV (c:=c) (p:=7001) (m:=3) (by decide)
 have i3:=aV (c:=c) (p:=8009) (m:=7) (by decide)
 have i4:=aV (c:=c) (p:=9001) (m:=2) (by decide)
 refine ⟨_,rfl,_,_,_,rfl,by decide,by decide,by decide,_,_,rfl,rfl,_,rfl,_,_,_,rfl,by decide,by decide,by decide,_,_,rfl,rfl,_,_,rfl,by omega,fun p1 H1 s1 e1=>?_⟩
 rw [g7 (by omega)] at e1
 refine ⟨_,rfl,_,_,_,rfl,by decide,by decide,by decide,_,_,rfl,rfl,_,rfl,_,_,_,rfl,by decide,by decide,by decide,_,_,rfl,rfl,_,_,rfl,by omega,fun p2 H2 s2 e2=>?_⟩
 rw [g7 (by omega)] at e2
 have z1:=jd (t:=field c 6007 7 - 3) (b:=1+field c 7001 3) (by omega) (by omega) (by omega)
 have z2:=jd (t:=field c 8009 7 - 3) (b:=1+field c 9001 2) (by omega) (by omega) (by omega)
 generalize ((field c 6007 7 - 3:Int):Rat) / ((1+field c 7001 3:Int):Rat)=x at e1 z1 ⊢
 generalize ((field c 8009 7 - 3:Int):Rat) / ((1+field c 9001 2:Int):Rat)=y at e2 z2 ⊢
 have BK :=s2 _ _ e1
 have QR:=s1.trans s2
 have fin:∀(v:V) (y' :Rat) (H3:Hp),av H2 H3->nq K H3 v y' ->Sz 22 y' ->¬ (x=0/\y' =0)->∀(p:Addr) (l:Addr) (H5:Hp),av H3 H5->H3 l=none->H5 p=some (.tup [.ref p1,v])->H5 l=some (.lst [.ref p])->Q (.ref l) H5:=fun v y' H3 s3 hv zy hn p l H5 s5 nl ep el=>
  q l [.ref p] [(x,y')] H5 (.inr (.inl ⟨x,y',rfl,hn,z1.up (by decide),zy⟩)) (QR.trans (s3.trans s5)) ((QR.trans s3).free nl) el (.cons (mq ep (((mm BK).same s3).same s5) (hv.same s5)) .nil)
 refine ⟨_,rfl,p1,_,_,_,rfl,rfl,bQ.of BK,me,rfl,_,rfl,?_⟩
 refine bf (fun c1=>?_) (fun c1=>?_)
 ·have c1' :x=0:=Mj.mp (by simpa using of_decide_eq_true c1)
  refine ⟨_,rfl,p2,_,_,_,rfl,rfl,bQ.of e2,me,rfl,_,rfl,?_⟩
  refine bf (fun c2=>?_) (fun c2=>?_)
  ·refine ⟨L2,?_⟩
   intro p3 n3;generalize eX:upd _ p3 _=H3;have ⟨s3,e3⟩:=nw n3 eX;clear eX
   refine ⟨_,rfl,_,rfl,L2,?_⟩
   intro p4 n4;generalize eX:upd _ p4 _=H4;have ⟨s4,e4⟩:=nw n4 eX;clear eX
   refine ⟨L1,?_⟩
   intro l5 n5;generalize eX:upd _ l5 _=H5;have ⟨s5,e5⟩:=nw n5 eX;clear eX
   exact fin (.ref p3) 1 H3 s3 (pk 1 e3) (kr (i:=1) (by decide) (by decide)) (fun z=>absurd z.2 (by decide)) p4 l5 H5 (s4.trans s5) (s4.free n5) (s5 _ _ e4) e5
  ·have c2' :¬ y=0:=fun z=>c2 (by rw [z,d0];decide)
   refine ⟨_,rfl,_,rfl,L2,?_⟩
   intro p4 n4;generalize eX:upd _ p4 _=H4;have ⟨s4,e4⟩:=nw n4 eX;clear eX
   refine ⟨L1,?_⟩
   intro l5 n5;generalize eX:upd _ l5 _=H5;have ⟨s5,e5⟩:=nw n5 eX;clear eX
   exact fin (.ref p2) y H2 (av.refl _) (mm e2) (z2.up (by decide)) (fun z=>c2' z.2) p4 l5 H5 (s4.trans s5) (s4.free n5) (s5 _ _ e4) e5
 ·have c1' :¬ x=0:=fun z=>c1 (by rw [z,d0];decide)
  refine Qe ?_
  refine ⟨_,rfl,_,rfl,L2,?_⟩
  intro p4 n4;generalize eX:upd _ p4 _=H4;have ⟨s4,e4⟩:=nw n4 eX;clear eX
  refine ⟨L1,?_⟩
  intro l5 n5;generalize eX:upd _ l5 _=H5;have ⟨s5,e5⟩:=nw n5 eX;clear eX
  exact fin (.ref p2) y H2 (av.refl _) (mm e2) (z2.up (by decide)) (fun z=>c1' z.1) p4 l5 H5 (s4.trans s5) (s4.free n5) (s5 _ _ e4) e5
inductive jK (K:Frag)(H:Hp)(d:Addr)(v:V)(p:aJ):Prop where
 | mk (a l:Addr) (s:V) (us:η) (_:v=.ref a) (_:bQ K H a [.str p.nm,s,.ref l]) (_:fY K H s p.sp) (_:H l=some (.lst us)) (_:g9 K H us p.ws) (_:l≠d):jK K H d v p
inductive mO (K:Frag)(H:Hp)(v:V)(p:aJ):Prop where
 | mk (a l:Addr) (s:V) (us:η) (_:v=.ref a) (_:bQ K H a [.str p.nm,s,.ref l]) (_:fY K H s p.sp) (_:H l=some (.lst us)) (_:g9 K H us p.ws):mO K H v p
inductive gP (K:Frag)(H:Hp)(pins:π)(v:V)(b:ba):Prop where
 | mk (a:Addr) (i j:Nat) (_:v=.ref a) (_:bQ K H a [.str b.nm,.int (i:Int),.int (j:Int)]) (_:pins[i]? =some b.one) (_:pins[j]? =some b.other):gP K H pins v b
section
variable {K:Frag}{H H' :Hp}{v:V}{p:aJ}{d:Addr}
theorem jK.same (h:jK K H d v p)(s:av H H'):jK K H' d v p:=by
 obtain ⟨a,l,sv,us,e,h1,h2,h3,h4,h5⟩:=h
 exact ⟨a,l,sv,us,e,Ty.av.cG s h1,h2.same s,s _ _ h3,h4.same s,h5⟩
theorem jK.upd {xs:η}{o:HO}(h:jK K H d v p)(e:H d=some (.lst xs)):jK K (L2.upd H d o) d v p:=by
 obtain ⟨a,l,sv,us,ev,h1,h2,h3,h4,h5⟩:=h
 have t:bx H (L2.upd H d o):=.list e
 exact ⟨a,l,sv,us,ev,t.cG h1,h2.bg t,by rw [aq h5];exact h3,h4.bg t,h5⟩
theorem jK.r (h:jK K H d v p):mO K H v p:=by
 obtain ⟨a,l,sv,us,e,h1,h2,h3,h4,_⟩:=h
 exact ⟨a,l,sv,us,e,h1,h2,h3,h4⟩
theorem mO.same (h:mO K H v p)(s:av H H'):mO K H' v p:=by
 obtain ⟨a,l,sv,us,e,h1,h2,h3,h4⟩:=h
 exact ⟨a,l,sv,us,e,Ty.av.cG s h1,h2.same s,s _ _ h3,h4.same s⟩
theorem gP.same {pins:π}{b:ba}(h:gP K H pins v b)(s:av H H'):gP K H' pins v b:=by
 obtain ⟨a,i,j,e,h1,h2,h3⟩:=h
 exact ⟨a,i,j,e,Ty.av.cG s h1,h2,h3⟩
end
structure iR (pins:π):Prop where
 np:(pins.map (·.nm)).Nodup
 ns:(pins.map (·.sp)).Nodup
 sz:∀p∈pins,Sz 44 p.sp.1/\Sz 44 p.sp.2
 ws:∀p∈pins,iQ p.ws
theorem iQ.sz {ws:Ζ}(h:iQ ws):∀w∈ws,Sz 22 w.1/\Sz 22 w.2:=fun w hw=>by
 rcases h with rfl | ⟨x,y,rfl,_,h1,h2⟩ | rfl
 ·cases hw
 ·have:w=(x,y):=by simpa using hw
  rw [this]
  exact ⟨h1,h2⟩
 ·have e1:Sz 22 (1:Rat):=kr (k:=22) (i:=1) (by decide) (by decide)
  have e0:Sz 22 (0:Rat):=ke (by decide)
  have:w=(1,0)\/w=(0,1):=by simpa using hw
  rcases this with rfl | rfl
  ·exact ⟨e1,e0⟩
  ·exact ⟨e0,e1⟩
theorem iQ.len {ws:Ζ}(h:iQ ws):ws.length<=2:=by
 rcases h with rfl | ⟨x,y,rfl,_⟩ | rfl <;> simp
theorem iR.snoc {pins:π}{p:aJ}(g:iR pins)(h1:p.nm∉pins.map (·.nm))(h2:p.sp∉pins.map (·.sp))(h3:Sz 44 p.sp.1/\Sz 44 p.sp.2)(h4:iQ p.ws):iR (pins++[p]):=by
 refine ⟨?_,?_,fun q hq=>?_,fun q hq=>?_⟩
 ·rw [aa1,acL]
  refine ⟨g.np,by simp,fun a ha b hb e=>h1 ?_⟩
  have:b=p.nm:=by simpa using hb
  rw [<- this, <- e]
  exact ha
 ·rw [aa1,acL]
  refine ⟨g.ns,by simp,fun a ha b hb e=>h2 ?_⟩
  have:b=p.sp:=by simpa using hb
  rw [<- this, <- e]
  exact ha
 ·rcases aaQ.mp hq with z | z
  ·exact g.sz q z
  ·rw [aaT.mp z]
   exact h3
 ·rcases aaQ.mp hq with z | z
  ·exact g.ws q z
  ·rw [aaT.mp z]
   exact h4
structure iS (pins:π)(bars:ς):Prop where
 nb:(bars.map (·.nm)).Nodup
 ends:∀b∈bars,b.one∈pins/\b.other∈pins/\b.one.nm≠b.other.nm
theorem d_ {α β:Type}{F:α->β->Prop}:∀{l₁:List α} {l₂:List β} {a:α} {b:β},Paired F l₁ l₂->F a b->Paired F (l₁++[a]) (l₂++[b])
 | _,_,_,_,.nil,h=>.cons h .nil
 | _,_,_,_,.cons h t,h' =>.cons h (d_ t h')
theorem f' {t u:TS}{D:Ends}{σ:L2.St}{H:Hp}(inv:L2.St->Hp->Prop)(h1:∀N:L2.St->Hp->Prop,(∀σ' H',inv σ' H' ->N σ' H')->t {D with nx:=N} σ H)(h2:∀σ' H',inv σ' H' ->u D σ' H'):Td t u D σ H:=h1 _ h2
theorem OC {pins:π}{bars:ς}(g:iR pins)(b:iS pins bars)(lp:pins.length<=9)(lb:bars.length<=60):c7 pins bars:=
 ⟨g.np,b.nb,b.ends,fun p hp=>⟨(g.sz p hp).1,(g.sz p hp).2,(g.ws p hp).sz⟩,lp,lb,fun p hp=>(g.ws p hp).len⟩
theorem V3:bootBuiltins "min"=some (.builtin "min"):=by decide+kernel
def cnt (pins:π)(x:Rat):Nat:=(pins.filter fun p=>decide (x<=p.sp.1)).length
theorem JK (x:Rat):∀pins:List aJ,cnt pins (x+1)<=cnt pins x
 | []=>aas _
 | p::ps=>by
  have ih:=JK x ps
  unfold cnt at ih ⊢
  rw [abR,abR]
  by_cases c:x+1<=p.sp.1
  ·have c2:x<=p.sp.1:=by grind
   rw [if_pos (decide_eq_true c),if_pos (decide_eq_true c2)]
   simpa using ih
  ·rw [if_neg (by simpa using c)]
   split
   ·rw [abf]
    omega
   ·exact ih
theorem JL {x:Rat}:∀{pins:π},(∃p∈pins,p.sp.1=x)->cnt pins (x+1) < cnt pins x
 | [],⟨p,h,_⟩=>by simp at h
 | p::ps,⟨q,hq,e⟩=>by
  unfold cnt
  rw [abR,abR]
  by_cases c0:p.sp.1=x
  ·have c:¬ x+1<=p.sp.1:=by grind
   have c2:x<=p.sp.1:=by grind
   rw [if_neg (by simpa using c),if_pos (decide_eq_true c2),abf]
   have:=JK x ps
   unfold cnt at this
   omega
  ·have uO :q∈ps:=by
    rcases aa8.mp hq with z | z
    ·exact absurd (by rw [<- z];exact e) c0
    ·exact z
   have ih:=JL (pins:=ps) ⟨q,uO,e⟩
   unfold cnt at ih
   by_cases c:x+1<=p.sp.1
   ·have c2:x<=p.sp.1:=by grind
    rw [if_pos (decide_eq_true c),if_pos (decide_eq_true c2)]
    simpa using ih
   ·rw [if_neg (by simpa using c)]
    split
    ·rw [abf]
     omega
    ·exact ih
theorem Ml (pins:π)(x:Rat):cnt pins x<=pins.length:=abz _ _
theorem Mm (r:Rat):JF (qr r) (1,1)=qr (r+1):=by
 have e:JF (qr r) (1,1)=((qr r).1+(qr r).2,(qr r).2):=by
  unfold JF
  simp
 have g:abx ((qr r).1+(qr r).2) (qr r).2=1:=by
  have:=sT r
  rw [<- this]
  simp
 rw [e,rH (q:=((qr r).1+(qr r).2,(qr r).2)) (eJ r) g]
 congr 1
 have z:=BZ (r:=r)
 have v:=iq r
 unfold vl at v ⊢
 push_cast
 grind
theorem V4 {k:Nat}{r:Rat}(h:Sz k r):Ns k (qr r):=⟨acq (intBits_le_iff.mp h.top),acq (intBits_le_iff.mp h.bot)⟩
theorem Mn:∀i:Fin 10,∃N:Fin 6,je [V.int 0,.int 1,.int 2,.int 2,.int 3,.int 3,.int 3,.int 4,.int 4,.int 5] (i.val:Int)=some (.int (N.val:Int)):=by decide+kernel
theorem EF:∀st:Fin 3,∀a:Fin 6,∀k:Fin 17,nameOf (st.val:Int) (a.val:Int) (k.val:Int)≠ "far0"/\nameOf (st.val:Int) (a.val:Int) (k.val:Int)≠ "far1":=by decide+kernel
inductive tR (K:Frag)(vs:η)(H:Hp)(Q:VK)(E_:XK):Prop where
 | mk (sA:Addr) (ns:ν) (_:vs=[.ref sA]) (_:aZ K H sA (ns.map V.int)) (_:∀(l:Addr) (us:η) (pins:π) (H' :Hp),av H H' ->H l=none->H' l=some (.lst us)->Paired (jK K H' l) us pins->iR pins->pins.length<=7->(∀p∈pins,(p.nm≠ "far0"/\p.nm≠ "far1")/\p.sp.1<=500010/\Sz 20 p.sp.2/\ -500002<=p.sp.2/\p.sp.2<=500002)->Q (.ref l) H'):tR K vs H Q E_
theorem iT:aG ["_law_script","_law_cell","_law_many","_law_kind","_law_pins_here","_law_k","_law_spot_here"] zaD (ag DE):=sq
theorem V5 (D:Def K mg "_law_pins" DE zaD)(bG:mg "range"=none)(JM:mg "min"=none)(pC:Fn P w K mg base (a8 P w) 1 "_law_cell_at" zap (lh K))(cw:Fn P w K mg base (a8 P w) 1 "_law_field" zab dG)
  (abY:Fn P w K mg base (a8 P w) 34 "_law_spot" zaA (tQ K)) (RC:Fn P w K mg base (a8 P w) 34 "_law_ways" zaL (nK K)) (RD:Fn P w K mg base (a8 P w) 2 "_law_name" zax tP) (abZ:Fn P w K mg base (a8 P w) 1 "_law_sum" zau (yi K JF)):
  Fn P w K mg base (a8 P w) 35 "_law_pins" zaD (tR K):=by
 refine D.ok iT (fun vs H Q E h=>?_) (fun f bH A outer s H vs Q E hr h=>?_)
 ·obtain ⟨sA,ns,rfl,_⟩:=h
  rfl
 obtain ⟨sA,ns,rfl,hS,q⟩:=h
 have L2:2<=sizeLine:=by decide
 have L3:3<=sizeLine:=by decide
 refine ⟨_,(ae (aA (i:=1) iT.nd rfl (aav rfl) (aE pC hr.mo pX (ar (pv 0) (ar ah aa))))
  (ae (aA (i:=2) iT.nd rfl (aav rfl) (bB bc (cD (ar ah (ar ah (ar ah (ar ah (ar ah (ar ah (ar ah (ar ah (ar ah (ar ah aa))))))))))) (aE cw hr.mo pX (ar (pv 1) (ar ah (ar ah aa)))) (fun _ _=>rfl)))
  (ae (aA (i:=3) iT.nd rfl (aav rfl) (aE cw hr.mo pX (ar (pv 1) (ar ah (ar ah aa)))))
  (ae (bw (aR du (pv 3) ah (aX _)) (ak (aA (i:=2) iT.nd rfl (aav rfl) (aC (AW rfl) rfl JM V3 (ar (pv 2) (ar ah aa))))) aU)
  (ae (bw (aR du (aE cw hr.mo pX (ar (pv 1) (ar ah (ar ah aa)))) ah (aX _)) (ae (aA (i:=2) iT.nd rfl (aav rfl) ah)
   (ak (aA (i:=3) iT.nd rfl (aav rfl) (aF dF (pv 3) ah)))) aU)
  (ae (aA (i:=4) iT.nd rfl (aav rfl) (cD aa))
  (ae (bF PassesOwn.never rfl (df rfl bG (ar (pv 2) aa)) (aD (i:=5) iT.nd rfl (aav rfl)) (ae (aA (i:=6) iT.nd rfl (aav rfl) (aE abY hr.mo pX (ar (aE pC hr.mo pX (ar (pv 0) (ar (aF bI ah (pv 5)) aa))) (ar (pv 3) aa))))
   (ae (nR PassesOwn.never (aR (LM hr.units) (pv 6) (cY (tn:=zaG) (fr:=[]) (caps:=[]) rfl ⟨rfl,by decide+kernel,rfl,by decide+kernel,by decide+kernel,rfl,trivial,trivial⟩ (bD (pv 4)) (fun _ _ _ _=>(aD (i:=0) (show (zaG:List Str).Nodup from by decide+kernel) rfl (aav rfl))) (fun _ _ _ _=>dA) (fun _ _ _ _=>(bB (eC (K:=K) rfl) (pv 0) ah (fun _ _=>rfl)))) rfl) (ak (aA (i:=6) iT.nd rfl (aav rfl) (a_ (ar (aE abZ hr.mo pX (ar (a9 (pv 6)) (ar (a_ (ar ah (ar ah aa))) aa))) (ar (a9 (pv 6)) aa))))))
   (ak (bq (ip PySem.F.plainAttrs_list PySem.F.slot_list_append PySem.F.type_list_append di (pv 4) (ar (a_ (ar (aE RD hr.mo pX (ar (pv 1) (ar (pv 5) aa))) (ar (pv 6) (ar (aE RC hr.mo pX (ar (aE pC hr.mo pX (ar (pv 0) (ar (aF bI ah (pv 5)) aa))) aa)) aa)))) aa)))))))
  (ak (aK (pv 4)))))))))),?_⟩
 refine ⟨_,rfl,sA,ns,0,rfl,hS,by decide,by decide,?_⟩
 generalize cell ns 0=c0
 refine ⟨(by show 10<=sizeLine;decide),?_⟩
 intro t0 nt0;generalize eX:upd _ t0 _=H0;have ⟨RE,et0⟩:=nw nt0 eX;clear eX
 have i1:=aV (c:=c0) (p:=1009) (m:=10) (by decide)
 refine ⟨_,rfl,_,_,_,rfl,by decide,by decide,by decide,?_⟩
 generalize field c0 1009 10=fi at i1 ⊢
 obtain ⟨fn,rfl⟩:∃n:Nat,fi=(n:Int):=⟨fi.toNat,by omega⟩
 obtain ⟨N,eN⟩:=Mn ⟨fn,by omega⟩
 refine ⟨t0,_,_,_,rfl,rfl,aZ.of et0,eN,?_⟩
 refine ⟨_,rfl,_,_,_,rfl,by decide,by decide,by decide,?_⟩
 generalize field c0 2003 3=OD
 dsimp only
 refine f' (fun σ' H' =>∃N:Nat,N<=5/\σ' =[some (.ref sA),some (.int c0),some (.int (N:Int)),some (.int OD),none,none,none]/\H' =H0) (fun Nx v3=>?_) ?_
 ·refine ⟨_,rfl,rfl,_,rfl,?_⟩
  refine bf (fun _=>?_) (fun _=>?_)
  ·have hN:=N.isLt
   refine ⟨_,rfl,_,_,rfl,?_⟩
   refine v3 _ _ ⟨min N.val 4,by omega,?_,rfl⟩
   have:(if (4:Int) < (N.val:Int) then (4:Int) else (N.val:Int))=((min N.val 4:Nat):Int):=by
    split <;> omega
   rw [this]
   rfl
  ·exact v3 _ _ ⟨N.val,by have:=N.isLt;omega,rfl,rfl⟩
 rintro σ' H' ⟨N0,hN0,rfl,rfl⟩
 try dsimp only [FT]
 refine f' (fun σ' H'' =>∃(N:Nat) (kind:Int),N<=7/\σ' =[some (.ref sA),some (.int c0),some (.int (N:Int)),some (.int kind),none,none,none]/\H'' =H') (fun Nx v3=>?_) ?_
 ·refine ⟨_,rfl,_,_,_,rfl,by decide,by decide,by decide,rfl,_,rfl,?_⟩
  refine bf (fun _=>?_) (fun _=>?_)
  ·refine ⟨_,rfl,_,_,rfl,rfl,nz (by omega),?_⟩
   exact v3 _ _ ⟨7,_,by omega,rfl,rfl⟩
  ·exact v3 _ _ ⟨N0,OD,by omega,rfl,rfl⟩
 rintro σ' H'' ⟨N,kind,hN,rfl,rfl⟩
 refine ⟨(by show 0<=sizeLine;decide),?_⟩
 intro lp np;generalize eX:upd _ lp _=H1;have ⟨sp,ep⟩:=nw np eX;clear eX
 have s01:=RE.trans sp
 have rN:H lp=none:=RE.free np
 refine ⟨_,rfl,(N:Int),rfl,by omega,by omega,dP (lo:=0) (n:=N) (fun i σ H' =>∃(o5 o6:Β) (us:η) (pins:π),σ=[some (.ref sA),some (.int c0),some (.int (N:Int)),some (.int kind),some (.ref lp),o5,o6]/\av H H' /\H' lp=some (.lst us)/\Paired (jK K H' lp) us pins/\iR pins/\pins.length=i/\∀p∈pins,∃j,j < i/\p.nm=nameOf (field c0 3001 3) (field c0 4001 6) (j:Int)/\p.sp.1<=500010/\Sz 20 p.sp.2/\ -500002<=p.sp.2/\p.sp.2<=500002) ⟨none,none,[],[],rfl,s01,ep,.nil,⟨by simp,by simp,by simp,by simp⟩,rfl,by simp⟩ ?_ ?_⟩
 ·rintro i σ H2 hi ⟨o5,o6,us,pins,rfl,s2,e2,pp,gp,lpi,nm⟩
  have ei:(0:Int)+(i:Int)=(i:Int):=abH _
  rw [ei]
  have lu:us.length=pins.length:=Paired.length pp
  refine ⟨_,rfl,_,rfl,_,_,rfl,rfl,sA,ns,_,rfl,s2.seq hS,by omega,by omega,_,rfl,?_⟩
  refine ⟨_,_,rfl,fun p3 x0 y0 H3 s3 zx zy xb yb h3=>?_⟩
  have s23:=s2.trans s3
  have h30:fY K H3 (.ref p3) (x0+((0:Nat):Rat),y0):=by
   have e:x0+((0:Nat):Rat)=x0:=by
    have:((0:Nat):Rat)=0:=by rfl
    rw [this]
    grind
   rw [e]
   exact h3
  dsimp only
  refine f' (fun σ' H' =>∃(sv:V) (x:Rat),σ' =[some (.ref sA),some (.int c0),some (.int (N:Int)),some (.int kind),some (.ref lp),some (.int (i:Int)),some sv]/\av H3 H' /\fY K H' sv (x,y0)/\(Sz 44 x/\x<=500010)/\(x,y0)∉pins.map (·.sp)) (fun Nx v3=>?_) ?_
  ·refine ⟨fun m σ H' =>∃(sv:V) (j:Nat),σ=[some (.ref sA),some (.int c0),some (.int (N:Int)),some (.int kind),some (.ref lp),some (.int (i:Int)),some sv]/\av H3 H' /\fY K H' sv (x0+(j:Rat),y0)/\m=cnt pins (x0+(j:Rat))/\j+cnt pins (x0+(j:Rat))<=pins.length,⟨_,_,0,rfl,av.refl _,h30,rfl,by have:=Ml pins (x0+((0:Nat):Rat));omega⟩,?_⟩
   rintro m σ H4 ⟨sv,j,rfl,s4,h4,rfl,hj⟩
   have e4:=(s3.trans s4) _ _ e2
   have pp4:Paired (jK K H4 lp) us pins:=Paired.bP pp fun _ _ z=>z.same (s3.trans s4)
   have zj:Sz 44 (x0+(j:Rat)):=(zx.add (oJ (i:=(j:Int)) (k:=3) (show _ < 8 by omega) (by decide))).up (by decide)
   refine ⟨_,rfl,_,rfl,lp,rfl,⟨_,aZ.of e4⟩,fun D1 n1=>?_⟩
   refine cR (cap:=[]) (K:=K) (a:=lp) (xs:=us) (fun i v H=>∃p,pins[i]? =some p/\fY K H v p.sp) n1 (by rw [lu];exact aaz (show pins.length<=1000 by omega) (by decide)) (fun H2 s2=>aZ.of (s2 _ _ e4)) (fun _ _ _ _ _ h0 ks h=>by
     obtain ⟨p,h1,h2⟩:=h
     refine ⟨p,h1,h2.bg fun b xs r=>?_⟩
     rcases r with r | ⟨o',r⟩
     ·exact .inl (ks _ _ (fun e=>by rw [e,h0] at r;cases r) r)
     ·exact .inr ⟨o',ks _ _ (fun e=>by rw [e,h0] at r;cases r) r⟩) ?_ ?_
   ·intro jj u H6 R hu s6 k
    obtain ⟨p,uw,hp⟩:=aY pp4 hu
    obtain ⟨a,l,sv,fH,rfl,h1,h2,_⟩:=hp
    exact ⟨_,rfl,a,_,_,_,rfl,rfl,Ty.av.cG s6 h1,rfl,k _ _ (av.refl _) ⟨p,uw,h2.same s6⟩⟩
   intro ys H6 hy hG s6 hD
   have pq:g9 K H6 ys (pins.map (·.sp)):=fQ (by rw [ir,hy,lu]) fun j u q' BK KN =>by
    obtain ⟨p,h1,h2⟩:=hG j u BK
    rw [Wp,h1] at KN
    cases KN
    exact h2
   have h6:=h4.same s6
   refine ⟨(x0+(j:Rat),y0),D1,ys,_,rfl,aZ.of hD,h6,pq,_,rfl,?_⟩
   refine bf (fun cc=>?_) (fun cc=>?_)
   ·have mem:(x0+(j:Rat),y0)∈pins.map (·.sp):=by simpa using cc
    obtain ⟨p,hp,uw⟩:=aaj.mp mem
    have lt:=JL (x:=x0+(j:Rat)) ⟨p,hp,by rw [uw]⟩
    have ej:x0+(j:Rat)+1=x0+((j+1:Nat):Rat):=by
     push_cast
     grind
    rw [ej] at lt
    refine ⟨fun σ' H' =>∃(sv:V),σ' =[some (.ref sA),some (.int c0),some (.int (N:Int)),some (.int kind),some (.ref lp),some (.int (i:Int)),some sv]/\av H3 H' /\fY K H' sv (x0+((j+1:Nat):Rat),y0),fun σ' H' ⟨V6,h1,h2,h3⟩=>⟨_,lt,V6,j+1,h1,h2,h3,rfl,by omega⟩,?_⟩
    obtain ⟨sa,u1,u2,rfl,xh,V7,NU⟩:=h6
    refine ⟨_,rfl,sa,_,_,_,rfl,rfl,xh,me,L2,?_⟩
    intro p7 n7;generalize eX:upd _ p7 _=H7;have ⟨s7,e7⟩:=nw n7 eX;clear eX
    refine ⟨u1,.ref p7,qr (x0+(j:Rat)),(1,1),44,1,rfl,V7.same s7,⟨p7,rfl,bQ.of e7⟩,V4 zj,⟨by decide,by decide⟩,by decide,fun p8 H8 s8 e8=>?_⟩
    rw [Mm,ej] at e8
    refine ⟨_,rfl,sa,_,_,_,rfl,rfl,Ty.av.cG (s7.trans s8) xh,mJ,L2,?_⟩
    intro p9 n9;generalize eX:upd _ p9 _=H9;have ⟨s9,e9⟩:=nw n9 eX;clear eX
    have s69:=(s7.trans s8).trans s9
    exact ⟨.ref p9,rfl,(s4.trans s6).trans s69,mq e9 ((mm e8).same s9) (NU.same s69)⟩
   ·have fresh:(x0+(j:Rat),y0)∉pins.map (·.sp):=by simpa using cc
    exact v3 _ _ ⟨sv,x0+(j:Rat),rfl,s4.trans s6,h6,⟨zj,(by have Zx :((j:Int):Rat)<=((7:Int):Rat):=acB.mpr (by omega);have e1:((j:Int):Rat)=(j:Rat):=rfl;have e2:((7:Int):Rat)=7:=rfl;rw [e1,e2] at Zx;grind)⟩,fresh⟩
  rintro σ' H4 ⟨sv,x,rfl,s4,h4,⟨zx',xb'⟩,fresh⟩
  have s24:=s3.trans s4
  have DZ:=s2.trans s24
  have e4:=s24 _ _ e2
  have pp4:Paired (jK K H4 lp) us pins:=Paired.bP pp fun _ _ z=>z.same s24
  refine ⟨_,rfl,.inl ⟨rfl,_,aZ.of e4⟩,_,rfl,_,rfl,_,_,rfl,by omega,by omega,_,rfl,?_⟩
  refine ⟨_,rfl,_,rfl,_,_,rfl,rfl,sA,ns,_,rfl,DZ.seq hS,by omega,by omega,?_⟩
  refine ⟨_,rfl,fun l8 us8 ws H8 wk s8 n8 e8 p8=>⟨L3,?_⟩⟩
  intro p9 n9;generalize eX:upd _ p9 _=H9;have ⟨s9,e9⟩:=nw n9 eX;clear eX
  have ZQ:=s8.trans s9
  have e49:=ZQ _ _ e4
  have pp9:Paired (jK K H9 lp) us pins:=Paired.bP pp4 fun _ _ z=>z.same ZQ
  refine ⟨lp,_,_,rfl,rfl,e49,(by rw [lu];exact aaz (show pins.length<=1000 by omega) (by decide)),?_⟩
  have si:jK K H9 lp (.ref p9) ⟨nameOf (field c0 3001 3) (field c0 4001 6) (i:Int),(x,y0),ws⟩:=⟨p9,l8,sv,us8,rfl,bQ.of e9,h4.same ZQ,s9 _ _ e8,p8.same s9,fun z=>by rw [z,e4] at n8;cases n8⟩
  refine ⟨_,_,_,pins++[⟨nameOf (field c0 3001 3) (field c0 4001 6) (i:Int),(x,y0),ws⟩],rfl,fun b o z=>?_,aj,d_ (Paired.bP pp9 fun _ _ z=>z.upd e49) (si.upd e49),gp.snoc (fun z=>?_) fresh ⟨zx',zy.up (by decide)⟩ wk,by simp [lpi],fun p hp=>?_⟩
  ·rw [aq (ao z rN)]
   exact ZQ _ _ (DZ _ _ z)
  ·obtain ⟨p,hp,uw⟩:=aaj.mp z
   obtain ⟨j,hj,ej,_⟩:=nm p hp
   have i3:=aV (c:=c0) (p:=3001) (m:=3) (by decide)
   have i4:=aV (c:=c0) (p:=4001) (m:=6) (by decide)
   have:=vX ⟨(field c0 3001 3).toNat,by omega⟩ ⟨(field c0 4001 6).toNat,by omega⟩ ⟨j,by omega⟩ ⟨i,by omega⟩ (fun z=>by
    have:=congrArg Fin.val z
    simp at this
    omega)
   refine this ?_
   show nameOf (((field c0 3001 3).toNat:Nat):Int) (((field c0 4001 6).toNat:Nat):Int) (j:Int)=nameOf (((field c0 3001 3).toNat:Nat):Int) (((field c0 4001 6).toNat:Nat):Int) (i:Int)
   rw [show (((field c0 3001 3).toNat:Nat):Int)=field c0 3001 3 by omega,show (((field c0 4001 6).toNat:Nat):Int)=field c0 4001 6 by omega, <- ej]
   exact uw
  ·rcases aaQ.mp hp with z | z
   ·obtain ⟨j,hj,ej,eb⟩:=nm p z
    exact ⟨j,by omega,ej,eb⟩
   ·rw [aaT.mp z]
    exact ⟨i,by omega,rfl,xb',zy,yb⟩
 ·rintro σ H2 ⟨o5,o6,us,pins,rfl,s2,e2,pp,gp,lpi,nm⟩
  refine ⟨_,rfl,q lp us pins H2 s2 rN e2 pp gp (by omega) fun p hp=>?_⟩
  obtain ⟨j,hj,ej,eb⟩:=nm p hp
  refine ⟨?_,eb⟩
  rw [ej]
  have f1:=aV (c:=c0) (p:=3001) (m:=3) (by decide)
  have f2:=aV (c:=c0) (p:=4001) (m:=6) (by decide)
  obtain ⟨u,hu⟩:∃n:Nat,field c0 3001 3=(n:Int):=⟨(field c0 3001 3).toNat,by omega⟩
  obtain ⟨v,hv⟩:∃n:Nat,field c0 4001 6=(n:Int):=⟨(field c0 4001 6).toNat,by omega⟩
  rw [hu,hv]
  exact EF ⟨u,by omega⟩ ⟨v,by omega⟩ ⟨j,by omega⟩
inductive tS (K:Frag)(vs:η)(H:Hp)(Q:VK)(E_:XK):Prop where
 | mk (sA pA:Addr) (ns:ν) (us:η) (pins:π) (_:vs=[.ref sA,.ref pA]) (_:aZ K H sA (ns.map V.int)) (_:H pA=some (.lst us)) (_:us.length=pins.length) (_:(pins.map (·.nm)).Nodup) (_:pins.length<=7) (_:∀(l:Addr) (dH :η) (bars:ς) (H' :Hp),av H H' ->H l=none->H' l=some (.lst dH)->Paired (gP K H' pins) dH bars->iS pins bars->bars.length<=11->(pins.length≠7->bars.length<=7)->(∀b∈bars,b.nm.cps[0]? ≠some 122/\b.nm≠ "new0"/\b.nm≠ "new1")->Q (.ref l) H'):tS K vs H Q E_
theorem iS.snoc {pins:π}{bars:ς}{b:ba}(g:iS pins bars)(h1:b.nm∉bars.map (·.nm))(h2:b.one∈pins/\b.other∈pins/\b.one.nm≠b.other.nm):iS pins (bars++[b]):=by
 refine ⟨?_,fun q hq=>?_⟩
 ·rw [aa1,acL]
  refine ⟨g.nb,by simp,fun a ha c hc e=>h1 ?_⟩
  have:c=b.nm:=by simpa using hc
  rw [<- this, <- e]
  exact ha
 ·rcases aaQ.mp hq with z | z
  ·exact g.ends q z
  ·rw [aaT.mp z]
   exact h2
theorem RF:∀st:Fin 3,∀a:Fin 6,∀k:Fin 17,(nameOf (st.val:Int) (a.val:Int) (k.val:Int)).cps[0]? ≠some 122/\nameOf (st.val:Int) (a.val:Int) (k.val:Int)≠ "new0"/\nameOf (st.val:Int) (a.val:Int) (k.val:Int)≠ "new1":=by decide+kernel
theorem ku:aG ["_law_script","_law_pins_here","_law_cell","_law_many","_law_bars_here","_law_k","_law_one","_law_step"] zat (ag DF):=sq
theorem V8 (D:Def K mg "_law_bars" DF zat)(bG:mg "range"=none)(aL:mg "len"=none)(pC:Fn P w K mg base (a8 P w) 1 "_law_cell_at" zap (lh K))(cw:Fn P w K mg base (a8 P w) 1 "_law_field" zab dG)(RD:Fn P w K mg base (a8 P w) 2 "_law_name" zax tP):
  Fn P w K mg base (a8 P w) 3 "_law_bars" zat (tS K):=by
 refine D.ok ku (fun vs H Q E h=>?_) (fun f bH A outer s H vs Q E hr h=>?_)
 ·obtain ⟨sA,pA,ns,us,pins,rfl,_⟩:=h
  rfl
 obtain ⟨sA,pA,ns,us,pins,rfl,hS,hp,lu,np,lp,q⟩:=h
 have L3:3<=sizeLine:=by decide
 refine ⟨_,(ae (aA (i:=2) ku.nd rfl (aav rfl) (aE pC hr.mo pX (ar (pv 0) (ar ah aa))))
  (ae (aA (i:=3) ku.nd rfl (aav rfl) (aE cw hr.mo pX (ar (pv 2) (ar ah (ar ah aa)))))
  (ae (bw (aR lV (aC au rfl aL bt (ar (pv 1) aa)) ah (aX _)) (ak (aA (i:=3) ku.nd rfl (aav rfl) ah)) aU)
  (ae (bw (aR du (aC au rfl aL bt (ar (pv 1) aa)) ah (aX _)) (ak (aA (i:=3) ku.nd rfl (aav rfl) (aF bI ah (aE cw hr.mo pX (ar (pv 2) (ar ah (ar ah aa))))))) aU)
  (ae (aA (i:=4) ku.nd rfl (aav rfl) (cD aa))
  (ae (bF PassesOwn.never rfl (df rfl bG (ar (pv 3) aa)) (aD (i:=5) ku.nd rfl (aav rfl)) (ae (aA (i:=6) ku.nd rfl (aav rfl) (aE cw hr.mo pX (ar (aE pC hr.mo pX (ar (pv 0) (ar (aF bI ah (pv 5)) aa))) (ar ah (ar (aC au rfl aL bt (ar (pv 1) aa)) aa)))))
   (ae (aA (i:=7) ku.nd rfl (aav rfl) (aF bI ah (aE cw hr.mo pX (ar (aE pC hr.mo pX (ar (pv 0) (ar (aF bI ah (pv 5)) aa))) (ar ah (ar (aF b9 (aC au rfl aL bt (ar (pv 1) aa)) ah) aa))))))
   (ak (bq (ip PySem.F.plainAttrs_list PySem.F.slot_list_append PySem.F.type_list_append di (pv 4) (ar (a_ (ar (aE RD hr.mo pX (ar (pv 2) (ar (pv 5) aa))) (ar (pv 6) (ar (aF dF (aF bI (pv 6) (pv 7)) (aC au rfl aL bt (ar (pv 1) aa))) aa)))) aa)))))))
  (ak (aK (pv 4))))))))),?_⟩
 refine ⟨_,rfl,sA,ns,1,rfl,hS,by decide,by decide,?_⟩
 generalize cell ns 1=c0
 have i1:=aV (c:=c0) (p:=1009) (m:=8) (by decide)
 refine ⟨_,rfl,_,_,_,rfl,by decide,by decide,by decide,?_⟩
 generalize field c0 1009 8=fi at i1 ⊢
 obtain ⟨fn,rfl⟩:∃n:Nat,fi=(n:Int):=⟨fi.toNat,by omega⟩
 dsimp only
 refine f' (fun σ' H' =>∃N:Nat,N<=7/\(0 < N->2<=pins.length)/\σ' =[some (.ref sA),some (.ref pA),some (.int c0),some (.int (N:Int)),none,none,none,none]/\H' =H) (fun Nx v3=>?_) ?_
 ·refine ⟨_,rfl,pA,_,rfl,.inl (aZ.of hp),_,_,rfl,rfl,_,rfl,?_⟩
  refine bf (fun _=>?_) (fun c=>?_)
  ·exact v3 _ _ ⟨0,by omega,by omega,rfl,rfl⟩
  ·have c' :¬ (us.length:Int) < 2:=fun z=>c (decide_eq_true z)
   exact v3 _ _ ⟨fn,by omega,fun _=>by omega,rfl,rfl⟩
 rintro σ' Hx ⟨N0,hN0,ab3,rfl,rfl⟩
 try dsimp only [FT]
 refine f' (fun σ' H' =>∃N:Nat,N<=11/\(0 < N->2<=pins.length)/\(pins.length≠7->N<=7)/\σ' =[some (.ref sA),some (.ref pA),some (.int c0),some (.int (N:Int)),none,none,none,none]/\H' =Hx) (fun Nx v3=>?_) ?_
 ·refine ⟨_,rfl,pA,_,rfl,.inl (aZ.of hp),rfl,_,rfl,?_⟩
  refine bf (fun c=>?_) (fun _=>v3 _ _ ⟨N0,by omega,ab3,fun _=>hN0,rfl,rfl⟩)
  have f7:=aV (c:=c0) (p:=2003) (m:=4) (by decide)
  have c9:(us.length:Int)=7:=by
   have:=of_decide_eq_true c
   injection this
  refine ⟨_,rfl,_,_,_,rfl,by decide,by decide,by decide,_,_,rfl,rfl,?_⟩
  generalize field c0 2003 4=fi7 at f7 ⊢
  refine v3 _ _ ⟨(8+fi7).toNat,by omega,fun _=>by omega,fun z=>by omega,?_,rfl⟩
  rw [show (((8+fi7).toNat:Nat):Int)=8+fi7 by omega]
  rfl
 rintro σ' Hy ⟨N,hN,hN2,hN7,rfl,rfl⟩
 refine ⟨(by show 0<=sizeLine;decide),?_⟩
 intro lb nb;generalize eX:upd _ lb _=H1;have ⟨sb,eb⟩:=nw nb eX;clear eX
 refine ⟨_,rfl,(N:Int),rfl,by omega,by omega,dP (lo:=0) (n:=N) (fun i σ H' =>∃(o5 o6 o7:Β) (dH :η) (bars:ς),σ=[some (.ref sA),some (.ref pA),some (.int c0),some (.int (N:Int)),some (.ref lb),o5,o6,o7]/\av Hy H' /\H' lb=some (.lst dH)/\Paired (gP K H' pins) dH bars/\iS pins bars/\bars.length=i/\∀b∈bars,∃j,j < i/\b.nm=nameOf (field c0 3001 3) (field c0 4001 6) (j:Int)) ⟨none,none,none,[],[],rfl,sb,eb,.nil,⟨by simp,by simp⟩,rfl,by simp⟩ ?_ ?_⟩
 ·rintro i σ H2 hi ⟨o5,o6,o7,dH,bars,rfl,s2,e2,pb,gb,lbi,nm⟩
  have ei:(0:Int)+(i:Int)=(i:Int):=abH _
  rw [ei]
  have n2:2<=pins.length:=hN2 (by omega)
  have lv:dH.length=bars.length:=Paired.length pb
  have sp:=aZ.of (K:=K) (s2 _ _ hp)
  refine ⟨_,rfl,_,rfl,_,_,rfl,rfl,sA,ns,_,rfl,s2.seq hS,by omega,by omega,_,rfl,pA,_,rfl,.inl sp,_,_,_,rfl,by decide,by decide,by omega,?_⟩
  have j1:=aV (c:=cell ns (12+(i:Int))) (p:=1009) (m:=(us.length:Int)) (by omega)
  have j2:=aV (c:=cell ns (12+(i:Int))) (p:=2003) (m:=(us.length:Int) - 1) (by omega)
  refine ⟨_,rfl,_,rfl,_,_,rfl,rfl,sA,ns,_,rfl,s2.seq hS,by omega,by omega,_,rfl,pA,_,rfl,.inl sp,_,_,rfl,rfl,_,_,_,rfl,by decide,by decide,by omega,_,_,rfl,rfl,?_⟩
  generalize field (cell ns (12+(i:Int))) 1009 (us.length:Int)=one at j1 ⊢
  generalize field (cell ns (12+(i:Int))) 2003 ((us.length:Int) - 1)=step at j2 ⊢
  obtain ⟨on,rfl⟩:∃n:Nat,one=(n:Int):=⟨one.toNat,by omega⟩
  have oo:∃m:Nat,((on:Int)+(1+step)).fmod (us.length:Int)=(m:Int)/\m < us.length/\m≠on:=by
   have f:=jc (x:=(on:Int)+(1+step)) (m:=(us.length:Int)) (by omega)
   refine ⟨(((on:Int)+(1+step)).fmod (us.length:Int)).toNat,by omega,by omega,fun z=>?_⟩
   have e:((on:Int)+(1+step)).fmod (us.length:Int)=(on:Int):=by omega
   rw [ac_ _ (by omega)] at e
   by_cases c:(on:Int)+(1+step) < (us.length:Int)
   ·rw [acv (by omega) c] at e
    omega
   ·rw [<- ahP,acv (by omega) (by omega)] at e
    omega
  obtain ⟨EG,KN,l2',ne2⟩:=oo
  refine ⟨_,rfl,.inl ⟨rfl,_,aZ.of e2⟩,_,rfl,_,rfl,_,_,rfl,by omega,by omega,_,rfl,_,rfl,_,rfl,_,_,rfl,rfl,_,rfl,pA,_,rfl,.inl sp,_,_,rfl,rfl,nz (by omega),L3,?_⟩
  intro p9 n9;generalize eX:upd _ p9 _=H9;have ⟨s9,e9⟩:=nw n9 eX;clear eX
  have e9:H9 p9=some (.tup [.str (nameOf (field c0 3001 3) (field c0 4001 6) (i:Int)),.int (on:Int),.int (((on:Int)+(1+step)).fmod (us.length:Int))]):=e9
  rw [KN] at e9
  have V9:=s9 _ _ e2
  refine ⟨lb,_,_,rfl,rfl,V9,(by rw [lv];exact aaz (show bars.length<=1000 by omega) (by decide)),?_⟩
  have l1:on < pins.length:=by omega
  have l2:EG < pins.length:=by omega
  have st:bx H9 (upd H9 lb (.lst (dH ++[.ref p9]))):=.list V9
  have ns9:∀(v:V) (b:ba),gP K H2 pins v b->gP K (upd H9 lb (.lst (dH ++[.ref p9]))) pins v b:=fun v b h=>by
   obtain ⟨a,i',j',e,h1,h2,h3⟩:=h.same s9
   exact ⟨a,i',j',e,st.cG h1,h2,h3⟩
  refine ⟨_,_,_,dH ++[.ref p9],bars++[⟨nameOf (field c0 3001 3) (field c0 4001 6) (i:Int),pins[on],pins[EG]⟩],rfl,fun b o z=>?_,aj,d_ (Paired.bP pb fun _ _ z=>ns9 _ _ z) ?_,gb.snoc (fun z=>?_) ⟨aby l1,aby l2,fun z=>?_⟩,by simp [lbi],fun b hb=>?_⟩
  ·rw [aq (ao z nb)]
   exact s9 _ _ (s2 _ _ z)
  ·exact ⟨p9,on,EG,rfl,st.cG (bQ.of e9),gE l1,gE l2⟩
  ·obtain ⟨b,hb,uw⟩:=aaj.mp z
   obtain ⟨j,hj,ej⟩:=nm b hb
   have i3:=aV (c:=c0) (p:=3001) (m:=3) (by decide)
   have i4:=aV (c:=c0) (p:=4001) (m:=6) (by decide)
   have:=vX ⟨(field c0 3001 3).toNat,by omega⟩ ⟨(field c0 4001 6).toNat,by omega⟩ ⟨j,by omega⟩ ⟨i,by omega⟩ (fun z=>by
    have:=congrArg Fin.val z
    simp at this
    omega)
   refine this ?_
   show nameOf (((field c0 3001 3).toNat:Nat):Int) (((field c0 4001 6).toNat:Nat):Int) (j:Int)=nameOf (((field c0 3001 3).toNat:Nat):Int) (((field c0 4001 6).toNat:Nat):Int) (i:Int)
   rw [show (((field c0 3001 3).toNat:Nat):Int)=field c0 3001 3 by omega,show (((field c0 4001 6).toNat:Nat):Int)=field c0 4001 6 by omega, <- ej]
   exact uw
  ·have q1:(pins.map (·.nm))[on]? =some pins[on].nm:=by rw [Wp,gE l1];rfl
   have q2:(pins.map (·.nm))[EG]? =some pins[on].nm:=by rw [Wp,gE l2];exact congrArg some z.symm
   exact ne2 ((acK (by rw [ir];omega) np).mp (q1.trans q2.symm)).symm
  ·rcases aaQ.mp hb with z | z
   ·obtain ⟨j,hj,ej⟩:=nm b z
    exact ⟨j,by omega,ej⟩
   ·rw [aaT.mp z]
    exact ⟨i,by omega,rfl⟩
 ·rintro σ H2 ⟨o5,o6,o7,dH,bars,rfl,s2,e2,pb,gb,lbi,nm⟩
  refine ⟨_,rfl,q lb dH bars H2 s2 nb e2 pb gb (by omega) (fun z=>by have:=hN7 z;omega) fun b hb=>?_⟩
  obtain ⟨j,hj,ej⟩:=nm b hb
  have i3:=aV (c:=c0) (p:=3001) (m:=3) (by decide)
  have i4:=aV (c:=c0) (p:=4001) (m:=6) (by decide)
  have:=RF ⟨(field c0 3001 3).toNat,by omega⟩ ⟨(field c0 4001 6).toNat,by omega⟩ ⟨j,by omega⟩
  rw [show (((⟨(field c0 3001 3).toNat,by omega⟩:Fin 3).val:Nat):Int)=field c0 3001 3 by show (((field c0 3001 3).toNat:Nat):Int)=_;omega,show (((⟨(field c0 4001 6).toNat,by omega⟩:Fin 6).val:Nat):Int)=field c0 4001 6 by show (((field c0 4001 6).toNat:Nat):Int)=_;omega] at this
  rw [ej]
  exact this
inductive tT (K:Frag)(vs:η)(H:Hp)(Q:VK)(E_:XK):Prop where
 | mk (sA pA bA:Addr) (ns:ν) (us dH :η) (pins:π) (bars:ς) (_:vs=[.ref sA,.ref pA,.ref bA]) (_:aZ K H sA (ns.map V.int)) (_:H pA=some (.lst us)) (_:us.length=pins.length) (_:(pins.map (·.nm)).Nodup) (_:H bA=some (.lst dH)) (_:Paired (gP K H pins) dH bars) (_:iS pins bars) (_:bars.length<=11) (_:(pins.length≠7->bars.length<=7)) (_:(∀b∈bars,b.nm.cps[0]? ≠some 122/\b.nm≠ "new0"/\b.nm≠ "new1")) (_:∀(l:Addr) (ws:η) (bs:ς) (H' :Hp),av H H' ->(l=bA\/H l=none)->H' l=some (.lst ws)->Paired (gP K H' pins) ws bs->iS pins bs->bs.length<=57->(∀b∈bs,b.nm≠ "new0"/\b.nm≠ "new1")->Q (.ref l) H'):tT K vs H Q E_
def ia (j:Nat):Str:="z"++Str.ofString (toString (j:Int))
theorem JN:∀i:Fin 52,∀j:Fin 52,i≠j->ia i.val≠ia j.val:=by decide+kernel
theorem zZ:∀i:Fin 52,(ia i.val).cps[0]? =some 122/\(("z":Str).length+(Str.ofString (toString (i.val:Int))).length<=1000):=by decide+kernel
theorem pD {α β:Type}{R:α->β->Prop}:∀{us vs:List α} {l m:List β},Paired R us l->Paired R vs m->Paired R (us++vs) (l++m)
 | _,_,_,_,.nil,h=>h
 | _,_,_,_,.cons h t,h' =>.cons h (pD t h')
theorem EH:∀i:Fin 52,ia i.val≠ "new0"/\ia i.val≠ "new1":=by decide+kernel
theorem cO:aG ["_law_script","_law_pins_here","_law_bars_here","_law_cell","_law_more","_law_k","_law_part","_law_one","_law_step"] zak (ag dY):=sq
theorem tU (D:Def K mg "_law_thick" dY zak)(bG:mg "range"=none)(aL:mg "len"=none)(fO:mg "str"=none)(pC:Fn P w K mg base (a8 P w) 1 "_law_cell_at" zap (lh K))(cw:Fn P w K mg base (a8 P w) 1 "_law_field" zab dG):
  Fn P w K mg base (a8 P w) 3 "_law_thick" zak (tT K):=by
 refine D.ok cO (fun vs H Q E h=>?_) (fun f bH A outer s H vs Q E hr h=>?_)
 ·obtain ⟨sA,pA,bA,ns,us,dH,pins,bars,rfl,_⟩:=h
  rfl
 obtain ⟨sA,pA,bA,ns,us,ws,pins,bars,rfl,hS,hp,lu,np,hb,pb,gb,lb,lb7,V_,q⟩:=h
 have L3:3<=sizeLine:=by decide
 refine ⟨_,(ae (aA (i:=3) cO.nd rfl (aav rfl) (aE pC hr.mo pX (ar (pv 0) (ar ah aa))))
  (ae (bw (PW.pt (qW (jw (GK lV lV ah (aC au rfl aL bt (ar (pv 1) aa)) ah)) (kH (aR qX (aE cw hr.mo pX (ar (pv 3) (ar ah (ar ah aa)))) ah (aX _))))) (ak (aK (pv 2))) aU)
  (ae (aA (i:=4) cO.nd rfl (aav rfl) (cD aa))
  (ae (bF PassesOwn.never rfl (df rfl bG (ar (aF bI ah (aE cw hr.mo pX (ar (pv 3) (ar ah (ar ah aa))))) aa)) (aD (i:=5) cO.nd rfl (aav rfl)) (ae (aA (i:=6) cO.nd rfl (aav rfl) (aF dF (aF bI (aF bI (pv 3) (aF bS (aF bS ah (pv 5)) (pv 5))) (aF bS ah (pv 5))) ah))
   (ae (aA (i:=7) cO.nd rfl (aav rfl) (aE cw hr.mo pX (ar (pv 6) (ar ah (ar (aC au rfl aL bt (ar (pv 1) aa)) aa)))))
   (ae (aA (i:=8) cO.nd rfl (aav rfl) (aF bI ah (aE cw hr.mo pX (ar (pv 6) (ar ah (ar (aF b9 (aC au rfl aL bt (ar (pv 1) aa)) ah) aa))))))
   (ak (bq (ip PySem.F.plainAttrs_list PySem.F.slot_list_append PySem.F.type_list_append di (pv 4) (ar (a_ (ar (aF cu fG (bN cf rfl fO lZ (ar (pv 5) aa))) (ar (pv 7) (ar (aF dF (aF bI (pv 7) (pv 8)) (aC au rfl aL bt (ar (pv 1) aa))) aa)))) aa))))))))
  (ak (aK (aF xy (pv 2) (pv 4)))))))),?_⟩
 refine ⟨_,rfl,sA,ns,1,rfl,hS,by decide,by decide,?_⟩
 generalize cell ns 1=c0
 dsimp only
 refine f' (fun σ' H' =>2<=pins.length/\pins.length<=3/\σ' =[some (.ref sA),some (.ref pA),some (.ref bA),some (.int c0),none,none,none,none,none]/\H' =H) (fun Nx v3=>?_) ?_
 ·have out:Q (.ref bA) H:=q bA ws bars H (av.refl _) (.inl rfl) hb pb gb (by omega) fun b hb=>(V_ b hb).2
  refine ⟨_,rfl,pA,_,rfl,.inl (aZ.of hp),_,_,rfl,rfl,_,rfl,?_⟩
  refine bf (fun c1=>?_) (fun _=>?_)
  ·refine ⟨_,_,rfl,rfl,_,rfl,?_⟩
   refine bf (fun _=>?_) (fun c2=>?_)
   ·exact Qf ⟨_,rfl,out⟩
   refine ⟨_,rfl,_,_,_,rfl,by decide,by decide,by decide,_,_,rfl,rfl,_,rfl,?_⟩
   refine bf (fun _=>⟨_,rfl,out⟩) (fun _=>?_)
   have c1' :(1:Int) < (us.length:Int):=of_decide_eq_true c1
   have c2' :(us.length:Int) < 4:=by simpa using c2
   exact v3 _ _ ⟨by omega,by omega,rfl,rfl⟩
  ·refine ⟨_,rfl,?_⟩
   exact Qf (Qf ⟨_,rfl,out⟩)
 rintro σ' Hy ⟨h2,h3,rfl,rfl⟩
 refine ⟨(by show 0<=sizeLine;decide),?_⟩
 intro lm nm;generalize eX:upd _ lm _=H1;have ⟨sm,em⟩:=nw nm eX;clear eX
 have i9:=aV (c:=c0) (p:=9001) (m:=27) (by decide)
 refine ⟨_,rfl,_,_,_,rfl,by decide,by decide,by decide,_,_,rfl,rfl,?_⟩
 generalize field c0 9001 27=fi at i9 ⊢
 obtain ⟨fn,rfl⟩:∃n:Nat,fi=(n:Int):=⟨fi.toNat,by omega⟩
 have eN:(24:Int)+(fn:Int)=((24+fn:Nat):Int):=by omega
 rw [eN]
 have lN:24+fn < 51:=by omega
 generalize 24+fn=N at lN eN ⊢
 refine ⟨(N:Int),rfl,by omega,by omega,dP (lo:=0) (n:=N) (fun i σ H' =>∃(o5 o6 o7 o8:Β) (KP:η) (EI:ς),σ=[some (.ref sA),some (.ref pA),some (.ref bA),some (.int c0),some (.ref lm),o5,o6,o7,o8]/\av Hy H' /\H' lm=some (.lst KP)/\Paired (gP K H' pins) KP EI/\EI.map (·.nm)=(abk i).map ia/\∀b∈EI,b.one∈pins/\b.other∈pins/\b.one.nm≠b.other.nm) ⟨none,none,none,none,[],[],rfl,sm,em,.nil,rfl,fun _ h=>nomatch h⟩ ?_ ?_⟩
 ·rintro i σ H2 hi ⟨o5,o6,o7,o8,KP,EI,rfl,s2,e2,V',SU,en2⟩
  have ei:(0:Int)+(i:Int)=(i:Int):=abH _
  rw [ei]
  have l2b:EI.length=i:=by
   have:=congrArg abX SU
   simpa using this
  have lv:KP.length=EI.length:=Paired.length V'
  have sp:=aZ.of (K:=K) (s2 _ _ hp)
  have m1:iD 7919 (i:Int):=⟨by decide+kernel,aam (intBits_le_64 (by omega) (by omega)) (by decide)⟩
  have m2:iD (7919*(i:Int)) (i:Int):=⟨aam (intBits_le_64 (by omega) (by omega)) (by decide),aam (intBits_le_64 (by omega) (by omega)) (by decide)⟩
  have m3:iD 31 (i:Int):=⟨by decide+kernel,aam (intBits_le_64 (by omega) (by omega)) (by decide)⟩
  refine ⟨_,rfl,_,rfl,_,_,rfl,rfl,m1,_,rfl,_,_,rfl,rfl,m2,_,_,rfl,rfl,_,rfl,_,_,rfl,rfl,m3,_,_,rfl,rfl,_,_,rfl,rfl,nz (by decide),?_⟩
  generalize Int.fmod (c0+7919*(i:Int)*(i:Int)+31*(i:Int)) 1000003=pt
  have j1:=aV (c:=pt) (p:=1009) (m:=(us.length:Int)) (by omega)
  have j2:=aV (c:=pt) (p:=2003) (m:=(us.length:Int) - 1) (by omega)
  refine ⟨_,rfl,_,rfl,pA,_,rfl,.inl sp,_,_,_,rfl,by decide,by decide,by omega,?_⟩
  refine ⟨_,rfl,_,rfl,pA,_,rfl,.inl sp,_,_,rfl,rfl,_,_,_,rfl,by decide,by decide,by omega,_,_,rfl,rfl,?_⟩
  generalize field pt 1009 (us.length:Int)=one at j1 ⊢
  generalize field pt 2003 ((us.length:Int) - 1)=step at j2 ⊢
  obtain ⟨on,rfl⟩:∃n:Nat,one=(n:Int):=⟨one.toNat,by omega⟩
  have oo:∃m:Nat,((on:Int)+(1+step)).fmod (us.length:Int)=(m:Int)/\m < us.length/\m≠on:=by
   have f:=jc (x:=(on:Int)+(1+step)) (m:=(us.length:Int)) (by omega)
   refine ⟨(((on:Int)+(1+step)).fmod (us.length:Int)).toNat,by omega,by omega,fun z=>?_⟩
   have e:((on:Int)+(1+step)).fmod (us.length:Int)=(on:Int):=by omega
   rw [ac_ _ (by omega)] at e
   by_cases c:(on:Int)+(1+step) < (us.length:Int)
   ·rw [acv (by omega) c] at e
    omega
   ·rw [<- ahP,acv (by omega) (by omega)] at e
    omega
  obtain ⟨EG,KN,l2',ne2⟩:=oo
  have lg:(i:Int).natAbs.log2 < 1920:=aaz (ahw _) (by show i < 1920;omega)
  have tz:=zZ ⟨i,by omega⟩
  refine ⟨_,rfl,.inl ⟨rfl,_,aZ.of e2⟩,_,rfl,_,rfl,lg,_,_,rfl,rfl,aam tz.2 (by decide),_,rfl,_,rfl,_,rfl,_,_,rfl,rfl,_,rfl,pA,_,rfl,.inl sp,_,_,rfl,rfl,nz (by omega),L3,?_⟩
  intro p9 n9;generalize eX:upd _ p9 _=H9;have ⟨s9,e9⟩:=nw n9 eX;clear eX
  have e9:H9 p9=some (.tup [.str (ia i),.int (on:Int),.int (((on:Int)+(1+step)).fmod (us.length:Int))]):=e9
  rw [KN] at e9
  have V9:=s9 _ _ e2
  refine ⟨lm,_,_,rfl,rfl,V9,(by rw [lv];exact aaz (show EI.length<=1000 by omega) (by decide)),?_⟩
  have l1:on < pins.length:=by omega
  have l2:EG < pins.length:=by omega
  have st:bx H9 (upd H9 lm (.lst (KP++[.ref p9]))):=.list V9
  have ns9:∀(v:V) (b:ba),gP K H2 pins v b->gP K (upd H9 lm (.lst (KP++[.ref p9]))) pins v b:=fun v b h=>by
   obtain ⟨a,i',j',e,h1,h2,h3⟩:=h.same s9
   exact ⟨a,i',j',e,st.cG h1,h2,h3⟩
  refine ⟨_,_,_,_,KP++[.ref p9],EI++[⟨ia i,pins[on],pins[EG]⟩],rfl,fun b o z=>?_,aj,d_ (Paired.bP V' fun _ _ z=>ns9 _ _ z) ?_,?_,fun b hb=>?_⟩
  ·rw [aq (ao z nm)]
   exact s9 _ _ (s2 _ _ z)
  ·exact ⟨p9,on,EG,rfl,st.cG (bQ.of e9),gE l1,gE l2⟩
  ·rw [aa1,SU,acD,aa1]
   rfl
  ·rcases aaQ.mp hb with z | z
   ·exact en2 b z
   ·rw [aaT.mp z]
    refine ⟨aby l1,aby l2,fun z=>?_⟩
    have q1:(pins.map (·.nm))[on]? =some pins[on].nm:=by rw [Wp,gE l1];rfl
    have q2:(pins.map (·.nm))[EG]? =some pins[on].nm:=by rw [Wp,gE l2];exact congrArg some z.symm
    exact ne2 ((acK (by rw [ir];omega) np).mp (q1.trans q2.symm)).symm
 ·rintro σ H2 ⟨o5,o6,o7,o8,KP,EI,rfl,s2,e2,V',SU,en2⟩
  have l2b:EI.length=N:=by
   have:=congrArg abX SU
   simpa using this
  have lv:KP.length=EI.length:=Paired.length V'
  have lw:ws.length=bars.length:=Paired.length pb
  refine ⟨_,rfl,_,rfl,bA,lm,_,_,rfl,rfl,s2 _ _ hb,e2,(aam (show ws.length+KP.length<=100 by omega) (by decide)),?_⟩
  intro l8 n8;generalize eX:upd _ l8 _=H8;have ⟨s8,e8⟩:=nw n8 eX;clear eX
  have nms:∀n∈EI.map (·.nm),∃j,j < N/\n=ia j:=fun n hn=>by
   rw [SU] at hn
   obtain ⟨j,hj,rfl⟩:=aaj.mp hn
   exact ⟨j,abl.mp hj,rfl⟩
  refine q l8 _ (bars++EI) H8 (s2.trans s8) (.inr (s2.free n8)) e8 (pD (Paired.bP pb fun _ _ z=>z.same (s2.trans s8)) (Paired.bP V' fun _ _ z=>z.same s8)) ⟨?_,fun b hb=>?_⟩ (by have:=lb7 (by omega);rw [aat];omega) fun b hb=>?_
  ·rw [aa1,acL]
   refine ⟨gb.nb,?_,fun a ha c hc z=>?_⟩
   ·rw [SU,abw,ahW]
    refine (ahs (n:=N)).imp_of_mem fun {a b} ha hb h=>?_
    exact JN ⟨a,by have:=abl.mp ha;omega⟩ ⟨b,by have:=abl.mp hb;omega⟩ (fun z=>by have:=congrArg Fin.val z;simp at this;omega)
   ·obtain ⟨j,hj,ej⟩:=nms c hc
    obtain ⟨b,hb,rfl⟩:=aaj.mp ha
    exact (V_ b hb).1 (by rw [z,ej];exact (zZ ⟨j,by omega⟩).1)
  ·rcases aaQ.mp hb with z | z
   ·exact gb.ends b z
   ·exact en2 b z
  ·rcases aaQ.mp hb with z | z
   ·exact (V_ b z).2
   ·obtain ⟨j,hj,ej⟩:=nms b.nm (aaj.mpr ⟨b,z,rfl⟩)
    rw [ej]
    exact EH ⟨j,by omega⟩
theorem z5 (v:V):abW ("ways":Str) [(("way":Str),v)]=none:=by
 have h:(("ways":Str)=="way")=false:=by decide+kernel
 simp [abW,h]
inductive pE (K:Frag)(C:Addr)(vs:η)(H:Hp)(Q:VK)(E_:XK):Prop where
 | mk (pA bA:Addr) (us dH :η) (pins:π) (bars:ς) (_:vs=[.ref pA,.ref bA]) (_:H pA=some (.lst us)) (_:Paired (mO K H) us pins) (_:H bA=some (.lst dH)) (_:Paired (gP K H pins) dH bars) (_:iR pins) (_:iS pins bars) (_:pins.length<=9) (_:bars.length<=60) (_:∀(a dx pP pW pB:Addr) (kP kW kB:δ) (H' :Hp),av H H' ->eg K H' C a dx pP pW pB (pins.map fun p=>(p.nm,jB p.sp)) (bars.map fun b=>(b.nm,b.one.nm,b.other.nm)) kP kW kB->qa K H' (pins.map fun p=>(p.nm,p.ws)) kW->(∀kv∈kW,∀b o,H b=some o->kv.2≠.ref b)->H pP=none->H pW=none->H pB=none->Q (.ref a) H'):pE K C vs H Q E_
theorem mw:aG ["_law_pins_here","_law_bars_here","_law_frame_here","_law_name_here","_law_spot_here","_law_ways_here","_law_one","_law_other"] zar (ag DG):=sq
theorem Wa {C CR CF fI fR:Addr}{fdI Wb:FuncData}(D:Def K mg "_law_frame" DG zar)(aL:mg "len"=none)(RG:Mk K C fI)(RH:mg "Frame"=some (.ref C))(ab8:cJ P w K mg base (a8 P w) 1 fI fdI zac (tj K C))(RI:Binds K fdI zac [])
  (EJ:mg "Roller"=some (.ref CR)) (EK:mg "Fixed"=some (.ref CF)) (EL:SA K CF) (EM:Mk K CR fR) (RJ:cJ P w K mg base (a8 P w) 1 fR Wb zaw (nG K CR)) (EN:Binds K Wb zaw [])
  (wR:bj P w K mg base (a8 P w) 2 CR "ways" zac (hU K CR)) (wF:bj P w K mg base (a8 P w) 2 CF "ways" zac (hV K))
  (SV:bj P w K mg base (a8 P w) 3 C "put_bar" zaf (iG K C)) (OE:bj P w K mg base (a8 P w) 3 C "put_pin" zan (cV P w K mg base C)) (SW:sR P w K mg base (a8 P w) 3 C "put_pin" zan [.none] (cV P w K mg base C)):
  Fn P w K mg base (a8 P w) 4 "_law_frame" zar (pE K C):=by
 refine D.ok mw (fun vs H Q E h=>?_) (fun f bH A outer s H vs Q E hr h=>?_)
 ·obtain ⟨pA,bA,us,dH,pins,bars,rfl,_⟩:=h
  rfl
 obtain ⟨pA,bA,us,dH,pins,bars,rfl,hp,pp,hb,pb,gp,gb,lp6,lb8,q⟩:=h
 have lu:us.length=pins.length:=Paired.length pp
 refine ⟨_,(ae (aA (i:=2) mw.nd rfl (aav rfl) (GO RG ab8 hr.mo rfl RH RI .nil (pY P w)))
  (ae (bF PassesOwn.never rfl (bD (pv 0)) (dy rfl (aS (aD (i:=3) mw.nd rfl (aav rfl)) (aS (aD (i:=4) mw.nd rfl (aav rfl)) (aS (aD (i:=5) mw.nd rfl (aav rfl)) b7)))) (ae (bw (aR du (aC au rfl aL bt (ar (pv 5) aa)) ah (aX _)) (ak (bq (zu (k:=3) (pv 2) hr.mo (pY P w) (ar (pv 3) (ar (a9 (pv 4)) (ar (a9 (pv 4)) aa)))))) aU)
   (ae (bw (aR du (aC au rfl aL bt (ar (pv 5) aa)) ah (aX _)) (ak (bq (bY (k:=3) (pv 2) hr.mo (pY P w) (ar (pv 3) (ar (a9 (pv 4)) (ar (a9 (pv 4)) (ar (y_ EM RJ hr.mo rfl EJ EN .nil (pY P w) (ar (a9 (zG (pv 5))) (ar (a9 (zG (pv 5))) aa))) aa))))))) aU)
   (ak (bw (aR du (aC au rfl aL bt (ar (pv 5) aa)) ah (aX _)) (ak (bq (bY (k:=3) (pv 2) hr.mo (pY P w) (ar (pv 3) (ar (a9 (pv 4)) (ar (a9 (pv 4)) (ar (HL EL rfl EK) aa))))))) aU)))))
  (ae (bF PassesOwn.never rfl (bD (pv 1)) (dy rfl (aS (aD (i:=3) mw.nd rfl (aav rfl)) (aS (aD (i:=6) mw.nd rfl (aav rfl)) (aS (aD (i:=7) mw.nd rfl (aav rfl)) b7)))) (ak (bq (bY (k:=3) (pv 2) hr.mo (pY P w) (ar (pv 3) (ar (a9 (bB bc (pv 0) (pv 6) (fun _ _=>rfl))) (ar (a9 (bB bc (pv 0) (pv 7) (fun _ _=>rfl))) aa)))))))
  (ak (aK (pv 2)))))),?_⟩
 intro a dx na ndx nad
 have sF:av H (upd (upd H dx (.own a)) a (.ins C dx [])):=fun b o e=>by rw [aq (ao e na),aq (ao e ndx)];exact e
 refine ⟨a,dx,rfl,aj,fun pP pW pB H1 k1 nP nW nB R1=>⟨rfl,?_⟩⟩
 have s1:av H H1:=fun b o e=>k1 b o (ao e na) (sF _ _ e)
 have nP:=kX sF nP
 have nW:=kX sF nW
 have nB:=kX sF nB
 refine ⟨_,rfl,pA,rfl,⟨_,aZ.of (s1 _ _ hp)⟩,cC (K:=K) (a:=pA) (xs:=us) (fun i σ H' =>∃(o4 o5 o6:Β) (kP kW:δ),σ=[some (.ref pA),some (.ref bA),some (.ref a),o4,o5,o6,none,none]/\av H H' /\eg K H' C a dx pP pW pB ((pins.take i).map fun p=>(p.nm,jB p.sp)) [] kP kW []/\qa K H' ((pins.take i).map fun p=>(p.nm,p.ws)) kW/\∀kv∈kW,∀b o,H b=some o->kv.2≠.ref b) ⟨none,none,none,[],[],rfl,s1,R1,.nil,fun kv h=>(nomatch h)⟩ (fun i σ H' _ h=>by
   obtain ⟨_,_,_,_,_,_,s,_⟩:=h
   exact aZ.of (s _ _ hp)) ?_ ?_⟩
 ·rintro i u σ H2 hu ⟨o4,o5,o6,kP,kW,rfl,s2,R2,W2,nw⟩
  obtain ⟨p,ep,hpr⟩:=aY pp hu
  have mp:p∈pins:=aaa ep
  obtain ⟨ta,l,sv,ws,rfl,h1,h2,h3,h4⟩:=hpr.same s2
  obtain ⟨sa,x1,y1,rfl,xh,V7,NU⟩:=h2
  refine ⟨ta,_,rfl,h1,rfl,_,_,rfl,_,_,rfl,_,_,rfl,rfl,?_⟩
  have tk:=take_snoc ep
  have il:i < pins.length:=(be.mp ep).1
  have nlP:l≠pP:=fun z=>by rw [z,R2.pl] at h3;cases h3
  have nlW:l≠pW:=fun z=>by rw [z,R2.wy] at h3;cases h3
  have fin:∀(hv:V) (H5:Hp) (Q5:VK) (E5:XK),av H2 H5->Jm P w K mg base H5 hv p.ws->
    (∀H' qp jo,av H H' ->H' l=some (.lst ws)->eg K H' C a dx pP pW pB ((pins.take (i+1)).map fun p=>(p.nm,jB p.sp)) [] qp jo []->qa K H' ((pins.take (i+1)).map fun p=>(p.nm,p.ws)) jo ->(∀kv∈jo,∀b o,H b=some o->kv.2≠.ref b)->Q5 .cI H')->cV P w K mg base C [.ref a,.str p.nm,x1,y1,hv] H5 Q5 E5:=fun hv H5 Q5 E5 s5 hY fin=>by
   refine ⟨a,dx,pP,pW,pB,_,_,kP,kW,_,_,p.nm,x1,y1,hv,jB p.sp,p.ws,rfl,R2.same s5,W2.same s5,by rw [aa5,aa5];rfl,V7.same s5,NU.same s5,fun z=>?_,fun z hz e=>?_,?_,hY,fun H' qp jo k' R' W' nl' =>?_⟩
   ·rw [aa5] at z
    obtain ⟨p',Mo,e'⟩:=aaj.mp z
    exact vx (nm:=aJ.nm) gp.np ep Mo e'
   ·obtain ⟨p',Mo,e'⟩:=aaj.mp hz
    rw [<- e'] at e
    have e1:=congrArg anX e
    have e2:=congrArg an_ e
    have e3:p'.sp=p.sp:=ahy (g8 e1) (g8 e2)
    obtain ⟨j,hj,ej⟩:=abO.mp Mo
    rw [aiz] at ej
    rw [abd] at hj
    have q1:(pins.map (·.sp))[j]? =some p.sp:=by rw [Wp,gE (by omega),ej, <- e3];rfl
    have q2:(pins.map (·.sp))[i]? =some p.sp:=by rw [Wp,ep];rfl
    have:=(acK (by rw [ir];omega) gp.ns).mp (q1.trans q2.symm)
    omega
   ·rw [ir,abd]
    omega
   ·refine fin H' qp jo (fun b o z=>k' b o (ao z nP) (ao z nW) (s5 _ _ (s2 _ _ z))) (k' _ _ nlP nlW (s5 _ _ h3)) ?_ ?_ ?_
    ·rw [tk,aa1]
     exact R'
    ·rw [tk,aa1]
     exact W'
    ·obtain ⟨l9,e9,n9⟩:=nl'
     rw [e9]
     intro kv Ow b o hb z
     rcases aaQ.mp Ow with h | h
     ·exact nw kv h b o hb z
     ·rw [aaT.mp h] at z
      injection z with z
      have:=(s2.trans s5).free n9
      rw [z,hb] at this
      cases this
  have l2:=aZ.of (K:=K) h3
  have lw:ws.length=p.ws.length:=Paired.length h4
  refine ⟨_,rfl,l,_,rfl,.inl l2,rfl,_,rfl,?_⟩
  rcases gp.ws p mp with hw | ⟨wx,wy,hw,wn,_,_⟩ | hw
  ·rw [hw] at lw
   refine bf (fun _=>?_) (fun c=>by rw [lw] at c;simp at c)
   refine ⟨_,rfl,a,C,dx,_,_,_,rfl,R2.obj,rfl,SW,_,rfl,_,rfl,sa,_,_,_,rfl,rfl,xh,me,_,rfl,sa,_,_,_,rfl,rfl,xh,mJ,?_⟩
   dsimp only [ed]
   refine fin .cI H2 _ _ (av.refl _) (.inl ⟨rfl,hw⟩) fun H' qp jo s' l' R' W' Wc =>?_
   have l' :=aZ.of (K:=K) l'
   refine ⟨_,rfl,l,_,rfl,.inl l',rfl,_,rfl,?_⟩
   refine bf (fun c=>by rw [lw] at c;simp at c) (fun _=>?_)
   refine ⟨_,rfl,l,_,rfl,.inl l',rfl,_,rfl,?_⟩
   refine bf (fun c=>by rw [lw] at c;simp at c) (fun _=>?_)
   exact ⟨_,_,_,qp,jo,rfl,s',R',W',Wc⟩
  ·rw [hw] at lw h4
   obtain ⟨w0,rfl⟩:∃w0,ws=[w0]:=by
    match ws,lw with
    | [w0],_=>exact ⟨w0,rfl⟩
   have hw0:fY K H2 w0 (wx,wy):=by
    cases h4 with
    | cons h _=>exact h
   obtain ⟨wa,y2,y3,rfl,HJ,LH,Wd⟩:=hw0
   refine bf (fun c=>by simp at c) (fun _=>?_)
   refine ⟨_,rfl,l,_,rfl,.inl l2,rfl,_,rfl,?_⟩
   refine bf (fun _=>?_) (fun c=>absurd rfl c)
   refine ⟨_,rfl,a,C,dx,_,_,_,rfl,R2.obj,rfl,OE,_,rfl,_,rfl,sa,_,_,_,rfl,rfl,xh,me,_,rfl,sa,_,_,_,rfl,rfl,xh,mJ,?_⟩
   refine ⟨_,rfl,l,_,_,_,rfl,rfl,l2,rfl,wa,_,_,_,rfl,rfl,HJ,me,_,rfl,l,_,_,_,rfl,rfl,l2,rfl,wa,_,_,_,rfl,rfl,HJ,mJ,?_⟩
   intro dz d1 Mp RK ne1
   have s4:av H2 (upd (upd H2 d1 (.own dz)) dz (.ins CR d1 [])):=fun b o e=>by rw [aq (ao e Mp),aq (ao e RK)];exact e
   have e4:(upd (upd H2 d1 (.own dz)) dz (.ins CR d1 [])) dz =some (.ins CR d1 []):=aj
   generalize upd (upd H2 d1 (.own dz)) dz (.ins CR d1 [])=H4 at s4 e4 ⊢
   refine ⟨dz,d1,y2,y3,wx,wy,rfl,e4,LH.same s4,Wd.same s4,wn,fun p5 n5=>⟨rfl,?_⟩⟩
   have zl:p5≠dz :=fun z=>by rw [z,e4] at n5;cases n5
   have s5:av H2 (upd (upd H4 p5 (.tup [y2,y3])) dz (.ins CR d1 [("way",.ref p5)])):=fun b o e=>by
    have z:b≠dz :=fun z=>by rw [z,Mp] at e;cases e
    rw [aq z]
    exact aH n5 _ _ _ (s4 _ _ e)
   have e5:(upd (upd H4 p5 (.tup [y2,y3])) dz (.ins CR d1 [("way",.ref p5)])) dz =some (.ins CR d1 [("way",.ref p5)]):=aj
   have t5:(upd (upd H4 p5 (.tup [y2,y3])) dz (.ins CR d1 [("way",.ref p5)])) p5=some (.tup [y2,y3]):=by rw [aq zl,aj]
   generalize upd (upd H4 p5 (.tup [y2,y3])) dz (.ins CR d1 [("way",.ref p5)])=H5 at s5 e5 t5 ⊢
   have RL:fY K H5 (.ref p5) (wx,wy):=mq t5 (LH.same s5) (Wd.same s5)
   dsimp only [ed]
   refine fin (.ref dz) H5 _ _ s5 (.inr ⟨dz,CR,d1,_,zac,hU K CR,rfl,e5,z5 _,wR,fun H6 e6 t6 Q' an=>⟨dz,d1,p5,(wx,wy),rfl,e6,RL.bg t6,by rw [hw] at an;exact an⟩⟩) fun H' qp jo s' l' R' W' Wc =>?_
   refine ⟨_,rfl,l,_,rfl,.inl (aZ.of (K:=K) l'),rfl,_,rfl,?_⟩
   refine bf (fun c=>by simp at c) (fun _=>?_)
   exact ⟨_,_,_,qp,jo,rfl,s',R',W',Wc⟩
  ·rw [hw] at lw
   refine bf (fun c=>by rw [lw] at c;simp at c) (fun _=>?_)
   refine ⟨_,rfl,l,_,rfl,.inl l2,rfl,_,rfl,?_⟩
   refine bf (fun c=>by rw [lw] at c;simp at c) (fun _=>?_)
   refine ⟨_,rfl,l,_,rfl,.inl l2,rfl,_,rfl,?_⟩
   refine bf (fun _=>?_) (fun c=>by rw [lw] at c;simp at c)
   refine ⟨_,rfl,a,C,dx,_,_,_,rfl,R2.obj,rfl,OE,_,rfl,_,rfl,sa,_,_,_,rfl,rfl,xh,me,_,rfl,sa,_,_,_,rfl,rfl,xh,mJ,?_⟩
   intro dz d1 Mp RK ne1
   have s4:av H2 (upd (upd H2 d1 (.own dz)) dz (.ins CF d1 [])):=fun b o e=>by rw [aq (ao e Mp),aq (ao e RK)];exact e
   have e4:(upd (upd H2 d1 (.own dz)) dz (.ins CF d1 [])) dz =some (.ins CF d1 []):=aj
   generalize upd (upd H2 d1 (.own dz)) dz (.ins CF d1 [])=H4 at s4 e4 ⊢
   dsimp only [ed]
   refine fin (.ref dz) H4 _ _ s4 (.inr ⟨dz,CF,d1,_,zac,hV K,rfl,e4,rfl,wF,fun H6 _ _ Q' an=>⟨dz,rfl,by rw [hw] at an;exact an⟩⟩) fun H' qp jo s' l' R' W' Wc =>?_
   exact ⟨_,_,_,qp,jo,rfl,s',R',W',Wc⟩
 ·rintro σ H2 ⟨o4,o5,o6,kP,kW,rfl,s2,R2,W2,nw⟩
  rw [lu,abS] at R2 W2
  have lv:dH.length=bars.length:=Paired.length pb
  refine ⟨_,rfl,bA,rfl,⟨_,aZ.of (s2 _ _ hb)⟩,cC (K:=K) (a:=bA) (xs:=dH) (fun i σ H' =>∃(o3 o7 o8:Β) (kB:δ),σ=[some (.ref pA),some (.ref bA),some (.ref a),o3,o5,o6,o7,o8]/\av H H' /\eg K H' C a dx pP pW pB (pins.map fun p=>(p.nm,jB p.sp)) ((bars.take i).map fun b=>(b.nm,b.one.nm,b.other.nm)) kP kW kB/\qa K H' (pins.map fun p=>(p.nm,p.ws)) kW) ⟨_,none,none,[],rfl,s2,R2,W2⟩ (fun i σ H' _ h=>by
    obtain ⟨_,_,_,_,_,s,_⟩:=h
    exact aZ.of (s _ _ hb)) ?_ ?_⟩
  ·rintro i u σ H3 hu ⟨o3,o7,o8,kB,rfl,s3,R3,W3⟩
   obtain ⟨b,ZR,hbr⟩:=aY pb hu
   have mb:b∈bars:=aaa ZR
   obtain ⟨ta,i1,j1,rfl,h1,g1,g2⟩:=hbr.same s3
   obtain ⟨m1,m2,m3⟩:=gb.ends b mb
   have tk:=take_snoc ZR
   have il:i < bars.length:=(be.mp ZR).1
   have We :∀(k:Nat) (p:aJ),pins[k]? =some p->∃(c la:Addr) (sv:V),je us (k:Int)=some (.ref c)/\bQ K H3 c [.str p.nm,sv,.ref la]:=fun k p ek=>by
    obtain ⟨u',SX,hu'⟩:=aY (bR pp) ek
    obtain ⟨c,la,sv,ws,rfl,q1,_⟩:=mO.same hu' s3
    exact ⟨c,la,sv,b8 SX,q1⟩
   obtain ⟨c1,la1,sv1,ea1,q1⟩:=We _ _ g1
   obtain ⟨c2,la2,sv2,ea2,q2⟩:=We _ _ g2
   refine ⟨ta,_,rfl,h1,rfl,_,_,rfl,_,_,rfl,_,_,rfl,rfl,?_⟩
   have lp3:=aZ.of (K:=K) (s3 _ _ hp)
   refine ⟨_,rfl,a,C,dx,_,_,_,rfl,R3.obj,rfl,SV,_,rfl,_,rfl,_,rfl,pA,_,_,_,rfl,rfl,lp3,ea1,c1,_,_,_,rfl,rfl,q1,rfl,_,rfl,_,rfl,pA,_,_,_,rfl,rfl,lp3,ea2,c2,_,_,_,rfl,rfl,q2,rfl,?_⟩
   refine ⟨a,dx,pP,pW,pB,_,_,kP,kW,kB,b.nm,b.one.nm,b.other.nm,rfl,R3,fun z=>?_,?_,?_,m3,?_,fun H' Ol k' R' =>?_⟩
   ·rw [aa5] at z
    obtain ⟨b',ix,e'⟩:=aaj.mp z
    exact vx (nm:=ba.nm) gb.nb ZR ix e'
   ·rw [aa5]
    exact aaj.mpr ⟨_,m1,rfl⟩
   ·rw [aa5]
    exact aaj.mpr ⟨_,m2,rfl⟩
   ·rw [ir,abd]
    omega
   ·refine ⟨_,_,_,Ol,rfl,fun c o z=>k' c o (ao z nB) (s3 _ _ z),?_,?_⟩
    ·rw [tk,aa1]
     exact R'
    ·refine Paired.bP W3 fun p' kv z=>⟨z.1,?_⟩
     obtain ⟨l',fH,z1,z2,z3⟩:=z.2
     refine ⟨l',fH,z1,k' _ _ (fun z=>by rw [z,R3.br] at z2;cases z2) z2,z3.bg fun c xs r=>?_⟩
     rcases r with r | ⟨o',r⟩
     ·exact .inl (k' _ _ (fun e=>by rw [e,R3.br] at r;cases r) r)
     ·exact .inr ⟨o',k' _ _ (fun e=>by rw [e,R3.br] at r;cases r) r⟩
  ·rintro σ H3 ⟨o3,o7,o8,kB,rfl,s3,R3,W3⟩
   rw [lv,abS] at R3
   exact ⟨_,rfl,q a dx pP pW pB kP kW kB H3 s3 R3 W3 nw nP nW nB⟩
theorem acb:PySem.W.kitOne K (.type "int") (.type "int")=some true:=by unfold PySem.W.kitOne;rw [if_pos (by decide)]
theorem acd:PySem.W.kitOne K (.type "int") (.type "bool")=some false:=HC ⟨by decide,fun _=>⟨by decide+kernel,by decide+kernel⟩⟩
abbrev ZS (pins:π)(bars:ς)(s m:Nat):List V:=[.int (pins.length:Int),.int (aI pins:Int),.int (bars.length:Int),.int (s:Int),.int (m:Int)]
abbrev EO (ns:ν):List Da:=ns.map fun i=>.v (.int i)
theorem ib {H:Hp}:∀ns:List Int,fN K H (EO ns) (ns.map V.int)
 | []=>by
  unfold fN
  trivial
 | n::ns=>by
  show fN K H (_::_) (_::_)
  unfold fN
  exact ⟨by unfold Is;exact ⟨rfl,rfl⟩,ib ns⟩
theorem nL:∀ns:List Int,c_ (EO ns) (EO ns)=true/\dw (EO ns) (EO ns)=true/\gx (EO ns)<=60
 | []=>⟨rfl,rfl,abj _⟩
 | n::ns=>by
  obtain ⟨a,b,c⟩:=nL ns
  refine ⟨?_,?_,?_⟩
  ·show c_ (_::_) (_::_)=true
   unfold c_
   rw [a]
   rfl
  ·show dw (_::_) (_::_)=true
   unfold dw gZ rg
   rw [b]
   simp
  ·show max 0 (gx (EO ns))<=60
   omega
theorem OF {H:Hp}{p r:Addr}{Q:VK}(ns:ν)(h1:bQ K H p (ns.map V.int))(h2:bQ K H r (ns.map V.int))(q:Q (.bl false) H):rq K (.ref p) (.ref r) H Q:=by
 obtain ⟨a,b,c⟩:=nL ns
 refine ⟨EO ns,EO ns,.inl ⟨by unfold Is;exact ⟨p,_,rfl,h1,ib ns⟩,by unfold Is;exact ⟨r,_,rfl,h2,ib ns⟩⟩,a,c,?_⟩
 rw [b]
 exact q
theorem Wf {H:Hp}{p r:Addr}{Q:VK}(ns:ν)(h1:bQ K H p (ns.map V.int))(h2:bQ K H r (ns.map V.int))(q:Q (.bl true) H):HB K (.ref p) (.ref r) H Q:=by
 obtain ⟨a,b,c⟩:=nL ns
 refine ⟨EO ns,EO ns,.inl ⟨by unfold Is;exact ⟨p,_,rfl,h1,ib ns⟩,by unfold Is;exact ⟨r,_,rfl,h2,ib ns⟩⟩,a,c,?_⟩
 rw [b]
 exact q
theorem Wg {H:Hp}{p r:Addr}{Q:VK}(ns:ν)(h1:aZ K H p (ns.map V.int))(h2:aZ K H r (ns.map V.int))(q:Q (.bl false) H):rq K (.ref p) (.ref r) H Q:=by
 obtain ⟨a,b,c⟩:=nL ns
 refine ⟨EO ns,EO ns,.inr ⟨by unfold Is;exact ⟨p,_,rfl,h1,ib ns⟩,by unfold Is;exact ⟨r,_,rfl,h2,ib ns⟩⟩,a,c,?_⟩
 rw [b]
 exact q
theorem Wh {a b c d e:V}:fu [a,b,c,d,e] none (some 3)=[a,b,c]:=rfl
theorem Wi {a b c d e:V}:fu [a,b,c,d,e] (some 3) none=[d,e]:=rfl
inductive nM (K:Frag)(vs:η)(H:Hp)(Q:VK)(E_:XK):Prop where
 | mk (t lP lB:Addr) (us dH :η) (pins:π) (bars:ς) (s m:Nat) (_:vs=[.ref t,.ref lP,.ref lB]) (_:bQ K H t (ZS pins bars s m)) (_:H lP=some (.lst us)) (_:Paired (mO K H) us pins) (_:pins.length<=9) (_:(∀p∈pins,p.ws.length<=2)) (_:aZ K H lB dH) (_:dH.length=bars.length) (_:bars.length<=60) (_:Rz pins bars s m) (_:∀H',av H H' ->Q (.bl true) H'):nM K vs H Q E_
theorem JO:aG ["_law_told","_law_pins_here","_law_bars_here","_law_one","_law_ways_here"] zam (ag DH):=sq
theorem Wj (D:Def K mg "_law_right" DH zam)(eR:mg "isinstance"=none)(tV:mg "tuple"=none)(pF:mg "int"=none)(yk:mg "bool"=none)(aL:mg "len"=none)(rW:mg "sum"=none):
  Fn P w K mg base (a8 P w) 1 "_law_right" zam (nM K):=by
 refine D.ok JO (fun vs H Q E h=>?_) (fun f bH A outer s H vs Q E hr h=>?_)
 ·obtain ⟨t,lP,lB,us,dH,pins,bars,s,m,rfl,_⟩:=h
  rfl
 obtain ⟨t,lP,lB,us,ws,pins,bars,sn,mn,rfl,ht,hp,pp,lp,lw2,hb,lb,aq8,cn,q⟩:=h
 have L3:3<=sizeLine:=by decide
 have lu:us.length=pins.length:=Paired.length pp
 refine ⟨_,(ae (bw (PW.pt (qW (jw (jv (aC BX rfl eR g6 (ar (pv 0) (ar (HE rfl tV Lw) aa))))) (kH (aR y8 (aC au rfl aL bt (ar (pv 0) aa)) ah (aX _))))) (ak (aK ie)) aU)
  (ae (bF PassesOwn.never rfl (PZ (pv 0)) (aD (i:=3) JO.nd rfl (aav rfl)) (ak (bw (PW.pt (qW (jw (jv (aC u0 rfl eR g6 (ar (pv 3) (ar (HE rfl pF HD) aa))))) (kH (jv (aC u0 rfl eR g6 (ar (pv 3) (ar (HE rfl yk Qi) aa))))))) (ak (aK ie)) aU)))
  (ae (aA (i:=4) JO.nd rfl (aav rfl) (aC (va rfl) rfl rW Oa (ar (cY (tn:=zaG) (fr:=[]) (caps:=[]) rfl ⟨rfl,by decide+kernel,rfl,by decide+kernel,by decide+kernel,rfl,trivial,trivial⟩ (bD (pv 1)) (fun _ _ _ _=>(aD (i:=0) (show (zaG:List Str).Nodup from by decide+kernel) rfl (aav rfl))) (fun _ _ _ _=>dA) (fun _ _ _ _=>(aC (gA (K:=K) rfl) rfl aL bt (ar (bB (eC (K:=K) rfl) (pv 0) ah (fun _ _=>rfl)) aa)))) aa)))
  (ae (bw (aR (gi hr.units) (cE nX (pv 0) fk (cA ah)) (a_ (ar (aC au rfl aL bt (ar (pv 1) aa)) (ar (pv 4) (ar (aC au rfl aL bt (ar (pv 2) aa)) aa)))) (aX _)) (ak (aK ie)) aU)
  (ak (aK (xk (gX uK (a9 (pv 0)) ah (aX _)) (xk (gX uK (a9 (pv 0)) ah (aX _)) (FR (gX du (aF b9 (aF bS ah (a9 (pv 0))) (a9 (pv 0))) (aF b9 (aF bI (a9 (pv 0)) (a9 (pv 0))) (a9 (pv 0))) (aX _))))))))))),?_⟩
 refine ⟨_,rfl,t,_,rfl,ht,_,rfl,?_⟩
 refine bf (fun c=>nomatch c) (fun _=>?_)
 refine ⟨_,rfl,t,_,rfl,.inr ht,rfl,_,rfl,?_⟩
 refine TK rfl ?_
 refine ⟨_,rfl,t,rfl,⟨_,ht⟩,Le (K:=K) (a:=t) (xs:=ZS pins bars sn mn) (fun i σ H' =>∃o,σ=[some (.ref t),some (.ref lP),some (.ref lB),o,none]/\H' =H) ⟨none,rfl,rfl⟩ (fun i σ H' _ ⟨o,_,e⟩=>by rw [e];exact ht) ?_ ?_⟩
 ·rintro i z σ H' hi ⟨o,rfl,rfl⟩
  obtain ⟨n,rfl⟩:∃n,z=V.int n:=by
   match i,hi with
   | 0,hi=>exact ⟨_,(aaZ hi).symm⟩
   | 1,hi=>exact ⟨_,(aaZ hi).symm⟩
   | 2,hi=>exact ⟨_,(aaZ hi).symm⟩
   | 3,hi=>exact ⟨_,(aaZ hi).symm⟩
   | 4,hi=>exact ⟨_,(aaZ hi).symm⟩
  refine ⟨_,rfl,_,_,_,true,rfl,rfl,.int n,acb,_,rfl,?_⟩
  refine bf (fun c=>nomatch c) (fun _=>?_)
  refine ⟨_,rfl,_,_,_,false,rfl,rfl,.int n,acd,_,rfl,?_⟩
  refine bf (fun c=>nomatch c) (fun _=>?_)
  exact ⟨_,rfl,rfl⟩
 rintro σ H' ⟨o,rfl,rfl⟩
 refine ⟨_,rfl,lP,rfl,⟨_,aZ.of hp⟩,fun D2 n2=>?_⟩
 refine cR (cap:=[]) (K:=K) (a:=lP) (xs:=us) (fun i v _=>∃p,pins[i]? =some p/\v=.int ((p.ws.length:Nat):Int)) n2 (by rw [lu];exact aaz (show pins.length<=1000 by omega) (by decide)) (fun H5 s5=>aZ.of (s5 _ _ hp)) (fun _ _ _ _ _ _ _ h=>h) ?_ ?_
 ·intro i u H5 RR hu s5 k
  obtain ⟨p,ep,c,l,sv,fH,rfl,h1,_,h3,h4⟩:=aY pp hu
  have lv:fH.length=p.ws.length:=Paired.length h4
  exact ⟨_,rfl,c,_,_,_,rfl,rfl,Ty.av.cG s5 h1,rfl,l,_,rfl,.inl (aZ.of (s5 _ _ h3)),k _ _ (av.refl _) ⟨p,ep,by rw [lv]⟩⟩
 intro ys H2 ly hr2 s2 hD
 have ey:ys=(pins.map fun p=>((p.ws.length:Nat):Int)).map V.int:=by
  refine abt fun i=>?_
  by_cases hi:i < ys.length
  ·obtain ⟨p,ep,e⟩:=hr2 i _ (gE hi)
   rw [gE hi,e,Wp,Wp,ep]
   rfl
  ·rw [aan (by omega),aan (by rw [ir,ir];omega)]
 rw [ey] at hD
 refine ⟨D2,_,rfl,aZ.of hD,?_⟩
 rw [ph]
 have ht2:=Ty.av.cG s2 ht
 refine ⟨_,rfl,?_⟩
 refine ⟨3,rfl,t,_,rfl,ht2,(by show ¬ (HT.dI 5 0 none=0/\HT.dI 5 5 (some 3)=5);decide),?_⟩
 rw [Wh]
 intro t3 n3;generalize eX:upd _ t3 _=H3;have ⟨s3,e3⟩:=nw n3 eX;clear eX
 have tJ:=s2.trans s3
 refine ⟨_,rfl,lP,_,rfl,.inl (aZ.of (tJ _ _ hp)),_,rfl,_,rfl,lB,_,rfl,.inl (tJ.seq hb),L3,?_⟩
 intro t4 n4;generalize eX:upd _ t4 _=H4;have ⟨s4,e4⟩:=nw n4 eX;clear eX
 rw [lu,lb] at e4
 refine OF [(pins.length:Int),(aI pins:Int),(bars.length:Int)] (bQ.of (s4 _ _ e3)) (bQ.of e4) ⟨_,rfl,?_⟩
 refine bf (fun c=>nomatch c) (fun _=>?_)
 have DZ:=tJ.trans s4
 have RM:=Ty.av.cG DZ ht
 obtain ⟨cs,yd,_,_,k1,_,k2,k3⟩:=cn
 have c2:iD 2 ((pins.length:Nat):Int):=⟨by decide+kernel,aam (intBits_le_64 (by omega) (by omega)) (by decide)⟩
 refine ⟨_,rfl,t,_,_,_,rfl,rfl,RM,rfl,_,_,rfl,rfl,_,rfl,?_⟩
 refine bf (fun _=>?_) (fun c=>absurd (decide_eq_true (show (0:Int)<=(sn:Int) by omega)) c)
 refine ⟨_,rfl,t,_,_,_,rfl,rfl,RM,rfl,_,_,rfl,rfl,_,rfl,?_⟩
 refine bf (fun _=>?_) (fun c=>absurd (decide_eq_true (show (0:Int)<=(mn:Int) by omega)) c)
 refine ⟨_,rfl,t,_,_,_,rfl,rfl,RM,rfl,_,_,rfl,rfl,c2,_,rfl,t,_,_,_,rfl,rfl,RM,rfl,_,_,rfl,rfl,_,rfl,t,_,_,_,rfl,rfl,RM,rfl,_,rfl,t,_,_,_,rfl,rfl,RM,rfl,_,_,rfl,rfl,_,rfl,t,_,_,_,rfl,rfl,RM,rfl,_,_,rfl,rfl,rfl,?_⟩
 rw [decide_eq_true (show V.int (2*(pins.length:Int) - (mn:Int))=V.int ((aI pins:Int)+(bars.length:Int) - (sn:Int)) from congrArg V.int (by omega))]
 exact q _ DZ
abbrev JP (pins:π):List (Str×Pt):=pins.map fun p=>(p.nm,jB p.sp)
abbrev ZT (pins:π):List (Str×List (Rat×Rat)):=pins.map fun p=>(p.nm,p.ws)
abbrev xi (bars:ς):List (Str×Str×Str):=bars.map fun b=>(b.nm,b.one.nm,b.other.nm)
def lj (K:Frag)(H:Hp)(d e:Addr)(v:V)(p:aJ):Prop:=∃(a l:Addr) (s:V) (us:η),v=.ref a/\bQ K H a [.str p.nm,s,.ref l]/\fY K H s p.sp/\H l=some (.lst us)/\g9 K H us p.ws/\l≠d/\l≠e
theorem lj.same {H H' :Hp}{d e:Addr}{v:V}{p:aJ}(h:lj K H d e v p)(s:av H H'):lj K H' d e v p:=by
 obtain ⟨a,l,sv,us,ev,h1,h2,h3,h4,h5⟩:=h
 exact ⟨a,l,sv,us,ev,Ty.av.cG s h1,h2.same s,s _ _ h3,h4.same s,h5⟩
theorem lj.r {H:Hp}{d e:Addr}{v:V}{p:aJ}(h:lj K H d e v p):mO K H v p:=by
 obtain ⟨a,l,sv,us,ev,h1,h2,h3,h4,_⟩:=h
 exact ⟨a,l,sv,us,ev,h1,h2,h3,h4⟩
def KO (pP pW pB lP lB:Addr)(H H' :Hp):Prop:=∀b o,b≠pP->b≠pW->b≠pB->b≠lP->b≠lB->H b=some o->H' b=some o
theorem KO.trans {pP pW pB lP lB:Addr}{H H1 H2:Hp}(a:KO pP pW pB lP lB H H1)(b:KO pP pW pB lP lB H1 H2):KO pP pW pB lP lB H H2:=fun c o n1 n2 n3 n4 n5 e=>b c o n1 n2 n3 n4 n5 (a c o n1 n2 n3 n4 n5 e)
theorem KO.of {pP pW pB lP lB:Addr}{H H1:Hp}(a:av H H1):KO pP pW pB lP lB H H1:=fun c o _ _ _ _ _ e=>a c o e
structure WS (K:Frag)(H:Hp)(C fA dx pP pW pB lP lB:Addr)(us vs:η)(pins:π)(bars:ς):Prop where
 fr:∃kP kW kB,eg K H C fA dx pP pW pB (JP pins) (xi bars) kP kW kB/\qa K H (ZT pins) kW/\∀kv∈kW,kv.2≠.ref lP/\kv.2≠.ref lB
 hp:H lP=some (.lst us)
 pp:Paired (lj K H lP lB) us pins
 hb:H lB=some (.lst vs)
 pb:Paired (gP K H pins) vs bars
 gp:iR pins
 gb:iS pins bars
 lp:pins.length<=9
 lb:bars.length<=59
 ne:lP≠lB
section
variable {H H' :Hp}{C fA dx pP pW pB lP lB:Addr}{us vs:η}{pins:π}{bars:ς}
theorem WS.same (h:WS K H C fA dx pP pW pB lP lB us vs pins bars)(s:av H H'):WS K H' C fA dx pP pW pB lP lB us vs pins bars:=by
 obtain ⟨kP,kW,kB,R,W,n⟩:=h.fr
 exact ⟨⟨kP,kW,kB,R.same s,W.same s,n⟩,s _ _ h.hp,Paired.bP h.pp fun _ _ z=>z.same s,s _ _ h.hb,Paired.bP h.pb fun _ _ z=>z.same s,h.gp,h.gb,h.lp,h.lb,h.ne⟩
theorem WS.fa (h:WS K H C fA dx pP pW pB lP lB us vs pins bars):vw K H C fA pins bars:=by
 obtain ⟨kP,kW,kB,R,W,n⟩:=h.fr
 exact ⟨dx,pP,pW,pB,kP,kW,kB,R,W⟩
theorem WS.g (h:WS K H C fA dx pP pW pB lP lB us vs pins bars):c7 pins bars:=OC h.gp h.gb (by have:=h.lp;omega) (by have:=h.lb;omega)
theorem WS.pr (h:WS K H C fA dx pP pW pB lP lB us vs pins bars):Paired (mO K H) us pins:=Paired.bP h.pp fun _ _ z=>z.r
theorem WS.away (h:WS K H C fA dx pP pW pB lP lB us vs pins bars){b:Addr}{o:HO}(e:H b=some o)(n1:∀kvs,o≠.dK kvs)(n2:∀xs,o≠.lst xs):b≠pP/\b≠pW/\b≠pB/\b≠lP/\b≠lB:=by
 obtain ⟨kP,kW,kB,R,W,_⟩:=h.fr
 refine ⟨fun z=>?_,fun z=>?_,fun z=>?_,fun z=>?_,fun z=>?_⟩
 ·rw [z,R.pl] at e
  exact n1 _ (aaZ e).symm
 ·rw [z,R.wy] at e
  exact n1 _ (aaZ e).symm
 ·rw [z,R.br] at e
  exact n1 _ (aaZ e).symm
 ·rw [z,h.hp] at e
  exact n2 _ (aaZ e).symm
 ·rw [z,h.hb] at e
  exact n2 _ (aaZ e).symm
theorem WS.fresh (h:WS K H C fA dx pP pW pB lP lB us vs pins bars){b:Addr}(e:H b=none):b≠pP/\b≠pW/\b≠pB/\b≠lP/\b≠lB:=by
 obtain ⟨kP,kW,kB,R,W,_⟩:=h.fr
 refine ⟨fun z=>?_,fun z=>?_,fun z=>?_,fun z=>?_,fun z=>?_⟩
 ·rw [z,R.pl] at e
  cases e
 ·rw [z,R.wy] at e
  cases e
 ·rw [z,R.br] at e
  cases e
 ·rw [z,h.hp] at e
  cases e
 ·rw [z,h.hb] at e
  cases e
theorem KO.at (k:KO pP pW pB lP lB H H'){b:Addr}{o:HO}(n:b≠pP/\b≠pW/\b≠pB/\b≠lP/\b≠lB)(e:H b=some o):H' b=some o:=k b o n.1 n.2.1 n.2.2.1 n.2.2.2.1 n.2.2.2.2 e
theorem WS.t (h:WS K H C fA dx pP pW pB lP lB us vs pins bars)(k:KO pP pW pB lP lB H H'):bx H H' :=fun b xs r=>by
 rcases r with r | ⟨o',r⟩
 ·exact .inl (k.at (h.away r (fun _ z=>nomatch z) fun _ z=>nomatch z) r)
 ·exact .inr ⟨o',k.at (h.away r (fun _ z=>nomatch z) fun _ z=>nomatch z) r⟩
theorem WS.way (h:WS K H C fA dx pP pW pB lP lB us vs pins bars){l:Addr}{xs:η}(e:H l=some (.lst xs))(n1:l≠lP)(n2:l≠lB):l≠pP/\l≠pW/\l≠pB/\l≠lP/\l≠lB:=by
 obtain ⟨kP,kW,kB,R,W,_⟩:=h.fr
 refine ⟨fun z=>?_,fun z=>?_,fun z=>?_,n1,n2⟩
 ·rw [z,R.pl] at e
  cases e
 ·rw [z,R.wy] at e
  cases e
 ·rw [z,R.br] at e
  cases e
theorem WS.yl (h:WS K H C fA dx pP pW pB lP lB us vs pins bars)(k:KO pP pW pB lP lB H H'){v:V}{p:aJ}(y:lj K H lP lB v p):lj K H' lP lB v p:=by
 obtain ⟨a,l,sv,ws,ev,h1,h2,h3,h4,h5,h6⟩:=y
 have t:=h.t k
 exact ⟨a,l,sv,ws,ev,t.cG h1,h2.bg t,k.at (h.way h3 h5 h6) h3,h4.bg t,h5,h6⟩
theorem WS.ZU (h:WS K H C fA dx pP pW pB lP lB us vs pins bars)(k:KO pP pW pB lP lB H H'){kW:δ}{pw:Θ}(W:qa K H pw kW)(n:∀kv∈kW,kv.2≠.ref lP/\kv.2≠.ref lB):qa K H' pw kW:=by
 have t:=h.t k
 refine fQ (Paired.length W) fun i p kv e1 e2=>?_
 obtain ⟨kv',e3,z1,l,fH,z2,z3,z4⟩:=aY W e1
 rw [e2] at e3
 cases e3
 have nn:=n _ (aaa e2)
 exact ⟨z1,l,fH,z2,k.at (h.way z3 (fun z=>nn.1 (by rw [z2,z])) (fun z=>nn.2 (by rw [z2,z]))) z3,z4.bg t⟩
end
def mP (k:Nat):Str:="far"++Str.ofString (toString (k:Int))
theorem Mq:∀i:Fin 2,("far":Str).length+(Str.ofString (toString (i.val:Int))).length<=1000:=by decide+kernel
inductive ym (K:Frag)(C:Addr)(vs:η)(H:Hp)(Q:VK)(E_:XK):Prop where
 | mk (fA dx pP pW pB lP lB:Addr) (us dH :η) (pins:π) (bars:ς) (c:Int) (k:Nat) (_:vs=[.ref fA,.ref lP,.int c,.int (k:Int)]) (_:WS K H C fA dx pP pW pB lP lB us dH pins bars) (_:k < 2) (_:mP k∉pins.map (·.nm)) (_:(∀p∈pins,p.sp.1 < ((1000002+(k:Int):Int):Rat))) (_:pins.length<=8) (_:∀(p:aJ) (fH :η) (H' :Hp),p.nm=mP k->p.sp.1=((1000002+(k:Int):Int):Rat)->KO pP pW pB lP lB H H' ->WS K H' C fA dx pP pW pB lP lB fH dH (pins++[p]) bars->Q .cI H'):ym K C vs H Q E_
theorem iU:aG ["_law_frame_here","_law_pins_here","_law_cell","_law_k","_law_ways_here"] zah (ag cT):=sq
theorem pG {C CR CF fR:Addr}{Wb:FuncData}(D:Def K mg "_law_put_pin" cT zah)(aL:mg "len"=none)(fO:mg "str"=none)(cw:Fn P w K mg base (a8 P w) 1 "_law_field" zab dG)(RC:Fn P w K mg base (a8 P w) 34 "_law_ways" zaL (nK K))
  (EJ:mg "Roller"=some (.ref CR)) (EK:mg "Fixed"=some (.ref CF)) (EL:SA K CF) (EM:Mk K CR fR) (RJ:cJ P w K mg base (a8 P w) 1 fR Wb zaw (nG K CR)) (EN:Binds K Wb zaw [])
  (wR:bj P w K mg base (a8 P w) 2 CR "ways" zac (hU K CR)) (wF:bj P w K mg base (a8 P w) 2 CF "ways" zac (hV K))
  (OE:bj P w K mg base (a8 P w) 3 C "put_pin" zan (cV P w K mg base C)) (SW:sR P w K mg base (a8 P w) 3 C "put_pin" zan [.none] (cV P w K mg base C)):
  Fn P w K mg base (a8 P w) 35 "_law_put_pin" zah (ym K C):=by
 refine D.ok iU (fun vs H Q E h=>?_) (fun f bH A outer s H vs Q E hr h=>?_)
 ·obtain ⟨fA,dx,pP,pW,pB,lP,lB,us,dH,pins,bars,c,k,rfl,_⟩:=h
  rfl
 obtain ⟨fA,dx,pP,pW,pB,lP,lB,us,dH,pins,bars,c,k,rfl,RE,hk,zW,ace,lp8,q⟩:=h
 have L2:2<=sizeLine:=by decide
 have L3:3<=sizeLine:=by decide
 have lu:us.length=pins.length:=Paired.length RE.pp
 have lg:(k:Int).natAbs.log2 < 1920:=aaz (ahw _) (by show k < 1920;omega)
 have fl:=aam (Mq ⟨k,hk⟩) (show 1000<=sizeLine by decide)
 refine ⟨_,(ae (aA (i:=4) iU.nd rfl (aav rfl) (aE RC hr.mo (pY P w) (ar (pv 2) aa)))
  (ae (bq (ip PySem.F.plainAttrs_list PySem.F.slot_list_append PySem.F.type_list_append di (pv 1) (ar (a_ (ar (aF cu fG (bN cf rfl fO lZ (ar (pv 3) aa))) (ar (a_ (ar (a_ (ar (aF bI ah (pv 3)) (ar ah aa))) (ar (a_ (ar (aE cw hr.mo (pY P w) (ar (pv 2) (ar ah (ar ah aa)))) (ar ah aa))) aa))) (ar (pv 4) aa)))) aa)))
  (ak (bw (aR du (aC au rfl aL bt (ar (pv 4) aa)) ah (aX _)) (ak (bq (zu (k:=3) (pv 0) hr.mo (pY P w) (ar (aF cu fG (bN cf rfl fO lZ (ar (pv 3) aa))) (ar (a9 (a9 (bB bc (pv 1) (jP gW ah) (fun _ _=>rfl)))) (ar (a9 (a9 (bB bc (pv 1) (jP gW ah) (fun _ _=>rfl)))) aa)))))) (ak (bw (aR du (aC au rfl aL bt (ar (pv 4) aa)) ah (aX _)) (ak (bq (bY (k:=3) (pv 0) hr.mo (pY P w) (ar (aF cu fG (bN cf rfl fO lZ (ar (pv 3) aa))) (ar (a9 (a9 (bB bc (pv 1) (jP gW ah) (fun _ _=>rfl)))) (ar (a9 (a9 (bB bc (pv 1) (jP gW ah) (fun _ _=>rfl)))) (ar (y_ EM RJ hr.mo rfl EJ EN .nil (pY P w) (ar (a9 (zG (pv 4))) (ar (a9 (zG (pv 4))) aa))) aa))))))) (ak (bq (bY (k:=3) (pv 0) hr.mo (pY P w) (ar (aF cu fG (bN cf rfl fO lZ (ar (pv 3) aa))) (ar (a9 (a9 (bB bc (pv 1) (jP gW ah) (fun _ _=>rfl)))) (ar (a9 (a9 (bB bc (pv 1) (jP gW ah) (fun _ _=>rfl)))) (ar (HL EL rfl EK) aa))))))))))))),?_⟩
 refine ⟨_,rfl,_,rfl,fun lw ws wsp Hw wk sw nlw acf acg=>?_⟩
 have stw:=RE.same sw
 have i2:=aV (c:=c) (p:=2003) (m:=99) (by decide)
 refine ⟨_,rfl,.inl ⟨rfl,_,aZ.of stw.hp⟩,_,rfl,_,rfl,lg,_,_,rfl,rfl,fl,_,rfl,_,_,rfl,rfl,L2,?_⟩
 intro q1 m1;generalize eX:upd _ q1 _=Hx;have ⟨z1,f1⟩:=nw m1 eX;clear eX
 refine ⟨_,rfl,_,_,_,rfl,by decide,by decide,by decide,L2,?_⟩
 intro q2 m2;generalize eX:upd _ q2 _=Hy;have ⟨z2,f2⟩:=nw m2 eX;clear eX
 refine ⟨L2,?_⟩
 intro q3 m3;generalize eX:upd _ q3 _=Hb;have ⟨z3,f3⟩:=nw m3 eX;clear eX
 refine ⟨_,rfl,L3,?_⟩
 have ZV:=sw.trans (z1.trans (z2.trans z3))
 have swb:=z1.trans (z2.trans z3)
 have st:=RE.same ZV
 have hpt:fY K Hb (.ref q3) (((1000002+(k:Int):Int):Rat),((field c 2003 99:Int):Rat)):=mq f3 ((pk _ f1).same (z2.trans z3)) ((pk _ f2).same z3)
 have hsz:Sz 44 ((1000002+(k:Int):Int):Rat)/\Sz 44 ((field c 2003 99:Int):Rat):=⟨oJ (aa6 (show _ < 2097152 by omega) (by decide)) (by decide),oJ (aa6 (show _ < 128 by omega) (by decide)) (by decide)⟩
 obtain ⟨p,RO,SY,pws⟩:∃p:aJ,p.nm=mP k/\p.sp=(((1000002+(k:Int):Int):Rat),((field c 2003 99:Int):Rat))/\p.ws=wsp:=⟨⟨_,_,_⟩,rfl,rfl,rfl⟩
 have hsv:fY K Hb (.ref q3) p.sp:=by rw [SY];exact hpt
 have hlw:=swb _ _ acf
 have hws:g9 K Hb ws p.ws:=by rw [pws];exact acg.same swb
 have frl:=RE.fresh nlw
 have nl1:=frl.2.2.2.1
 have nl2:=frl.2.2.2.2
 have si:p.sp∉pins.map (·.sp):=fun z=>by
  obtain ⟨p',Mo,e'⟩:=aaj.mp z
  have:=ace p' Mo
  rw [e',SY] at this
  exact absurd this (Rat.lt_irrefl)
 rw [<- RO] at zW
 have ack :Sz 44 p.sp.1/\Sz 44 p.sp.2:=by rw [SY];exact hsz
 rw [<- pws] at wk
 obtain ⟨kP,kW,kB,R,W,nW⟩:=st.fr
 intro t1 n1;generalize eX:upd _ t1 _=H1;have ⟨s1,e1⟩:=nw n1 eX;clear eX
 refine ⟨lP,_,_,rfl,rfl,s1 _ _ st.hp,(by rw [lu];exact aaz (show pins.length<=1000 by omega) (by decide)),?_⟩
 have st1:=st.same s1
 have k2:KO pP pW pB lP lB Hb (upd H1 lP (.lst (us++[.ref t1]))):=fun b o _ _ _ n4 _ e=>by rw [aq n4];exact s1 _ _ e
 have e2:(upd H1 lP (.lst (us++[.ref t1]))) lP=some (.lst (us++[.ref t1])):=aj
 have nP:pP≠lP:=fun z=>by have h:=R.pl;rw [z,st.hp] at h;cases h
 have Wk:pW≠lP:=fun z=>by have h:=R.wy;rw [z,st.hp] at h;cases h
 have nB:pB≠lP:=fun z=>by have h:=R.br;rw [z,st.hp] at h;cases h
 have ZW :pP≠lB:=fun z=>by have h:=R.pl;rw [z,st.hb] at h;cases h
 have ZX :pW≠lB:=fun z=>by have h:=R.wy;rw [z,st.hb] at h;cases h
 have ot:∀b o,b≠lP->Hb b=some o->(upd H1 lP (.lst (us++[.ref t1]))) b=some o:=fun b o n e=>by rw [aq n];exact s1 _ _ e
 have nt:t1≠lP:=fun z=>by rw [z,st.hp] at n1;cases n1
 have et:(upd H1 lP (.lst (us++[.ref t1]))) t1=some (.tup [.str p.nm,.ref q3,.ref lw]):=by rw [aq nt,RO];exact e1
 generalize upd H1 lP (.lst (us++[.ref t1]))=H2 at k2 e2 ot et ⊢
 have S0 :H2 t1=some (.tup [.str (mP k),.ref q3,.ref lw]):=by rw [<- RO];exact et
 have S1:je (us++[.ref t1]) (-1)=some (.ref t1):=LS (by rw [aat,acj,Nat.add_sub_cancel,aa3 (aas _),Nat.sub_self];rfl)
 have t2:=st.t k2
 have R2:eg K H2 C fA dx pP pW pB (JP pins) (xi bars) kP kW kB:=R.fD t2 ((k2.at (st.away R.obj (fun _ z=>nomatch z) fun _ z=>nomatch z) R.obj).trans R.obj.symm) ((ot _ _ nP R.pl).trans R.pl.symm) ((ot _ _ Wk R.wy).trans R.wy.symm) ((ot _ _ nB R.br).trans R.br.symm)
 have W2:=st.ZU k2 W nW
 have acm:=ot _ _ nl1 hlw
 have acn:=hsv.bg t2
 have Wm:=hws.bg t2
 obtain ⟨sa,x1,y1,esa,xh,V7,NU⟩:=id acn
 have aco :q3=sa:=by injection esa
 subst aco
 have fin:∀(hv:V) (H5:Hp) (Q5:VK) (E5:XK),av H2 H5->Jm P w K mg base H5 hv p.ws->(∀S2,KO pP pW pB lP lB Hb S2 ->WS K S2 C fA dx pP pW pB lP lB (us++[.ref t1]) dH (pins++[p]) bars->Q5 .cI S2)->cV P w K mg base C [.ref fA,.str (mP k),x1,y1,hv] H5 Q5 E5:=fun hv H5 Q5 E5 s5 hY fin=>by
  rw [<- RO]
  refine ⟨fA,dx,pP,pW,pB,_,_,kP,kW,_,_,p.nm,x1,y1,hv,jB p.sp,p.ws,rfl,R2.same s5,W2.same s5,by rw [aa5,aa5];rfl,V7.same s5,NU.same s5,fun z=>zW ?_,fun z hz e=>si ?_,?_,hY,fun S2 qp jo k' R' W' nl=>?_⟩
  ·rw [aa5] at z
   exact z
  ·obtain ⟨p',Mo,e'⟩:=aaj.mp hz
   rw [<- e'] at e
   exact aaj.mpr ⟨p',Mo,ahy (g8 (congrArg anX e)) (g8 (congrArg an_ e))⟩
  ·rw [ir]
   omega
  have k0:KO pP pW pB lP lB Hb S2 :=fun b o m1 m2 m3 m4 m5 e=>k' b o m1 m2 (s5 _ _ (k2 b o m1 m2 m3 m4 m5 e))
  have t0:=st.t k0
  have fr:=st.fresh n1
  refine fin S2 k0 ⟨⟨qp,jo,kB,?_,?_,fun kv Ow=>?_⟩,k' _ _ (abb nP) (abb Wk) (s5 _ _ e2),d_ (Paired.bP st.pp fun _ _ z=>st.yl k0 z) ⟨t1,lw,_,ws,rfl,bQ.of (k' _ _ fr.1 fr.2.1 (s5 _ _ et)),hsv.bg t0,k0.at (st.way hlw nl1 nl2) hlw,hws.bg t0,nl1,nl2⟩,k' _ _ (abb ZW) (abb ZX) (s5 _ _ (ot _ _ (abb st.ne) st.hb)),Paired.bP st.pb fun u b z=>?_,st.gp.snoc zW si ack wk,⟨st.gb.nb,fun b hb=>?_⟩,by rw [aat];simp;omega,st.lb,st.ne⟩
  ·rw [show JP (pins++[p])=JP pins++[(p.nm,jB p.sp)] from aa1]
   exact R'
  ·rw [show ZT (pins++[p])=ZT pins++[(p.nm,p.ws)] from aa1]
   exact W'
  ·obtain ⟨l9,e9,n9⟩:=nl
   rw [e9] at Ow
   rcases aaQ.mp Ow with h | h
   ·exact nW kv h
   ·rw [aaT.mp h]
    refine ⟨fun z=>?_,fun z=>?_⟩
    ·injection z with z
     rw [z,s5 _ _ e2] at n9
     cases n9
    ·injection z with z
     rw [z,s5 _ _ (ot _ _ (abb st.ne) st.hb)] at n9
     cases n9
  ·obtain ⟨a,i,j,e,h1,g1,g2⟩:=z
   exact ⟨a,i,j,e,t0.cG h1,by rw [aaS (be.mp g1).1];exact g1,by rw [aaS (be.mp g2).1];exact g2⟩
  ·obtain ⟨m1,m2,m3⟩:=st.gb.ends b hb
   exact ⟨abm _ m1,abm _ m2,m3⟩
 have l2:=aZ.of (K:=K) acm
 have RP :ws.length=p.ws.length:=Paired.length hws
 refine ⟨_,rfl,lw,_,rfl,.inl l2,rfl,_,rfl,?_⟩
 rcases wk with hw | ⟨wx,wy,hw,wn,_,_⟩ | hw
 ·rw [hw] at RP
  refine bf (fun _=>?_) (fun c=>by rw [RP] at c;simp at c)
  refine ⟨_,rfl,fA,C,dx,_,_,_,rfl,R2.obj,rfl,SW,_,rfl,_,rfl,lg,_,_,rfl,rfl,fl,_,rfl,_,rfl,lP,_,_,_,rfl,rfl,aZ.of e2,S1,t1,_,_,_,rfl,rfl,bQ.of S0,rfl,q3,_,_,_,rfl,rfl,xh,me,_,rfl,_,rfl,lP,_,_,_,rfl,rfl,aZ.of e2,S1,t1,_,_,_,rfl,rfl,bQ.of S0,rfl,q3,_,_,_,rfl,rfl,xh,mJ,?_⟩
  dsimp only [ed]
  exact fin .cI H2 _ _ (av.refl _) (.inl ⟨rfl,hw⟩) fun H' k' W' =>q p _ H' RO (by rw [SY]) ((KO.of ZV).trans k') W'
 ·rw [hw] at RP Wm
  obtain ⟨w0,rfl⟩:∃w0,ws=[w0]:=by
   match ws,RP with
   | [w0],_=>exact ⟨w0,rfl⟩
  have hw0:fY K H2 w0 (wx,wy):=by
   cases Wm with
   | cons h _=>exact h
  obtain ⟨wa,y2,y3,rfl,HJ,LH,Wd⟩:=hw0
  refine bf (fun c=>by simp at c) (fun _=>?_)
  refine ⟨_,rfl,lw,_,rfl,.inl l2,rfl,_,rfl,?_⟩
  refine bf (fun _=>?_) (fun c=>absurd rfl c)
  refine ⟨_,rfl,fA,C,dx,_,_,_,rfl,R2.obj,rfl,OE,_,rfl,_,rfl,lg,_,_,rfl,rfl,fl,_,rfl,_,rfl,lP,_,_,_,rfl,rfl,aZ.of e2,S1,t1,_,_,_,rfl,rfl,bQ.of S0,rfl,q3,_,_,_,rfl,rfl,xh,me,_,rfl,_,rfl,lP,_,_,_,rfl,rfl,aZ.of e2,S1,t1,_,_,_,rfl,rfl,bQ.of S0,rfl,q3,_,_,_,rfl,rfl,xh,mJ,?_⟩
  refine ⟨_,rfl,lw,_,_,_,rfl,rfl,l2,rfl,wa,_,_,_,rfl,rfl,HJ,me,_,rfl,lw,_,_,_,rfl,rfl,l2,rfl,wa,_,_,_,rfl,rfl,HJ,mJ,?_⟩
  intro dz d1 Mp RK ne1
  have s4:av H2 (upd (upd H2 d1 (.own dz)) dz (.ins CR d1 [])):=fun b o e=>by rw [aq (ao e Mp),aq (ao e RK)];exact e
  have e4:(upd (upd H2 d1 (.own dz)) dz (.ins CR d1 [])) dz =some (.ins CR d1 []):=aj
  generalize upd (upd H2 d1 (.own dz)) dz (.ins CR d1 [])=H4 at s4 e4 ⊢
  refine ⟨dz,d1,y2,y3,wx,wy,rfl,e4,LH.same s4,Wd.same s4,wn,fun p5 n5=>⟨rfl,?_⟩⟩
  have zl:p5≠dz :=fun z=>by rw [z,e4] at n5;cases n5
  have s5:av H2 (upd (upd H4 p5 (.tup [y2,y3])) dz (.ins CR d1 [("way",.ref p5)])):=fun b o e=>by
   have z:b≠dz :=fun z=>by rw [z,Mp] at e;cases e
   rw [aq z]
   exact aH n5 _ _ _ (s4 _ _ e)
  have e5:(upd (upd H4 p5 (.tup [y2,y3])) dz (.ins CR d1 [("way",.ref p5)])) dz =some (.ins CR d1 [("way",.ref p5)]):=aj
  have t5:(upd (upd H4 p5 (.tup [y2,y3])) dz (.ins CR d1 [("way",.ref p5)])) p5=some (.tup [y2,y3]):=by rw [aq zl,aj]
  generalize upd (upd H4 p5 (.tup [y2,y3])) dz (.ins CR d1 [("way",.ref p5)])=H5 at s5 e5 t5 ⊢
  have RL:fY K H5 (.ref p5) (wx,wy):=mq t5 (LH.same s5) (Wd.same s5)
  dsimp only [ed]
  exact fin (.ref dz) H5 _ _ s5 (.inr ⟨dz,CR,d1,_,zac,hU K CR,rfl,e5,z5 _,wR,fun H6 e6 t6 Q' an=>⟨dz,d1,p5,(wx,wy),rfl,e6,RL.bg t6,by rw [hw] at an;exact an⟩⟩) fun H' k' W' =>q p _ H' RO (by rw [SY]) ((KO.of ZV).trans k') W'
 ·rw [hw] at RP
  refine bf (fun c=>by rw [RP] at c;simp at c) (fun _=>?_)
  refine ⟨_,rfl,lw,_,rfl,.inl l2,rfl,_,rfl,?_⟩
  refine bf (fun c=>by rw [RP] at c;simp at c) (fun _=>?_)
  refine ⟨_,rfl,fA,C,dx,_,_,_,rfl,R2.obj,rfl,OE,_,rfl,_,rfl,lg,_,_,rfl,rfl,fl,_,rfl,_,rfl,lP,_,_,_,rfl,rfl,aZ.of e2,S1,t1,_,_,_,rfl,rfl,bQ.of S0,rfl,q3,_,_,_,rfl,rfl,xh,me,_,rfl,_,rfl,lP,_,_,_,rfl,rfl,aZ.of e2,S1,t1,_,_,_,rfl,rfl,bQ.of S0,rfl,q3,_,_,_,rfl,rfl,xh,mJ,?_⟩
  intro dz d1 Mp RK ne1
  have s4:av H2 (upd (upd H2 d1 (.own dz)) dz (.ins CF d1 [])):=fun b o e=>by rw [aq (ao e Mp),aq (ao e RK)];exact e
  have e4:(upd (upd H2 d1 (.own dz)) dz (.ins CF d1 [])) dz =some (.ins CF d1 []):=aj
  generalize upd (upd H2 d1 (.own dz)) dz (.ins CF d1 [])=H4 at s4 e4 ⊢
  dsimp only [ed]
  exact fin (.ref dz) H4 _ _ s4 (.inr ⟨dz,CF,d1,_,zac,hV K,rfl,e4,rfl,wF,fun H6 _ _ Q' an=>⟨dz,rfl,by rw [hw] at an;exact an⟩⟩) fun H' k' W' =>q p _ H' RO (by rw [SY]) ((KO.of ZV).trans k') W'
def jf (k:Nat):Str:="new"++Str.ofString (toString (k:Int))
theorem Mr:∀i:Fin 2,("new":Str).length+(Str.ofString (toString (i.val:Int))).length<=1000:=by decide+kernel
inductive yn (K:Frag)(C:Addr)(vs:η)(H:Hp)(Q:VK)(E_:XK):Prop where
 | mk (fA dx pP pW pB lP lB:Addr) (us dH :η) (pins:π) (bars:ς) (c:Int) (k:Nat) (_:vs=[.ref fA,.ref lP,.ref lB,.int c,.int (k:Int)]) (_:WS K H C fA dx pP pW pB lP lB us dH pins bars) (_:k < 2) (_:2<=pins.length) (_:jf k∉bars.map (·.nm)) (_:bars.length<=58) (_:∀(b:ba) (JQ:η) (H' :Hp),b.nm=jf k->KO pP pW pB lP lB H H' ->WS K H' C fA dx pP pW pB lP lB us JQ pins (bars++[b])->Q .cI H'):yn K C vs H Q E_
theorem gc:aG ["_law_frame_here","_law_pins_here","_law_bars_here","_law_cell","_law_k","_law_one","_law_other"] zaa (ag cS):=sq
theorem pH {C:Addr}(D:Def K mg "_law_put_bar" cS zaa)(aL:mg "len"=none)(fO:mg "str"=none)(cw:Fn P w K mg base (a8 P w) 1 "_law_field" zab dG)
  (SV:bj P w K mg base (a8 P w) 3 C "put_bar" zaf (iG K C)):
  Fn P w K mg base (a8 P w) 4 "_law_put_bar" zaa (yn K C):=by
 refine D.ok gc (fun vs H Q E h=>?_) (fun f bH A outer s H vs Q E hr h=>?_)
 ·obtain ⟨fA,dx,pP,pW,pB,lP,lB,us,dH,pins,bars,c,k,rfl,_⟩:=h
  rfl
 obtain ⟨fA,dx,pP,pW,pB,lP,lB,us,vs,pins,bars,c,k,rfl,st,hk,lp2,zW,ari,q⟩:=h
 have L3:3<=sizeLine:=by decide
 have lu:us.length=pins.length:=Paired.length st.pp
 have lv:vs.length=bars.length:=Paired.length st.pb
 have lp:=st.lp
 have lg:(k:Int).natAbs.log2 < 1920:=aaz (ahw _) (by show k < 1920;omega)
 have fl:=aam (Mr ⟨k,hk⟩) (show 1000<=sizeLine by decide)
 obtain ⟨kP,kW,kB,R,W,nW⟩:=st.fr
 have sp:=aZ.of (K:=K) st.hp
 refine ⟨_,(ae (aA (i:=5) gc.nd rfl (aav rfl) (aE cw hr.mo (pY P w) (ar (pv 3) (ar ah (ar (aC au rfl aL bt (ar (pv 1) aa)) aa)))))
  (ae (aA (i:=6) gc.nd rfl (aav rfl) (aF dF (aF bI (aF bI (pv 5) ah) (aE cw hr.mo (pY P w) (ar (pv 3) (ar ah (ar (aF b9 (aC au rfl aL bt (ar (pv 1) aa)) ah) aa))))) (aC au rfl aL bt (ar (pv 1) aa))))
  (ae (bq (ip PySem.F.plainAttrs_list PySem.F.slot_list_append PySem.F.type_list_append di (pv 2) (ar (a_ (ar (aF cu fG (bN cf rfl fO lZ (ar (pv 4) aa))) (ar (pv 5) (ar (pv 6) aa)))) aa)))
  (ak (bq (bY (k:=3) (pv 0) hr.mo (pY P w) (ar (aF cu fG (bN cf rfl fO lZ (ar (pv 4) aa))) (ar (a9 (bB bc (pv 1) (pv 5) (fun _ _=>rfl))) (ar (a9 (bB bc (pv 1) (pv 6) (fun _ _=>rfl))) aa))))))))),?_⟩
 have j1:=aV (c:=c) (p:=2003) (m:=(us.length:Int)) (by omega)
 have j2:=aV (c:=c) (p:=3001) (m:=(us.length:Int) - 1) (by omega)
 refine ⟨_,rfl,_,rfl,lP,_,rfl,.inl sp,_,_,_,rfl,by decide,by decide,by omega,?_⟩
 generalize field c 2003 (us.length:Int)=one at j1 ⊢
 refine ⟨_,rfl,_,_,rfl,rfl,_,rfl,_,rfl,lP,_,rfl,.inl sp,_,_,rfl,rfl,_,_,_,rfl,by decide,by decide,by omega,_,_,rfl,rfl,_,rfl,lP,_,rfl,.inl sp,_,_,rfl,rfl,nz (by omega),?_⟩
 generalize field c 3001 ((us.length:Int) - 1)=step at j2 ⊢
 obtain ⟨on,rfl⟩:∃n:Nat,one=(n:Int):=⟨one.toNat,by omega⟩
 have oo:∃m:Nat,((on:Int)+1+step).fmod (us.length:Int)=(m:Int)/\m < us.length/\m≠on:=by
  have f:=jc (x:=(on:Int)+1+step) (m:=(us.length:Int)) (by omega)
  refine ⟨(((on:Int)+1+step).fmod (us.length:Int)).toNat,by omega,by omega,fun z=>?_⟩
  have e:((on:Int)+1+step).fmod (us.length:Int)=(on:Int):=by omega
  rw [ac_ _ (by omega)] at e
  by_cases c:(on:Int)+1+step < (us.length:Int)
  ·rw [acv (by omega) c] at e
   omega
  ·rw [<- ahP,acv (by omega) (by omega)] at e
   omega
 obtain ⟨EG,KN,l2',ne2⟩:=oo
 dsimp only
 rw [KN]
 obtain ⟨p1,g1⟩:∃p,pins[on]? =some p:=⟨_,gE (by omega)⟩
 obtain ⟨p2,g2⟩:∃p,pins[EG]? =some p:=⟨_,gE (by omega)⟩
 have m1:=aaa g1
 have m2:=aaa g2
 have m3:p1.nm≠p2.nm:=fun z=>ne2 (cB st.gp.np (x:=p1.nm) (by rw [Wp,g2,z];rfl) (by rw [Wp,g1];rfl))
 refine ⟨_,rfl,.inl ⟨rfl,_,aZ.of st.hb⟩,_,rfl,_,rfl,lg,_,_,rfl,rfl,fl,_,rfl,_,rfl,L3,?_⟩
 intro OG n16;generalize eX:upd _ OG _=Wn;have ⟨Oj,e16⟩:=nw n16 eX;clear eX
 refine ⟨lB,_,_,rfl,rfl,Oj _ _ st.hb,(aaz (show vs.length<=1000 by omega) (by decide)),?_⟩
 have yo:∀b o,b≠lB->H b=some o->(upd Wn lB (.lst (vs++[.ref OG]))) b=some o:=fun b o n e=>by rw [aq n];exact Oj _ _ e
 have Wo:(upd Wn lB (.lst (vs++[.ref OG]))) lB=some (.lst (vs++[.ref OG])):=aj
 have S3:(upd Wn lB (.lst (vs++[.ref OG]))) OG=some (.tup [.str (jf k),.int (on:Int),.int (EG:Int)]):=by rw [aq (fun z=>by rw [z,st.hb] at n16;cases n16)];exact e16
 generalize upd Wn lB (.lst (vs++[.ref OG]))=Wq at yo Wo S3 ⊢
 have k17:KO pP pW pB lP lB H Wq:=fun b o _ _ _ _ n5 e=>yo b o n5 e
 have t17:=st.t k17
 have nPb:pP≠lB:=fun z=>by have h:=R.pl;rw [z,st.hb] at h;cases h
 have nWb:pW≠lB:=fun z=>by have h:=R.wy;rw [z,st.hb] at h;cases h
 have Wr:pB≠lB:=fun z=>by have h:=R.br;rw [z,st.hb] at h;cases h
 have nBp:pB≠lP:=fun z=>by have h:=R.br;rw [z,st.hp] at h;cases h
 have fb:fA≠lB:=fun z=>by have h:=R.obj;rw [z,st.hb] at h;cases h
 have R17:eg K Wq C fA dx pP pW pB (JP pins) (xi bars) kP kW kB:=R.fD t17 ((yo _ _ fb R.obj).trans R.obj.symm) ((yo _ _ nPb R.pl).trans R.pl.symm) ((yo _ _ nWb R.wy).trans R.wy.symm) ((yo _ _ Wr R.br).trans R.br.symm)
 have RQ:Wq lP=some (.lst us):=yo _ _ st.ne st.hp
 have Ws:Paired (lj K Wq lP lB) us pins:=Paired.bP st.pp fun _ _ z=>st.yl k17 z
 obtain ⟨u1,eu1,q1,_,_,_,rfl,c1,_⟩:=aY (bR Ws) g1
 obtain ⟨u2,eu2,q2,_,_,_,rfl,c2,_⟩:=aY (bR Ws) g2
 refine ⟨_,rfl,fA,C,dx,_,_,_,rfl,R17.obj,rfl,SV,_,rfl,_,rfl,lg,_,_,rfl,rfl,fl,_,rfl,_,rfl,lP,_,_,_,rfl,rfl,aZ.of RQ,b8 eu1,q1,_,_,_,rfl,rfl,c1,rfl,_,rfl,_,rfl,lP,_,_,_,rfl,rfl,aZ.of RQ,b8 eu2,q2,_,_,_,rfl,rfl,c2,rfl,?_⟩
 dsimp only [ed]
 have nmP:(JP pins).map (·.1)=pins.map (·.nm):=by rw [aa5];rfl
 refine ⟨fA,dx,pP,pW,pB,JP pins,xi bars,kP,kW,kB,jf k,p1.nm,p2.nm,rfl,R17,by rw [aa5];exact zW,by rw [nmP];exact aaj.mpr ⟨_,m1,rfl⟩,by rw [nmP];exact aaj.mpr ⟨_,m2,rfl⟩,m3,by rw [ir];omega,fun H18 kB2 ZY R18=>?_⟩
 have Ms:KO pP pW pB lP lB H H18:=fun b o n1 n2 n3 n4 n5 e=>ZY _ _ n3 (k17 b o n1 n2 n3 n4 n5 e)
 have acz:=st.t Ms
 refine q ⟨jf k,p1,p2⟩ _ H18 rfl Ms ⟨⟨kP,kW,kB2,?_,st.ZU Ms W nW,nW⟩,ZY _ _ (abb nBp) RQ,Paired.bP st.pp fun _ _ z=>st.yl Ms z,ZY _ _ (abb Wr) Wo,d_ (Paired.bP st.pb fun u b z=>?_) ⟨OG,on,EG,rfl,bQ.of (ZY _ _ (fun z=>by rw [z,R17.br] at S3;cases S3) S3),g1,g2⟩,st.gp,st.gb.snoc zW ⟨m1,m2,m3⟩,st.lp,?_,st.ne⟩
 ·rw [show xi (bars++[⟨jf k,p1,p2⟩])=xi bars++[(jf k,p1.nm,p2.nm)] from aa1]
  exact R18
 ·obtain ⟨a,i,j,e,h1,g1,g2⟩:=z
  exact ⟨a,i,j,e,acz.cG h1,g1,g2⟩
 ·rw [aat,acj]
  omega
theorem JR {x:V}{ys:η}:je (x::ys) 0=some x:=b8 (xs:=x::ys) (j:=0) rfl
def Mt (pins:π)(i:Nat)(b:ba):Bool:=decide ((pins[i]?).map (·.nm)=some b.one.nm) || decide ((pins[i]?).map (·.nm)=some b.other.nm)
def Mu (pins:π)(bars:ς)(i:Nat):Bool:= !(bars.any (Mt pins i))
theorem OH {pins:π}(np:(pins.map (·.nm)).Nodup){i j:Nat}{p:aJ}(e:pins[j]? =some p):(pins[i]?).map (·.nm)=some p.nm ↔ i=j:=by
 constructor
 ·intro h
  have e1:(pins.map (·.nm))[i]? =some p.nm:=by rw [Wp];exact h
  have e2:(pins.map (·.nm))[j]? =some p.nm:=by rw [Wp,e];rfl
  exact cB np e1 e2
 ·rintro rfl
  rw [e]
  rfl
theorem lC {α:Type}(g:aJ->Str×α)(hg:∀p,(g p).1=p.nm):∀{pins:π} {k:Nat} {p:aJ},(pins.map (·.nm)).Nodup->pins[k]? =some p->(pins.map g).filter (fun b=>decide (b.1≠p.nm))=(pins.eraseIdx k).map g
 | q::ps,0,p,nd,e=>by
  cases e
  rw [aaR,abe] at nd
  rw [aaR,abC (by rw [hg];simp),List.eraseIdx_cons_zero,ail]
  intro b hb
  obtain ⟨r,hr,rfl⟩:=aaj.mp hb
  rw [hg]
  exact decide_eq_true (fun z=>nd.1 (by rw [<- z];exact aaj.mpr ⟨r,hr,rfl⟩))
 | q::ps,k+1,p,nd,e=>by
  rw [aaR,abe] at nd
  have e' :ps[k]? =some p:=by simpa using e
  have ne:q.nm≠p.nm:=fun z=>nd.1 (by rw [z];exact aaj.mpr ⟨p,aaa e',rfl⟩)
  rw [aaR,abB (by rw [hg];exact decide_eq_true ne),List.eraseIdx_cons_succ,aaR,lC g hg nd.2 e']
theorem pI {pins:π}{k i:Nat}(h:i≠k):(pins.eraseIdx k)[if k < i then i - 1 else i]? =pins[i]? :=by
 rw [aca]
 by_cases c:k < i
 ·rw [if_pos c,if_neg (by omega),show i - 1+1=i by omega]
 ·rw [if_neg c,if_pos (by omega)]
theorem iR.erase {pins:π}(g:iR pins)(k:Nat):iR (pins.eraseIdx k):=by
 have sub:ah7 (pins.eraseIdx k) pins:=abQ _ _
 exact ⟨g.np.sublist (sub.map _),g.ns.sublist (sub.map _),fun p hp=>g.sz p (sub.subset hp),fun p hp=>g.ws p (sub.subset hp)⟩
theorem v5 {H:Hp}:∀fs:List Nat,fN K H (fs.map fun i:Nat=>Da.v (.int (i:Int))) (fs.map fun i:Nat=>V.int (i:Int))
 | []=>by
  unfold fN
  trivial
 | i::fs=>by
  show fN K H (_::_) (_::_)
  unfold fN
  refine ⟨?_,v5 fs⟩
  unfold Is
  exact ⟨rfl,rfl⟩
theorem OI {x y z:V}:fu [x,y,z] (some 1) (some 3)=[y,z]:=rfl
theorem acA {x y z:V}:fu [x,y,z] (some 3) none=[]:=rfl
theorem yp {X:Cx}{K:Frag}(h:X.K=K)(hc:X.calm=true):ft X (.builtin "any") (QF K):=by subst h;exact BW hc
inductive JS (K:Frag)(C:Addr)(vs:η)(H:Hp)(Q:VK)(E_:XK):Prop where
 | mk (fA dx pP pW pB lP lB:Addr) (us dH :η) (pins:π) (bars:ς) (c:Int) (_:vs=[.ref fA,.ref lP,.ref lB,.int c]) (_:WS K H C fA dx pP pW pB lP lB us dH pins bars) (_:(∀H',av H H' ->Q .cI H')) (_:∀(k:Nat) (p:aJ) (y:V) (fH JQ:η) (H' :Hp),pins[k]? =some p->KO pP pW pB lP lB H H' ->WS K H' C fA dx pP pW pB lP lB fH JQ (pins.eraseIdx k) bars->lj K H' lP lB y p->Q y H'):JS K C vs H Q E_
theorem bZ:aG ["_law_frame_here","_law_pins_here","_law_bars_here","_law_cell","_law_free","_law_at","_law_gone","_law_k","_law_one","_law_other"] zag (ag cU):=sq
theorem pJ {C:Addr}(D:Def K mg "_law_pin_out" cU zag)(aL:mg "len"=none)(bG:mg "range"=none)(JT:mg "any"=none)(pF:mg "int"=none)(cw:Fn P w K mg base (a8 P w) 1 "_law_field" zab dG)
  (MTk:bj P w K mg base (a8 P w) 2 C "take_pin" zay (h7 K C)):
  Fn P w K mg base (a8 P w) 3 "_law_pin_out" zag (JS K C):=by
 refine D.ok bZ (fun vs H Q E h=>?_) (fun f bH A outer s H vs Q E hr h=>?_)
 ·obtain ⟨fA,dx,pP,pW,pB,lP,lB,us,dH,pins,bars,c,rfl,_⟩:=h
  rfl
 obtain ⟨fA,dx,pP,pW,pB,lP,lB,us,dH,pins,bars,c,rfl,st,q0,q⟩:=h
 have L3:3<=sizeLine:=by decide
 have lu:us.length=pins.length:=Paired.length st.pp
 have lv:dH.length=bars.length:=Paired.length st.pb
 have lp8:=st.lp
 have lb8:=st.lb
 obtain ⟨kP,kW,kB,R,W,nW⟩:=st.fr
 refine ⟨_,(ae (IZ (i:=4) bZ.nd rfl (aav rfl) (yc:="_law_k") (tn:=["_law_k"]) (fr:=["_law_bars_here"]) (caps:=[2]) rfl ⟨rfl,rfl,by decide+kernel,by decide+kernel,rfl,⟨(by first | exact aav rfl | exact abu rfl),trivial⟩,⟨(by first | exact aav rfl | exact abu rfl),trivial⟩,fun _ _=>rfl,fun _=>rfl,by decide+kernel,by decide+kernel⟩ (df rfl bG (ar (aC au rfl aL bt (ar (pv 1) aa)) aa)) (fun _ _ _ _=>(aD (i:=0) (show (["_law_k","_law_bars_here"]:List Str).Nodup from by decide+kernel) rfl (abu rfl))) (fun _ _ _ _=>(Ql (jw (jv (aC (yp (K:=K) rfl rfl) rfl JT Uj (ar (cY (tn:=["_law_bar"]) (fr:=["_law_k"]) (caps:=[0]) rfl ⟨rfl,by decide+kernel,rfl,by decide+kernel,by decide+kernel,rfl,⟨(by first | exact aav rfl | exact abu rfl),trivial⟩,⟨(by first | exact aav rfl | exact abu rfl),trivial⟩⟩ (HU (K:=K) rfl (pv 1)) (fun _ _ _ _=>(aD (i:=0) (show (["_law_bar","_law_k"]:List Str).Nodup from by decide+kernel) rfl (aav rfl))) (fun _ _ _ _=>dA) (fun _ _ _ _=>(gX (xH (K:=K) rfl) (pv 1) (cE (LQ (K:=K) rfl) (pv 0) (cA ah) (cA ah)) rfl))) aa)))))) (fun _ _ _ _=>(pv 0)))
  (ae (bw (aR (sE hr.units) (pv 4) (cD aa) (aX _)) (ak (aK nO)) aU)
  (ae (aA (i:=5) bZ.nd rfl (aav rfl) (bB bc (pv 4) (aE cw hr.mo (pY P w) (ar (pv 3) (ar ah (ar (aC au rfl aL bt (ar (pv 4) aa)) aa)))) (fun _ _=>rfl)))
  (ae (aA (i:=6) bZ.nd rfl (aav rfl) (ip PySem.F.plainAttrs_list PySem.F.slot_list_pop PySem.F.type_list_pop uU (pv 1) (ar (pv 5) aa)))
  (ae (bq (bY (k:=2) (pv 0) hr.mo (pY P w) (ar (a9 (pv 6)) aa)))
  (ae (bF PassesOwn.never rfl (df rfl bG (ar (aC au rfl aL bt (ar (pv 2) aa)) aa)) (aD (i:=7) bZ.nd rfl (aav rfl)) (ae (nQ (cE nX (bB bc (pv 2) (pv 7) (fun _ _=>rfl)) (cA ah) (cA ah)) (dy rfl (aS (aD (i:=8) bZ.nd rfl (aav rfl)) (aS (aD (i:=9) bZ.nd rfl (aav rfl)) b7))))
   (ak (nQ (aF Lm (a_ (ar (a9 (bB bc (pv 2) (pv 7) (fun _ _=>rfl))) (ar (aF b9 (pv 8) (bN qY rfl pF HD (ar (gX qX (pv 8) (pv 5) (aX _)) aa))) (ar (aF b9 (pv 9) (bN qY rfl pF HD (ar (gX qX (pv 9) (pv 5) (aX _)) aa))) aa)))) (cE nX (bB bc (pv 2) (pv 7) (fun _ _=>rfl)) (cA ah) fk)) (r9 (pv 2) (pv 7) set_list)))))
  (ak (aK (pv 6))))))))),?_⟩
 refine ⟨_,rfl,lP,_,rfl,.inl (aZ.of st.hp),((us.length:Nat):Int),rfl,by omega,by omega,fun lF nF=>?_⟩
 refine vF (n:=us.length) (cap:=[some (.ref lB)]) (Mu pins bars) nF (aaz (show us.length<=1000 by omega) (by decide)) (fun i H1 RR hi s1 kk=>?_) (fun i H1 RR r=>⟨_,rfl,r⟩) fun H1 s1 eF=>?_
 ·have UG:=s1 _ _ st.hb
  refine ⟨_,rfl,lB,rfl,⟨_,aZ.of UG⟩,fun D2 n2=>?_⟩
  refine cR (cap:=[some (.int (i:Int))]) (K:=K) (a:=lB) (xs:=dH) (fun j v _=>∀b,bars[j]? =some b->v=.bl (Mt pins i b)) n2 (aaz (show dH.length<=1000 by omega) (by decide)) (fun H2 s2=>aZ.of (s2 _ _ UG)) (fun _ _ _ _ _ _ _ h=>h) ?_ ?_
  ·intro j u H2 R2 hu s2 k2
   obtain ⟨b,eb,a,i1,j1,rfl,h1,g1,g2⟩:=aY st.pb hu
   have h2:=Ty.av.cG (s1.trans s2) h1
   refine ⟨_,rfl,_,rfl,1,rfl,3,rfl,a,_,rfl,h2,(by show ¬ (HT.dI 3 0 (some 1)=0/\HT.dI 3 3 (some 3)=3);decide),?_⟩
   rw [OI]
   intro p3 n3;generalize eX:upd _ p3 _=H3;have ⟨s3,e3⟩:=nw n3 eX;clear eX
   refine ⟨p3,_,rfl,.inr (bQ.of e3),rfl,rfl,k2 _ _ s3 fun b' FN =>?_⟩
   rw [eb] at FN
   cases FN
   congr 1
   have a1:=OH st.gp.np (i:=i) g1
   have a2:=OH st.gp.np (i:=i) g2
   show Sw (.int (i:Int)) [.int (i1:Int),.int (j1:Int)]=Mt pins i b
   unfold Mt Sw
   simp only [ahg,List.any_nil,rg,aim]
   have d1:((i1:Int)==(i:Int))=decide ((pins[i]?).map (·.nm)=some b.one.nm):=by
    rw [ab5,decide_eq_true_iff,a1,beq_iff_eq]
    omega
   have d2:((j1:Int)==(i:Int))=decide ((pins[i]?).map (·.nm)=some b.other.nm):=by
    rw [ab5,decide_eq_true_iff,a2,beq_iff_eq]
    omega
   rw [d1,d2]
  ·intro zs H2 lz hz s2 hD
   have ez:zs=(bars.map (Mt pins i)).map V.bl:=by
    refine abt fun j=>?_
    by_cases cj:j < zs.length
    ·obtain ⟨b,eb⟩:∃b,bars[j]? =some b:=⟨_,gE (by omega)⟩
     have e1:zs[j]? =some zs[j]:=gE cj
     rw [e1,hz j _ e1 b eb,Wp,Wp,eb]
     rfl
    ·rw [aan (by omega),aan (by rw [ir,ir];omega)]
   rw [ez] at hD
   refine ⟨D2,_,rfl,aZ.of hD,_,rfl,?_⟩
   have:=kk _ s2
   unfold Mu at this
   rw [List.any_map]
   exact this
 have st1:=st.same s1
 have R1:=R.same s1
 have W1:=W.same s1
 generalize ef:(abk us.length).filter (Mu pins bars)=fs at eF
 dsimp only [eh]
 refine f' (fun σ' H' =>σ' =[some (.ref fA),some (.ref lP),some (.ref lB),some (.int c),some (.ref lF),none,none,none,none,none]/\av H1 H' /\fs≠[]) (fun Nx v3=>?_) ?_
 ·refine ⟨_,rfl,(by show 0<=sizeLine;decide),?_⟩
  intro l2 n2;generalize eX:upd _ l2 _=H2;have ⟨s2,e2⟩:=nw n2 eX;clear eX
  refine ⟨fs.map fun i:Nat=>Da.v (.int (i:Int)),[],.inr ⟨?_,?_⟩,by cases fs <;> rfl,?_,_,rfl,?_⟩
  ·unfold Is
   exact ⟨lF,_,rfl,aZ.of (s2 _ _ eF),v5 fs⟩
  ·unfold Is
   refine ⟨l2,_,rfl,aZ.of e2,?_⟩
   unfold fN
   trivial
  ·have:∀l:List Nat,gx (l.map fun i:Nat=>Da.v (.int (i:Int)))<=60:=fun l=>by
    induction l with
    | nil=>exact abj _
    | cons i l ih=>
     show max (dep (Da.v (.int (i:Int)))) (gx (l.map fun i:Nat=>Da.v (.int (i:Int))))<=60
     have:dep (Da.v (.int (i:Int)))=0:=rfl
     omega
   exact this fs
  ·refine bf (fun _=>?_) (fun cc=>?_)
   ·exact q0 _ (s1.trans s2)
   ·refine v3 _ _ ⟨rfl,s2,fun z=>cc ?_⟩
    rw [z]
    rfl
 rintro σ' H2 ⟨rfl,s2,nfs⟩
 have eF2:=s2 _ _ eF
 have ig:=st1.same s2
 have R2:=R1.same s2
 have W2:=W1.same s2
 have lf:0 < fs.length:=by
  cases fs with
  | nil=>exact absurd rfl nfs
  | cons a l=>exact Nat.succ_pos _
 refine ⟨_,rfl,_,rfl,_,rfl,lF,_,rfl,.inl (aZ.of eF2),_,_,_,rfl,by decide,by decide,(by rw [ir];omega),?_⟩
 have fi:=aV (c:=c) (p:=7001) (m:=(((fs.map fun i:Nat=>V.int (i:Int)).length:Nat):Int)) (by rw [ir];omega)
 generalize field c 7001 (((fs.map fun i:Nat=>V.int (i:Int)).length:Nat):Int)=fv at fi ⊢
 rw [ir] at fi
 obtain ⟨fn,rfl⟩:∃n:Nat,fv=(n:Int):=⟨fv.toNat,by omega⟩
 have Ta:fn < fs.length:=by omega
 obtain ⟨k,ek⟩:∃k,fs[fn]? =some k:=⟨_,gE Ta⟩
 have mk:=aaa ek
 rw [<- ef] at mk
 obtain ⟨mk1,mk2⟩:=abr.mp mk
 have hk:k < us.length:=abl.mp mk1
 have af:je (fs.map fun i:Nat=>V.int (i:Int)) (fn:Int)=some (.int (k:Int)):=b8 (by rw [Wp,ek];rfl)
 refine ⟨lF,_,_,_,rfl,rfl,aZ.of eF2,af,?_⟩
 obtain ⟨p,ep⟩:∃p,pins[k]? =some p:=⟨_,gE (by omega)⟩
 have mp:=aaa ep
 obtain ⟨y,ey,hy⟩:=aY (bR ig.pp) ep
 have hy:lj K H2 lP lB y p:=hy
 have free:∀b∈bars,p.nm≠b.one.nm/\p.nm≠b.other.nm:=fun b hb=>by
  have h1:Mt pins k b=false:=by
   cases hc:Mt pins k b with
   | false=>rfl
   | true=>
    have:(bars.any (Mt pins k))=true:=aht.mpr ⟨b,hb,hc⟩
    unfold Mu at mk2
    rw [this] at mk2
    cases mk2
  unfold Mt at h1
  rw [Bool.or_eq_false_iff] at h1
  have e1:(pins[k]?).map (·.nm)=some p.nm:=by rw [ep];rfl
  refine ⟨fun z=>?_,fun z=>?_⟩
  ·exact absurd (by rw [e1,z]) (of_decide_eq_false h1.1)
  ·exact absurd (by rw [e1,z]) (of_decide_eq_false h1.2)
 refine ⟨_,rfl,.inl ⟨rfl,_,aZ.of ig.hp⟩,_,rfl,lP,us,(k:Int),k,y,rfl,rfl,ig.hp,by omega,by omega,IM hk,ey,?_⟩
 have k3:KO pP pW pB lP lB H2 (upd H2 lP (.lst (us.eraseIdx k))):=fun b o _ _ _ n4 _ e=>by rw [aq n4];exact e
 have e3:(upd H2 lP (.lst (us.eraseIdx k))) lP=some (.lst (us.eraseIdx k)):=aj
 have nP:pP≠lP:=fun z=>by have h:=R2.pl;rw [z,ig.hp] at h;cases h
 have Wk:pW≠lP:=fun z=>by have h:=R2.wy;rw [z,ig.hp] at h;cases h
 have nB:pB≠lP:=fun z=>by have h:=R2.br;rw [z,ig.hp] at h;cases h
 have ZW :pP≠lB:=fun z=>by have h:=R2.pl;rw [z,ig.hb] at h;cases h
 have ZX :pW≠lB:=fun z=>by have h:=R2.wy;rw [z,ig.hb] at h;cases h
 have nB' :pB≠lB:=fun z=>by have h:=R2.br;rw [z,ig.hb] at h;cases h
 have ot:∀b o,b≠lP->H2 b=some o->(upd H2 lP (.lst (us.eraseIdx k))) b=some o:=fun b o n e=>by rw [aq n];exact e
 generalize upd H2 lP (.lst (us.eraseIdx k))=H3 at k3 e3 ot ⊢
 have t3:=ig.t k3
 have R3:eg K H3 C fA dx pP pW pB (JP pins) (xi bars) kP kW kB:=R2.fD t3 ((k3.at (ig.away R2.obj (fun _ z=>nomatch z) fun _ z=>nomatch z) R2.obj).trans R2.obj.symm) ((ot _ _ nP R2.pl).trans R2.pl.symm) ((ot _ _ Wk R2.wy).trans R2.wy.symm) ((ot _ _ nB R2.br).trans R2.br.symm)
 have W3:=ig.ZU k3 W2 nW
 have hy3:=ig.yl k3 hy
 obtain ⟨ta,la,sv,ws,rfl,h1,h2,h3,h4,h5,h6⟩:=id hy3
 refine ⟨_,rfl,fA,C,dx,_,_,_,rfl,R3.obj,rfl,MTk,_,rfl,ta,_,_,_,rfl,rfl,h1,rfl,?_⟩
 dsimp only [ed]
 refine ⟨fA,dx,pP,pW,pB,JP pins,xi bars,kP,kW,kB,ZT pins,p.nm,rfl,R3,W3,by rw [aa5,aa5];rfl,by rw [aa5];exact aaj.mpr ⟨p,mp,rfl⟩,fun b hb=>?_,fun H4 qp jo k4 R4 W4 sub=>?_⟩
 ·obtain ⟨b',ix,rfl⟩:=aaj.mp hb
  exact free b' ix
 rw [lC (fun p=>(p.nm,jB p.sp)) (fun _=>rfl) st.gp.np ep] at R4
 rw [lC (fun p=>(p.nm,p.ws)) (fun _=>rfl) st.gp.np ep] at W4
 have ZZ:KO pP pW pB lP lB H2 H4:=fun b o m1 m2 m3 m4 m5 e=>k4 b o m1 m2 (k3 b o m1 m2 m3 m4 m5 e)
 have Mv:H4 lB=some (.lst dH):=k4 _ _ (abb ZW) (abb ZX) (ot _ _ (abb st.ne) ig.hb)
 have hp4:H4 lP=some (.lst (us.eraseIdx k)):=k4 _ _ (abb nP) (abb Wk) e3
 have t24:=ig.t ZZ
 have pe:∀{us:η} {l:π} {j:Nat},Paired (lj K H4 lP lB) us l->Paired (lj K H4 lP lB) (us.eraseIdx j) (l.eraseIdx j):=fun {us l j} h=>by
  induction h generalizing j with
  | nil=>exact .nil
  | cons x t ih=>
   cases j with
   | zero=>exact t
   | succ j=>exact .cons x ih
 have Sy:∀(H5:Hp) (Z0:η),(∀b o,b≠lB->H4 b=some o->H5 b=some o)->H5 lB=some (.lst Z0)->Paired (gP K H5 (pins.eraseIdx k)) Z0 bars->WS K H5 C fA dx pP pW pB lP lB (us.eraseIdx k) Z0 (pins.eraseIdx k) bars/\KO pP pW pB lP lB H H5:=fun H5 Z0 k5 OJ pb5=>by
  have k25:KO pP pW pB lP lB H2 H5:=fun b o m1 m2 m3 m4 m5 e=>k5 b o m5 (ZZ b o m1 m2 m3 m4 m5 e)
  have t5:bx H4 H5:=fun b xs r=>by
   rcases r with r | ⟨o',r⟩
   ·exact .inl (k5 _ _ (fun z=>by rw [z,Mv] at r;cases r) r)
   ·exact .inr ⟨o',k5 _ _ (fun z=>by rw [z,Mv] at r;cases r) r⟩
  have nw:∀kv∈jo,kv.2≠.ref lP/\kv.2≠.ref lB:=fun kv Ow=>nW kv (sub kv Ow)
  refine ⟨⟨⟨qp,jo,kB,R4.fD t5 ((k5 _ _ (fun z=>by have h:=R4.obj;rw [z,Mv] at h;cases h) R4.obj).trans R4.obj.symm) ((k5 _ _ ZW R4.pl).trans R4.pl.symm) ((k5 _ _ ZX R4.wy).trans R4.wy.symm) ((k5 _ _ nB' R4.br).trans R4.br.symm),?_,nw⟩,k5 _ _ st.ne hp4,Paired.bP (pe (j:=k) (Paired.bP ig.pp fun _ _ z=>ig.yl ZZ z)) fun _ _ z=>?_,OJ,pb5,st.gp.erase k,⟨st.gb.nb,fun b hb=>?_⟩,?_,st.lb,st.ne⟩,(KO.of (s1.trans s2)).trans k25⟩
  ·refine fQ (Paired.length W4) fun i p' kv e1 e2=>?_
   obtain ⟨kv',e3',z1,l,fH,z2,z3,z4⟩:=aY W4 e1
   rw [e2] at e3'
   cases e3'
   exact ⟨z1,l,fH,z2,k5 _ _ (fun z=>(nw _ (aaa e2)).2 (by rw [z2,z])) z3,z4.bg t5⟩
  ·obtain ⟨a',l',V6,ws',ev',c1,c2,c3,c4,c5,c6⟩:=z
   exact ⟨a',l',V6,ws',ev',t5.cG c1,c2.bg t5,k5 _ _ c6 c3,c4.bg t5,c5,c6⟩
  ·obtain ⟨m1,m2,m3⟩:=st.gb.ends b hb
   obtain ⟨f1,f2⟩:=free b hb
   have ins:∀r∈pins,p.nm≠r.nm->r∈pins.eraseIdx k:=fun r hr ne=>by
    obtain ⟨i,ei⟩:=aaF hr
    have ik:i≠k:=fun z=>by
     rw [z,ep] at ei
     cases ei
     exact ne rfl
    exact aaa ((pI ik).trans ei)
   exact ⟨ins _ m1 f1,ins _ m2 f2,m3⟩
  ·rw [ab2]
   split <;> omega
 refine ⟨_,rfl,lB,_,rfl,.inl (aZ.of Mv),((dH.length:Nat):Int),rfl,by omega,by omega,dP (lo:=0) (n:=((dH.length:Nat):Int).toNat) (fun i σ H' =>∃(o7 o8 o9:Β) (xs:η),σ=[some (.ref fA),some (.ref lP),some (.ref lB),some (.int c),some (.ref lF),some (.int (k:Int)),some (.ref ta),o7,o8,o9]/\(∀b o,b≠lB->H4 b=some o->H' b=some o)/\H' lB=some (.lst xs)/\xs.length=dH.length/\(∀(j:Nat) (u:V) (b:ba),j < i->xs[j]? =some u->bars[j]? =some b->gP K H' (pins.eraseIdx k) u b)/\∀j,i<=j->xs[j]? =dH[j]?) ⟨none,none,none,dH,rfl,fun _ _ _ e=>e,Mv,rfl,fun j u b h=>absurd h (ab6 _),fun _ _=>rfl⟩ ?_ ?_⟩
 ·rintro i σ H5 hi ⟨o7,o8,o9,xs,rfl,k5,OJ,lx,Z1,rest⟩
  have ei:(0:Int)+(i:Int)=(i:Int):=abH _
  rw [ei]
  have T6:i < dH.length:=by omega
  obtain ⟨u,eu⟩:∃u,dH[i]? =some u:=⟨_,gE T6⟩
  obtain ⟨b,eb,a,i1,j1,rfl,UG,g1,g2⟩:=aY ig.pb eu
  obtain ⟨f1,f2⟩:=free b (aaa eb)
  have t5:bx H4 H5:=fun b xs r=>by
   rcases r with r | ⟨o',r⟩
   ·exact .inl (k5 _ _ (fun z=>by rw [z,Mv] at r;cases r) r)
   ·exact .inr ⟨o',k5 _ _ (fun z=>by rw [z,Mv] at r;cases r) r⟩
  have ha5:bQ K H5 a [.str b.nm,.int (i1:Int),.int (j1:Int)]:=t5.cG (t24.cG UG)
  have ax:je xs (i:Int)=some (.ref a):=b8 (by rw [rest i (aas _)];exact eu)
  have n1k:i1≠k:=fun z=>by rw [z,ep] at g1;cases g1;exact f1 rfl
  have n2k:j1≠k:=fun z=>by rw [z,ep] at g2;cases g2;exact f2 rfl
  refine ⟨_,rfl,_,rfl,lB,_,_,_,rfl,rfl,aZ.of OJ,ax,1,rfl,3,rfl,a,_,rfl,ha5,(by show ¬ (HT.dI 3 0 (some 1)=0/\HT.dI 3 3 (some 3)=3);decide),?_⟩
  rw [OI]
  intro p6 n6;generalize eX:upd _ p6 _=H6;have ⟨s6,e6⟩:=nw n6 eX;clear eX
  refine ⟨p6,_,rfl,bQ.of e6,rfl,_,_,rfl,_,_,rfl,rfl,?_⟩
  have hb6:=s6 _ _ OJ
  have ha6:=Ty.av.cG s6 ha5
  refine ⟨_,rfl,_,rfl,lB,_,_,_,rfl,rfl,aZ.of hb6,ax,a,_,_,_,rfl,rfl,ha6,JR,?_⟩
  refine ⟨_,rfl,_,rfl,_,rfl,_,_,rfl,rfl,.inr ⟨_,rfl,_,_,rfl,rfl,?_⟩⟩
  refine ⟨_,rfl,_,rfl,_,rfl,_,_,rfl,rfl,.inr ⟨_,rfl,_,_,rfl,rfl,L3,?_⟩⟩
  intro p7 n7;generalize eX:upd _ p7 _=H7;have ⟨s7,e7⟩:=nw n7 eX;clear eX
  have Ov:=s7 _ _ hb6
  have ha7:=Ty.av.cG s7 ha6
  refine ⟨_,rfl,_,rfl,lB,_,_,_,rfl,rfl,aZ.of Ov,ax,3,rfl,a,_,rfl,ha7,(by show ¬ (HT.dI 3 0 (some 3)=0/\HT.dI 3 3 none=3);decide),?_⟩
  rw [acA]
  intro p8 n8;generalize eX:upd _ p8 _=H8;have ⟨s8,e8⟩:=nw n8 eX;clear eX
  have e78:=s8 _ _ e7
  have hb8:=s8 _ _ Ov
  refine ⟨p7,p8,_,_,rfl,rfl,bQ.of e78,bQ.of e8,by simp,(by show 3<=sizeLine;decide),fun _=>?_,fun z=>absurd rfl z⟩
  have ixn:FG xs.length (i:Int)=some i:=tf (by omega)
  refine ⟨_,rfl,_,rfl,lB,_,_,i,rfl,rfl,hb8,ixn,?_⟩
  have s58:=s6.trans (s7.trans s8)
  have sh:∀m:Nat,((m:Int) - (if decide ((k:Int) < (m:Int))=true then 1 else 0))=(((if k < m then m - 1 else m:Nat)):Int):=fun m=>by
   by_cases cm:k < m
   ·rw [if_pos (decide_eq_true (by omega)),if_pos cm]
    omega
   ·rw [if_neg (by simpa using cm),if_neg cm]
    omega
  have k9:∀b o,b≠lB->H5 b=some o->(upd H8 lB (.lst (xs.set i (.ref p7)))) b=some o:=fun b o n e=>by rw [aq n];exact s58 _ _ e
  have np7:p7≠lB:=fun z=>by rw [z,hb6] at n7;cases n7
  have e79:(upd H8 lB (.lst (xs.set i (.ref p7)))) p7=some (.tup [.str b.nm,.int (((if k < i1 then i1 - 1 else i1:Nat)):Int),.int (((if k < j1 then j1 - 1 else j1:Nat)):Int)]):=by
   rw [aq np7,e78, <- sh i1, <- sh j1]
  have t9:bx H5 (upd H8 lB (.lst (xs.set i (.ref p7)))):=fun b' ys r=>by
   rcases r with r | ⟨o',r⟩
   ·exact .inl (k9 _ _ (fun z=>by rw [z,OJ] at r;cases r) r)
   ·exact .inr ⟨o',k9 _ _ (fun z=>by rw [z,OJ] at r;cases r) r⟩
  refine ⟨_,_,_,xs.set i (.ref p7),rfl,fun b' o' n e=>k9 _ _ n (k5 _ _ n e),aj,by rw [ah9];exact lx,fun j u' b' hj SX FN =>?_,fun j hj=>?_⟩
  ·by_cases cj:j=i
   ·subst cj
    rw [ahl (by omega)] at SX
    cases SX
    rw [eb] at FN
    cases FN
    exact ⟨p7,_,_,rfl,bQ.of e79,(pI n1k).trans g1,(pI n2k).trans g2⟩
   ·rw [acV (abb cj)] at SX
    obtain ⟨a',i',j',e',c1,c2,c3⟩:=Z1 j u' b' (by omega) SX FN
    exact ⟨a',i',j',e',t9.cG c1,c2,c3⟩
  ·rw [acV (by omega)]
   exact rest j (by omega)
 ·rintro σ H5 ⟨o7,o8,o9,xs,rfl,k5,OJ,lx,Z1,rest⟩
  have en:((dH.length:Nat):Int).toNat=dH.length:=by omega
  rw [en] at Z1
  have pb5:Paired (gP K H5 (pins.eraseIdx k)) xs bars:=fQ (by omega) fun j u b e1 e2=>Z1 j u b (by have:=(be.mp e1).1;omega) e1 e2
  obtain ⟨w5,ko⟩:=Sy H5 xs k5 OJ pb5
  refine ⟨_,rfl,q k p (.ref ta) _ xs H5 ep ko w5 ?_⟩
  have ta4:=ig.yl ZZ hy
  obtain ⟨a',l',V6,ws',ev',c1,c2,c3,c4,c5,c6⟩:=ta4
  have t5:bx H4 H5:=fun b xs r=>by
   rcases r with r | ⟨o',r⟩
   ·exact .inl (k5 _ _ (fun z=>by rw [z,Mv] at r;cases r) r)
   ·exact .inr ⟨o',k5 _ _ (fun z=>by rw [z,Mv] at r;cases r) r⟩
  exact ⟨a',l',V6,ws',ev',t5.cG c1,c2.bg t5,k5 _ _ c6 c3,c4.bg t5,c5,c6⟩
theorem ky {α β:Type}{R:α->β->Prop}:∀{us:List α} {l:List β} {j:Nat},Paired R us l->Paired R (us.eraseIdx j) (l.eraseIdx j)
 | _,_,_,.nil=>.nil
 | _,_,0,.cons _ t=>t
 | _,_,_+1,.cons h t=>.cons h (ky t)
theorem pK:∀{bars:ς} {k:Nat} {b:ba},(bars.map (·.nm)).Nodup->bars[k]? =some b->(xi bars).filter (fun x=>decide (x.1≠b.nm))=xi (bars.eraseIdx k)
 | q::ps,0,p,nd,e=>by
  cases e
  rw [aaR,abe] at nd
  show ((q.nm,q.one.nm,q.other.nm)::xi ps).filter _=xi ps
  rw [abC (by simp),ail]
  intro b hb
  obtain ⟨r,hr,rfl⟩:=aaj.mp hb
  exact decide_eq_true (fun z=>nd.1 (by rw [<- z];exact aaj.mpr ⟨r,hr,rfl⟩))
 | q::ps,k+1,p,nd,e=>by
  rw [aaR,abe] at nd
  have e' :ps[k]? =some p:=by simpa using e
  have ne:q.nm≠p.nm:=fun z=>nd.1 (by rw [z];exact aaj.mpr ⟨p,aaa e',rfl⟩)
  show ((q.nm,q.one.nm,q.other.nm)::xi ps).filter _=(q.nm,q.one.nm,q.other.nm)::xi (ps.eraseIdx k)
  rw [abB (by simpa using ne),pK nd.2 e']
structure ER (k:Nat)(pins:π)(bars:ς):Prop where
 JU:∀j,k<=j->j < 2->mP j∉pins.map (·.nm)
 nu:∀j,k<=j->j < 2->jf j∉bars.map (·.nm)
 x:∀p∈pins,p.sp.1 < ((1000002+(k:Int):Int):Rat)
 lp:pins.length<=7+k
 lb:bars.length<=57+k
theorem JV:∀i:Fin 2,∀j:Fin 2,i≠j->mP i.val≠mP j.val/\jf i.val≠jf j.val:=by decide+kernel
theorem RS {k:Nat}{r:Rat}(h:r < ((1000002+(k:Int):Int):Rat)):r < ((1000002+((k+1:Nat):Int):Int):Rat):=by
 have:((1000002+((k+1:Nat):Int):Int):Rat)=((1000002+(k:Int):Int):Rat)+1:=by
  push_cast
  grind
 rw [this]
 grind
theorem ER.sub {k:Nat}{pins uF :π}{bars OK :ς}(h:ER k pins bars)(s1:ah7 uF pins)(s2:ah7 OK bars):ER (k+1) uF OK :=⟨fun j hj ES z=>h.JU j (by omega) ES ((s1.map _).subset z),fun j hj ES z=>h.nu j (by omega) ES ((s2.map _).subset z),fun p hp=>RS (h.x p (s1.subset hp)),by have:=s1.length_le;have:=h.lp;omega,by have:=s2.length_le;have:=h.lb;omega⟩
theorem ER.pin {k:Nat}{pins:π}{bars:ς}(h:ER k pins bars)(hk:k < 2){p:aJ}(pn:p.nm=mP k)(px:p.sp.1=((1000002+(k:Int):Int):Rat)):ER (k+1) (pins++[p]) bars:=by
 have hx:((1000002+(k:Int):Int):Rat) < ((1000002+((k+1:Nat):Int):Int):Rat):=ah6.mpr (by omega)
 refine ⟨fun j hj ES z=>?_,fun j hj ES=>h.nu j (by omega) ES,fun q hq=>?_,by have:=h.lp;rw [aat,acj];omega,by have:=h.lb;omega⟩
 ·rw [aa1] at z
  rcases aaQ.mp z with z | z
  ·exact h.JU j (by omega) ES z
  ·have e:mP j=p.nm:=by simpa using z
   rw [pn] at e
   exact (JV ⟨j,ES⟩ ⟨k,hk⟩ (fun y=>by have:=congrArg Fin.val y;simp at this;omega)).1 e
 ·rcases aaQ.mp hq with z | z
  ·exact RS (h.x q z)
  ·rw [aaT.mp z,px]
   exact hx
theorem ER.bar {k:Nat}{pins:π}{bars:ς}(h:ER k pins bars)(hk:k < 2){b:ba}(bn:b.nm=jf k):ER (k+1) pins (bars++[b]):=by
 refine ⟨fun j hj ES=>h.JU j (by omega) ES,fun j hj ES z=>?_,fun p hp=>RS (h.x p hp),by have:=h.lp;omega,by have:=h.lb;rw [aat,acj];omega⟩
 rw [aa1] at z
 rcases aaQ.mp z with z | z
 ·exact h.nu j (by omega) ES z
 ·have e:jf j=b.nm:=by simpa using z
  rw [bn] at e
  exact (JV ⟨j,ES⟩ ⟨k,hk⟩ (fun y=>by have:=congrArg Fin.val y;simp at this;omega)).2 e
inductive yq (K:Frag)(C:Addr)(vs:η)(H:Hp)(Q:VK)(E_:XK):Prop where
 | mk (fA dx pP pW pB lP lB:Addr) (us dH :η) (pins:π) (bars:ς) (c:Int) (k:Nat) (_:vs=[.ref fA,.ref lP,.ref lB,.int c,.int (k:Int)]) (_:WS K H C fA dx pP pW pB lP lB us dH pins bars) (_:k < 2) (_:ER k pins bars) (_:∀(FL JQ:η) (v7:π) (v8:ς) (H' :Hp),KO pP pW pB lP lB H H' ->WS K H' C fA dx pP pW pB lP lB FL JQ v7 v8->ER (k+1) v7 v8->Q .cI H'):yq K C vs H Q E_
theorem iV:aG ["_law_frame_here","_law_pins_here","_law_bars_here","_law_cell","_law_k","_law_kind","_law_bar"] zaa (ag eZ):=sq
theorem v9 {C:Addr}(D:Def K mg "_law_deed" eZ zaa)(aL:mg "len"=none)(cw:Fn P w K mg base (a8 P w) 1 "_law_field" zab dG)
  (MTb:bj P w K mg base (a8 P w) 1 C "take_bar" zay (i8 K C)) (qA:Fn P w K mg base (a8 P w) 4 "_law_put_bar" zaa (yn K C)) (qB:Fn P w K mg base (a8 P w) 35 "_law_put_pin" zah (ym K C)) (qC:Fn P w K mg base (a8 P w) 3 "_law_pin_out" zag (JS K C)):
  Fn P w K mg base (a8 P w) 36 "_law_deed" zaa (yq K C):=by
 refine D.ok iV (fun vs H Q E h=>?_) (fun f bH A outer s H vs Q E hr h=>?_)
 ·obtain ⟨fA,dx,pP,pW,pB,lP,lB,us,dH,pins,bars,c,k,rfl,_⟩:=h
  rfl
 obtain ⟨fA,dx,pP,pW,pB,lP,lB,us,vs,pins,bars,c,n,rfl,st,hn,rd,q⟩:=h
 have lu:us.length=pins.length:=Paired.length st.pp
 have lvb:vs.length=bars.length:=Paired.length st.pb
 have lps:=rd.lp
 have lbs:=rd.lb
 have lbw:=st.lb
 refine ⟨_,(ae (aA (i:=5) iV.nd rfl (aav rfl) (aE cw hr.mo (pY P w) (ar (pv 3) (ar ah (ar ah aa)))))
  (ak (bw (PW.pt (r8 (aR lV (pv 5) ah (aX _)) (mW (aR qX (aC au rfl aL bt (ar (pv 2) aa)) ah (aX _))))) (ae (aA (i:=6) iV.nd rfl (aav rfl) (ip PySem.F.plainAttrs_list PySem.F.slot_list_pop PySem.F.type_list_pop uU (pv 2) (ar (aE cw hr.mo (pY P w) (ar (pv 3) (ar ah (ar (aC au rfl aL bt (ar (pv 2) aa)) aa)))) aa)))
   (ak (bq (bY (k:=1) (pv 0) hr.mo (pY P w) (ar (a9 (pv 6)) aa))))) (ak (bw (PW.pt (r8 (aR du (pv 5) ah (aX _)) (mW (aR qX (aC au rfl aL bt (ar (pv 1) aa)) ah (aX _))))) (ak (bq (aE qA hr.mo (pY P w) (ar (pv 0) (ar (pv 1) (ar (pv 2) (ar (pv 3) (ar (pv 4) aa)))))))) (ak (bw (PW.pt (qW (aR du (pv 5) ah (aX _)) (kH (aR xn (aE qC hr.mo (pY P w) (ar (pv 0) (ar (pv 1) (ar (pv 2) (ar (pv 3) aa))))) nO (aX _))))) (ak (bq (aE qB hr.mo (pY P w) (ar (pv 0) (ar (pv 1) (ar (pv 3) (ar (pv 4) aa))))))) aU))))))),?_⟩
 refine ⟨_,rfl,_,_,_,rfl,by decide,by decide,by decide,?_⟩
 have i1:=aV (c:=c) (p:=1009) (m:=7) (by decide)
 generalize field c 1009 7=kd at i1 ⊢
 dsimp only
 refine ⟨_,rfl,_,_,rfl,rfl,_,rfl,?_⟩
 refine bf (fun c0=>?_) (fun c0=>?_)
 ·refine ⟨_,rfl,lB,_,rfl,.inl (aZ.of st.hb),_,_,rfl,rfl,_,rfl,?_⟩
  refine bf (fun cl=>?_) (fun cl=>?_)
  ·have cl' :=of_decide_eq_true cl
   refine ⟨_,rfl,.inl ⟨rfl,_,aZ.of st.hb⟩,_,rfl,_,rfl,lB,_,rfl,.inl (aZ.of st.hb),_,_,_,rfl,by decide,by decide,by omega,?_⟩
   have fi:=aV (c:=c) (p:=2003) (m:=((vs.length:Nat):Int)) (by omega)
   generalize field c 2003 ((vs.length:Nat):Int)=fv at fi ⊢
   obtain ⟨k,rfl⟩:∃n:Nat,fv=(n:Int):=⟨fv.toNat,by omega⟩
   have hk:k < vs.length:=by omega
   obtain ⟨b,eb⟩:∃b,bars[k]? =some b:=⟨_,gE (by omega)⟩
   have mb:=aaa eb
   obtain ⟨y,ey,hy⟩:=aY (bR st.pb) eb
   have hy:gP K H pins y b:=hy
   obtain ⟨ta,i,j,rfl,h1,g1,g2⟩:=hy
   obtain ⟨qp,jo,Ol,R,W,nW⟩:=st.fr
   refine ⟨lB,vs,(k:Int),k,.ref ta,rfl,rfl,st.hb,by omega,by omega,IM hk,ey,?_⟩
   have yr:∀b o,b≠lB->H b=some o->(upd H lB (.lst (vs.eraseIdx k))) b=some o:=fun b o n e=>by rw [aq n];exact e
   have Wt:(upd H lB (.lst (vs.eraseIdx k))) lB=some (.lst (vs.eraseIdx k)):=aj
   generalize upd H lB (.lst (vs.eraseIdx k))=H14 at yr Wt ⊢
   have k14:KO pP pW pB lP lB H H14:=fun b o _ _ _ _ n5 e=>yr b o n5 e
   have t14:=st.t k14
   have nPb:pP≠lB:=fun z=>by have h:=R.pl;rw [z,st.hb] at h;cases h
   have nWb:pW≠lB:=fun z=>by have h:=R.wy;rw [z,st.hb] at h;cases h
   have Wr:pB≠lB:=fun z=>by have h:=R.br;rw [z,st.hb] at h;cases h
   have nBp:pB≠lP:=fun z=>by have h:=R.br;rw [z,st.hp] at h;cases h
   have fb:fA≠lB:=fun z=>by have h:=R.obj;rw [z,st.hb] at h;cases h
   have fB:fA≠pB:=fun z=>by have h:=R.obj;rw [z,R.br] at h;cases h
   have R14:eg K H14 C fA dx pP pW pB (JP pins) (xi bars) qp jo Ol :=R.fD t14 ((yr _ _ fb R.obj).trans R.obj.symm) ((yr _ _ nPb R.pl).trans R.pl.symm) ((yr _ _ nWb R.wy).trans R.wy.symm) ((yr _ _ Wr R.br).trans R.br.symm)
   refine ⟨_,rfl,fA,C,dx,_,_,_,rfl,R14.obj,rfl,MTb,_,rfl,ta,_,_,_,rfl,rfl,t14.cG h1,rfl,?_⟩
   dsimp only [ed]
   refine ⟨fA,dx,pP,pW,pB,JP pins,xi bars,qp,jo,Ol,b.nm,rfl,R14,by rw [aa5];exact aaj.mpr ⟨b,mb,rfl⟩,fun Wu kB1 k15 R15=>?_⟩
   have em:=pK st.gb.nb eb
   rw [em] at R15
   have Wv:∀b o,b≠lB->b≠pB->H b=some o->Wu b=some o:=fun b o n n' e=>k15 _ _ n' (yr b o n e)
   have acJ:=k15 _ _ (abb Wr) Wt
   have z6:KO pP pW pB lP lB H Wu:=fun b o _ _ n3 _ n5 e=>Wv b o n5 n3 e
   have Ww:=st.t z6
   have len:=ahk bars k
   have sub:ah7 (bars.eraseIdx k) bars:=abQ _ _
   have ET:WS K Wu C fA dx pP pW pB lP lB us (vs.eraseIdx k) pins (bars.eraseIdx k):=⟨⟨qp,jo,kB1,R15,st.ZU z6 W nW,nW⟩,Wv _ _ st.ne (abb nBp) st.hp,Paired.bP st.pp fun _ _ z=>st.yl z6 z,acJ,ky (Paired.bP st.pb fun u b z=>by
    obtain ⟨a,i,j,e,h1,g1,g2⟩:=z
    exact ⟨a,i,j,e,Ww.cG h1,g1,g2⟩),st.gp,⟨st.gb.nb.sublist (sub.map _),fun c hc=>st.gb.ends c (sub.subset hc)⟩,st.lp,by omega,st.ne⟩
   exact q us _ pins _ Wu z6 ET (rd.sub (acP _) sub)
  ·refine ⟨_,rfl,rfl,_,rfl,?_⟩
   refine bf (fun c2=>?_) (fun c2=>?_)
   ·refine ⟨_,rfl,lP,_,rfl,.inl (aZ.of st.hp),_,_,rfl,rfl,_,rfl,?_⟩
    refine bf (fun c3=>?_) (fun c3=>?_)
    ·have c3' :(1:Int) < (us.length:Int):=of_decide_eq_true c3
     refine ⟨_,rfl,_,rfl,_,rfl,_,rfl,_,rfl,?_⟩
     try dsimp only [ed]
     exact ⟨fA,dx,pP,pW,pB,lP,lB,us,vs,pins,bars,c,n,rfl,st,hn,by omega,rd.nu n (aas _) hn,by omega,fun b JQ H' bn ko jL =>q us JQ pins (bars++[b]) H' ko jL (rd.bar hn bn)⟩
    ·refine ⟨_,rfl,rfl,_,rfl,?_⟩
     refine bf (fun _=>?_) (fun _=>?_)
     ·refine ⟨_,rfl,_,rfl,_,rfl,_,rfl,?_⟩
      try dsimp only [ed]
      exact ⟨fA,dx,pP,pW,pB,lP,lB,us,vs,pins,bars,c,n,rfl,st,hn,rd.JU n (aas _) hn,rd.x,by omega,fun p fH H' pn yt ko jL =>q fH vs (pins++[p]) bars H' ((KO.of (av.refl H)).trans ko) jL (rd.pin hn pn yt)⟩
     ·refine ⟨_,rfl,_,rfl,_,rfl,_,rfl,?_⟩
      try dsimp only [ed]
      refine ⟨fA,dx,pP,pW,pB,lP,lB,us,vs,pins,bars,c,rfl,st,fun H2 s2=>?_,fun j p y fH RT H2 ej ko ig py=>?_⟩
      ·refine ⟨rfl,_,rfl,?_⟩
       refine bf (fun _=>?_) (fun cc=>absurd (by decide) cc)
       refine ⟨_,rfl,_,rfl,_,rfl,_,rfl,?_⟩
       try dsimp only [ed]
       exact ⟨fA,dx,pP,pW,pB,lP,lB,us,vs,pins,bars,c,n,rfl,(st.same s2),hn,rd.JU n (aas _) hn,rd.x,by omega,fun p fH H' pn yt ko jL =>q fH vs (pins++[p]) bars H' ((KO.of s2).trans ko) jL (rd.pin hn pn yt)⟩
      ·obtain ⟨ta,la,sv,ws0,rfl,_⟩:=id py
       refine ⟨rfl,_,rfl,?_⟩
       refine bf (fun cc=>absurd (of_decide_eq_true cc) (fun z=>nomatch z)) (fun _=>?_)
       exact q fH RT _ bars H2 ko ig (rd.sub (abQ _ _) (acP _))
   ·refine ⟨_,rfl,rfl,_,rfl,?_⟩
    refine bf (fun _=>?_) (fun _=>?_)
    ·refine ⟨_,rfl,_,rfl,_,rfl,_,rfl,?_⟩
     try dsimp only [ed]
     exact ⟨fA,dx,pP,pW,pB,lP,lB,us,vs,pins,bars,c,n,rfl,st,hn,rd.JU n (aas _) hn,rd.x,by omega,fun p fH H' pn yt ko jL =>q fH vs (pins++[p]) bars H' ((KO.of (av.refl H)).trans ko) jL (rd.pin hn pn yt)⟩
    ·refine ⟨_,rfl,_,rfl,_,rfl,_,rfl,?_⟩
     try dsimp only [ed]
     refine ⟨fA,dx,pP,pW,pB,lP,lB,us,vs,pins,bars,c,rfl,st,fun H2 s2=>?_,fun j p y fH RT H2 ej ko ig py=>?_⟩
     ·refine ⟨rfl,_,rfl,?_⟩
      refine bf (fun _=>?_) (fun cc=>absurd (by decide) cc)
      refine ⟨_,rfl,_,rfl,_,rfl,_,rfl,?_⟩
      try dsimp only [ed]
      exact ⟨fA,dx,pP,pW,pB,lP,lB,us,vs,pins,bars,c,n,rfl,(st.same s2),hn,rd.JU n (aas _) hn,rd.x,by omega,fun p fH H' pn yt ko jL =>q fH vs (pins++[p]) bars H' ((KO.of s2).trans ko) jL (rd.pin hn pn yt)⟩
     ·obtain ⟨ta,la,sv,ws0,rfl,_⟩:=id py
      refine ⟨rfl,_,rfl,?_⟩
      refine bf (fun cc=>absurd (of_decide_eq_true cc) (fun z=>nomatch z)) (fun _=>?_)
      exact q fH RT _ bars H2 ko ig (rd.sub (abQ _ _) (acP _))
 ·refine ⟨_,rfl,rfl,_,rfl,?_⟩
  refine bf (fun c2=>?_) (fun c2=>?_)
  ·refine ⟨_,rfl,lP,_,rfl,.inl (aZ.of st.hp),_,_,rfl,rfl,_,rfl,?_⟩
   refine bf (fun c3=>?_) (fun c3=>?_)
   ·have c3' :(1:Int) < (us.length:Int):=of_decide_eq_true c3
    refine ⟨_,rfl,_,rfl,_,rfl,_,rfl,_,rfl,?_⟩
    try dsimp only [ed]
    exact ⟨fA,dx,pP,pW,pB,lP,lB,us,vs,pins,bars,c,n,rfl,st,hn,by omega,rd.nu n (aas _) hn,by omega,fun b JQ H' bn ko jL =>q us JQ pins (bars++[b]) H' ko jL (rd.bar hn bn)⟩
   ·refine ⟨_,rfl,rfl,_,rfl,?_⟩
    refine bf (fun _=>?_) (fun _=>?_)
    ·refine ⟨_,rfl,_,rfl,_,rfl,_,rfl,?_⟩
     try dsimp only [ed]
     exact ⟨fA,dx,pP,pW,pB,lP,lB,us,vs,pins,bars,c,n,rfl,st,hn,rd.JU n (aas _) hn,rd.x,by omega,fun p fH H' pn yt ko jL =>q fH vs (pins++[p]) bars H' ((KO.of (av.refl H)).trans ko) jL (rd.pin hn pn yt)⟩
    ·refine ⟨_,rfl,_,rfl,_,rfl,_,rfl,?_⟩
     try dsimp only [ed]
     refine ⟨fA,dx,pP,pW,pB,lP,lB,us,vs,pins,bars,c,rfl,st,fun H2 s2=>?_,fun j p y fH RT H2 ej ko ig py=>?_⟩
     ·refine ⟨rfl,_,rfl,?_⟩
      refine bf (fun _=>?_) (fun cc=>absurd (by decide) cc)
      refine ⟨_,rfl,_,rfl,_,rfl,_,rfl,?_⟩
      try dsimp only [ed]
      exact ⟨fA,dx,pP,pW,pB,lP,lB,us,vs,pins,bars,c,n,rfl,(st.same s2),hn,rd.JU n (aas _) hn,rd.x,by omega,fun p fH H' pn yt ko jL =>q fH vs (pins++[p]) bars H' ((KO.of s2).trans ko) jL (rd.pin hn pn yt)⟩
     ·obtain ⟨ta,la,sv,ws0,rfl,_⟩:=id py
      refine ⟨rfl,_,rfl,?_⟩
      refine bf (fun cc=>absurd (of_decide_eq_true cc) (fun z=>nomatch z)) (fun _=>?_)
      exact q fH RT _ bars H2 ko ig (rd.sub (abQ _ _) (acP _))
  ·refine ⟨_,rfl,rfl,_,rfl,?_⟩
   refine bf (fun _=>?_) (fun _=>?_)
   ·refine ⟨_,rfl,_,rfl,_,rfl,_,rfl,?_⟩
    try dsimp only [ed]
    exact ⟨fA,dx,pP,pW,pB,lP,lB,us,vs,pins,bars,c,n,rfl,st,hn,rd.JU n (aas _) hn,rd.x,by omega,fun p fH H' pn yt ko jL =>q fH vs (pins++[p]) bars H' ((KO.of (av.refl H)).trans ko) jL (rd.pin hn pn yt)⟩
   ·refine ⟨_,rfl,_,rfl,_,rfl,_,rfl,?_⟩
    try dsimp only [ed]
    refine ⟨fA,dx,pP,pW,pB,lP,lB,us,vs,pins,bars,c,rfl,st,fun H2 s2=>?_,fun j p y fH RT H2 ej ko ig py=>?_⟩
    ·refine ⟨rfl,_,rfl,?_⟩
     refine bf (fun _=>?_) (fun cc=>absurd (by decide) cc)
     refine ⟨_,rfl,_,rfl,_,rfl,_,rfl,?_⟩
     try dsimp only [ed]
     exact ⟨fA,dx,pP,pW,pB,lP,lB,us,vs,pins,bars,c,n,rfl,(st.same s2),hn,rd.JU n (aas _) hn,rd.x,by omega,fun p fH H' pn yt ko jL =>q fH vs (pins++[p]) bars H' ((KO.of s2).trans ko) jL (rd.pin hn pn yt)⟩
    ·obtain ⟨ta,la,sv,ws0,rfl,_⟩:=id py
     refine ⟨rfl,_,rfl,?_⟩
     refine bf (fun cc=>absurd (of_decide_eq_true cc) (fun z=>nomatch z)) (fun _=>?_)
     exact q fH RT _ bars H2 ko ig (rd.sub (abQ _ _) (acP _))
mutual
theorem Mw {H:Hp}:∀(d:Da) (x:V),Is K H d x->alike d d=true/\gZ d d=true
 | .v a,x,h=>by
  unfold Is at h
  unfold alike gZ
  exact ⟨rfl,uZ h.2⟩
 | .t ds,x,h=>by
  unfold Is at h
  unfold alike gZ
  obtain ⟨p,xs,_,_,k⟩:=h
  exact iW ds xs k
 | .l ds,x,h=>by
  unfold Is at h
  unfold alike gZ
  obtain ⟨p,xs,_,_,k⟩:=h
  exact iW ds xs k
theorem iW {H:Hp}:∀(ds:List Da) (xs:η),fN K H ds xs->c_ ds ds=true/\dw ds ds=true
 | [],_,_=>⟨rfl,rfl⟩
 | d::ds,[],h=>by unfold fN at h;exact h.elim
 | d::ds,x::xs,h=>by
  unfold fN at h
  unfold c_ dw
  obtain ⟨a1,a2⟩:=Mw d x h.1
  obtain ⟨b1,b2⟩:=iW ds xs h.2
  rw [a1,a2,b1,b2]
  exact ⟨rfl,rfl⟩
end
theorem kz {α:Type}{f:α->Da}(h:∀a,dep (f a)<=60):∀l:List α,gx (l.map f)<=60
 | []=>abj _
 | a::l=>by
  show max (dep (f a)) (gx (l.map f))<=60
  have h1:=h a
  have h2:=kz h l
  omega
theorem tW {α:Type}{H:Hp}{f:α->Da}{R:V->α->Prop}(h:∀u a,R u a->Is K H (f a) u):∀{us:η} {l:List α},Paired R us l->fN K H (l.map f) us
 | [],[],.nil=>by
  unfold fN
  trivial
 | _::_,_::_,.cons z t=>by
  show fN K H (_::_) _
  unfold fN
  exact ⟨h _ _ z,tW h t⟩
theorem yu {H:Hp}(x:Str):Is K H (.v (.str x)) (.str x):=by
 unfold Is
 exact ⟨rfl,rfl⟩
theorem EU (xs:ρ):Paired (fun u (x:Str)=>u=V.str x) (xs.map V.str) xs:=by
 induction xs with
 | nil=>exact .nil
 | cons x xs ih=>exact .cons rfl ih
theorem nN {H:Hp}{l:Addr}{xs:ρ}(h:aZ K H l (xs.map V.str)):Is K H (.l (xs.map fun x=>.v (.str x))) (.ref l):=by
 unfold Is
 exact ⟨l,_,rfl,h,tW (fun u a z=>by rw [z];exact yu a) (EU xs)⟩
theorem z7 {H:Hp}{l:Addr}{us:η}{ws:Ζ}(h:aZ K H l us)(p:g9 K H us ws):Is K H (.l (ws.map fun w=>.t (dR (jB w)))) (.ref l):=by
 unfold Is
 exact ⟨l,_,rfl,h,tW (fun u a z=>Spot.is (p:=jB a) z) p⟩
theorem RU {H:Hp}{ds:List Da}{x y:V}{Q:VK}(h1:Is K H (.l ds) x)(h2:Is K H (.l ds) y)(hd:gx ds<=60)(q:Q (.bl false) H):rq K x y H Q:=by
 have h:=h1
 unfold Is at h
 obtain ⟨p,xs,_,_,k⟩:=h
 obtain ⟨b1,b2⟩:=iW ds xs k
 refine ⟨ds,ds,.inr ⟨h1,h2⟩,b1,hd,?_⟩
 rw [b2]
 exact q
theorem Wx {H:Hp}{ds:List Da}{x y:V}{Q:VK}(h1:Is K H (.t ds) x)(h2:Is K H (.t ds) y)(hd:gx ds<=60)(q:Q (.bl false) H):rq K x y H Q:=by
 have h:=h1
 unfold Is at h
 obtain ⟨p,xs,_,_,k⟩:=h
 obtain ⟨b1,b2⟩:=iW ds xs k
 refine ⟨ds,ds,.inl ⟨h1,h2⟩,b1,hd,?_⟩
 rw [b2]
 exact q
theorem Wy (x:Str):dep (.v (.str x))<=60:=abj _
theorem JW {H:Hp}{p:Addr}{x y:Str}(h:bQ K H p [.str x,.str y]):Is K H (.t [.v (.str x),.v (.str y)]) (.ref p):=by
 unfold Is
 refine ⟨p,_,rfl,h,?_⟩
 unfold fN
 refine ⟨yu x,?_⟩
 unfold fN
 refine ⟨yu y,?_⟩
 unfold fN
 trivial
theorem Wz {α:Type}{nm:α->Str}{l:List α}{ys:η}(hl:ys.length=l.length)(h:∀(i:Nat) (v:V),ys[i]? =some v->∃p,l[i]? =some p/\v=V.str (nm p)):ys=(l.map nm).map V.str:=by
 refine abt fun i=>?_
 by_cases hi:i < ys.length
 ·obtain ⟨p,e1,e2⟩:=h i ys[i] (gE hi)
  rw [gE hi,e2,Wp,Wp,e1]
  rfl
 ·rw [aan (by omega),aan (by rw [ir,ir];omega)]
inductive pM (K:Frag)(C:Addr)(vs:η)(H:Hp)(Q:VK)(E_:XK):Prop where
 | mk (a pA bA:Addr) (us dH :η) (pins:π) (bars:ς) (_:vs=[.ref a,.ref pA,.ref bA]) (_:vw K H C a pins bars) (_:H pA=some (.lst us)) (_:Paired (mO K H) us pins) (_:H bA=some (.lst dH)) (_:Paired (gP K H pins) dH bars) (_:c7 pins bars) (_:∀H',av H H' ->Q (.bl true) H'):pM K C vs H Q E_
theorem cP:aG ["_law_frame_here","_law_pins_here","_law_bars_here","_law_name_here","_law_spot_here","_law_ways_here","_law_one","_law_other"] zaj (ag dZ):=sq
theorem tX {C:Addr}(D:Def K mg "_law_stays" dZ zaj)(JX:bj P w K mg base (a8 P w) 1 C "pins" zac (fK K C))(MB:bj P w K mg base (a8 P w) 1 C "bars" zac (hJ K C))(Z2:bj P w K mg base (a8 P w) 2 C "place" zae (j8 K C))(MW:bj P w K mg base (a8 P w) 2 C "ways" zae (jD K C))(ME:bj P w K mg base (a8 P w) 1 C "ends" zaI (oN K C)):
  Fn P w K mg base (a8 P w) 4 "_law_stays" zaj (pM K C):=by
 refine D.ok cP (fun vs H Q E h=>?_) (fun f bH A outer s H vs Q E hr h=>?_)
 ·obtain ⟨a,pA,bA,us,dH,pins,bars,rfl,_⟩:=h
  rfl
 obtain ⟨a,pA,bA,us,dH,pins,bars,rfl,R,hp,pp,hb,pb,g,q⟩:=h
 have lu:us.length=pins.length:=Paired.length pp
 have lv:dH.length=bars.length:=Paired.length pb
 have lp:=g.lp
 have lb:=g.lb
 have nmb:((pins.map fun p=>(p.nm,jB p.sp)).map (·.1))=pins.map (·.nm):=by rw [aa5];rfl
 have nbb:((bars.map fun b=>(b.nm,b.one.nm,b.other.nm)).map (·.1))=bars.map (·.nm):=by rw [aa5];rfl
 refine ⟨_,(ae (bw (PW.pt (qW (aR (gi hr.units) (cp (k:=1) (pv 0) hr.mo (pY P w)) (cY (tn:=zaG) (fr:=[]) (caps:=[]) rfl ⟨rfl,by decide+kernel,rfl,by decide+kernel,by decide+kernel,rfl,trivial,trivial⟩ (bD (pv 1)) (fun _ _ _ _=>(aD (i:=0) (show (zaG:List Str).Nodup from by decide+kernel) rfl (aav rfl))) (fun _ _ _ _=>dA) (fun _ _ _ _=>(bB (eC (K:=K) rfl) (pv 0) ah (fun _ _=>rfl)))) (aX _)) (kH (aR (gi hr.units) (cp (k:=1) (pv 0) hr.mo (pY P w)) (cY (tn:=["_law_bar"]) (fr:=[]) (caps:=[]) rfl ⟨rfl,by decide+kernel,rfl,by decide+kernel,by decide+kernel,rfl,trivial,trivial⟩ (bD (pv 2)) (fun _ _ _ _=>(aD (i:=0) (show (["_law_bar"]:List Str).Nodup from by decide+kernel) rfl (aav rfl))) (fun _ _ _ _=>dA) (fun _ _ _ _=>(bB (eC (K:=K) rfl) (pv 0) ah (fun _ _=>rfl)))) (aX _))))) (ak (aK ie)) aU)
  (ae (bF PassesOwn.never rfl (bD (pv 1)) (dy rfl (aS (aD (i:=3) cP.nd rfl (aav rfl)) (aS (aD (i:=4) cP.nd rfl (aav rfl)) (aS (aD (i:=5) cP.nd rfl (aav rfl)) b7)))) (ak (bw (PW.pt (qW (aR (gi hr.units) (bY (k:=2) (pv 0) hr.mo (pY P w) (ar (pv 3) aa)) (pv 4) (aX _)) (kH (aR (gi hr.units) (bY (k:=2) (pv 0) hr.mo (pY P w) (ar (pv 3) aa)) (pv 5) (aX _))))) (ak (aK ie)) aU)))
  (ae (bF PassesOwn.never rfl (bD (pv 2)) (dy rfl (aS (aD (i:=3) cP.nd rfl (aav rfl)) (aS (aD (i:=6) cP.nd rfl (aav rfl)) (aS (aD (i:=7) cP.nd rfl (aav rfl)) b7)))) (ak (bw (aR (gi hr.units) (bY (k:=1) (pv 0) hr.mo (pY P w) (ar (pv 3) aa)) (a_ (ar (a9 (bB bc (pv 1) (pv 6) (fun _ _=>rfl))) (ar (a9 (bB bc (pv 1) (pv 7) (fun _ _=>rfl))) aa))) (aX _)) (ak (aK ie)) aU)))
  (ak (aK ie))))),?_⟩
 obtain ⟨dx,pP,pW,pB,kP,kW,kB,F1,W1⟩:=R.ex
 refine ⟨_,rfl,a,C,dx,_,_,_,rfl,F1.obj,rfl,JX,a,dx,pP,pW,pB,_,_,kP,kW,kB,rfl,F1,fun l H1 s1 nl el=>?_⟩
 rw [nmb] at el
 refine ⟨_,rfl,pA,rfl,⟨_,aZ.of (s1 _ _ hp)⟩,fun D1 n1=>?_⟩
 refine cR (cap:=[]) (K:=K) (a:=pA) (xs:=us) (fun i v _=>∃p,pins[i]? =some p/\v=.str p.nm) n1 (by rw [lu];exact aaz (show pins.length<=1000 by omega) (by decide)) (fun H2 s2=>aZ.of (s2 _ _ (s1 _ _ hp))) (fun _ _ _ _ _ _ _ h=>h) ?_ ?_
 ·intro j u H6 Rq hu s6 k
  obtain ⟨p,uw,Mo⟩:=aY pp hu
  obtain ⟨ta,l',sv,fH,rfl,h1,_⟩:=Mo.same (oK s1 s6)
  exact ⟨_,rfl,ta,_,_,_,rfl,rfl,h1,rfl,k _ _ (av.refl _) ⟨p,uw,rfl⟩⟩
 intro ys H2 hy hG s2 hD
 rw [Wz (nm:=aJ.nm) (by rw [hy,lu]) hG] at hD
 refine RU (nN (aZ.of (s2 _ _ el))) (nN (aZ.of hD)) (kz Wy _) ⟨_,rfl,?_⟩
 refine bf (fun c=>nomatch c) (fun _=>?_)
 have qu:=oK s1 s2
 have F2:=F1.same qu
 refine ⟨_,rfl,a,C,dx,_,_,_,rfl,F2.obj,rfl,MB,a,dx,pP,pW,pB,_,_,kP,kW,kB,rfl,F2,fun l3 H3 s3 nl3 el3=>?_⟩
 rw [nbb] at el3
 have tJ:=oK qu s3
 refine ⟨_,rfl,bA,rfl,⟨_,aZ.of (tJ _ _ hb)⟩,fun D2 n2=>?_⟩
 refine cR (cap:=[]) (K:=K) (a:=bA) (xs:=dH) (fun i v _=>∃p,bars[i]? =some p/\v=.str p.nm) n2 (by rw [lv];exact aaz (show bars.length<=1000 by omega) (by decide)) (fun H2 s2=>aZ.of (s2 _ _ (tJ _ _ hb))) (fun _ _ _ _ _ _ _ h=>h) ?_ ?_
 ·intro j u H6 Rq hu s6 k
  obtain ⟨b,FN,ix⟩:=aY pb hu
  obtain ⟨ta,u1,u2,rfl,h1,_⟩:=ix.same (oK tJ s6)
  exact ⟨_,rfl,ta,_,_,_,rfl,rfl,h1,rfl,k _ _ (av.refl _) ⟨b,FN,rfl⟩⟩
 intro ys H4 hy hG s4 ZN
 rw [Wz (nm:=ba.nm) (by rw [hy,lv]) hG] at ZN
 refine RU (nN (aZ.of (s4 _ _ el3))) (nN (aZ.of ZN)) (kz Wy _) ⟨_,rfl,?_⟩
 refine bf (fun c=>nomatch c) (fun _=>?_)
 have DZ:=oK tJ s4
 refine ⟨_,rfl,pA,rfl,⟨_,aZ.of (DZ _ _ hp)⟩,cC (K:=K) (a:=pA) (xs:=us) (fun i σ H' =>∃(o3 o4 o5:Β),σ=[some (.ref a),some (.ref pA),some (.ref bA),o3,o4,o5,none,none]/\av H H') ⟨none,none,none,rfl,DZ⟩ (fun i σ H' _ h=>by
   obtain ⟨_,_,_,_,h⟩:=h
   exact aZ.of (h _ _ hp)) ?_ ?_⟩
 ·rintro i u σ H5 hu ⟨o3,o4,o5,rfl,s5⟩
  obtain ⟨p,ep,hpr⟩:=aY pp hu
  have mp:p∈pins:=aaa ep
  obtain ⟨ta,l',sv,ws,rfl,h1,h2,h3,h4⟩:=hpr.same s5
  refine ⟨ta,_,rfl,h1,rfl,_,_,rfl,_,_,rfl,_,_,rfl,rfl,?_⟩
  have F5:=F1.same s5
  have W5:=W1.same s5
  refine ⟨_,rfl,a,C,dx,_,_,_,rfl,F5.obj,rfl,Z2,_,rfl,a,dx,pP,pW,pB,_,_,kP,kW,kB,p.nm,jB p.sp,rfl,F5,by rw [nmb];exact g.np,aaj.mpr ⟨p,mp,rfl⟩,fun v hv=>?_⟩
  refine ⟨_,rfl,Wx (Spot.is hv) (Spot.is (p:=jB p.sp) h2) (kT _) ⟨_,rfl,?_⟩⟩
  refine bf (fun c=>nomatch c) (fun _=>?_)
  refine ⟨_,rfl,a,C,dx,_,_,_,rfl,F5.obj,rfl,MW,_,rfl,a,dx,pP,pW,pB,_,_,kP,kW,kB,_,p.nm,p.ws,rfl,F5,W5,zM g.np,aaj.mpr ⟨p,mp,rfl⟩,by rw [nmb];exact aaj.mpr ⟨p,mp,rfl⟩,fun l7 u7 H7 s7 n7 e7 p7=>?_⟩
  refine ⟨_,rfl,RU (z7 (aZ.of e7) p7) (z7 (aZ.of (s7 _ _ h3)) (h4.same s7)) (kz (fun w=>aam (show dep (.t (dR (jB w)))<=2 by simp [dep,gx]) (by decide)) _) ⟨_,rfl,?_⟩⟩
  refine bf (fun c=>nomatch c) (fun _=>?_)
  exact ⟨_,_,_,rfl,oK s5 s7⟩
 rintro σ H5 ⟨o3,o4,o5,rfl,s5⟩
 refine ⟨_,rfl,bA,rfl,⟨_,aZ.of (s5 _ _ hb)⟩,cC (K:=K) (a:=bA) (xs:=dH) (fun i σ H' =>∃(o3 o6 o7:Β),σ=[some (.ref a),some (.ref pA),some (.ref bA),o3,o4,o5,o6,o7]/\av H H') ⟨_,none,none,rfl,s5⟩ (fun i σ H' _ h=>by
   obtain ⟨_,_,_,_,h⟩:=h
   exact aZ.of (h _ _ hb)) ?_ ?_⟩
 ·rintro i u σ H6 hu ⟨o3,o6,o7,rfl,s6⟩
  obtain ⟨b,eb,hbr⟩:=aY pb hu
  have mb:b∈bars:=aaa eb
  obtain ⟨ta,i1,i2,rfl,h1,x1,x2⟩:=hbr.same s6
  obtain ⟨y1,ey1,z1⟩:=aY (bR (Paired.bP pp fun _ _ z=>z.same s6)) x1
  obtain ⟨y2,ey2,z2⟩:=aY (bR (Paired.bP pp fun _ _ z=>z.same s6)) x2
  obtain ⟨a1,l1,sv1,nC,rfl,h11,_⟩:=z1
  obtain ⟨a2,l2,sv2,FL,rfl,h21,_⟩:=z2
  have hp6:=aZ.of (K:=K) (s6 _ _ hp)
  refine ⟨ta,_,rfl,h1,rfl,_,_,rfl,_,_,rfl,_,_,rfl,rfl,?_⟩
  have F6:=F1.same s6
  refine ⟨_,rfl,a,C,dx,_,_,_,rfl,F6.obj,rfl,ME,_,rfl,a,dx,pP,pW,pB,_,_,kP,kW,kB,b.nm,b.one.nm,b.other.nm,rfl,F6,Oo g.nb,aaj.mpr ⟨b,mb,rfl⟩,fun p rd=>?_⟩
  have tp:bQ K H6 p [.str b.one.nm,.str b.other.nm]:=.inl rd
  refine ⟨_,rfl,_,rfl,pA,_,_,_,rfl,rfl,hp6,b8 ey1,a1,_,_,_,rfl,rfl,h11,rfl,_,rfl,_,rfl,pA,_,_,_,rfl,rfl,hp6,b8 ey2,a2,_,_,_,rfl,rfl,h21,rfl,(by show 2<=sizeLine;decide),?_⟩
  intro t7 n7;generalize eX:upd _ t7 _=H7;have ⟨s7,e7⟩:=nw n7 eX;clear eX
  refine Wx (JW (Ty.av.cG s7 tp)) (JW (bQ.of e7)) (by simp [gx,dep]) ⟨_,rfl,?_⟩
  refine bf (fun c=>nomatch c) (fun _=>?_)
  exact ⟨_,_,_,rfl,oK s6 s7⟩
 rintro σ H6 ⟨o3,o6,o7,rfl,s6⟩
 exact q H6 s6
theorem Mx {ws:Ζ}(h:iQ ws):D' ws:=fun us hl h1 h2 u hu=>by
 rcases h with rfl | ⟨x,y,rfl,ne,_,_⟩ | rfl
 ·rw [ab4.mp hl] at hu
  cases hu
 ·obtain ⟨a,rfl⟩:=List.length_eq_one_iff.mp hl
  have e:u=a:=by simpa using hu
  have e1:a*x=0:=by
   have:=h1
   rw [aaR,ad_,eL,jE] at this
   grind
  have e2:a*y=0:=by
   have:=h2
   rw [aaR,ad_,eL,jE] at this
   grind
  rw [e]
  by_cases c:x=0
  ·have:y≠0:=fun z=>ne ⟨c,z⟩
   grind
  ·grind
 ·match us,hl with
  | [a,b],_=>
   rw [aaR,aaR,ad_,eL,eL,jE] at h1 h2
   have ea:a=0:=by grind
   have eb:b=0:=by grind
   rcases aa8.mp hu with z | z
   ·rw [z];exact ea
   ·rw [aaT.mp z];exact eb
theorem tY {α β:Type}{R:α->β->Prop}:∀{us:List α} {l:List β},Paired R us l->Paired R (us.drop 1) (l.drop 1)
 | _,_,.nil=>.nil
 | _,_,.cons _ t=>t
theorem OL:∀ws:List V,fu ws (some 1) none=ws.drop 1
 | []=>rfl
 | w::ws=>i6 (xs:=w::ws) (i:=1) (aiI (abj _))
theorem RV:mP 0="far0"/\mP 1="far1"/\jf 0="new0"/\jf 1="new1":=by decide+kernel
theorem iX:aG ["_law_script","_law_pins_here","_law_bars_here","_law_frame_here","_law_told","_law_k","_law_many"] zaD (ag j3):=sq
theorem RW {f:Addr}{fd:FuncData}{C:Addr}(F:m6 K "law" "law" j3 f fd)(aL:mg "len"=none)(bG:mg "range"=none)
  (pC:Fn P w K mg base (a8 P w) 1 "_law_cell_at" zap (lh K))
  (acM:Fn P w K mg base (a8 P w) 35 "_law_pins" zaD (tR K)) (acN:Fn P w K mg base (a8 P w) 3 "_law_bars" zat (tS K)) (v_:Fn P w K mg base (a8 P w) 3 "_law_thick" zak (tT K)) (WA:Fn P w K mg base (a8 P w) 4 "_law_frame" zar (pE K C))
  (iP:Fn P w K mg base (a8 P w) 39 "spares_of" zao (zV K C)) (h_:Fn P w K mg base (a8 P w) 39 "motions_of" zao (tK K C)) (yv:Fn P w K mg base (a8 P w) 39 "needs_of" zao (tL K C)) (yw:Fn P w K mg base (a8 P w) 39 "stays_of" zao (tN K C)) (gv:Fn P w K mg base (a8 P w) 40 "counts_of" zao (pj K C))
  (RX:Fn P w K mg base (a8 P w) 1 "_law_right" zam (nM K)) (yx:Fn P w K mg base (a8 P w) 36 "_law_deed" zaa (yq K C)) (wd:Fn P w K mg base (a8 P w) 4 "_law_stays" zaj (pM K C)):
  cJ P w K mg base (a8 P w) 42 f fd zaD (HF K):=by
 refine F.okG iX (fun vs H Q E h=>?_) (fun bH A outer s H vs Q E hr h=>?_)
 ·obtain ⟨a,ns,rfl,_⟩:=h
  rfl
 obtain ⟨sA,ns,rfl,hS,hn,hb,q⟩:=h
 have L2:2<=sizeLine:=by decide
 have L3:3<=sizeLine:=by decide
 refine ⟨_,(ae (aA (i:=1) iX.nd rfl (aav rfl) (aE acM hr.mo pX (ar (pv 0) aa)))
  (ae (aA (i:=2) iX.nd rfl (aav rfl) (aE v_ hr.mo pX (ar (pv 0) (ar (pv 1) (ar (aE acN hr.mo pX (ar (pv 0) (ar (pv 1) aa))) aa)))))
  (ae (aA (i:=3) iX.nd rfl (aav rfl) (aE WA hr.mo pX (ar (pv 1) (ar (pv 2) aa))))
  (ae (aA (i:=4) iX.nd rfl (aav rfl) (aE gv hr.mo pX (ar (pv 3) aa)))
  (ae (bF PassesOwn.never rfl (df rfl bG (ar ah aa)) (aD (i:=5) iX.nd rfl (aav rfl)) (ae (bw (jw (jv (aE RX hr.mo pX (ar (pv 4) (ar (pv 1) (ar (pv 2) aa)))))) (ak (aK ie)) aU)
   (ae (bq (aE yx hr.mo pX (ar (pv 3) (ar (pv 1) (ar (pv 2) (ar (aE pC hr.mo pX (ar (pv 0) (ar (aF bI ah (pv 5)) aa))) (ar (pv 5) aa)))))))
   (ak (aA (i:=4) iX.nd rfl (aav rfl) (aE gv hr.mo pX (ar (pv 3) aa)))))))
  (ae (bw (jw (jv (aE RX hr.mo pX (ar (pv 4) (ar (pv 1) (ar (pv 2) aa)))))) (ak (aK ie)) aU)
  (ae (bw (aR (gi hr.units) (cE nX (pv 4) (cA ah) fk) (a_ (ar (aC gK rfl aL bt (ar (aE iP hr.mo pX (ar (pv 3) aa)) aa)) (ar (aC jC rfl aL bt (ar (aE h_ hr.mo pX (ar (pv 3) aa)) aa)) aa))) (aX _)) (ak (aK ie)) aU)
  (ae (aA (i:=6) iX.nd rfl (aav rfl) (cD (ar (aC gK rfl aL bt (ar (aE yv hr.mo pX (ar (pv 3) aa)) aa)) (ar (aC jC rfl aL bt (ar (aE yw hr.mo pX (ar (pv 3) aa)) aa)) aa))))
  (ae (bw (aR (gi hr.units) (pv 6) (cD (ar (aF b9 (aC au rfl aL bt (ar (pv 2) aa)) (a9 (pv 4))) (ar (aF b9 (aF bS ah (aC au rfl aL bt (ar (pv 1) aa))) (a9 (pv 4))) aa))) (aX _)) (ak (aK ie)) aU)
  (ae (bw (jw (jv (aE RX hr.mo pX (ar (aE gv hr.mo pX (ar (aE WA hr.mo pX (ar (pv 1) (ar (cE gY (pv 2) (cA ah) fk) aa))) aa)) (ar (pv 1) (ar (cE gY (pv 2) (cA ah) fk) aa)))))) (ak (aK ie)) aU)
  (ak (aK (xk (aE wd hr.mo pX (ar (pv 3) (ar (pv 1) (ar (pv 2) aa)))) (FR (gX (sE hr.units) (aE gv hr.mo pX (ar (pv 3) aa)) (pv 4) (aX _)))))))))))))))),?_⟩
 refine ⟨_,rfl,sA,ns,rfl,hS,fun lP us pins H1 s1 nP eP pp gp lp pn=>?_⟩
 have lu:us.length=pins.length:=Paired.length pp
 refine ⟨_,rfl,_,rfl,_,rfl,_,rfl,sA,lP,ns,us,pins,rfl,s1.seq hS,eP,lu,gp.np,by omega,fun lB0 vs0 WC Hb sb nB0 eB0 pb0 gb0 lb0 lb7 V_=>?_⟩
 try dsimp only [ed]
 refine ⟨sA,lP,lB0,ns,us,vs0,pins,WC,rfl,(s1.trans sb).seq hS,sb _ _ eP,lu,gp.np,eB0,pb0,gb0,lb0,lb7,V_,fun lB vs bars H2 ig oB eB pb gb lb nwb=>?_⟩
 have nB:H1 lB=none:=by
  rcases oB with z | z
  ·rw [z]
   exact nB0
  ·exact sb.free z
 have s2:=sb.trans ig
 have acO:Paired (mO K H2) us pins:=Paired.bP pp fun _ _ z=>z.r.same s2
 have eP2:=s2 _ _ eP
 refine ⟨_,rfl,_,rfl,lP,lB,us,vs,pins,bars,rfl,eP2,acO,eB,pb,gp,gb,by omega,by omega,fun fA dx pP pW pB kP kW kB H3 s3 R3 W3 nwq nP3 nW3 nB3=>?_⟩
 have tJ:=s1.trans (s2.trans s3)
 have Zk:lP≠lB:=fun z=>by rw [<- z,eP] at nB;cases nB
 have GG:WS K H3 C fA dx pP pW pB lP lB us vs pins bars:=⟨⟨kP,kW,kB,R3,W3,fun kv h=>⟨nwq kv h _ _ eP2,nwq kv h _ _ eB⟩⟩,s3 _ _ eP2,Paired.bP pp fun u p z=>by
  obtain ⟨a,l,sv,xs,e,h1,h2,h3,h4,h5⟩:=z
  have zB:=s2.trans s3
  exact ⟨a,l,sv,xs,e,Ty.av.cG zB h1,h2.same zB,zB _ _ h3,h4.same zB,h5,fun y=>by rw [y,nB] at h3;cases h3⟩,s3 _ _ eB,Paired.bP pb fun _ _ z=>z.same s3,gp,gb,by omega,by omega,Zk⟩
 have np0:=(s1.trans s2).free nP3
 have nw0:=(s1.trans s2).free nW3
 have nb0:=(s1.trans s2).free nB3
 have acQ:=s1.free nB
 have RY:∀{Hx:Hp},KO pP pW pB lP lB H Hx->aZ K Hx sA (ns.map V.int):=fun {Hx} k=>by
  rcases hS with r | r
  ·have ne:∀{o:HO},H sA=some o->sA≠pP/\sA≠pW/\sA≠pB/\sA≠lP/\sA≠lB:=fun {o} e=>⟨ao e np0,ao e nw0,ao e nb0,ao e nP,ao e acQ⟩
   rcases r with r | ⟨o,r⟩
   ·exact .inl (.inl (k.at (ne r) r))
   ·exact .inl (.inr ⟨o,k.at (ne r) r⟩)
  ·exact .inr r
 have WD:∀{Hx:Hp} {us vs:η} {pins:π} {bars:ς},WS K Hx C fA dx pP pW pB lP lB us vs pins bars->∀p∈pins,D' p.ws:=fun st p hp=>Mx (st.gp.ws p hp)
 have ri:∀{Hx:Hp} {us vs:η} {pins:π} {bars:ς} {t:Addr} {s m:Nat} {Q' :VK} {E' :XK},WS K Hx C fA dx pP pW pB lP lB us vs pins bars->bQ K Hx t (ZS pins bars s m)->Rz pins bars s m->(∀H',av Hx H' ->Q' (.bl true) H')->nM K [.ref t,.ref lP,.ref lB] Hx Q' E' :=fun {Hx us vs pins bars t s m Q' E'} st ht cn k=>⟨t,lP,lB,us,vs,pins,bars,s,m,rfl,ht,st.hp,st.pr,st.lp,st.g.lw,aZ.of st.hb,Paired.length st.pb,by have:=st.lb;omega,cn,k⟩
 have rd0:ER 0 pins bars:=by
  obtain ⟨f0,f1,f2,f3⟩:=RV
  refine ⟨fun j _ hj z=>?_,fun j _ hj z=>?_,fun p hp=>?_,by omega,by omega⟩
  ·obtain ⟨p,hp,e⟩:=aaj.mp z
   rcases (show j=0\/j=1 by omega) with y | y
   ·rw [y,f0] at e
    exact (pn p hp).1.1 e
   ·rw [y,f1] at e
    exact (pn p hp).1.2 e
  ·obtain ⟨p,hp,e⟩:=aaj.mp z
   rcases (show j=0\/j=1 by omega) with y | y
   ·rw [y,f2] at e
    exact (nwb p hp).1 e
   ·rw [y,f3] at e
    exact (nwb p hp).2 e
  ·have h1:=(pn p hp).2.1
   have h2:(500010:Rat) < ((1000002+((0:Nat):Int):Int):Rat):=by decide+kernel
   grind
 refine ⟨_,rfl,fA,pins,bars,rfl,GG.fa,GG.g,WD GG,fun t4 s4' m4 H4 s4 e4 cn4=>?_⟩
 have Sy:=GG.same s4
 have k04:KO pP pW pB lP lB H H4:=KO.of (tJ.trans s4)
 refine ⟨(2:Int),rfl,by decide,by decide,dP (lo:=0) (n:=2) (fun i σ H' =>∃(us vs:η) (pins:π) (bars:ς) (t:Addr) (s m:Nat) (o5:Β),σ=[some (.ref sA),some (.ref lP),some (.ref lB),some (.ref fA),some (.ref t),o5,none]/\KO pP pW pB lP lB H H' /\WS K H' C fA dx pP pW pB lP lB us vs pins bars/\ER i pins bars/\bQ K H' t (ZS pins bars s m)/\Rz pins bars s m) ⟨us,vs,pins,bars,t4,s4',m4,none,rfl,k04,Sy,rd0,bQ.of e4,cn4⟩ ?_ ?_⟩
 ·rintro i σ H5 hi ⟨us,vs,pins,bars,t,sn,mn,o5,rfl,k05,mF,rd,S4,cn⟩
  have ei:(0:Int)+(i:Int)=(i:Int):=abH _
  rw [ei]
  have T7:i < 2:=hi
  refine ⟨_,rfl,_,rfl,_,rfl,ri mF S4 cn fun H6 s6=>⟨_,rfl,?_⟩⟩
  refine bf (fun c=>nomatch c) (fun _=>?_)
  have st6:=mF.same s6
  have k06:=k05.trans (KO.of (pP:=pP) (pW:=pW) (pB:=pB) (lP:=lP) (lB:=lB) s6)
  refine ⟨_,rfl,_,rfl,_,rfl,_,rfl,_,rfl,_,_,rfl,rfl,sA,ns,_,rfl,RY k06,by omega,by omega,_,rfl,?_⟩
  try dsimp only [ed]
  refine ⟨fA,dx,pP,pW,pB,lP,lB,us,vs,pins,bars,_,i,rfl,st6,T7,rd,fun FL JQ v7 v8 H7 ko BL rd7=>?_⟩
  refine ⟨_,rfl,fA,v7,v8,rfl,BL.fa,BL.g,WD BL,fun t8 s8' m8 H8 s8 e8 cn8=>?_⟩
  exact ⟨FL,JQ,v7,v8,t8,s8',m8,_,rfl,(k06.trans ko).trans (KO.of s8),BL.same s8,rd7,bQ.of e8,cn8⟩
 rintro σ H5 ⟨us,vs,pins,bars,t,sn,mn,o5,rfl,k05,mF,rd,S4,cn⟩
 have lu:us.length=pins.length:=Paired.length mF.pp
 have lv:vs.length=bars.length:=Paired.length mF.pb
 have lpw:=mF.lp
 have lbw:=mF.lb
 dsimp only
 refine ⟨_,rfl,_,rfl,_,rfl,ri mF S4 cn fun H6 s6=>⟨_,rfl,?_⟩⟩
 refine bf (fun c=>nomatch c) (fun _=>?_)
 obtain ⟨c1,c2,n1,w1,l1,n2,l2,le⟩:=id cn
 have L2:2<=sizeLine:=by decide
 refine ⟨_,rfl,3,rfl,t,_,rfl,Ty.av.cG s6 S4,(by show ¬ (HT.dI 5 0 (some 3)=0/\HT.dI 5 5 none=5);decide),?_⟩
 rw [Wi]
 intro t7 n7;generalize eX:upd _ t7 _=H7;have ⟨s7,e7⟩:=nw n7 eX;clear eX
 have s57:=s6.trans s7
 have BL:=mF.same s57
 refine ⟨_,rfl,fA,pins,bars,rfl,BL.fa,BL.g,WD BL,fun d8 kv8 cs8 H8 s8 e8 nd8 rk8 w8 l8=>⟨d8,kv8,rfl,.inl e8,?_⟩⟩
 have st8:=BL.same s8
 refine ⟨_,rfl,fA,pins,bars,rfl,st8.fa,st8.g,fun d9 kv9 cs9 H9 s9 e9 nd9 rk9 l9=>⟨d9,kv9,rfl,.inl e9,L2,?_⟩⟩
 intro t10 n10;generalize eX:upd _ t10 _=TZ;have ⟨TY,e10⟩:=nw n10 eX;clear eX
 rw [nd8.eq n1] at l8
 rw [nd9.eq n2] at l9
 have q1:((kv8.length:Nat):Int)=(sn:Int):=by omega
 have q2:((kv9.length:Nat):Int)=(mn:Int):=by omega
 rw [q1,q2] at e10
 have tM:=s8.trans (s9.trans TY)
 refine OF [(sn:Int),(mn:Int)] (bQ.of (tM _ _ e7)) (bQ.of e10) ⟨_,rfl,?_⟩
 refine bf (fun c=>nomatch c) (fun _=>?_)
 have WE:=s57.trans tM
 have R7:=mF.same WE
 refine ⟨_,rfl,fA,pins,bars,rfl,R7.fa,R7.g,fun d11 WG asa H11 s11 e11 acR l11=>⟨d11,WG,rfl,.inl e11,?_⟩⟩
 have WH:=R7.same s11
 refine ⟨_,rfl,fA,pins,bars,rfl,WH.fa,WH.g,fun d12 WI asf H12 QR e12 acS l12=>⟨d12,WI,rfl,.inl e12,L2,?_⟩⟩
 intro l13 n13;generalize eX:upd _ l13 _=H13;have ⟨zB,e13⟩:=nw n13 eX;clear eX
 rw [acR.eq n1] at l11
 rw [acS.eq n2] at l12
 have cnt:=JA n1.1 w1
 have c2m:iD 2 ((us.length:Nat):Int):=⟨by decide+kernel,aam (intBits_le_64 (by omega) (by omega)) (by decide)⟩
 have R8:=WE.trans (s11.trans (QR.trans zB))
 have WJ:=mF.same R8
 have WK:=Ty.av.cG R8 S4
 refine ⟨_,rfl,_,rfl,lB,_,rfl,.inl (aZ.of WJ.hb),_,rfl,t,_,_,_,rfl,rfl,WK,rfl,_,_,rfl,rfl,_,rfl,lP,_,rfl,.inl (aZ.of WJ.hp),_,_,rfl,rfl,c2m,_,rfl,t,_,_,_,rfl,rfl,WK,rfl,_,_,rfl,rfl,L2,?_⟩
 intro l14 n14;generalize eX:upd _ l14 _=H14;have ⟨s14,e14⟩:=nw n14 eX;clear eX
 have q3:((WG.length:Nat):Int)=((vs.length:Nat):Int) - (sn:Int):=by omega
 have q4:((WI.length:Nat):Int)=2*((us.length:Nat):Int) - (mn:Int):=by omega
 rw [q3,q4] at e13
 refine Wg [((vs.length:Nat):Int) - (sn:Int),2*((us.length:Nat):Int) - (mn:Int)] (aZ.of (s14 _ _ e13)) (aZ.of e14) ⟨_,rfl,?_⟩
 refine bf (fun c=>nomatch c) (fun _=>?_)
 have WL:=R8.trans s14
 have WM:=mF.same WL
 refine ⟨_,rfl,_,rfl,1,rfl,lB,_,rfl,aZ.of WM.hb,?_⟩
 rw [OL]
 intro l15 n15;generalize eX:upd _ l15 _=Wu;have ⟨s15,e15⟩:=nw n15 eX;clear eX
 have ET:=WM.same s15
 have gd:iS pins (bars.drop 1):=⟨mF.gb.nb.sublist ((aiC _ _).map _),fun b hb=>mF.gb.ends b ((aiC _ _).subset hb)⟩
 have ld:(bars.drop 1).length<=60:=by
  rw [abG]
  omega
 try dsimp only [ed]
 refine ⟨lP,l15,us,vs.drop 1,pins,bars.drop 1,rfl,ET.hp,ET.pr,e15,tY ET.pb,mF.gp,gd,by omega,ld,fun f2 dx2 pP2 pW2 pB2 kP2 kW2 kB2 Wn Oj R16 W16 _ _ _ _=>?_⟩
 have g2:c7 pins (bars.drop 1):=OC mF.gp gd (by omega) ld
 refine ⟨f2,pins,bars.drop 1,rfl,⟨dx2,pP2,pW2,pB2,kP2,kW2,kB2,R16,W16⟩,g2,WD mF,fun t17 acT m17 Wq s17 S3 acU=>?_⟩
 have WN:=(ET.same Oj).same s17
 refine ⟨_,rfl,_,rfl,1,rfl,lB,_,rfl,aZ.of WN.hb,?_⟩
 rw [OL]
 intro l18 n18;generalize eX:upd _ l18 _=H18;have ⟨s18,e18⟩:=nw n18 eX;clear eX
 have R9:=WN.same s18
 try dsimp only [ed]
 refine ⟨t17,lP,l18,us,vs.drop 1,pins,bars.drop 1,acT,m17,rfl,bQ.of (s18 _ _ S3),R9.hp,R9.pr,by omega,mF.g.lw,aZ.of e18,by rw [abG,abG,lv],ld,acU,fun H19 s19=>⟨_,rfl,?_⟩⟩
 refine bf (fun c=>nomatch c) (fun _=>?_)
 have yy:=R9.same s19
 refine ⟨_,rfl,_,rfl,_,rfl,fA,lP,lB,us,vs,pins,bars,rfl,yy.fa,yy.hp,yy.pr,yy.hb,yy.pb,yy.g,fun H20 s20=>⟨_,rfl,?_⟩⟩
 refine bf (fun _=>?_) (fun c=>absurd rfl c)
 have R_:=yy.same s20
 refine ⟨_,rfl,fA,pins,bars,rfl,R_.fa,R_.g,WD R_,fun t21 asE m21 H21 s21 e21 acW=>?_⟩
 obtain ⟨es,em⟩:=cn.one acW
 rw [es,em] at e21
 have acX:=WL.trans (s15.trans (Oj.trans (s17.trans (s18.trans (s19.trans (s20.trans s21))))))
 exact ⟨_,rfl,Wf [(pins.length:Int),(aI pins:Int),(bars.length:Int),(sn:Int),(mn:Int)] (bQ.of e21) (Ty.av.cG acX S4) (q _)⟩
end
theorem all_mk {l:PySem.W.OpenLaw}{w:World}{K:Frag}{h:Heap}{mg:ι}{fa:Addr}(X:K.In h)(G:h.Ns mainGlobals mg)(hfa:mg "law"=some (.ref fa))
  (acY:HXx K "difference_of" xN) (ac2:HXx K "lowest_terms" vG) (ac6:HXx K "greatest_shared" CJ) (ac':HXx K "arm_between" CK) (adf:HXx K "pair_difference" xO) (yz:HXx K "pairs_of" eU) (adj:HXx K "pair_row" CL) (adn:HXx K "bar_row" CM) (ads:HXx K "draw_rows" CN) (adw:HXx K "pulls_and_pushes" CO) (adA:HXx K "motion_from" CP) (adE:HXx K "signs_turned" CQ) (mQ:HXx K "spare_columns" b_) (tZ:HXx K "spare_list" dk) (lE:HXx K "needed_columns" bV) (adI:HXx K "turned" CS) (adM:HXx K "whole_row" CT) (wg:HXx K "unit_line" dS) (adQ:HXx K "reduced" CU) (adU:HXx K "first_not_nought" CV) (adY:HXx K "cleared" CW) (ad2:HXx K "divided" CY) (wq:HXx K "spares_of" dW) (yD:HXx K "needs_of" eV) (ue:HXx K "motions_of" dm) (yH:HXx K "stays_of" eY) (wD:HXx K "counts_of" dX) (ad6:HXx K "_law_cell_at" CZ) (ad':HXx K "_law_field" C_) (aed:HXx K "_law_lowest" C') (aeh:HXx K "_law_sum" DA) (ael:HXx K "_law_name" xP) (aep:HXx K "_law_spot" DB) (aet:HXx K "_law_ways" DC) (aex:HXx K "_law_pins" DE) (aeB:HXx K "_law_bars" DF) (wJ:HXx K "_law_thick" dY) (aeF:HXx K "_law_frame" DG) (aeJ:HXx K "_law_right" DH) (qF:HXx K "_law_put_bar" cS) (qJ:HXx K "_law_put_pin" cT) (qN:HXx K "_law_pin_out" cU) (yL:HXx K "_law_deed" eZ) (wO:HXx K "_law_stays" dZ) (XT:nsIn K mainGlobals "law"=some (some (.ref Pj))) (XU:K.lookup Pj=some ⟨aeN,aeO,.func (fnOf "law" "law" (ay j3) (aw j3) (ag j3) .none Sa Sb Sd Se Ks Sf),aeP⟩) (XW:codeIn K Ks "law"=true) (XX:keepIn K (.ref Pj)=true) (aeQ:nsIn K mainGlobals "MOST_PINS"=some (some (.int 24 amv))) (aeR:nsIn K mainGlobals "MOST_BARS"=some (some (.int 60 amw))) (aeS:nsIn K mainGlobals "NOUGHT"=some (some (.ref Sg))) (aeT:K.lookup Sg=some ⟨.type "tuple",amx,.seq #[.int 0 aeU,.int 1 aeV] amy,amz⟩) (aeW:nsIn K mainGlobals "ONE"=some (some (.ref Sh))) (aeX:K.lookup Sh=some ⟨.type "tuple",amA,.seq #[.int 1 aeY,.int 1 aeZ] amB,amC⟩) (ae0:nsIn K mainGlobals "NO_MOVE"=some (some (.ref Si))) (ae1:K.lookup Si=some ⟨.type "tuple",amD,.seq #[.ref XY,.ref XZ] amE,amF⟩) (ae2:K.lookup XY=some ⟨.type "tuple",amG,.seq #[.int 0 ae3,.int 1 ae4] amH,amI⟩) (ae5:K.lookup XZ=some ⟨.type "tuple",amJ,.seq #[.int 0 ae6,.int 1 ae7] amK,amL⟩) (uq:nsIn K mainGlobals "ValueError"=some none) (X0:nsIn K mainGlobals "abs"=some none) (X1:nsIn K mainGlobals "any"=some none) (Sj:nsIn K mainGlobals "bool"=some none) (Sk:nsIn K mainGlobals "dict"=some none) (wW:nsIn K mainGlobals "enumerate"=some none) (X2:nsIn K mainGlobals "int"=some none) (ur:nsIn K mainGlobals "isinstance"=some none) (X3:nsIn K mainGlobals "len"=some none) (Sl:nsIn K mainGlobals "list"=some none) (X4:nsIn K mainGlobals "min"=some none) (Nq:nsIn K mainGlobals "range"=some none) (X5:nsIn K mainGlobals "str"=some none) (X6:nsIn K mainGlobals "sum"=some none) (Nr:nsIn K mainGlobals "tuple"=some none) (X7:nsIn K mainGlobals "zip"=some none) (ae8:nsIn K mainGlobals "YardError"=some (some (.ref ae9))) (ae':nsIn K mainGlobals "NoWay"=some (some (.ref afa))) (afb:nsIn K mainGlobals "PinThere"=some (some (.ref afc))) (afd:nsIn K mainGlobals "SpotTaken"=some (some (.ref afe))) (aff:nsIn K mainGlobals "NoPin"=some (some (.ref afg))) (FE:nsIn K mainGlobals "PinBusy"=some (some (.ref FF))) (afh:nsIn K mainGlobals "BarThere"=some (some (.ref afi))) (afj:nsIn K mainGlobals "NoBar"=some (some (.ref afk))) (afl:nsIn K mainGlobals "NoLength"=some (some (.ref afm))) (afn:nsIn K mainGlobals "TooMany"=some (some (.ref afo))) (afp:nsIn K mainGlobals "Frame"=some (some (.ref bK))) (afq:nsIn K mainGlobals "Hold"=some (some (.ref mU))) (afr:nsIn K mainGlobals "Roller"=some (some (.ref jh))) (afs:nsIn K mainGlobals "Fixed"=some (some (.ref lJ))) (X8:PySem.W.plainGet K bK Str.empty=true) (X9:PySem.W.hasDictIn K bK=true) (X_:PySem.W.plainOver K bK=true) (X':PySem.W.findIn K (.ref bK) "__setattr__"=some (some (.builtin "object.__setattr__"))) (Ya:PySem.W.makesIn K bK=true) (Yb:keepIn K (.ref bK)=true) (Yc:HXy K bK "__init__" "Frame.__init__" DI) (afv:PySem.W.findIn K (.ref bK) "put_pin"=some (some (.ref Nt))) (afw:PySem.W.isFn K (.ref Nt)=true) (afx:K.lookup Nt=some ⟨amU,amV,.func (fnOf "put_pin" "Frame.put_pin" (ay mI) (aw mI) (ag mI) (.ref Ku) Pk Pl Pm Pn Kv Po),amW⟩) (Yg:K.lookup Ku=some ⟨amX,afy,.seq #[.none] amY,afz⟩) (afA:codeIn K Kv "Frame.put_pin"=true) (Yh:keepIn K (.ref Nt)=true) (afB:HXy K bK "put_bar" "Frame.put_bar" DJ) (afF:HXy K bK "check_bar" "Frame.check_bar" DK) (afJ:HXy K bK "check_pin" "Frame.check_pin" DL) (afN:HXy K bK "take_bar" "Frame.take_bar" DM) (lK:HXy K bK "take_pin" "Frame.take_pin" bW) (afR:HXy K bK "pins" "Frame.pins" DN) (afV:HXy K bK "bars" "Frame.bars" DO) (afZ:HXy K bK "place" "Frame.place" DP) (af3:HXy K bK "ways" "Frame.ways" DQ) (af7:HXy K bK "ends" "Frame.ends" DR) (YA:PySem.W.plainGet K mU Str.empty=true) (YB:PySem.W.hasDictIn K mU=true) (YC:PySem.W.plainOver K mU=true) (YD:PySem.W.findIn K (.ref mU) "__setattr__"=some (some (.builtin "object.__setattr__"))) (YE:PySem.W.makesIn K mU=true) (YF:keepIn K (.ref mU)=true) (YG:PySem.W.findIn K (.ref mU) "__init__"=some (some (.builtin "object.__init__"))) (aga:HXy K mU "ways" "Hold.ways" LU) (YJ:PySem.W.plainGet K jh Str.empty=true) (YK:PySem.W.hasDictIn K jh=true) (YL:PySem.W.plainOver K jh=true) (YM:PySem.W.findIn K (.ref jh) "__setattr__"=some (some (.builtin "object.__setattr__"))) (YN:PySem.W.makesIn K jh=true) (YO:keepIn K (.ref jh)=true) (YQ:HXy K jh "__init__" "Roller.__init__" DS) (agg:HXy K jh "ways" "Roller.ways" DT) (YW:PySem.W.plainGet K lJ Str.empty=true) (YX:PySem.W.hasDictIn K lJ=true) (YY:PySem.W.plainOver K lJ=true) (YZ:PySem.W.findIn K (.ref lJ) "__setattr__"=some (some (.builtin "object.__setattr__"))) (Y0:PySem.W.makesIn K lJ=true) (Y1:keepIn K (.ref lJ)=true) (Y2:PySem.W.findIn K (.ref lJ) "__init__"=some (some (.builtin "object.__init__"))) (agk:HXy K lJ "ways" "Fixed.ways" DU) (Kx:PySem.W.findIn K (.ref bK) "pin_places"=some none) (Sn:PySem.W.findIn K (.ref bK) "pin_ways"=some none) (So:PySem.W.findIn K (.ref bK) "bar_ends"=some none) (Pp:PySem.W.findIn K (.ref jh) "way"=some none) (ht:l.prog.given.tree=none):
  ∃fd:FuncData,(∀(s:Shared) (v:Value),BindsTo s fd ⟨[v],[]⟩ [("_law_script",v)])/\∀base:Heap,K.In base->base.Ns mainGlobals mg->cJ l.prog w K mg base (a8 l.prog w) 42 fa fd ["_law_script"] (HF K):=by
 have e:=hfa.symm.trans (mg_of X G XT)
 cases e
 obtain ⟨Yc,Yd,aft,afu,Yf⟩:=Yc
 obtain ⟨afB,afC,afD,afE,Yj⟩:=afB
 obtain ⟨afF,afG,afH,afI,Yl⟩:=afF
 obtain ⟨afJ,afK,afL,afM,Yn⟩:=afJ
 obtain ⟨afN,afO,afP,afQ,Yp⟩:=afN
 obtain ⟨lK,lM,lO,lQ,gR⟩:=lK
 obtain ⟨afR,afS,afT,afU,Yr⟩:=afR
 obtain ⟨afV,afW,afX,afY,Yt⟩:=afV
 obtain ⟨afZ,af0,af1,af2,Yv⟩:=afZ
 obtain ⟨af3,af4,af5,af6,Yx⟩:=af3
 obtain ⟨af7,af8,af9,af',Yz⟩:=af7
 obtain ⟨aga,agb,agc,agd,YI⟩:=aga
 obtain ⟨YQ,YR,age,agf,YT⟩:=YQ
 obtain ⟨agg,agh,agi,agj,YV⟩:=agg
 obtain ⟨agk,agl,agm,agn,Y4⟩:=agk
 have ago:Def K mg _ _ ["one","other"]:=gs X G acY
 have agp:Def K mg _ _ ["top","bottom"]:=gs X G ac2
 have agq:Def K mg _ _ ["one","other"]:=gs X G ac6
 have agr:Def K mg _ _ ["F","one","other"]:=gs X G ac'
 have ags:Def K mg _ _ ["one","other"]:=gs X G adf
 have yP:Def K mg _ _ ["F"]:=gs X G yz
 have agt:Def K mg _ _ ["F","draws"]:=gs X G adj
 have agu:Def K mg _ _ ["F","one","other"]:=gs X G adn
 have agv:Def K mg _ _ ["F"]:=gs X G ads
 have agw:Def K mg _ _ ["F","numbers"]:=gs X G adw
 have agx:Def K mg _ _ ["F","numbers"]:=gs X G adA
 have agy:Def K mg _ _ ["numbers"]:=gs X G adE
 have mV:Def K mg _ _ ["rows","many"]:=gs X G mQ
 have uu:Def K mg _ _ ["needed","column","many"]:=gs X G tZ
 have lR:Def K mg _ _ ["rows","many"]:=gs X G lE
 have agz:Def K mg _ _ ["rows","many"]:=gs X G adI
 have agA:Def K mg _ _ ["row"]:=gs X G adM
 have wX:Def K mg _ _ ["at","many"]:=gs X G wg
 have agB:Def K mg _ _ ["lines","many"]:=gs X G adQ
 have agC:Def K mg _ _ ["lines","column"]:=gs X G adU
 have agD:Def K mg _ _ ["line","lead","column"]:=gs X G adY
 have agE:Def K mg _ _ ["line"]:=gs X G ad2
 have wY:Def K mg _ _ ["F"]:=gs X G wq
 have yQ:Def K mg _ _ ["F"]:=gs X G yD
 have uv:Def K mg _ _ ["F"]:=gs X G ue
 have yR:Def K mg _ _ ["F"]:=gs X G yH
 have wZ:Def K mg _ _ ["F"]:=gs X G wD
 have agF:Def K mg _ _ ["_law_script","_law_k"]:=gs X G ad6
 have agG:Def K mg _ _ ["_law_cell","_law_prime","_law_many"]:=gs X G ad'
 have agH:Def K mg _ _ ["_law_top","_law_bottom"]:=gs X G aed
 have agI:Def K mg _ _ ["_law_one","_law_other"]:=gs X G aeh
 have agJ:Def K mg _ _ ["_law_cell","_law_k"]:=gs X G ael
 have agK:Def K mg _ _ ["_law_cell","_law_kind"]:=gs X G aep
 have agL:Def K mg _ _ ["_law_cell"]:=gs X G aet
 have agM:Def K mg _ _ ["_law_script"]:=gs X G aex
 have agN:Def K mg _ _ ["_law_script","_law_pins_here"]:=gs X G aeB
 have w4:Def K mg _ _ ["_law_script","_law_pins_here","_law_bars_here"]:=gs X G wJ
 have agO:Def K mg _ _ ["_law_pins_here","_law_bars_here"]:=gs X G aeF
 have agP:Def K mg _ _ ["_law_told","_law_pins_here","_law_bars_here"]:=gs X G aeJ
 have qR:Def K mg _ _ ["_law_frame_here","_law_pins_here","_law_bars_here","_law_cell","_law_k"]:=gs X G qF
 have qS:Def K mg _ _ ["_law_frame_here","_law_pins_here","_law_cell","_law_k"]:=gs X G qJ
 have qT:Def K mg _ _ ["_law_frame_here","_law_pins_here","_law_bars_here","_law_cell"]:=gs X G qN
 have yS:Def K mg _ _ ["_law_frame_here","_law_pins_here","_law_bars_here","_law_cell","_law_k"]:=gs X G yL
 have w6:Def K mg _ _ ["_law_frame_here","_law_pins_here","_law_bars_here"]:=gs X G wO
 have fh:uM K bK:=⟨X8,X9,X_,X'⟩
 have RG:Mk K bK _:=⟨Ya,Yc,Yd,Yb⟩
 have Y5:=cW (st:=DI) aft afu Yf
 have RI:=Y5.xM (ps:=["self"])
 have asH:Meth K bK "__init__" _:=⟨Yc,Yd,Yf⟩
 have agQ:=LK (st:=mI) afx afA Yh
 have agR:Binds K (fnOf "put_pin" "Frame.put_pin" (ay mI) (aw mI) (ag mI) (.ref Ku) Pk Pl Pm Pn Kv Po) ["self","name","x","y","hold"] []:=fun s us X hl=>match us,hl with | [_,_,_,_,_],_=>BindsTo.of_defaults rfl (X _ _ Yg) rfl rfl rfl
 have Y6:Binds K (fnOf "put_pin" "Frame.put_pin" (ay mI) (aw mI) (ag mI) (.ref Ku) Pk Pl Pm Pn Kv Po) ["self","name","x","y","hold"] [.none]:=fun s us X hl=>match us,(show us.length=4 by simpa using hl) with | [_,_,_,_],_=>BindsTo.of_defaults rfl (X _ _ Yg) rfl rfl rfl
 have Y7:Meth K bK "put_pin" Nt:=⟨afv,afw,Yh⟩
 have Y8:=cW (st:=DJ) afD afE Yj
 have agS:=Y8.xM (ps:=["self","name","one","other"])
 have agT:Meth K bK "put_bar" _:=⟨afB,afC,Yj⟩
 have Y9:=cW (st:=DK) afH afI Yl
 have agU:=Y9.xM (ps:=["self","name","one","other"])
 have agV:Meth K bK "check_bar" _:=⟨afF,afG,Yl⟩
 have Y_:=cW (st:=DL) afL afM Yn
 have agW:=Y_.xM (ps:=["self","pin"])
 have agX:Meth K bK "check_pin" _:=⟨afJ,afK,Yn⟩
 have Y':=cW (st:=DM) afP afQ Yp
 have agY:=Y'.xM (ps:=["self","name"])
 have agZ:Meth K bK "take_bar" _:=⟨afN,afO,Yp⟩
 have gS:=cW (st:=bW) lO lQ gR
 have lS:=gS.xM (ps:=["self","name"])
 have lT:Meth K bK "take_pin" _:=⟨lK,lM,gR⟩
 have Za:=cW (st:=DN) afT afU Yr
 have ag0:=Za.xM (ps:=["self"])
 have ag1:Meth K bK "pins" _:=⟨afR,afS,Yr⟩
 have Zb:=cW (st:=DO) afX afY Yt
 have ag2:=Zb.xM (ps:=["self"])
 have ag3:Meth K bK "bars" _:=⟨afV,afW,Yt⟩
 have Zc:=cW (st:=DP) af1 af2 Yv
 have ag4:=Zc.xM (ps:=["self","pin"])
 have ag5:Meth K bK "place" _:=⟨afZ,af0,Yv⟩
 have Zd:=cW (st:=DQ) af5 af6 Yx
 have ag6:=Zd.xM (ps:=["self","pin"])
 have ag7:Meth K bK "ways" _:=⟨af3,af4,Yx⟩
 have Ze:=cW (st:=DR) af9 af' Yz
 have ag8:=Ze.xM (ps:=["self","bar"])
 have ag9:Meth K bK "ends" _:=⟨af7,af8,Yz⟩
 have cls_cm:uM K mU:=⟨YA,YB,YC,YD⟩
 have asI:SA K mU:=⟨YE,YG,YF⟩
 have ag':=cW (st:=LU) agc agd YI
 have asJ:=ag'.xM (ps:=["self"])
 have asK:Meth K mU "ways" _:=⟨aga,agb,YI⟩
 have yT:uM K jh:=⟨YJ,YK,YL,YM⟩
 have EM:Mk K jh _:=⟨YN,YQ,YR,YO⟩
 have Zf:=cW (st:=DS) age agf YT
 have EN:=Zf.xM (ps:=["self","x","y"])
 have asL:Meth K jh "__init__" _:=⟨YQ,YR,YT⟩
 have Zg:=cW (st:=DT) agi agj YV
 have aha:=Zg.xM (ps:=["self"])
 have ahb:Meth K jh "ways" _:=⟨agg,agh,YV⟩
 have Sq:uM K lJ:=⟨YW,YX,YY,YZ⟩
 have EL:SA K lJ:=⟨Y0,Y2,Y1⟩
 have Zh:=cW (st:=DU) agm agn Y4
 have ahc:=Zh.xM (ps:=["self"])
 have ahd:Meth K lJ "ways" _:=⟨agk,agl,Y4⟩
 have QY:=mg_of X G aeQ
 have Q0:=mg_of X G aeR
 have Q_:mg "NOUGHT"=some (.ref Sg):=mg_of X G aeS
 have Ra:mg "ONE"=some (.ref Sh):=mg_of X G aeW
 have Q3:mg "NO_MOVE"=some (.ref Si):=mg_of X G ae0
 have asM:mg "YardError"=some (.ref ae9):=mg_of X G ae8
 have asN:mg "NoWay"=some (.ref afa):=mg_of X G ae'
 have asO:mg "PinThere"=some (.ref afc):=mg_of X G afb
 have asP:mg "SpotTaken"=some (.ref afe):=mg_of X G afd
 have asQ:mg "NoPin"=some (.ref afg):=mg_of X G aff
 have S5:mg "PinBusy"=some (.ref FF):=mg_of X G FE
 have asR:mg "BarThere"=some (.ref afi):=mg_of X G afh
 have asS:mg "NoBar"=some (.ref afk):=mg_of X G afj
 have asT:mg "NoLength"=some (.ref afm):=mg_of X G afl
 have asU:mg "TooMany"=some (.ref afo):=mg_of X G afn
 have RH:mg "Frame"=some (.ref bK):=mg_of X G afp
 have asV:mg "Hold"=some (.ref mU):=mg_of X G afq
 have EJ:mg "Roller"=some (.ref jh):=mg_of X G afr
 have EK:mg "Fixed"=some (.ref lJ):=mg_of X G afs
 have NJ:mg "ValueError"=none:=mg_none_of X G uq
 have rM:mg "abs"=none:=mg_none_of X G X0
 have JT:mg "any"=none:=mg_none_of X G X1
 have yk:mg "bool"=none:=mg_none_of X G Sj
 have xZ:mg "dict"=none:=mg_none_of X G Sk
 have cq:mg "enumerate"=none:=mg_none_of X G wW
 have pF:mg "int"=none:=mg_none_of X G X2
 have eR:mg "isinstance"=none:=mg_none_of X G ur
 have aL:mg "len"=none:=mg_none_of X G X3
 have dN:mg "list"=none:=mg_none_of X G Sl
 have JM:mg "min"=none:=mg_none_of X G X4
 have bG:mg "range"=none:=mg_none_of X G Nq
 have fO:mg "str"=none:=mg_none_of X G X5
 have rW:mg "sum"=none:=mg_none_of X G X6
 have tV:mg "tuple"=none:=mg_none_of X G Nr
 have j4:mg "zip"=none:=mg_none_of X G X7
 have F:=cW (st:=j3) XU XW XX
 refine ⟨fnOf "law" "law" (ay j3) (aw j3) (ag j3) .none Sa Sb Sd Se Ks Sf,fun s v=>.of_eq rfl,fun base _ _=>?_⟩
 have hM:u4 (a8 l.prog w):=a8.qj
 have hN:∀H:Hp,bQ K H Sg [.int 0,.int 1]:=fun H=>.inr ⟨_,_,_,aeT,rfl,rfl,(by show 2<=sizeLine;decide),.cons ⟨_,rfl⟩ (.cons ⟨_,rfl⟩ .nil)⟩
 have hO:∀H:Hp,bQ K H Sh [.int 1,.int 1]:=fun H=>.inr ⟨_,_,_,aeX,rfl,rfl,(by show 2<=sizeLine;decide),.cons ⟨_,rfl⟩ (.cons ⟨_,rfl⟩ .nil)⟩
 have nm:∀{c:Addr} {o:Ι} {k0 k1:Tok} {n:Nat} {sl:Κ},K.lookup c=some ⟨.type "tuple",o,.seq #[.int 0 k0,.int 1 k1] n,sl⟩->∀H:Hp,nq K H (.ref c) 0:=fun t H=>⟨_,rfl,by rw [d0];exact .inr ⟨_,_,_,t,rfl,rfl,(by show 2<=sizeLine;decide),.cons ⟨_,rfl⟩ (.cons ⟨_,rfl⟩ .nil)⟩⟩
 have hMo:∀H:Hp,fY K H (.ref Si) (0,0):=fun H=>⟨_,.ref XY,.ref XZ,rfl,.inr ⟨_,_,_,ae1,rfl,rfl,(by show 2<=sizeLine;decide),.cons rfl (.cons rfl .nil)⟩,nm ae2 H,nm ae5 H⟩
 have fc:BY K bK:=⟨fh,Kx,Sn,So⟩
 have G1:=Uz (P:=l.prog) (w:=w) (base:=base) (CX:=a8 l.prog w) agq rM
 have G2:=UA ht agp G1
 have GW:=UC agA G1
 have GDv:=UD ht agE G1
 have GCl:=UE ht agD j4 G1 GDv
 have GF:=UH (P:=l.prog) (w:=w) (base:=base) agC cq
 have GR:=UJ agB bG dN GF GCl
 have GD:=QW (UQ hM ago G2)
 have GPD:=US hM ags GD
 have GI:=UW (P:=l.prog) (w:=w) (mg:=mg) (base:=base) Y5 fc
 have S6:bj l.prog w K mg base (a8 l.prog w) 1 bK "bars" ["self"] (hJ K bK):=⟨_,_,fh,ag3,UY Zb fc dN,ag2⟩
 have JX:bj l.prog w K mg base (a8 l.prog w) 1 bK "pins" ["self"] (fK K bK):=⟨_,_,fh,ag1,U0 Za fc dN,ag0⟩
 have Z3:bj l.prog w K mg base (a8 l.prog w) 1 bK "check_pin" ["self","pin"] (dO K bK):=⟨_,_,fh,agX,U2 Y_ fc,agW⟩
 have MCb:bj l.prog w K mg base (a8 l.prog w) 2 bK "check_bar" ["self","name","one","other"] (hW K bK):=⟨_,_,fh,agV,Vg Y9 fc Q0 aL Z3,agU⟩
 have SV:bj l.prog w K mg base (a8 l.prog w) 3 bK "put_bar" ["self","name","one","other"] (iG K bK):=⟨_,_,fh,agT,Vi Y8 fc MCb,agS⟩
 have okP:=Ve (P:=l.prog) (w:=w) (mg:=mg) (base:=base) agQ fc QY aL dN
 have OE:bj l.prog w K mg base (a8 l.prog w) 3 bK "put_pin" ["self","name","x","y","hold"] (cV l.prog w K mg base bK):=⟨_,_,fh,Y7,okP,agR⟩
 have SW:sR l.prog w K mg base (a8 l.prog w) 3 bK "put_pin" ["self","name","x","y","hold"] [.none] (cV l.prog w K mg base bK):=⟨_,_,fh,Y7,okP,Y6⟩
 have Z2:bj l.prog w K mg base (a8 l.prog w) 2 bK "place" ["self","pin"] (j8 K bK):=⟨_,_,fh,ag5,U4 Zc fc Z3,ag4⟩
 have ME:bj l.prog w K mg base (a8 l.prog w) 1 bK "ends" ["self","bar"] (oN K bK):=⟨_,_,fh,ag9,U6 Ze fc,ag8⟩
 have MW:bj l.prog w K mg base (a8 l.prog w) 2 bK "ways" ["self","pin"] (jD K bK):=⟨_,_,fh,ag7,U8 Zd fc dN Z3,ag6⟩
 have wR:bj l.prog w K mg base (a8 l.prog w) 1 jh "ways" ["self"] (hU K jh):=⟨_,_,yT,ahb,Va Zg yT Pp,aha⟩
 have wF:bj l.prog w K mg base (a8 l.prog w) 1 lJ "ways" ["self"] (hV K):=⟨_,_,Sq,ahd,Vc Zh,ahc⟩
 have GRI:=U_ (P:=l.prog) (w:=w) (mg:=mg) (base:=base) Zf yT Pp
 have GA:=Vm agr Z2 GPD
 have GPR:=Vn hMo Q3 agt JX
 have GBR:=Vp agu GA GPR
 have Z4:=Vr agv JX MW S6 ME GPR GBR
 have GMF:=Vw agx cq JX
 have GC:=VT (P:=l.prog) (w:=w) (base:=base) (CX:=a8 l.prog w) agF aL
 have K9:=VW (P:=l.prog) (w:=w) (base:=base) (CX:=a8 l.prog w) agG
 have GLo:=VX (w:=w) (base:=base) ht agH rM
 have GSu:=VZ (P:=l.prog) (w:=w) (base:=base) agI
 have GNa:=V0 hM agJ fO K9
 have GSp:=V1 agK K9 GLo
 have GWy:=V2 agL K9 GLo
 have GPi:=V5 agM bG JM GC K9 GSp GWy GNa GSu
 have GBa:=V8 agN bG aL GC K9 GNa
 have GFr:=Wa agO aL RG RH GI RI EJ EK EL EM GRI EN (wR.mono (by decide)) (wF.mono (by decide)) SV OE SW
 have MTk:bj l.prog w K mg base (a8 l.prog w) 2 bK "take_pin" ["self","name"] (h7 K bK):=⟨_,_,fh,lT,j9 gS fc Z3,lS⟩
 have GSL:=qv Q_ Ra uu G2
 have GSC:=k7 mV bG GW GR GSL
 have GPa:=vS yP JX
 have GPP:=Vu agw aL xZ j4 JX MW S6
 have GUn:=tF (P:=l.prog) (w:=w) (base:=base) wX
 have GNC:=kj lR aL j4 cq GW GUn GR G2
 have MTb:bj l.prog w K mg base (a8 l.prog w) 1 bK "take_bar" ["self","name"] (i8 K bK):=⟨_,_,fh,agZ,Vk Y' fc,agY⟩
 have GTd:=UO (P:=l.prog) (w:=w) (base:=base) agz bG
 have GSg:=VJ (P:=l.prog) (w:=w) (base:=base) agy
 have GSo:=tI wY aL JX S6 Z4 GTd GSC GPP
 have GMo:=qz uv aL GPa Z4 GSC GMF
 have GNe:=vV yQ aL JX S6 Z4 GTd GNC GMF GSg
 have GSt:=vW yR aL GPa Z4 GNC GPP
 have GCo:=tO wZ aL rW JX S6 MW GSo GMo
 have GTh:=tU w4 bG aL fO GC K9
 have GRi:=Wj (P:=l.prog) (w:=w) (base:=base) agP eR tV pF yk aL rW
 have GPt:=pG qS aL fO K9 GWy EJ EK EL EM GRI EN (wR.mono (by decide)) (wF.mono (by decide)) OE SW
 have GPb:=pH qR aL fO K9 SV
 have GPo:=pJ qT aL bG JT pF K9 MTk
 have GDe:=v9 yS aL K9 MTb GPb GPt GPo
 have GSy:=tX w6 JX S6 Z2 MW ME
 exact RW F aL bG GC GPi GBa GTh GFr GSo GMo GNe GSt GCo GRi GDe GSy
end T_k45
open PySem PySem.W PyProof.Rows
set_option maxRecDepth 100000 in
set_option maxHeartbeats 0 in
theorem PySem.Challenge.cw_trussyard_k45_whole_counts_holds : PySem.Challenge.rw_trussyard_k45_whole_counts.Holds := by
 w_on;o_law;k_head;(case hw=>w_witness2)
 k_fill
 refine Ty.walk (l:=PySem.Challenge.rw_trussyard_k45_whole_counts) (x:="_law_script") (k:=42) (CX:=fun w=>Ty.a8 (PySem.Challenge.rw_trussyard_k45_whole_counts).prog w) rfl rfl (by first | rfl | decide+kernel) ⟨rfl,by decide,by decide⟩ (fun w h Y=>PySem.W.kIn_of Y) (fun w=>Ty.a8.qj) ?F
 case F=>
  intro w mg fa h KX G TQ
  refine' T_k45.all_mk KX G TQ ⟨?A0,?A1,?A2,?A3⟩ ⟨?A4,?A5,?A6,?A7⟩ ⟨?A8,?A9,?Aa,?Ab⟩ ⟨?Ac,?Ad,?Ae,?Af⟩ ⟨?Ag,?Ah,?Ai,?Aj⟩ ⟨?Ak,?Al,?Am,?An⟩ ⟨?Ao,?Ap,?Aq,?Ar⟩ ⟨?As,?At,?Au,?Av⟩ ⟨?Aw,?Ax,?Ay,?Az⟩ ⟨?B0,?B1,?B2,?B3⟩ ⟨?B4,?B5,?B6,?B7⟩ ⟨?B8,?B9,?Ba,?Bb⟩ ⟨?Bc,?Bd,?Be,?Bf⟩ ⟨?Bg,?Bh,?Bi,?Bj⟩ ⟨?Bk,?Bl,?Bm,?Bn⟩ ⟨?Bo,?Bp,?Bq,?Br⟩ ⟨?Bs,?Bt,?Bu,?Bv⟩ ⟨?Bw,?Bx,?By,?Bz⟩ ⟨?C0,?C1,?C2,?C3⟩ ⟨?C4,?C5,?C6,?C7⟩ ⟨?C8,?C9,?Ca,?Cb⟩ ⟨?Cc,?Cd,?Ce,?Cf⟩ ⟨?Cg,?Ch,?Ci,?Cj⟩ ⟨?Ck,?Cl,?Cm,?Cn⟩ ⟨?Co,?Cp,?Cq,?Cr⟩ ⟨?Cs,?Ct,?Cu,?Cv⟩ ⟨?Cw,?Cx,?Cy,?Cz⟩ ⟨?D0,?D1,?D2,?D3⟩ ⟨?D4,?D5,?D6,?D7⟩ ⟨?D8,?D9,?Da,?Db⟩ ⟨?Dc,?Dd,?De,?Df⟩ ⟨?Dg,?Dh,?Di,?Dj⟩ ⟨?Dk,?Dl,?Dm,?Dn⟩ ⟨?Do,?Dp,?Dq,?Dr⟩ ⟨?Ds,?Dt,?Du,?Dv⟩ ⟨?Dw,?Dx,?Dy,?Dz⟩ ⟨?E0,?E1,?E2,?E3⟩ ⟨?E4,?E5,?E6,?E7⟩ ⟨?E8,?E9,?Ea,?Eb⟩ ⟨?Ec,?Ed,?Ee,?Ef⟩ ⟨?Eg,?Eh,?Ei,?Ej⟩ ⟨?Ek,?El,?Em,?En⟩ ⟨?Eo,?Ep,?Eq,?Er⟩ ⟨?Es,?Et,?Eu,?Ev⟩ ?Ew ?Ex ?Ey ?Ez ?F0 ?F1 ?F2 ?F3 ?F4 ?F5 ?F6 ?F7 ?F8 ?F9 ?Fa ?Fb ?Fc ?Fd ?Fe ?Ff ?Fg ?Fh ?Fi ?Fj ?Fk ?Fl ?Fm ?Fn ?Fo ?Fp ?Fq ?Fr ?Fs ?Ft ?Fu ?Fv ?Fw ?Fx ?Fy ?Fz ?G0 ?G1 ?G2 ?G3 ?G4 ?G5 ?G6 ?G7 ?G8 ?G9 ⟨?Ga,?Gb,?Gc,?Gd,?Ge⟩ ?Gf ?Gg ?Gh ?Gi ?Gj ?Gk ⟨?Gl,?Gm,?Gn,?Go,?Gp⟩ ⟨?Gq,?Gr,?Gs,?Gt,?Gu⟩ ⟨?Gv,?Gw,?Gx,?Gy,?Gz⟩ ⟨?H0,?H1,?H2,?H3,?H4⟩ ⟨?H5,?H6,?H7,?H8,?H9⟩ ⟨?Ha,?Hb,?Hc,?Hd,?He⟩ ⟨?Hf,?Hg,?Hh,?Hi,?Hj⟩ ⟨?Hk,?Hl,?Hm,?Hn,?Ho⟩ ⟨?Hp,?Hq,?Hr,?Hs,?Ht⟩ ⟨?Hu,?Hv,?Hw,?Hx,?Hy⟩ ?Hz ?I0 ?I1 ?I2 ?I3 ?I4 ?I5 ⟨?I6,?I7,?I8,?I9,?Ia⟩ ?Ib ?Ic ?Id ?Ie ?If ?Ig ⟨?Ih,?Ii,?Ij,?Ik,?Il⟩ ⟨?Im,?In,?Io,?Ip,?Iq⟩ ?Ir ?Is ?It ?Iu ?Iv ?Iw ?Ix ⟨?Iy,?Iz,?J0,?J1,?J2⟩ ?J3 ?J4 ?J5 ?J6 ?J7
  (case A0|A1|A2|A3|A4|A5|A6|A7|A8|A9|Aa|Ab|Ac|Ad|Ae|Af|Ag|Ah|Ai|Aj|Ak|Al|Am|An|Ao|Ap|Aq|Ar|As|At|Au|Av|Aw|Ax|Ay|Az|B0|B1|B2|B3|B4|B5|B6|B7|B8|B9|Ba|Bb|Bc|Bd|Be|Bf|Bg|Bh|Bi|Bj|Bk|Bl|Bm|Bn|Bo|Bp|Bq|Br|Bs|Bt|Bu|Bv|Bw|Bx|By|Bz|C0|C1|C2|C3|C4|C5|C6|C7|C8|C9|Ca|Cb|Cc|Cd|Ce|Cf|Cg|Ch|Ci|Cj|Ck|Cl|Cm|Cn|Co|Cp|Cq|Cr|Cs|Ct|Cu|Cv|Cw|Cx|Cy|Cz|D0|D1|D2|D3|D4|D5|D6|D7|D8|D9|Da|Db|Dc|Dd|De|Df|Dg|Dh|Di|Dj|Dk|Dl|Dm|Dn|Do|Dp|Dq|Dr|Ds|Dt|Du|Dv|Dw|Dx|Dy|Dz|E0|E1|E2|E3|E4|E5|E6|E7|E8|E9|Ea|Eb|Ec|Ed|Ee|Ef|Eg|Eh|Ei|Ej|Ek|El|Em|En|Eo|Ep|Eq|Er|Es|Et|Eu|Ev|Ew|Ex|Ey|Ez|F0|F1|F2|F3|F4|F5|F6|F7|F8|F9|Fa|Fb|Fc|Fd|Fe|Ff|Fg|Fh|Fi|Fj|Fk|Fl|Fm|Fn|Fo|Fp|Fq|Fr|Fs|Ft|Fu|Fv|Fw|Fx|Fy|Fz|G0|G1|G2|G3|G4|G5|G6|G7|G8|G9|Ga|Gb|Gc|Gd|Ge|Gf|Gg|Gh|Gi|Gj|Gk|Gl|Gm|Gn|Go|Gp|Gq|Gr|Gs|Gt|Gu|Gv|Gw|Gx|Gy|Gz|H0|H1|H2|H3|H4|H5|H6|H7|H8|H9|Ha|Hb|Hc|Hd|He|Hf|Hg|Hh|Hi|Hj|Hk|Hl|Hm|Hn|Ho|Hp|Hq|Hr|Hs|Ht|Hu|Hv|Hw|Hx|Hy|Hz|I0|I1|I2|I3|I4|I5|I6|I7|I8|I9|Ia|Ib|Ic|Id|Ie|If|Ig|Ih|Ii|Ij|Ik|Il|Im|In|Io|Ip|Iq|Ir|Is|It|Iu|Iv|Iw|Ix|Iy|Iz|J0|J1|J2|J3|J4|J5|J6=>k_is);(case J7=>rfl)
#print axioms PySem.Challenge.cw_trussyard_k45_whole_counts_holds
