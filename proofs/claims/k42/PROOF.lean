import PyProof.Rows.All
import Wide.All
import OpenK.AllK
import Wide.FinOn
import Lean
import PyProof.EqAt
import PyProof.EqKinds
import PyProof.TupleCall
import PyProof.ZipIter
import PyProof.SumWalkG
import PyProof.ListCopy
import PyProof.ListStr
import PyProof.DictItems
import PyProof.DictWalks
import PyProof.DictTruth
import PyProof.EnumMake
import PyProof.InstStoreFacts
import PyProof.Rows.SortWalk
import PyProof.ListRange
import PyProof.DictValues
import KE.KRevSl
import KE.KDictOf
import PyProof.DictIter
import PyProof.FactsAll.dict_1
import PyProof.AttrMissHeap
import KE.KEqDict
import KE.KDictList
import KE.KItemsList
import PySem.Challenge.RW_trussyard_k42_needed_bars
set_option Elab.async false
set_option linter.all false
set_option maxRecDepth 100000
theorem gE.{u}{α:Type u}{l:List α}{i:Nat}(h:i < l.length):l[i]? =some l[i]:=List.getElem?_eq_getElem h
namespace PySem.W.Fast
def tw6668711704356690533:=()
def tw8747858794142719741:=()
def tw923967397761524608:=()
def tw10851973553609874008:=()
def tw12419458181764185991:=()
def tw2883486350712267905:=()
def tw2387350167911727716:=()
def tw700963451310750567:=()
def tw9636897022505303084:=()
def tw14615196940745166691:=()
def tw15968551975919663358:=()
def tw16317456819795474350:=()
def tw16461850033583535603:=()
def tw8801567774340798006:=()
def tw6211381249376780348:=()
def tw4967912478985924095:=()
def tw15220272537658107005:=()
def tw18064316577109121854:=()
def tw12636421019951936622:=()
def tw10900551050384816764:=()
def tw1847238812591676775:=()
def tw5296548586394130592:=()
def tw3706287969476317360:=()
def tw12961729950437994173:=()
def tw1013433056586690454:=()
def tw14685557495409962760:=()
def tw7341819501760375551:=()
def tw17601006438810822102:=()
def tw12648090836389973802:=()
def tw1344186668218292976:=()
def tw16049780850688065847:=()
def tw17013959894423826353:=()
def tw1544390373986109356:=()
def tw6542765548575178474:=()
def tw7198194899655872964:=()
def tw12920337893388883960:=()
def tw15489590095241533072:=()
def tw6489905599861342285:=()
def tw7746415034932752644:=()
def tw6922574050242851434:=()
def tw12781064099375982214:=()
def tw17590561829679155134:=()
def tw6220918796029006567:=()
def tw16430700188237004150:=()
def tw4283589748666587054:=()
def tw15190108231263993873:=()
def tw5690705750128089179:=()
def tw7468756526511774106:=()
def tw10167914112067146158:=()
def tw15557885042684622931:=()
def tw9151288819394285518:=()
def tw18064693519006422089:=()
def tw8777537887169421320:=()
def tw11749730536550153438:=()
def tw5149062399104563169:=()
def tw6093210274537183107:=()
def tw10446522443818519343:=()
def tw5313679426274265299:=()
def tw5946754712169330165:=()
def tw14159070356232270527:=()
def tw16678386350094136239:=()
def tw10219447422486614601:=()
def tw14076113526823802943:=()
def tw7175372604468800018:=()
def tw924989188179676666:=()
def tw8589433584474891236:=()
def tw5442891111409425272:=()
def tw1904983129021826158:=()
def tw4036561109848057002:=()
def tw13253796773585970838:=()
def tw17849655978720242133:=()
def tw3517230419724926037:=()
def tw6375814553026415169:=()
def tw1605270105750294978:=()
def tw12823144349340768934:=()
def tw4639437047038385668:=()
def tw3259021475487220945:=()
def tw4196482046646993824:=()
def tw8424021516411552379:=()
def tw9076069082098992367:=()
def tw4971478450825783541:=()
def tw15615204482557940630:=()
def tw4740897134441548951:=()
def tw6403118241065716498:=()
def tw13829785651111080607:=()
def tw542603842725228361:=()
def tw7952563251972496409:=()
def tw17489927053860235456:=()
def tw6017773541586418819:=()
def tw17100975877242799302:=()
def tw6248644109205250771:=()
def tw17961850075625135621:=()
def tw911730640500903873:=()
def tw15069089806998395779:=()
def tw2181006337148093436:=()
def tw13166132013593036215:=()
def tw10380083133300620769:=()
def tw15838544903944621001:=()
def tw3575587521841960470:=()
def tw14875075080510490099:=()
def tw1739984395305508926:=()
def tw5066406184639475461:=()
def tw7627332725532070193:=()
def tw11014990665707555869:=()
def tw18096138761597283651:=()
def tw7854814124392156625:=()
def tw3311149335518227968:=()
def tw17203866692826443746:=()
def tw7208110273432633016:=()
def tw2418395649315541895:=()
def tw11253967898391804322:=()
def tw14066745008114515109:=()
def tw7381554903845333652:=()
def tw12633386890455545001:=()
def tw13545159032741485876:=()
def tw1373346389979701270:=()
def tw712366637698876498:=()
def tw18045862971818978654:=()
def tw7856403759740937498:=()
def tw10541240660832894791:=()
def tw7414300361191805554:=()
def tw12857247031647349504:=()
def tw7576954032519483980:=()
def tw5431108415222039827:=()
def tw3066332246750896487:=()
def tw12649036680972394187:=()
def tw6813804618452529784:=()
def tw18356952710858651129:=()
def tw5865899277127560637:=()
def tw17160176373358615954:=()
def tw17335373003082544249:=()
def tw6880696239174788134:=()
def tw11266281838362857856:=()
def tw17870011887464621875:=()
def tw11441330059383729249:=()
def tw2957883741890018486:=()
def tw13800658252886289661:=()
def tw9969064982561251752:=()
def tw4299434863725990062:=()
def tw14351004597212095321:=()
def tw9130831772741685887:=()
def tw5526969097484598506:=()
def tw8901408300352791088:=()
def tw700423771550380038:=()
def tw11507223597497685163:=()
def tw8042831769673207679:=()
def tw7342106528319430727:=()
def tw267027475041391236:=()
def tw6510050627590590772:=()
def tw8650912701227860680:=()
def tw11568266314639431377:=()
def tw9975718253568869485:=()
def tw8014182738732898352:=()
def tw3545865026737086520:=()
def tw1743025156334992288:=()
def tw8864794261982709656:=()
def tw13120317902060589597:=()
def tw3607531934959715594:=()
def tw1778398637173585030:=()
def tw1917511428149153601:=()
def tw9418963858608348770:=()
def tw752113140032222046:=()
def tw15062912655030201439:=()
def tw14991525360115890260:=()
def tw2838159526582554596:=()
def tw6067002640685527302:=()
def tw17565265387118271290:=()
def tw10771136193664436780:=()
def tw4005327333260615690:=()
def tw7888438223606408569:=()
def tw1574697588351830079:=()
def tw10352951330811235128:=()
def tw15212410649717214676:=()
def tw16860326191431703949:=()
def tw7247994726674032496:=()
def tw829392582580404227:=()
def tw11286974077835454615:=()
def tw4703985096477518539:=()
def tw4429635184423798666:=()
def tw11095139101285317987:=()
def tw1685301592593544510:=()
def tw2909423868934680817:=()
def tw17218025120917733978:=()
def tw17775557603348251922:=()
def tw11872826872397153089:=()
def tw9024275944576038444:=()
def tw13069538546444075567:=()
def tw2599632780773349524:=()
def tw13948375560318872364:=()
def tw9078956898135485335:=()
def tw2950332702669214130:=()
def tw8227212904321832340:=()
def tw13679204439486143202:=()
def tw8253645533018631107:=()
def tw6727699979469279908:=()
def tw16661892465145061104:=()
def tw13181187147332331844:=()
def tw4083324504548674686:=()
def tw10938872716799605113:=()
def tw2080852313770142429:=()
def tw16553309999663786643:=()
def tw17363039902968228832:=()
def tw4963492098125657342:=()
def tw3191229258197873246:=()
def tw13728124747006082134:=()
def tw49347381391797081:=()
def tw1536878381654875968:=()
def tw12840576712976965449:=()
def tw10395561067487295679:=()
def tw15476045515782159522:=()
def tw830276589265499625:=()
def tw5037468988281539197:=()
def tw3117738674741521716:=()
def tw1372934393825034341:=()
def tw1426580937351826897:=()
def tw11230780378395383590:=()
def tw264283797953937485:=()
def tw4393240320912378352:=()
def tw600943573609492927:=()
def tw5859683106570746455:=()
def tw10238555536581562131:=()
def tw15810308957022571117:=()
def tw14782418864761268452:=()
end PySem.W.Fast
open Array renaming length_toList->ahU, toList->ap9
open Bool renaming false_ne_true->aaz, and_eq_true->abg, eq_iff_iff->abj, false_eq_true->ahA, eq_false_iff->ahL, and_false->ah2, and_true->aia, or_false->aiu
open Classical renaming byContradiction->aa3, propDecidable->abv, not_imp->ah9, not_forall->aiq
open Int renaming gcd->aa', zero_add->abo, natAbs_mul->aby, ne_of_gt->abz, gcd_dvd_right->aci, mul_comm->acj, gcd_dvd_left->ae_, fmod_nonneg_of_pos->ag_, natAbs_dvd_natAbs->ahl, fdiv_eq_of_eq_mul_right->ahn, natAbs_add_le->aho, mul_pos->ahr, mul_zero->ahF, mul_assoc->ahQ, fmod_lt_of_pos->ah0, natAbs_neg->ah1, mul_neg_of_pos_of_neg->ah3, toNat_natCast->ah5, lt_trichotomy->ah6, mul_eq_zero->aik, gcd_zero_right->aiz, fmod_def->aiC, emod_eq_of_lt->aiJ, gcd_mul_left->aiP, gcd_pos_iff->an_, mul_ne_zero->ao_, dvd_coe_gcd->apK
open List renaming getElem?_eq_some_iff->be, mem_of_getElem?->ir, getElem?_map->Wp, length_map->aaa, mem_map->aab, map_cons->aac, getElem?_of_mem->aad, getElem?_eq_none->aae, mem_cons_of_mem->aag, getD_eq_getElem?_getD->aaj, mem_cons_self->aaq, length_append->aas, getElem?_append_left->aat, mem_singleton->aaw, map_map->aay, flatMap_cons->aaA, size_toArray->aaE, mem_append->aaF, replicate->aaH, getElem?_append_right->aaJ, map_append->aaK, mem_cons->aaN, nodup_cons->aaU, mem_append_right->aaV, length_take->aaW, length_cons->aaY, mem_append_left->aaZ, mem_filter->aa4, take_length->aa5, getElem?_set->aa7, ext_getElem?->aa8, map_congr_left->aa9, range->aa_, mem_range->abb, length_filter_le->abi, getElem?_zipWith->abk, length_drop->abp, getElem_mem->abu, mem_iff_getElem->abx, getElem?_eraseIdx->abB, flatMap_append->abF, filter_cons->abH, filter_append->abI, zipWith->abJ, length_eraseIdx->abO, getElem?_replicate->abP, filter_cons_of_pos->abR, filter_cons_of_neg->abS, length_eq_zero_iff->abT, length_eraseIdx_le->abU, replicate_succ->ab3, lookup->ab7, length->ab8, sum_cons->ab9, mem_flatMap->ab_, length_replicate->acb, take_append_drop->acd, append_nil->ace, map_nil->ach, mem_of_mem_eraseIdx->ad_, nil_append->ahj, find?_cons->ahk, append_assoc->ahm, length_range->ahp, getElem?_set_ne->ahq, nodup_iff_pairwise_ne->ahs, cons_append->aht, Sublist->ahu, filterMap_cons->ahv, length_zipWith->ahw, any_cons->ahx, range_succ->ahz, pairwise_cons->ahB, getElem?_set_self->ahD, flatten_cons->ahE, getElem?_inj->ahH, take_add_one->ahI, pairwise_map->ahJ, take_of_length_le->ahK, nodup_append->ahM, eraseIdx_sublist->ahN, lookup_cons->ahO, any_eq_true->ahP, mem_filterMap->ahZ, pairwise_iff_getElem->ah4, filter_congr->ah_, getElem?_take_of_lt->ah', zipWith_cons_cons->aif, getElem_cons_drop->aih, of_mem_zip->aii, length_nil->aij, length_singleton->ail, eq_nil_or_concat->aim, concat_eq_append->ain, forIn_nil->aio, mem_of_mem_drop->air, getElem?_range->ais, filter_eq_self->ait, all_cons->aiv, forIn_toArray->aiy, zip_cons_cons->aiA, getElem_take->aiH, getElem_inj->aiN, cons_ne_nil->aiQ, flatMap_nil->ai_, getElem_map->aj_, length_set->anX, forIn_cons->apG, foldl->apN, Nodup->apR
open Nat renaming le_trans->aaf, le_refl->aah, lt_of_le_of_lt->aar, lt_of_lt_of_le->aaD, pow_le_pow_right->aaP, ne_of_lt->aaQ, zero_le->aaX, lt_succ_self->abc, mul_le_mul->abl, lt_succ_iff_lt_or_eq->abm, not_lt_zero->abG, mul_le_mul_right->abK, lt_succ_of_lt->abQ, lt_irrefl->ab5, one_le_two_pow->aca, le_of_lt->acf, le_succ->af_, pow_add->ahC, pow_succ->ahG, min_eq_left->ahT, pow_le_pow_left->ahV, ne_of_gt->ahX, mul_comm->ahY, add_mul->ah8, le_of_not_lt->aib, add_sub_cancel_left->aic, le_of_eq->aid, add_comm->aie, one_mul->aip, min_self->aiD, lt_trans->aiE, le_succ_of_le->aiG, two_pow_pos->apI
open Ne renaming symm->aaO
open Option renaming map_eq_some_iff->aal, map_some->abZ, isSome_iff_exists->ac_, isSome_map->ah7, isSome_some->aiw, getD_none->aiO, none->aqi
open Option.some renaming inj->aaM
open Or renaming inl->aai, inr->aa2
open Prod renaming ext->ahS, fst->apP, snd->apQ
open Rat renaming intCast_mul->abn, intCast_le_intCast->ahi, intCast_inj->ahy, num_divInt_den->aix, sub_eq_add_neg->aiB, divInt_eq_div->aiF, div_def->al_, intCast_add->apH, intCast_sub->apJ
open Sum renaming inr->aa6, inl->ahW
open Sum.inl renaming inj->ahR
open Sum.inr renaming inj->aba
open PySem.W (Frag nsIn codeIn keepIn fnOf mg_of mg_none_of)
namespace L2
open PySem PySem.Spec PyProof.Rows
abbrev _root_.δ:=Value->Shared->Prop
abbrev _root_.ε:=List (List Int)
abbrev _root_.ζ:=List (Addr×Obj)
abbrev _root_.θ:=List (Nat×List Int)
abbrev _root_.ι:=Str->Option Value
abbrev _root_.ξ:=List Int
abbrev _root_.ο:=List Value
abbrev _root_.π:=List (Int×Int)
abbrev Key:=Sum Int Str
def qR:Key->Value->Bool
 | .inl k,v=>Value.isInt k v
 | .inr x,v=>Value.isStrOf x v
def Zu (w:World):Key->Int
 | .inl k=>hashInt k
 | .inr x=>hashStr w x
theorem bT:∀{k:Key} {v:Value},qR k v=true->(∃i t,k=ahW i/\v=Value.int i t)\/(∃x t,k=aa6 x/\v=Value.str x t)
 | .inl i,v,h=>by
  obtain ⟨t,e⟩:=Value.isInt_shape (k:=i) (v:=v) h
  exact .inl ⟨i,t,rfl,e⟩
 | .inr x,v,h=>by
  obtain ⟨t,e⟩:=Value.isStrOf_shape (x:=x) (v:=v) h
  exact .inr ⟨x,t,rfl,e⟩
theorem zN (i:Int)(t:Tok):qR (.inl i) (.int i t)=true:=by simp [qR,Value.isInt]
theorem zO (x:Str)(t:Tok):qR (.inr x) (.str x t)=true:=by simp [qR,Value.isStrOf]
theorem Ot (a b:Int):decide ((ahW a:Key)=ahW b)=(a==b):=by
 by_cases e:a=b
 ·subst e;simp
 ·have h:¬ (ahW a:Key)=ahW b:=fun q=>e (ahR q)
  rw [decide_eq_false h]
  exact (beq_eq_false_iff_ne.mpr e).symm
theorem Ou (a b:Str):decide ((aa6 a:Key)=aa6 b)=decide (a=b):=by
 by_cases e:a=b
 ·subst e;simp
 ·have h:¬ (aa6 a:Key)=aa6 b:=fun q=>e (aba q)
  rw [decide_eq_false h,decide_eq_false e]
theorem Ov (a:Int)(b:Str):decide ((ahW a:Key)=aa6 b)=false:=decide_eq_false (fun q=>nomatch q)
theorem Ow (a:Str)(b:Int):decide ((aa6 a:Key)=ahW b)=false:=decide_eq_false (fun q=>nomatch q)
def bj (prog:Program)(w:World):PySem.KeyKind prog w Key where
 is:=qR
 hash:=Zu w
 inj:=fun v a b ha hb=>by
  rcases bT ha with ⟨i,t,rfl,rfl⟩ | ⟨x,t,rfl,rfl⟩
  ·rcases bT hb with ⟨j,u,rfl,e⟩ | ⟨y,u,rfl,e⟩
   ·injection e with e1 _;rw [e1]
   ·exact nomatch e
  ·rcases bT hb with ⟨j,u,rfl,e⟩ | ⟨y,u,rfl,e⟩
   ·exact nomatch e
   ·injection e with e1 _;rw [e1]
 byValue:=fun k v h=>by
  rcases bT h with ⟨i,t,rfl,rfl⟩ | ⟨x,t,rfl,rfl⟩ <;> rfl
 pyHash:=fun hv h=>by
  rcases bT hv with ⟨i,t,rfl,rfl⟩ | ⟨x,t,rfl,rfl⟩
  ·exact wpAny_pyHash_int h
  ·exact wpAny_pyHash_str h
 eqBool:=fun hu hv h=>by
  rcases bT hu with ⟨i,t,rfl,rfl⟩ | ⟨x,t,rfl,rfl⟩
  ·rcases bT hv with ⟨j,u,rfl,rfl⟩ | ⟨y,u,rfl,rfl⟩
   ·rw [Ot] at h;exact wpAny_eqBool_int h
   ·rw [Ov] at h;exact SeqAt.EqAt.int_str i t y u _ _ _ _ h
  ·rcases bT hv with ⟨j,u,rfl,rfl⟩ | ⟨y,u,rfl,rfl⟩
   ·rw [Ow] at h;exact SeqAt.EqAt.str_int x t j u _ _ _ _ h
   ·rw [Ou] at h;exact wpAny_eqBool_str h
 «strs»:=fun k x t v h=>by
  rcases bT h with ⟨i,u,rfl,e⟩ | ⟨y,u,rfl,e⟩
  ·exact nomatch e
  ·injection e with e1 _
   subst e1
   cases v <;> rfl
theorem uH (prog:Program)(w:World)(i:Int)(t:Tok):(bj prog w).is (.inl i) (.int i t)=true:=zN i t
theorem uI (prog:Program)(w:World)(x:Str)(t:Tok):(bj prog w).is (.inr x) (.str x t)=true:=zO x t
end L2
namespace L2
open PySem PySem.Spec PyProof.Rows
inductive V where
 | cv | bl (b:Bool) | int (i:Int) | str (x:Str) | byt (b:Array UInt8) | Ox (b:UInt64) | ref (a:Addr) | ty (n:String)
 deriving DecidableEq
abbrev _root_.γ:=List (Key×V)
abbrev _root_.η:=List V
def RelV:V->Value->Prop
 | .cv,u=>u=Value.none
 | .bl b,u=>u=Value.bool b
 | .int i,u=>∃t,u=Value.int i t
 | .str x,u=>∃t,u=Value.str x t
 | .byt b,u=>∃t,u=Value.bytes b t
 | .Ox b,u=>∃t,u=Value.float b t
 | .ref a,u=>u=Value.ref a
 | .ty n,u=>u=Value.type n
abbrev Vals:List V->List Value->Prop:=Paired RelV
theorem Vals.length {xs:η}{us:ο}(r:Vals xs us):xs.length=us.length:=Paired.length r
theorem Vals.get:∀{xs:η} {us:ο} {i:Nat} {x:V},Vals xs us->xs[i]? =some x->∃u,us[i]? =some u/\RelV x u
 | _,_,_,_,.nil,e=>by simp at e
 | _,_,0,_,.cons r _,e=>by simp at e;subst e;exact ⟨_,rfl,r⟩
 | _,_,i+1,x,.cons _ t,e=>by
  obtain ⟨u,h1,h2⟩:=Vals.get (i:=i) (x:=x) t (by simpa using e)
  exact ⟨u,by simpa using h1,h2⟩
theorem Vals.set {x:V}{u:Value}(r:RelV x u):∀{xs:η} {us:ο} (i:Nat),Vals xs us->Vals (xs.set i x) (us.set i u)
 | _,_,_,.nil=>.nil
 | _,_,0,.cons _ t=>.cons r t
 | _,_,i+1,.cons q t=>.cons q (Vals.set r i t)
theorem Vals.append:∀{xs ys:η} {us ws:ο},Vals xs us->Vals ys ws->Vals (xs++ys) (us++ws)
 | _,_,_,_,.nil,s=>s
 | _,_,_,_,.cons r t,s=>.cons r (Vals.append t s)
theorem Vals.take:∀{xs:η} {us:ο} (n:Nat),Vals xs us->Vals (xs.take n) (us.take n)
 | _,_,0,_=>.nil
 | _,_,_+1,.nil=>.nil
 | _,_,n+1,.cons r t=>.cons r (Vals.take n t)
theorem Vals.drop:∀{xs:η} {us:ο} (n:Nat),Vals xs us->Vals (xs.drop n) (us.drop n)
 | _,_,0,r=>r
 | _,_,_+1,.nil=>.nil
 | _,_,n+1,.cons _ t=>Vals.drop n t
def gF:Option V->Option Value->Prop
 | some v,some u=>RelV v u
 | none,none=>True
 | _,_=>False
def KV {κ:Type}:List (κ×V)->List (κ×Value)->Prop:=Paired fun (p:κ×V) (q:κ×Value)=>p.1=q.1/\RelV p.2 q.2
def kV:Key->V
 | .inl i=>.int i
 | .inr x=>.str x
inductive HO where
 | lst (xs:η)
 | tup (xs:η)
 | dK (kvs:γ) | dT (kvs:List (List Key×V))
 | set (S:Int->Bool) (n:Nat)
 | ins (C dx:Addr) (fs:List (Str×V))
 | own (x:Addr)
 | xd (fs:List (Str×V))
 | met (f x:Addr)
 | Zv (lo hi:Int)
 | fk (o:Obj) (u:HO)
 | Oy (ps:Array Value)
 | ext (φ:Heap->Prop)
abbrev Hp:=Addr->Option HO
def upd (H:Hp)(a:Addr)(o:HO):Hp:=fun b=>if b=a then some o else H b
theorem ah {H:Hp}{a:Addr}{o:HO}:upd H a o a=some o:=by unfold upd;rw [if_pos rfl]
theorem ao {H:Hp}{a b:Addr}{o:HO}(h:b≠a):upd H a o b=H b:=by unfold upd;rw [if_neg h]
theorem RE {H:Hp}{a b:Addr}{o u:HO}(h:H a=some o)(h' :H b=some u)(d:o≠u):a≠b:=by
 intro e;subst e;rw [h] at h';exact d (aaM h')
theorem aq {H:Hp}{a b:Addr}{o:HO}(h:H a=some o)(h' :H b=none):a≠b:=by
 intro e;subst e;rw [h] at h';cases h'
section
variable (P:Program)(w:World)
def cw (H:Hp)(h:Heap)(a:Addr):HO->Prop
 | .lst xs=>xs.length<=sizeLine/\∃(its:ο) (n:Nat),Vals xs its/\h.get? a=some {cls:=.type "list",data:=.seq its.toArray n}
 | .tup xs=>xs.length<=sizeLine/\∃its:List Value,Vals xs its/\IsTup h a its.toArray
 | .dK kvs=>kvs.length<=sizeLine/\(a==sysModules)=false/\∃vs,KV kvs vs/\h.DictOf (bj P w) a vs
 | .dT kvs=>kvs.length<=sizeLine/\(a==sysModules)=false/\∃xs:List (List Key×Addr×Value),
   Paired (fun (p:List Key×V) (q:List Key×Addr×Value)=>p.1=q.1/\H q.2.1=some (.tup (p.1.map kV))/\RelV p.2 q.2.2) kvs xs/\
   ∃o es ep,h.get? a=some o/\o.ExactDict/\o.data=.dict es ep/\es.toList=xs.map (entryOfKey (tupleKind (bj P w)))/\(xs.map (·.1)).Nodup
 | .set S n=>h.SetOf (intKind P w) a S n
 | .ins C dx fs=>H dx=some (.own a)/\fs.length<=1000/\dx≠a/\h.get? a=some (PySem.W.instObj C dx)/\
   ∃mA,h.Ns1 dx mA/\(∀f,gF (fs.lookup f) (mA f))/\PySem.Within mA (fs.map (·.1))
 | .own _=>∃o,h.get? a=some o
 | .xd fs=>∃mA,h.Ns1 a mA/\∀f,gF (fs.lookup f) (mA f)
 | .Zv lo hi=>∃t u v,h.get? a=some {cls:=.type "range",data:=.fields #[.int lo t,.int hi u,.int 1 v]}
 | .fk o u=>h.get? a=some o/\cw H h a u
 | .Oy ps=>h.get? a=some {cls:=.none,data:=.fields ps}
 | .met f x=>h.get? a=some (PySem.W.methodObj (.ref f) (.ref x))
 | .ext φ=>φ h/\(∃o,h.get? a=some o)/\∀h1 h2:Heap,φ h1->(∀o,h1.get? a=some o->h2.get? a=some o)->φ h2
def iY (H:Hp)(h:Heap):Prop:=∀a o,H a=some o->cw P w H h a o
end
section
variable {P:Program}{w:World}{H H' :Hp}{h h' :Heap}{a:Addr}{o:HO}
theorem cw.lt (x:cw P w H h a o):a < h.objs.size:=by
 cases o with
 | lst xs=>obtain ⟨_,_,_,_,e⟩:=x;exact Heap.lt_size e
 | tup xs=>obtain ⟨_,_,_,p⟩:=x;exact p.lt
 | dK kvs=>obtain ⟨_,_,_,_,o,_,_,e,_⟩:=x;exact Heap.lt_size e
 | dT kvs=>obtain ⟨_,_,_,_,o,_,_,e,_⟩:=x;exact Heap.lt_size e
 | set S n=>obtain ⟨o,_,_,_,e,_⟩:=x;exact Heap.lt_size e
 | ins C dx fs=>obtain ⟨_,_,_,e,_⟩:=x;exact Heap.lt_size e
 | own y=>obtain ⟨_,e⟩:=x;exact Heap.lt_size e
 | xd fs=>obtain ⟨_,⟨_,_,_,e,_⟩,_⟩:=x;exact Heap.lt_size e
 | Zv lo hi=>obtain ⟨_,_,_,e⟩:=x;exact Heap.lt_size e
 | fk ob u=>obtain ⟨e,_⟩:=x;exact Heap.lt_size e
 | Oy ps=>exact Heap.lt_size (show h.get? a=some _ from x)
 | met f y=>exact Heap.lt_size (show h.get? a=some _ from x)
 | ext φ=>obtain ⟨_,⟨_,e⟩,_⟩:=x;exact Heap.lt_size e
theorem Paired.bM {α β:Type}{F G:α->β->Prop}:∀{l₁:List α} {l₂:List β},Paired F l₁ l₂->(∀a b,F a b->G a b)->Paired G l₁ l₂
 | _,_,.nil,_=>.nil
 | _,_,.cons r t,f=>.cons (f _ _ r) (Paired.bM t f)
theorem cw.rP (x:cw P w H h a o)(k:∀b u,(b=a\/H b=some (.own a))->h.get? b=some u->h'.get? b=some u)
  (ho:∀b,H b=some (.own a)->H' b=some (.own a)) (ht:∀b xs,H b=some (.tup xs)->H' b=some (.tup xs)):cw P w H' h' a o:=by
 induction o with
 | lst xs=>obtain ⟨z,its,n,r,e⟩:=x;exact ⟨z,its,n,r,k _ _ (.inl rfl) e⟩
 | tup xs=>obtain ⟨z,its,r,ob,e,c⟩:=x;exact ⟨z,its,r,ob,k _ _ (.inl rfl) e,c⟩
 | dK kvs=>obtain ⟨z,y,vs,r,ob,es,ep,e,c⟩:=x;exact ⟨z,y,vs,r,ob,es,ep,k _ _ (.inl rfl) e,c⟩
 | dT kvs=>
  obtain ⟨z,y,xs,r,ob,es,ep,e,c⟩:=x
  exact ⟨z,y,xs,Paired.bM r fun p q z=>⟨z.1,ht _ _ z.2.1,z.2.2⟩,ob,es,ep,k _ _ (.inl rfl) e,c⟩
 | set S n=>obtain ⟨ob,es,ep,t,e,c⟩:=x;exact ⟨ob,es,ep,t,k _ _ (.inl rfl) e,c⟩
 | ins C dx fs=>
  obtain ⟨d,z,ne,e,mA,⟨od,es,ep,e2,c⟩,r⟩:=x
  exact ⟨ho _ d,z,ne,k _ _ (.inl rfl) e,mA,⟨od,es,ep,k _ _ (.inr d) e2,c⟩,r⟩
 | own y=>obtain ⟨ob,e⟩:=x;exact ⟨ob,k _ _ (.inl rfl) e⟩
 | xd fs=>obtain ⟨mA,⟨od,es,ep,e,c⟩,r⟩:=x;exact ⟨mA,⟨od,es,ep,k _ _ (.inl rfl) e,c⟩,r⟩
 | Zv lo hi=>obtain ⟨t,u,v,e⟩:=x;exact ⟨t,u,v,k _ _ (.inl rfl) e⟩
 | fk ob u ih=>obtain ⟨e,q⟩:=x;exact ⟨k _ _ (.inl rfl) e,ih q⟩
 | Oy ps=>
  have e:h.get? a=some {cls:=.none,data:=.fields ps}:=x
  show h'.get? a=some {cls:=.none,data:=.fields ps}
  exact k a _ (.inl rfl) e
 | met f y=>
  have e:h.get? a=some (PySem.W.methodObj (.ref f) (.ref y)):=x
  show h'.get? a=some (PySem.W.methodObj (.ref f) (.ref y))
  exact k a _ (.inl rfl) e
 | ext φ=>obtain ⟨p,⟨o,e⟩,st⟩:=x;exact ⟨st _ _ p fun o q=>k _ _ (.inl rfl) q,⟨o,k _ _ (.inl rfl) e⟩,st⟩
theorem iY.lt (x:iY P w H h)(e:H a=some o):a < h.objs.size:=(x a o e).lt
theorem iY.fresh (x:iY P w H h)(e:h.objs.size<=a):H a=none:=by
 cases q:H a with
 | none=>rfl
 | some u=>exact absurd (aaD (x.lt q) e) (ab5 _)
theorem iY.kept (x:iY P w H h)(k:∀b u,h.get? b=some u->h'.get? b=some u):iY P w H h' :=fun a o e=>
 (x a o e).rP (fun b u _ q=>k b u q) (fun _ q=>q) fun _ _ q=>q
theorem iY.laid (x:iY P w H h)(k:∀b u,h.get? b=some u->h'.get? b=some u)(hp:h.objs.size<=a)(new:cw P w (upd H a o) h' a o):iY P w (upd H a o) h' :=fun b u e=>by
 have hn:=x.fresh hp
 by_cases hb:b=a
 ·subst hb;rw [ah] at e;cases e;exact new
 ·rw [ao hb] at e
  exact (x b u e).rP (fun c v _ q=>k c v q) (fun c q=>by rw [ao (aq q hn)];exact q) fun c xs q=>by rw [ao (aq q hn)];exact q
end
def Rd (H:Hp)(a:Addr)(u:HO):Prop:=H a=some u\/∃o,H a=some (.fk o u)
theorem Rd.of {H:Hp}{a:Addr}{u:HO}(h:H a=some u):Rd H a u:=.inl h
theorem Rd.ok {P:Program}{w:World}{H:Hp}{h:Heap}{a:Addr}{u:HO}(r:Rd H a u)(x:iY P w H h):cw P w H h a u:=by
 rcases r with r | ⟨o,r⟩
 ·exact x a u r
 ·obtain ⟨_,q⟩:=x a _ r
  exact q
def RF:Option HO->Prop
 | some (.lst _)=>True
 | some (.dK _)=>True
 | some (.dT _)=>True
 | some (.set _ _)=>True
 | some (.ins _ _ _)=>True
 | some (.ext _)=>True
 | _=>False
section
variable {P:Program}{w:World}{H:Hp}{h h' :Heap}{x e:Addr}{o' :HO}
theorem iY.write (ok:iY P w H h)(mu:RF (H x))(he:e=x\/H e=some (.own x))(k:∀b u,b≠e->h.get? b=some u->h'.get? b=some u)(Q4:∃u,h'.get? e=some u)
  (new:cw P w (upd H x o') h' x o'):iY P w (upd H x o') h' :=fun b u q=>by
 have RG:∀c y,H c=some (.own y)->c≠x:=fun c y r z=>by subst z;rw [r] at mu;exact mu
 have Zw:∀c xs,H c=some (.tup xs)->c≠x:=fun c xs r z=>by subst z;rw [r] at mu;exact mu
 by_cases hb:b=x
 ·subst hb;rw [ah] at q;cases q;exact new
 ·rw [ao hb] at q
  by_cases Oz:b=e
  ·have q' :H b=some (.own x):=by
    rcases he with z | z
    ·exact absurd (Oz.trans z) hb
    ·rw [Oz];exact z
   rw [q] at q';cases q'
   obtain ⟨v,hv⟩:=Q4
   exact ⟨v,by rw [Oz];exact hv⟩
  ·refine (ok b u q).rP (fun c v hc r=>k c v ?_ r) (fun c r=>by rw [ao (RG c b r)];exact r) fun c xs r=>by rw [ao (Zw c xs r)];exact r
   rcases hc with rfl | hc
   ·exact Oz
   ·rintro rfl
    rcases he with z | z
    ·exact RG c b hc z
    ·rw [hc] at z;cases z;exact hb rfl
end
structure Un (fs ex:List Addr)(H H' :Hp)(h h' :Heap):Prop where
 keep:∀b o,h.get? b=some o->H b=none->b∉fs->b∉ex->h'.get? b=some o
 slot:∀b o,h.get? b=some o->H b=none->b∈fs->b∉ex->∃sl,h'.get? b=some {o with slots:=sl}
 free:∀b o,h.get? b=some o->H b=none->b∉ex->H' b=none
 there:∀b o,h.get? b=some o->b∉ex->∃o',h'.get? b=some o'
 rQ:∀b xs,H b=some (.tup xs)->H' b=some (.tup xs)
 qf:∀b o u,H b=some (.fk o u)->H' b=some (.fk o u)
 rR:∀b ps,H b=some (.Oy ps)->∃more,H' b=some (.Oy (ps++more))
section
variable {fs fs' ex Zx :List Addr}{H H1 H2:Hp}{h h1 h2 h' :Heap}{a x e:Addr}{o:HO}
theorem Un.any (u:Un fs ex H H1 h h1){b:Addr}{ob:Obj}(q:h.get? b=some ob)(n:H b=none)(hx:b∉ex):∃sl,h1.get? b=some {ob with slots:=sl}:=by
 by_cases hb:b∈fs
 ·exact u.slot b ob q n hb hx
 ·exact ⟨ob.slots,u.keep b ob q n hb hx⟩
theorem Un.kept (k:∀b u,h.get? b=some u->h'.get? b=some u):Un fs ex H H h h' :=
 ⟨fun b ob q _ _ _=>k b ob q,fun b ob q _ _ _=>⟨ob.slots,k b ob q⟩,fun _ _ _ n _=>n,fun b ob q _=>⟨ob,k b ob q⟩,fun _ _ q=>q,fun _ _ _ q=>q,fun _ ps q=>⟨#[],by rw [q];simp⟩⟩
theorem Un.refl:Un fs ex H H h h:=Un.kept fun _ _ q=>q
theorem Un.laid (k:∀b u,h.get? b=some u->h'.get? b=some u)(hp:h.objs.size<=a)(hn:H a=none):Un fs ex H (upd H a o) h h' where
 keep:=fun b u q _ _ _=>k b u q
 slot:=fun b u q _ _ _=>⟨u.slots,k b u q⟩
 free:=fun b u q n _=>by rw [ao (aaQ (aaD (Heap.lt_size q) hp))];exact n
 there:=fun b u q _=>⟨u,k b u q⟩
 rQ:=fun b xs q=>by rw [ao (aq q hn)];exact q
 qf:=fun b u xs q=>by rw [ao (aq q hn)];exact q
 rR:=fun b ps q=>⟨#[],by rw [ao (aq q hn),q];simp⟩
theorem Un.write (mu:RF (H x))(he:e=x\/H e=some (.own x))(k:∀b u,b≠e->h.get? b=some u->h'.get? b=some u)(Q4:∃u,h'.get? e=some u):Un fs ex H (upd H x o) h h' :=by
 have hx:∀b,H b=none->b≠x:=fun b n z=>by subst z;rw [n] at mu;exact mu
 have hb:∀b,H b=none->b≠e:=fun b n z=>by
  subst z
  rcases he with r | r
  ·exact hx b n r
  ·rw [n] at r;cases r
 have hm:∀b u,H b=some u->¬ RF (some u)->b≠x:=fun b u q nm z=>by subst z;rw [q] at mu;exact nm mu
 refine ⟨fun b u q n _ _=>k b u (hb b n) q,fun b u q n _ _=>⟨u.slots,k b u (hb b n) q⟩,fun b u q n _=>by rw [ao (hx b n)];exact n,fun b u q _=> ?_,
  fun b xs q=>by rw [ao (hm b _ q fun z=>z)];exact q,fun b u xs q=>by rw [ao (hm b _ q fun z=>z)];exact q,fun b ps q=>⟨#[],by rw [ao (hm b _ q fun z=>z),q];simp⟩⟩
 by_cases Oz:b=e
 ·subst Oz;exact Q4
 ·exact ⟨u,k b u Oz q⟩
end
def YF (h:Heap)(H:Hp):List Addr:=(aa_ h.objs.size).filter fun a=>(H a).isSome
def rS (h:Heap)(H:Hp):Heap:=PySem.W.hideAll h (YF h H)
theorem zP (h:Heap)(H:Hp):(rS h H).objs.size=h.objs.size:=PySem.W.hideAll_size _ _
theorem EK {h:Heap}{H:Hp}{b:Addr}{o:Obj}(e:h.get? b=some o)(n:H b=none):(rS h H).get? b=some o:=
 PySem.W.hideAll_get _ e fun hm=>by
  have q:(H b).isSome=true:=(aa4.mp hm).2
  rw [n] at q;simp at q
theorem KR {h:Heap}{H:Hp}{b:Addr}{o:Obj}(e:(rS h H).get? b=some o):h.get? b=some o/\H b=none:=by
 have e' :h.get? b=some o:=PySem.W.of_hideAll (YF h H) e
 refine ⟨e',?_⟩
 cases q:H b with
 | none=>rfl
 | some x=>
  have hm:b∈YF h H:=aa4.mpr ⟨abb.mpr (Heap.lt_size e'),by simp [q]⟩
  have z:(rS h H).get? b=none:=PySem.W.hideAll_none (YF h H) hm
  rw [z] at e;cases e
def KS (g h:Heap)(L:Addr):List (Addr×Obj):=(aa_ h.objs.size).filterMap fun a=>if a=L\/(g.get? a).isSome=true then none else (h.get? a).map fun o=>(a,o)
def rest (g h:Heap)(L d:Addr):List (Addr×Obj):=(KS g h L).filter fun p=>decide (p.1≠d)
end L2
namespace L2
open PySem PySem.Spec PyProof.Rows
structure Mod (K:Frag)(mg:ι)(base:Heap):Prop where
 Q6:K.In base
 glob:base.Ns mainGlobals mg
 blt:∃mb,base.Ns builtinsNs mb/\∀x:Str,x≠ "__name__"->mb x=bootBuiltins x
 nolimit:base.NoLimit
 seer:base.NoSeer
structure Cx where
 prog:Program
 w:World
 K:Frag
 mg:Str->Option Value
 base:Heap
 A:Around
 N:List Str
 s₀:Shared
 H₀:Hp
 env:Env
 outer:List Env
 stack:List Env
 ex:List Addr
 fn:Str->Bool
 calm:Bool
 pn:List (Addr×Obj)
 xe:Value->Shared->Prop
def wI (l:List Env):List Addr:=l.filterMap (·.frame)
abbrev Cx.fs (X:Cx):List Addr:=wI X.outer
def Zy (sc:Scope)(x:Str):Prop:=sc.names.lookup x=some .local\/sc.names.lookup x=some .cell\/sc.names.lookup x=some .free
def Loc (sc:Scope)(x:Str):Prop:=sc.names.lookup x=some .local\/sc.names.lookup x=some .cell
def Look (env:Env)(h:Heap)(m:ι)(x:Str)(u:Value):Prop:=
 (env.kindOf x=some .local/\m x=some u)\/((env.kindOf x=some .cell\/env.kindOf x=some .free)/\∃c,env.cells.lookup x=some c/\h.IsCell c (some u))
structure Cx.Ok (X:Cx):Prop where
 mod:Mod X.K X.mg X.base
 kind:X.env.scope.kind=.function
 glob:X.env.globals=mainGlobals
 blt:X.env.builtins=builtinsNs
 above:X.s₀.heap.objs.size<=X.env.locals
 inj:∀x y c,X.env.cells.lookup x=some c->X.env.cells.lookup y=some c->x=y
 has:∀x,(X.env.kindOf x=some .cell\/X.env.kindOf x=some .free)->∃c,X.env.cells.lookup x=some c
 RH:∀x c,X.fn x=true->X.env.cells.lookup x=some c->X.s₀.heap.objs.size<=c
 hd:X.calm=true->X.A.handled=none
 frames:X.A.frames=some X.stack
 YG:X.stack=X.outer\/(X.stack=X.env::X.outer/\X.env.frame=some X.env.locals)
 exf:∀b∈X.ex,b≠X.env.locals/\∀x c,X.env.cells.lookup x=some c->c≠b
 bs:∀b o,X.base.get? b=some o->X.s₀.heap.get? b=some o/\X.H₀ b=none
 EL:X.base.objs.size<=X.s₀.heap.objs.size
 zQ:∀b o,X.base.get? b=some o->b∉X.ex
 KU:∀b∈X.ex,b∉X.fs
 l7:X.s₀.heap.FunFrames X.base X.outer
 OA:∀b∈X.fs,X.H₀ b=none
structure Inv (X:Cx)(pins:ζ)(σ:List (Option V))(H:Hp)(s:Shared):Prop where
 ok:X.Ok
 os:s.os=X.s₀.os
 bare:AllBare s.gens
 base:Un X.fs X.ex X.H₀ H X.s₀.heap s.heap
 loc:∃m,s.heap.Ns X.env.locals m/\∀(i:Nat) (x:Str) (v:V),X.N[i]? =some x->σ[i]? =some (some v)->Zy X.env.scope x->∃u,RelV v u/\Look X.env s.heap m x u
 cell:∀x c,X.env.cells.lookup x=some c->∃v,s.heap.IsCell c v
 free:H X.env.locals=none
 g8:∀x c,X.env.cells.lookup x=some c->H c=none
 pin:∀p∈X.pn++pins,s.heap.get? p.1=some p.2/\H p.1=none/\p.1≠X.env.locals/\p.1∉X.fs/\∀v,p.2.data≠.cell v
 bH:iY X.prog X.w H s.heap
 len:σ.length=X.N.length
section
variable {X:Cx}{pins:ζ}{σ:List (Option V)}{H H' :Hp}{s:Shared}{h' :Heap}
theorem Cx.Ok.Zz (ok:X.Ok){b:Addr}{o:Obj}(e:X.base.get? b=some o):b∉X.fs:=fun hb=>by
 have:=(ok.l7.mem hb).1
 rw [e] at this;cases this
theorem Inv.bs (I:Inv X pins σ H s):∀b o,X.base.get? b=some o->s.heap.get? b=some o/\H b=none:=fun b o e=>
 ⟨I.base.keep b o (I.ok.bs b o e).1 (I.ok.bs b o e).2 (I.ok.Zz e) (I.ok.zQ b o e),I.base.free b o (I.ok.bs b o e).1 (I.ok.bs b o e).2 (I.ok.zQ b o e)⟩
theorem Inv.bk (I:Inv X pins σ H s):∀b o,X.base.get? b=some o->s.heap.get? b=some o:=fun b o e=>(I.bs b o e).1
theorem Inv.mod (I:Inv X pins σ H s):Mod X.K X.mg X.base:=I.ok.mod
theorem Inv.ja (I:Inv X pins σ H s):X.K.In s.heap:=I.ok.mod.Q6.keeps I.bk
theorem Inv.nolimit (I:Inv X pins σ H s):s.heap.NoLimit:=I.ok.mod.nolimit.keeps I.bk
theorem Inv.lt (I:Inv X pins σ H s):X.env.locals < s.heap.objs.size:=let ⟨_,hn,_⟩:=I.loc;hn.lt
theorem Inv.sz (I:Inv X pins σ H s):X.s₀.heap.objs.size<=s.heap.objs.size:=aaf I.ok.above (acf I.lt)
theorem Inv.ZA (I:Inv X pins σ H s){a:Addr}(h:s.heap.objs.size<=a):a∉X.fs:=fun hb=>by
 obtain ⟨_,o,ho,_⟩:=I.ok.l7.mem hb
 exact absurd (aaD (Heap.lt_size ho) (aaf I.sz h)) (ab5 _)
theorem Inv.OB (I:Inv X pins σ H s):∀x c,X.env.cells.lookup x=some c->c≠X.env.locals:=fun x c e z=>by
 obtain ⟨v,o,ho,hd⟩:=I.cell x c e
 obtain ⟨m,⟨o',es,ep,EM,EN,_⟩,_⟩:=I.loc
 rw [z,EM] at ho;cases ho;rw [EN] at hd;cases hd
theorem Inv.l7 (I:Inv X pins σ H s):s.heap.FunFrames X.base X.outer:=by
 have all:∀(l:List Env),(∀b∈wI l,b∈X.fs)->X.s₀.heap.FunFrames X.base l->s.heap.FunFrames X.base l:=by
  intro l
  induction l with
  | nil=>intro _ _;trivial
  | cons env r ih=>
   intro hs hl
   obtain ⟨hk,⟨L,o,hf,hn,ho,hd⟩,hr⟩:=hl
   have hL:L∈X.fs:=hs L (by unfold wI;rw [ahv,hf];exact aaq)
   obtain ⟨sl,e⟩:=I.base.slot L o ho (I.ok.OA L hL) hL fun z=>I.ok.KU L z hL
   exact ⟨hk,⟨L,_,hf,hn,e,hd⟩,ih (fun b hb=>hs b (by unfold wI;rw [ahv,hf];exact aag _ hb)) hr⟩
 exact all X.outer (fun _ hb=>hb) I.ok.l7
theorem Inv.stack (I:Inv X pins σ H s):s.heap.FunFrames X.base X.stack:=by
 rcases I.ok.YG with e | ⟨e,hf⟩
 ·rw [e];exact I.l7
 ·rw [e]
  obtain ⟨m,hn,_⟩:=I.loc
  refine .cons (by rw [I.ok.kind];decide) hf hn ?_ I.l7
  exact Heap.get?_none_of_le (aaf I.ok.EL I.ok.above)
theorem Inv.rT (I:Inv X pins σ H s):∀b∈wI X.stack,b∈X.env.locals::X.fs:=fun b hb=>by
 rcases I.ok.YG with e | ⟨e,hf⟩
 ·rw [e] at hb;exact aag _ hb
 ·rw [e] at hb
  unfold wI at hb
  rw [ahv,hf] at hb
  exact hb
theorem Inv.rV (I:Inv X pins σ H s):∀b∈wI X.stack,H b=none:=fun b hb=>by
 rcases aaN.mp (I.rT b hb) with e | hb
 ·rw [e];exact I.free
 ·obtain ⟨_,o,ho,_⟩:=I.ok.l7.mem hb
  exact I.base.free b o ho (I.ok.OA b hb) fun z=>I.ok.KU b z hb
theorem Inv.step {g' :Array GenState}{t' :Nat}{d' :Drawn}{ch:List Addr}(I:Inv X pins σ H s)
  (JY:∀b∈ch,(b∈X.ex\/X.s₀.heap.objs.size<=b)/\b≠X.env.locals/\(∀x c,X.env.cells.lookup x=some c->c≠b)/\∀p∈X.pn++pins,p.1≠b)
  (keep:∀b o,b≠X.env.locals->b∉X.fs->b∉ch->s.heap.get? b=some o->H b=none->h'.get? b=some o)
  (slot:∀b o,b≠X.env.locals->b∈X.fs->b∉ch->s.heap.get? b=some o->H b=none->∃sl,h'.get? b=some {o with slots:=sl}) (free:∀b o,b∉ch->s.heap.get? b=some o->H b=none->H' b=none)
  (there:∀b o,b∉ch->s.heap.get? b=some o->∃o',h'.get? b=some o')
  (rQ:∀b xs,H b=some (.tup xs)->H' b=some (.tup xs)) (qf:∀b o u,H b=some (.fk o u)->H' b=some (.fk o u)) (rR:∀b ps,H b=some (.Oy ps)->∃more,H' b=some (.Oy (ps++more)))
  (ns:∀m,s.heap.Ns X.env.locals m->h'.Ns X.env.locals m) (bH:iY X.prog X.w H' h') (hg:AllBare g'):
  Inv X pins σ H' {s with heap:=h',gens:=g',drawn:=d',toks:=t' }:=by
 have OC:∀b o,X.s₀.heap.get? b=some o->b≠X.env.locals:=fun b o e=>aaQ (aaD (Heap.lt_size e) I.ok.above)
 have YH:∀b o,X.s₀.heap.get? b=some o->b∉X.ex->b∉ch:=fun b o e hx hb=>by
  rcases (JY b hb).1 with z | z
  ·exact hx z
  ·exact absurd (aaD (Heap.lt_size e) z) (ab5 _)
 have cellK:∀x c,X.env.cells.lookup x=some c->∀v,s.heap.IsCell c v->h'.IsCell c v:=fun x c e v ⟨o,ho,hd⟩=>by
  have RI:c∉ch:=fun z=>(JY c z).2.2.1 x c e rfl
  by_cases hc:c∈X.fs
  ·obtain ⟨sl,q⟩:=slot c o (I.OB x c e) hc RI ho (I.g8 x c e)
   exact ⟨_,q,hd⟩
  ·exact ⟨o,keep c o (I.OB x c e) hc RI ho (I.g8 x c e),hd⟩
 refine ⟨I.ok,I.os,hg,⟨fun b o e n hb hx=> ?_,fun b o e n hb hx=> ?_,fun b o e n hx=> ?_,fun b o e hx=> ?_,fun b xs e=>rQ b xs (I.base.rQ b xs e),fun b o xs e=>qf b o xs (I.base.qf b o xs e),fun b ps e=> ?_⟩,?_,fun x c e=> ?_,?_,fun x c e=> ?_,fun p hp=> ?_,bH,I.len⟩
 ·exact keep b o (OC b o e) hb (YH b o e hx) (I.base.keep b o e n hb hx) (I.base.free b o e n hx)
 ·obtain ⟨sl,e1⟩:=I.base.slot b o e n hb hx
  obtain ⟨sl',e2⟩:=slot b _ (OC b o e) hb (YH b o e hx) e1 (I.base.free b o e n hx)
  exact ⟨sl',e2⟩
 ·obtain ⟨o',e1⟩:=I.base.there b o e hx
  exact free b o' (YH b o e hx) e1 (I.base.free b o e n hx)
 ·obtain ⟨o',e1⟩:=I.base.there b o e hx
  exact there b o' (YH b o e hx) e1
 ·obtain ⟨m1,e1⟩:=I.base.rR b ps e
  obtain ⟨m2,e2⟩:=rR b _ e1
  exact ⟨m1++m2,by rw [e2,Array.append_assoc]⟩
 ·obtain ⟨m,hn,hl⟩:=I.loc
  refine ⟨m,ns m hn,fun i x v e1 e2 e3=> ?_⟩
  obtain ⟨u,r,l⟩:=hl i x v e1 e2 e3
  refine ⟨u,r,?_⟩
  rcases l with l | ⟨k,c,e,z⟩
  ·exact .inl l
  ·exact .inr ⟨k,c,e,cellK x c e _ z⟩
 ·obtain ⟨v,z⟩:=I.cell x c e
  exact ⟨v,cellK x c e v z⟩
 ·obtain ⟨m,⟨o,_,_,ho,_⟩,_⟩:=I.loc
  exact free _ o (fun z=>(JY _ z).2.1 rfl) ho I.free
 ·obtain ⟨v,o,ho,hd⟩:=I.cell x c e
  exact free c o (fun z=>(JY c z).2.2.1 x c e rfl) ho (I.g8 x c e)
 ·obtain ⟨e,n,ne,nf,d⟩:=I.pin p hp
  have RI:p.1∉ch:=fun z=>(JY p.1 z).2.2.2 p hp rfl
  exact ⟨keep p.1 p.2 ne nf RI e n,free p.1 p.2 RI e n,ne,nf,d⟩
theorem Inv.un {t' :Nat}(I:Inv X pins σ H s)(u:Un X.fs [] H H' s.heap h')(bH:iY X.prog X.w H' h'):Inv X pins σ H' {s with heap:=h',toks:=t' }:=by
 obtain ⟨m,⟨o,es,ep,ho,r⟩,_⟩:=id I.loc
 obtain ⟨sl,hL⟩:=u.any ho I.free (by simp)
 exact I.step (g' :=s.gens) (d' :=s.drawn) (ch:=[]) (fun _ z=>nomatch z) (fun b o _ hb _ e n=>u.keep b o e n hb (by simp)) (fun b o _ hb _ e n=>u.slot b o e n hb (by simp)) (fun b o _ e n=>u.free b o e n (by simp)) (fun b o _ e=>u.there b o e (by simp)) u.rQ u.qf u.rR (fun m' hm=>by
  obtain ⟨o',zR,wu,EM,r'⟩:=hm
  rw [ho] at EM;cases EM
  exact ⟨_,zR,wu,hL,r'⟩) bH I.bare
theorem Inv.call {g' :Array GenState}{t' :Nat}{d' :Drawn}{ch:List Addr}(I:Inv X pins σ H s)(u:Un (wI X.stack) ch H H' s.heap h')(bH:iY X.prog X.w H' h')(hg:AllBare g')
  (JY:∀b∈ch,(b∈X.ex\/X.s₀.heap.objs.size<=b)/\b≠X.env.locals/\(∀x c,X.env.cells.lookup x=some c->c≠b)/\∀p∈X.pn++pins,p.1≠b):
  Inv X pins σ H' {s with heap:=h',gens:=g',drawn:=d',toks:=t' }:=by
 obtain ⟨m,⟨o,es,ep,ho,r⟩,_⟩:=id I.loc
 obtain ⟨sl,hL⟩:=u.any ho I.free fun z=>(JY _ z).2.1 rfl
 exact I.step (ch:=ch) JY (fun b o hL hb hc e n=>u.keep b o e n (fun z=>(aaN.mp (I.rT b z)).elim hL hb) hc) (fun b o _ _ hc e n=>u.any e n hc) (fun b o hc e n=>u.free b o e n hc) (fun b o hc e=>u.there b o e hc) u.rQ u.qf u.rR (fun m' hm=>by
  obtain ⟨o',zR,wu,EM,r'⟩:=hm
  rw [ho] at EM;cases EM
  exact ⟨_,zR,wu,hL,r'⟩) bH hg
theorem Inv.turned {t' :Nat}{it:Addr}(I:Inv X pins σ H s)(k:∀b o,b≠it->s.heap.get? b=some o->h'.get? b=some o)(hn:H it=none)(hL:it≠X.env.locals)
  (h1:it∈X.ex\/X.s₀.heap.objs.size<=it) (h2:∀x c,X.env.cells.lookup x=some c->c≠it) (h3:∀p∈X.pn++pins,p.1≠it):Inv X pins σ H {s with heap:=h',toks:=t' }:=by
 have Nb:∀b u,H b=some u->b≠it:=fun b u e z=>by rw [z,hn] at e;cases e
 refine I.step (g' :=s.gens) (d' :=s.drawn) (ch:=[it]) (fun b hb=> ?_) (fun b o _ _ hc e _=>k b o (fun z=>hc (by simp [z])) e) (fun b o _ _ hc e _=>⟨o.slots,k b o (fun z=>hc (by simp [z])) e⟩) (fun _ _ _ _ n=>n)
  (fun b o hc e=>⟨o,k b o (fun z=>hc (by simp [z])) e⟩) (fun _ _ e=>e) (fun _ _ _ e=>e) (fun b ps e=>⟨#[],by rw [e];simp⟩) (fun m hm=> ?_) (fun b u e=> ?_) I.bare
 ·have e:b=it:=by simpa using hb
  subst e
  exact ⟨h1,hL,h2,h3⟩
 ·obtain ⟨o,es,ep,ho,r⟩:=hm
  exact ⟨o,es,ep,k _ o (aaO hL) ho,r⟩
 ·refine (I.bH b u e).rP (fun c v hc q=>k c v ?_ q) (fun _ q=>q) fun _ _ q=>q
  rcases hc with z | z
  ·rw [z];exact Nb b u e
  ·exact Nb c _ z
theorem Inv.tok (I:Inv X pins σ H s)(t:Nat):Inv X pins σ H {s with toks:=t}:=I.un (h' :=s.heap) (t' :=t) Un.refl I.bH
theorem Inv.kept {t' :Nat}(I:Inv X pins σ H s)(k:∀b u,s.heap.get? b=some u->h'.get? b=some u):Inv X pins σ H {s with heap:=h',toks:=t' }:=I.un (Un.kept k) (I.bH.kept k)
theorem Inv.laid {a:Addr}{o:HO}{t' :Nat}(I:Inv X pins σ H s)(k:∀b u,s.heap.get? b=some u->h'.get? b=some u)(hp:s.heap.objs.size<=a)(new:cw X.prog X.w (upd H a o) h' a o):
  Inv X pins σ (upd H a o) {s with heap:=h',toks:=t' }:=I.un (Un.laid k hp (I.bH.fresh hp)) (I.bH.laid k hp new)
theorem Inv.write {x e:Addr}{o:HO}{t' :Nat}(I:Inv X pins σ H s)(mu:RF (H x))(he:e=x\/H e=some (.own x))(k:∀b u,b≠e->s.heap.get? b=some u->h'.get? b=some u)(Q4:∃u,h'.get? e=some u)
  (new:cw X.prog X.w (upd H x o) h' x o):Inv X pins σ (upd H x o) {s with heap:=h',toks:=t' }:=I.un (Un.write mu he k Q4) (I.bH.write mu he k Q4 new)
theorem Inv.ya {Nc :ζ}(I:Inv X pins σ H s)(h:∀p∈Nc,s.heap.get? p.1=some p.2/\H p.1=none/\p.1≠X.env.locals/\p.1∉X.fs/\∀v,p.2.data≠.cell v):Inv X Nc σ H s:=
 ⟨I.ok,I.os,I.bare,I.base,I.loc,I.cell,I.free,I.g8,fun p hp=>(aaF.mp hp).elim (fun z=>I.pin p (aaZ _ z)) (h p),I.bH,I.len⟩
theorem cy {N:List Str}(hN:N.Nodup){i j:Nat}{x:Str}(a:N[i]? =some x)(b:N[j]? =some x):i=j:=by
 obtain ⟨h1,e1⟩:=be.mp a
 obtain ⟨h2,e2⟩:=be.mp b
 exact (aiN hN).mp (e1.trans e2.symm)
theorem kg {M:Model}{A:Around}{E:δ}{i:Nat}{x:Str}{v:V}{u:Value}{Q:Unit->Shared->Prop}(I:Inv X pins σ H s)(hN:X.N.Nodup)(hi:X.N[i]? =some x)(hx:Loc X.env.scope x)(r:RelV v u)
  (h:∀s',Inv X pins (σ.set i (some v)) H s' ->(∃a,Heap.SameBut a s.heap s'.heap/\(a=X.env.locals\/X.env.cells.lookup x=some a))->Q () s') (hf:X.fn x=true\/X.env.scope.names.lookup x=some .local:=by first | exact .inl rfl | exact .inr rfl | assumption):wpAny M A (storeName X.env x u) Q E s:=by
 obtain ⟨m,hn,hl⟩:=id I.loc
 have ZC:(X.env.scope.kind==.class || (X.env.scope.kind==.module && X.env.locals !=X.env.globals))=false:=by rw [I.ok.kind];rfl
 have hiσ:i < σ.length:=by rw [I.len];exact (be.mp hi).1
 have OB:=I.OB
 have tracked:∀{a:Addr} {h' :Heap},(∃o,s.heap.get? a=some o/\H a=none)->Heap.SameBut a s.heap h' ->iY X.prog X.w H h' :=fun {a h'} ha hs b ob e=>by
  obtain ⟨_,_,Nd⟩:=ha
  refine (I.bH b ob e).rP (fun c w' hc q=>(hs.2 c ?_).trans q) (fun _ q=>q) fun _ _ q=>q
  rintro rfl
  rcases hc with rfl | hc
  ·rw [Nd] at e;cases e
  ·rw [Nd] at hc;cases hc
 rcases hx with hk | hk
 ·refine wpAny_storeName_local hk hn (fun h' EO hs=> ?_) ZC
  obtain ⟨oL,_,_,hoL,_⟩:=id hn
  refine h _ ⟨I.ok,I.os,I.bare,⟨fun b o e n hb hx=> ?_,fun b o e n hb hx=> ?_,I.base.free,fun b o e hx=> ?_,I.base.rQ,I.base.qf,I.base.rR⟩,⟨_,EO,fun j y v' e1 e2 e3=> ?_⟩,fun y c e=> ?_,I.free,I.g8,fun p hp=> ?_,tracked ⟨oL,hoL,I.free⟩ hs,by simpa using I.len⟩ ⟨_,hs,.inl rfl⟩
  ·exact (hs.2 b (aaQ (aaD (Heap.lt_size e) I.ok.above))).trans (I.base.keep b o e n hb hx)
  ·obtain ⟨sl,e1⟩:=I.base.slot b o e n hb hx
   exact ⟨sl,(hs.2 b (aaQ (aaD (Heap.lt_size e) I.ok.above))).trans e1⟩
  ·obtain ⟨o',e1⟩:=I.base.there b o e hx
   exact ⟨o',(hs.2 b (aaQ (aaD (Heap.lt_size e) I.ok.above))).trans e1⟩
  ·by_cases hj:j=i
   ·subst hj
    rw [hi] at e1;cases e1
    rw [ahD hiσ] at e2
    cases e2
    exact ⟨u,r,.inl ⟨hk,by simp⟩⟩
   ·rw [ahq (aaO hj)] at e2
    obtain ⟨u',r',q⟩:=hl j y v' e1 e2 e3
    refine ⟨u',r',?_⟩
    rcases q with ⟨k,e⟩ | ⟨k,c,e,z⟩
    ·refine .inl ⟨k,?_⟩
     have:y≠x:=fun e=>hj (cy hN e1 (e▸hi))
     simp [this,e]
    ·exact .inr ⟨k,c,e,z.sameBut hs (OB y c e)⟩
  ·obtain ⟨w',z⟩:=I.cell y c e
   exact ⟨w',z.sameBut hs (OB y c e)⟩
  ·obtain ⟨e,n,ne,nf,d⟩:=I.pin p hp
   exact ⟨(hs.2 p.1 ne).trans e,n,ne,nf,d⟩
 ·have RJ:X.fn x=true:=by
   rcases hf with z | z
   ·exact z
   ·rw [z] at hk;cases hk
  obtain ⟨c,hc⟩:=I.ok.has x (.inl hk)
  obtain ⟨w',z⟩:=I.cell x c hc
  refine wpAny_storeName_cell I.ok.kind hk hc z (fun h' uD hs=> ?_)
  obtain ⟨oc,hoc,ZD⟩:=id z
  refine h {s with heap:=h' } ⟨I.ok,I.os,I.bare,⟨fun b o e n hb hx=> ?_,fun b o e n hb hx=> ?_,I.base.free,fun b o e hx=> ?_,I.base.rQ,I.base.qf,I.base.rR⟩,⟨m,hn.sameBut hs (aaO (OB x c hc)),fun j y v' e1 e2 e3=> ?_⟩,fun y c' e=> ?_,I.free,I.g8,fun p hp=> ?_,tracked ⟨oc,hoc,I.g8 x c hc⟩ hs,by simpa using I.len⟩ ⟨c,hs,.inr hc⟩
  ·exact (hs.2 b (aaQ (aaD (Heap.lt_size e) (I.ok.RH x c RJ hc)))).trans (I.base.keep b o e n hb hx)
  ·obtain ⟨sl,e1⟩:=I.base.slot b o e n hb hx
   exact ⟨sl,(hs.2 b (aaQ (aaD (Heap.lt_size e) (I.ok.RH x c RJ hc)))).trans e1⟩
  ·obtain ⟨o',e1⟩:=I.base.there b o e hx
   exact ⟨o',(hs.2 b (aaQ (aaD (Heap.lt_size e) (I.ok.RH x c RJ hc)))).trans e1⟩
  ·by_cases hj:j=i
   ·subst hj
    rw [hi] at e1;cases e1
    rw [ahD hiσ] at e2
    cases e2
    exact ⟨u,r,.inr ⟨.inl hk,c,hc,uD⟩⟩
   ·rw [ahq (aaO hj)] at e2
    obtain ⟨u',r',q⟩:=hl j y v' e1 e2 e3
    refine ⟨u',r',?_⟩
    rcases q with q | ⟨k,c',e,z'⟩
    ·exact .inl q
    ·refine .inr ⟨k,c',e,z'.sameBut hs ?_⟩
     rintro rfl
     exact hj (cy hN e1 (I.ok.inj _ _ _ e hc▸hi))
  ·by_cases hcc:c' =c
   ·subst hcc;exact ⟨_,uD⟩
   ·obtain ⟨w2,z2⟩:=I.cell y c' e
    exact ⟨w2,z2.sameBut hs hcc⟩
  ·obtain ⟨e,n,ne,nf,d⟩:=I.pin p hp
   refine ⟨(hs.2 p.1 ?_).trans e,n,ne,nf,d⟩
   intro q
   rw [q,hoc] at e
   have q' :oc=p.2:=aaM e
   exact d w' (by rw [<- q'];exact ZD)
theorem js {M:Model}{A:Around}{E:δ}{i:Nat}{x:Str}{v:V}{u:Value}{Q:Unit->Shared->Prop}(I:Inv X pins σ H s)(hN:X.N.Nodup)(hi:X.N[i]? =some x)(hx:Loc X.env.scope x)(r:RelV v u)
  (h:∀s',Inv X pins (σ.set i (some v)) H s' ->Q () s') (hf:X.fn x=true\/X.env.scope.names.lookup x=some .local:=by first | exact .inl rfl | exact .inr rfl | assumption):wpAny M A (storeName X.env x u) Q E s:=
 kg I hN hi hx r (fun s' I' _=>h s' I') hf
theorem Inv.Nf {s' :Shared}{ch:List Addr}(I:Inv X pins σ H s)(ho:s'.os=s.os)(u:Un (wI X.stack) ch H H' s.heap s'.heap)(bH:iY X.prog X.w H' s'.heap)(hg:AllBare s'.gens)
  (JY:∀b∈ch,(b∈X.ex\/X.s₀.heap.objs.size<=b)/\b≠X.env.locals/\(∀x c,X.env.cells.lookup x=some c->c≠b)/\∀p∈X.pn++pins,p.1≠b):Inv X pins σ H' s' :=by
 obtain ⟨h',g',d',t',o'⟩:=s'
 have e:o' =s.os:=ho
 subst e
 exact I.call (g' :=g') (t' :=t') (d' :=d') u bH hg JY
end
abbrev XK:=Value->Option Addr->Hp->Prop
abbrev St:=List (Option V)
abbrev VK:=V->Hp->Prop
abbrev TE:=St->Hp->VK->Prop
abbrev TT:=St->Hp->(Bool->Hp->Prop)->Prop
abbrev TA:=St->Hp->(List V->Hp->Prop)->Prop
structure Ends where
 nx:St->Hp->Prop
 rt:VK
 bk:St->Hp->Prop:=fun _ _=>False
 ct:St->Hp->Prop:=fun _ _=>False
abbrev TS:=Ends->St->Hp->Prop
def EP (X:Cx)(pins:ζ)(σ:St)(Q:VK)(u:Value)(s' :Shared):Prop:=∃v H',Inv X pins σ H' s' /\RelV v u/\Q v H'
def TP (X:Cx)(pins:ζ)(σ:St)(Q:Bool->Hp->Prop)(b:Bool)(s' :Shared):Prop:=∃H',Inv X pins σ H' s' /\Q b H'
def AP (X:Cx)(pins:ζ)(σ:St)(Q:List V->Hp->Prop)(us:ο)(s' :Shared):Prop:=∃vs H',Inv X pins σ H' s' /\Vals vs us/\Q vs H'
def SP (X:Cx)(pins:ζ)(D:Ends)(f:Flow)(s' :Shared):Prop:=
 match f with
 | .next=>∃σ' H',Inv X pins σ' H' s' /\D.nx σ' H'
 | .brk=>∃σ' H',Inv X pins σ' H' s' /\D.bk σ' H'
 | .cont=>∃σ' H',Inv X pins σ' H' s' /\D.ct σ' H'
 | .ret u=>∃v σ' H',Inv X pins σ' H' s' /\RelV v u/\D.rt v H'
def PE (X:Cx)(e:Expr)(t:TE):Prop:=
 ∀(pins:ζ) (s:Shared) (σ:St) (H:Hp) (Q:VK),Inv X pins σ H s->t σ H Q->wpAny (model X.prog X.w) X.A (eval e X.env) (EP X pins σ Q) X.xe s
def PT (X:Cx)(e:Expr)(t:TT):Prop:=
 ∀(pins:ζ) (s:Shared) (σ:St) (H:Hp) (Q:Bool->Hp->Prop),Inv X pins σ H s->t σ H Q->wpAny (model X.prog X.w) X.A (isTrue e X.env (eval e X.env)) (TP X pins σ Q) X.xe s
def PW (X:Cx)(e:Expr)(t:TT):Prop:=
 ∀(whole:Sem Value) (pins:ζ) (s:Shared) (σ:St) (H:Hp) (Q:Bool->Hp->Prop),Inv X pins σ H s->t σ H Q->wpAny (model X.prog X.w) X.A (isTrue e X.env whole) (TP X pins σ Q) X.xe s
theorem PW.pt {X:Cx}{e:Expr}{t:TT}(h:PW X e t):PT X e t:=h _
def PA (X:Cx)(es:List Expr)(t:TA):Prop:=
 ∀(pos:Pos) (pins:ζ) (s:Shared) (σ:St) (H:Hp) (Q:List V->Hp->Prop),Inv X pins σ H s->t σ H Q->wpAny (model X.prog X.w) X.A (spliced (backTo pos (starEach es X.env))) (AP X pins σ Q) X.xe s
def PS (X:Cx)(st:Stmt)(t:TS):Prop:=
 ∀(pins:ζ) (s:Shared) (σ:St) (H:Hp) (D:Ends),Inv X pins σ H s->t D σ H->wpAny (model X.prog X.w) X.A (exec st X.env) (SP X pins D) X.xe s
def PSs (X:Cx)(st:List Stmt)(t:TS):Prop:=
 ∀(pins:ζ) (s:Shared) (σ:St) (H:Hp) (D:Ends),Inv X pins σ H s->t D σ H->wpAny (model X.prog X.w) X.A (execs st X.env) (SP X pins D) X.xe s
theorem bZ {α:Type}{t:Sem α}{Q Q' :α->Shared->Prop}{M:Model}{A:Around}{E:δ}{s:Shared}(h:wpAny M A t Q E s)(hQ:∀a s,Q a s->Q' a s):wpAny M A t Q' E s:=wpAny_mono h hQ fun _ _ x=>x
end L2
namespace L2
open PySem PySem.Spec PyProof.Rows
section
variable {X:Cx}
inductive KW (i:Nat)(σ:St)(H:Hp)(Q:VK):Prop where
 | mk (v:_) (_:σ[i]? =some (some v)) (_:Q v H):KW i σ H Q
def tC (v:V):TE:=fun _ H Q=>Q v H
theorem OD {i:Nat}{x:Str}{pos:Pos}(hN:X.N[i]? =some x)(hv:Zy X.env.scope x)(hd:(x==("__debug__":Str))=false:=by decide)(qg:(x==("__classdict__":Str))=false:=by decide):PE X (.Name x pos) (KW i):=by
 intro pins s σ H Q I h
 obtain ⟨v,e,h⟩:=h
 obtain ⟨m,hn,hl⟩:=I.loc
 obtain ⟨u,r,l⟩:=hl i x v hN e hv
 have fin:EP X pins σ Q u s:=⟨v,H,I,r,h⟩
 rcases l with ⟨hk,hm⟩ | ⟨hk,c,hc,hcell⟩
 ·exact wpAny_Name (wpAny_loadName_local I.ok.kind hk hn hm fin) hd
 ·rcases hk with hk | hk
  ·exact wpAny_Name (wpAny_loadName_cell I.ok.kind hk hc hcell fin) hd
  ·exact wpAny_Name (wpAny_loadName_free I.ok.kind hk hc hcell fin qg) hd
theorem ak {i j pos}:PE X (.Constant (.int i) j pos) (tC (.int i)):=fun _ _ _ H _ I h=>wpAny_Constant_int ⟨.int i,H,I.tok _,⟨_,rfl⟩,h⟩
theorem dW {b j pos}:PE X (.Constant (.bool b) j pos) (tC (.bl b)):=fun _ _ _ H _ I h=>Constant_bool ⟨.bl b,H,I,rfl,h⟩
theorem nA {j pos}:PE X (.Constant .none j pos) (tC .cv):=fun _ _ _ H _ I h=>Constant_none ⟨.cv,H,I,rfl,h⟩
theorem kh {x j pos}:PE X (.Constant (.str x) j pos) (tC (.str x)):=fun _ _ _ H _ I h=>Calls.Constant_str ⟨.str x,H,I.tok _,⟨_,rfl⟩,h⟩
def Gl (X:Cx)(x:Str):Prop:=X.env.kindOf x=some .globalImplicit
theorem jt {E:δ}{pins:ζ}{s:Shared}{σ:St}{H:Hp}{x:Str}{u:Value}{pos:Pos}{Q:δ}(I:Inv X pins σ H s)(hg:Gl X x)(hm:X.mg x=some u)(h:Q u s)
  (hd:(x==("__debug__":Str))=false:=by decide):wpAny (model X.prog X.w) X.A (eval (.Name x pos) X.env) Q E s:=
 Calls.Name_function_global I.ok.kind hg (Calls.loadGlobal_global (by rw [I.ok.glob];exact I.mod.glob.keeps I.bk) hm h) hd
theorem gG {E:δ}{pins:ζ}{s:Shared}{σ:St}{H:Hp}{x:Str}{u:Value}{pos:Pos}{Q:δ}(I:Inv X pins σ H s)(hg:Gl X x)(hm:X.mg x=none)(hv:bootBuiltins x=some u)(h:Q u s)
  (hn:x≠ "__name__":=by decide) (hd:(x==("__debug__":Str))=false:=by decide):wpAny (model X.prog X.w) X.A (eval (.Name x pos) X.env) Q E s:=by
 obtain ⟨mb,h1,h2⟩:=I.mod.blt
 exact Calls.Name_function_global I.ok.kind hg (Calls.loadGlobal_builtin (by rw [I.ok.glob];exact I.mod.glob.keeps I.bk) hm (by rw [I.ok.blt];exact h1.keeps I.bk) ((h2 x hn).trans hv) h) hd
theorem ju {x:Str}{v:V}{u:Value}{pos:Pos}(hg:Gl X x)(hm:X.mg x=some u)(r:RelV v u)(hd:(x==("__debug__":Str))=false:=by decide):PE X (.Name x pos) (tC v):=
 fun _ _ _ H _ I h=>jt I hg hm ⟨v,H,I,r,h⟩ hd
theorem KY {x:Str}{v:V}{u:Value}{pos:Pos}(hg:Gl X x)(hm:X.mg x=none)(hv:bootBuiltins x=some u)(r:RelV v u)(hn:x≠ "__name__":=by decide)(hd:(x==("__debug__":Str))=false:=by decide):PE X (.Name x pos) (tC v):=
 fun _ _ _ H _ I h=>gG I hg hm hv ⟨v,H,I,r,h⟩ hn hd
variable {a b:Expr}{ta tb:TE}{pos:Pos}
def PC (X:Cx)(op:CmpOp)(a b:Expr)(t:TE):Prop:=
 ∀(pins:ζ) (s:Shared) (σ:St) (H:Hp) (Q:VK),Inv X pins σ H s->t σ H Q->
  wpAny (model X.prog X.w) X.A (eval a X.env) (fun v s₁=>wpAny (model X.prog X.w) X.A (eval b X.env) (fun u s₂=>wpAny (model X.prog X.w) X.A (compareOp op v u) (EP X pins σ Q) X.xe s₂) X.xe s₁) X.xe s
inductive tB_ (Q:(Bool->Hp->Prop))(x:V)(H1:Hp):Prop where
 | mk (c:_) (_:x=.bl c) (_:Q c H1):tB_ Q x H1
def tB (t:TE):TT:=fun σ H Q=>t σ H fun x H1=>tB_ Q x H1
theorem ER {op:CmpOp}{t:TE}(h:PC X op a b t)(h1:behindInMarks op b=false:=by first | exact nobehind _ (by decide) (by decide) | rfl):PE X (.Compare a [op] [b] pos) t:=fun pins s σ H Q I hw=>wpAny_Compare1 (h pins s σ H Q I hw) h1
theorem jb {op:CmpOp}{t:TE}(h:PC X op a b t)(h1:behindInMarks op b=false:=by first | exact nobehind _ (by decide) (by decide) | rfl):PT X (.Compare a [op] [b] pos) (tB t):=by
 intro pins s σ H Q I hw
 refine wpAny_isTrue_Compare1 (bZ (h pins s σ H _ I hw) fun v s1 h1=>bZ h1 fun u s2 h2=>bZ h2 fun c s3 ⟨x,H1,I1,r1,q1⟩=> ?_) h1
 obtain ⟨d,rfl,q⟩:=q1
 cases r1
 exact wpAny_truthy_bool ⟨H1,I1,q⟩
theorem cP {e:Expr}{t:TE}(h:PE X e t)(he:∀whole,isTrue e X.env whole=(do let v <- whole;standAt e.pos;holding [v] (truthy v)):=by intro _;rfl):PT X e (tB t):=by
 intro pins s σ H Q I hw
 refine isTrue_plain (bZ (h pins s σ H _ I hw) fun v s1 ⟨x,H1,I1,r1,q1⟩=> ?_) (he _)
 obtain ⟨d,rfl,q⟩:=q1
 cases r1
 exact wpAny_truthy_bool ⟨H1,I1,q⟩
variable {tA YI :TT}{rest:List Expr}
def ZE (t u:TT):TT:=fun σ H Q=>t σ H fun c H1=>if c=true then u σ H1 Q else Q false H1
def tOr (t u:TT):TT:=fun σ H Q=>t σ H fun c H1=>if c=true then Q true H1 else u σ H1 Q
def ZF (t:TT):TT:=fun σ H Q=>t σ H fun c H1=>Q (!c) H1
theorem mJ (ha:PT X a tA):PW X (.BoolOp .And [a] pos) tA:=by
 intro wh pins s σ H Q I h
 refine isTrue_and (bZ (ha pins s σ H Q I h) fun c s1 e=> ?_)
 cases c with
 | true=>exact isTrue_and_nil e
 | false=>exact e
theorem ft (ha:PT X a tA):PW X (.BoolOp .Or [a] pos) tA:=by
 intro wh pins s σ H Q I h
 refine isTrue_or (bZ (ha pins s σ H Q I h) fun c s1 e=> ?_)
 cases c with
 | false=>exact isTrue_or_nil e
 | true=>exact e
theorem rW (ha:PT X a tA)(hb:PW X (.BoolOp .And (b::rest) pos) YI):PW X (.BoolOp .And (a::b::rest) pos) (ZE tA YI):=by
 intro wh pins s σ H Q I h
 refine isTrue_and (bZ (ha pins s σ H _ I h) fun c s1 ⟨H1,I1,q1⟩=> ?_)
 cases c with
 | true=>exact hb wh pins s1 σ H1 Q I1 q1
 | false=>exact ⟨H1,I1,q1⟩
theorem hJ (ha:PT X a tA)(hb:PW X (.BoolOp .Or (b::rest) pos) YI):PW X (.BoolOp .Or (a::b::rest) pos) (tOr tA YI):=by
 intro wh pins s σ H Q I h
 refine isTrue_or (bZ (ha pins s σ H _ I h) fun c s1 ⟨H1,I1,q1⟩=> ?_)
 cases c with
 | true=>exact ⟨H1,I1,q1⟩
 | false=>exact hb wh pins s1 σ H1 Q I1 q1
theorem cS (ha:PT X a tA):PT X (.UnaryOp .Not a pos) (ZF tA):=by
 intro pins s σ H Q I h
 exact isTrue_not (ha pins s σ H (fun c H1=>Q (!c) H1) I h)
def RK (ta tb:TE):TE:=fun σ H Q=>ta σ H fun x H1=>∃c,x=.bl c/\if c=true then tb σ H1 Q else Q (.bl false) H1
theorem ES {op}{t:TE}(h:PE X a t):PE X (.BoolOp op [a] pos) t:=fun pins s σ H Q I hw=>BoolOp_one (h pins s σ H Q I hw)
theorem ET (ha:PE X a ta)(hb:PE X (.BoolOp .And (b::rest) pos) tb):PE X (.BoolOp .And (a::b::rest) pos) (RK ta tb):=by
 intro pins s σ H Q I h
 refine BoolOp_and (bZ (ha pins s σ H _ I h) fun v s1 ⟨x,H1,I1,r1,q1⟩=> ?_)
 obtain ⟨c,rfl,q1⟩:=q1
 cases r1
 refine wpAny_truthy_bool ?_
 cases c with
 | true=>exact hb pins s1 σ H1 Q I1 q1
 | false=>exact ⟨.bl false,H1,I1,rfl,q1⟩
def tIf (t:TT)(ta tb:TE):TE:=fun σ H Q=>t σ H fun c H1=>if c=true then ta σ H1 Q else tb σ H1 Q
theorem uJ {c:Expr}(hc:PT X c tA)(ha:PE X a ta)(hb:PE X b tb):PE X (.IfExp c a b pos) (tIf tA ta tb):=by
 intro pins s σ H Q I h
 refine wpAny_IfExp (bZ (hc pins s σ H _ I h) fun d s1 ⟨H1,I1,q1⟩=> ?_)
 cases d with
 | true=>exact ha pins s1 σ H1 Q I1 q1
 | false=>exact hb pins s1 σ H1 Q I1 q1
end
end L2
namespace L2
open PySem PySem.Spec PyProof.Rows
def a8 (K:Frag)(H:Hp)(a:Addr)(xs:η):Prop:=
 Rd H a (.lst xs)\/
  ∃(o:Obj) (its:Array Value) (n:Nat),K.lookup a=some o/\o.cls=.type "list"/\o.dict=none/\o.data=.seq its n/\its.size<=sizeLine/\Vals xs its.toList
def bN (K:Frag)(H:Hp)(a:Addr)(xs:η):Prop:=
 Rd H a (.tup xs)\/
  ∃(o:Obj) (its:Array Value) (n:Nat),K.lookup a=some o/\o.cls=.type "tuple"/\o.data=.seq its n/\its.size<=sizeLine/\Vals xs its.toList
def ZG:Value->Option V
 | .none=>some .cv
 | .bool b=>some (.bl b)
 | .int i _=>some (.int i)
 | .str x _=>some (.str x)
 | .bytes b _=>some (.byt b)
 | .float b _=>some (.Ox b)
 | .ref a=>some (.ref a)
 | .type n=>some (.ty n)
 | _=>none
theorem RelV.abs {x:V}{u:Value}(r:RelV x u):ZG u=some x:=by
 cases x with
 | cv=>cases r;rfl
 | bl _=>cases r;rfl
 | int _=>obtain ⟨t,rfl⟩:=r;rfl
 | str _=>obtain ⟨t,rfl⟩:=r;rfl
 | byt _=>obtain ⟨t,rfl⟩:=r;rfl
 | Ox _=>obtain ⟨t,rfl⟩:=r;rfl
 | ref _=>cases r;rfl
 | ty _=>cases r;rfl
theorem RelV.inj {x y:V}{u:Value}(r:RelV x u)(q:RelV y u):x=y:=aaM (r.abs.symm.trans q.abs)
theorem Vals.inj:∀{xs ys:η} {us:ο},Vals xs us->Vals ys us->xs=ys
 | _,_,_,.nil,.nil=>rfl
 | _,_,_,.cons r t,.cons r' t' =>by rw [r.inj r',Vals.inj t t']
section
variable {X:Cx}{pins:ζ}{σ:St}{H:Hp}{s:Shared}{a:Addr}{xs ys:η}
theorem a8.of {K:Frag}(h:H a=some (.lst xs)):a8 K H a xs:=.inl (.inl h)
theorem bN.of {K:Frag}(h:H a=some (.tup xs)):bN K H a xs:=.inl (.inl h)
theorem Inv.list (I:Inv X pins σ H s)(h:a8 X.K H a xs):∃its:List Value,Vals xs its/\PlainL s.heap a its.toArray/\xs.length<=sizeLine:=by
 rcases h with h | ⟨o,its,n,hk,hc,hd,hs,hz,r⟩
 ·obtain ⟨z,its,n,r,e⟩:=h.ok I.bH
  exact ⟨its,r,⟨_,n,e,rfl,rfl,rfl⟩,z⟩
 ·refine ⟨its.toList,r,⟨o,n,I.ja a o hk,hc,hd,by simpa using hs⟩,?_⟩
  have e:=r.length
  simp only [ahU] at e
  omega
theorem Inv.tuple (I:Inv X pins σ H s)(h:bN X.K H a xs):∃its:List Value,Vals xs its/\IsTup s.heap a its.toArray/\xs.length<=sizeLine:=by
 rcases h with h | ⟨o,its,n,hk,hc,hs,hz,r⟩
 ·obtain ⟨z,its,r,p⟩:=h.ok I.bH
  exact ⟨its,r,p,z⟩
 ·refine ⟨its.toList,r,⟨o,I.ja a o hk,hc,n,by simpa using hs⟩,?_⟩
  have e:=r.length
  simp only [ahU] at e
  omega
theorem Inv.hV (I:Inv X pins σ H s)(h:a8 X.K H a xs)(h' :a8 X.K H a ys):xs=ys:=by
 obtain ⟨its,r,⟨o,n,e,_,_,d⟩,_⟩:=I.list h
 obtain ⟨its',r',⟨o',n',e',_,_,d'⟩,_⟩:=I.list h'
 rw [e] at e';cases e'
 rw [d] at d'
 injection d' with d1 _
 have:its=its' :=by simpa using congrArg ap9 d1
 subst this
 exact r.inj r'
theorem Inv.gc (I:Inv X pins σ H s)(h:bN X.K H a xs)(h' :bN X.K H a ys):xs=ys:=by
 obtain ⟨its,r,⟨o,e,_,n,d⟩,_⟩:=I.tuple h
 obtain ⟨its',r',⟨o',e',_,n',d'⟩,_⟩:=I.tuple h'
 rw [e] at e';cases e'
 rw [d] at d'
 injection d' with d1 _
 have:its=its' :=by simpa using congrArg ap9 d1
 subst this
 exact r.inj r'
end
abbrev Cx.qh (X:Cx)(E:δ):Cx:={X with xe:=E}
abbrev Cx.yd (X:Cx):Cx:=X.qh fun _ _=>False
theorem Cx.Ok.qh {X:Cx}(ok:X.Ok)(E:δ):(X.qh E).Ok:=
 ⟨ok.mod,ok.kind,ok.glob,ok.blt,ok.above,ok.inj,ok.has,ok.RH,ok.hd,ok.frames,ok.YG,ok.exf,ok.bs,ok.EL,ok.zQ,ok.KU,ok.l7,ok.OA⟩
theorem Cx.Ok.hW {X:Cx}{E:δ}(ok:(X.qh E).Ok):X.Ok:=
 ⟨ok.mod,ok.kind,ok.glob,ok.blt,ok.above,ok.inj,ok.has,ok.RH,ok.hd,ok.frames,ok.YG,ok.exf,ok.bs,ok.EL,ok.zQ,ok.KU,ok.l7,ok.OA⟩
section
variable {X:Cx}{pins:ζ}{σ:St}{H:Hp}{s:Shared}{E:δ}
theorem Inv.qh (I:Inv X pins σ H s)(E:δ):Inv (X.qh E) pins σ H s:=⟨I.ok.qh E,I.os,I.bare,I.base,I.loc,I.cell,I.free,I.g8,I.pin,I.bH,I.len⟩
theorem Inv.hW (I:Inv (X.qh E) pins σ H s):Inv X pins σ H s:=⟨I.ok.hW,I.os,I.bare,I.base,I.loc,I.cell,I.free,I.g8,I.pin,I.bH,I.len⟩
theorem SP.hW {D:Ends}{f:Flow}{s' :Shared}(h:SP (X.qh E) pins D f s'):SP X pins D f s' :=by
 cases f with
 | next=>obtain ⟨σ',H',I,q⟩:=h;exact ⟨σ',H',I.hW,q⟩
 | brk=>obtain ⟨σ',H',I,q⟩:=h;exact ⟨σ',H',I.hW,q⟩
 | cont=>obtain ⟨σ',H',I,q⟩:=h;exact ⟨σ',H',I.hW,q⟩
 | ret u=>obtain ⟨v,σ',H',I,r,q⟩:=h;exact ⟨v,σ',H',I.hW,r,q⟩
theorem PSs.yd {st:List Stmt}{t:TS}(h:PSs X.yd st t):PSs X st t:=fun pins s σ H D I hw=>
 wpAny_mono (h pins s σ H D (I.qh _) hw) (fun _ _ q=>q.hW) fun _ _ z=>False.elim z
end
section
variable {X:Cx}{st:Stmt}{rest:List Stmt}{t u:TS}{e:Expr}{te:TE}{pos:Pos}
def RL:TS:=fun D σ H=>D.nx σ H
def RM (t u:TS):TS:=fun D σ H=>t {D with nx:=u D} σ H
theorem aQ:PSs X [] RL:=fun _ _ σ H _ I h=>wpAny_execs_nil ⟨σ,H,I,h⟩
theorem ae (h1:PS X st t)(h2:PSs X rest u):PSs X (st::rest) (RM t u):=by
 intro pins s σ H D I h
 refine wpAny_execs_cons (bZ (h1 pins s σ H {D with nx:=u D} I h) fun f s1 q=> ?_)
 cases f with
 | next=>
  obtain ⟨σ',H',I',q⟩:=q
  exact h2 pins s1 σ' H' D I' q
 | ret v=>exact q
 | brk=>exact q
 | cont=>exact q
theorem aj (h1:PS X st t):PSs X [st] t:=by
 intro pins s σ H D I h
 refine wpAny_execs_cons (bZ (h1 pins s σ H D I h) fun f s1 q=> ?_)
 cases f with
 | next=>exact wpAny_execs_nil q
 | ret v=>exact q
 | brk=>exact q
 | cont=>exact q
def RO:TS:=fun D σ H=>D.ct σ H
theorem uK:PS X (.Continue pos) RO:=fun _ _ σ H _ I h=>wpAny_Continue ⟨σ,H,I,h⟩
theorem Inv.quiet {pins:ζ}{σ:St}{H:Hp}{s:Shared}(I:Inv X pins σ H s):interactive X.env=false:=by simp [interactive,I.ok.kind]
def RP (te:TE):TS:=fun D σ H=>te σ H fun _ H1=>D.nx σ H1
theorem bf (he:PE X e te)(hs:swapsWith e none pos.line X.env=pure false:=by rfl):PS X (.Expr e pos) (RP te):=by
 intro pins s σ H D I h
 exact wpAny_Expr_any (bZ (he pins s σ H _ I h) fun v s1 ⟨x,H1,I1,r1,q1⟩=>⟨σ,H1,I1,q1⟩) I.quiet hs
def ZH (te:TE):TS:=fun D σ H=>te σ H D.rt
theorem aI (he:PE X e te):PS X (.Return (some e) pos) (ZH te):=by
 intro pins s σ H D I h
 exact wpAny_Return_some (bZ (he pins s σ H _ I h) fun v s1 ⟨x,H1,I1,r1,q1⟩=>⟨x,σ,H1,I1,r1,q1⟩)
def ZI (c:TT)(t u:TS):TS:=fun D σ H=>c σ H fun b H1=>if b=true then t D σ H1 else u D σ H1
theorem bo {c:Expr}{a b:List Stmt}{tc:TT}(hc:PT X c tc)(ha:PSs X a t)(hb:PSs X b u):PS X (.If c a b pos) (ZI tc t u):=by
 intro pins s σ H D I h
 refine wpAny_If (bZ (hc pins s σ H _ I h) fun d s1 ⟨H1,I1,q1⟩=> ?_)
 cases d with
 | true=>exact ha pins s1 σ H1 D I1 q1
 | false=>exact hb pins s1 σ H1 D I1 q1
def OE:TS:=fun _ _ _=>False
theorem cT:PS X st OE:=fun _ _ _ _ _ _ h=>h.elim
end
abbrev TG:=V->St->Hp->(St->Hp->Prop)->Prop
abbrev Ng:=List V->St->Hp->(St->Hp->Prop)->Prop
def PG (X:Cx)(target:Expr)(t:TG):Prop:=
 ∀(pins:ζ) (s:Shared) (σ:St) (H:Hp) (v:V) (u:Value) (Q:St->Hp->Prop),Inv X pins σ H s->RelV v u->t v σ H Q->
  wpAny (model X.prog X.w) X.A (assign target X.env u) (fun _ s' =>∃σ' H',Inv X pins σ' H' s' /\Q σ' H') X.xe s
def RQ (X:Cx)(ts:List Expr)(t:Ng):Prop:=
 ∀(pins:ζ) (s:Shared) (σ:St) (H:Hp) (vs:η) (us:ο) (Q:St->Hp->Prop),Inv X pins σ H s->Vals vs us->t vs σ H Q->
  wpAny (model X.prog X.w) X.A (assignInOrder ((assignEach ts X.env).map (·.2)) us) (fun _ s' =>∃σ' H',Inv X pins σ' H' s' /\Q σ' H') X.xe s
abbrev OF:=V->V->V->Hp->(Hp->Prop)->Prop
def RS (X:Cx)(t:OF):Prop:=
 ∀(pins:ζ) (s:Shared) (σ:St) (H:Hp) (o i v:V) (ov iv u:Value) (Q:Hp->Prop),Inv X pins σ H s->RelV o ov->RelV i iv->RelV v u->t o i v H Q->
  wpAny (model X.prog X.w) X.A (setItem ov iv u) (fun _ s' =>∃H',Inv X pins σ H' s' /\Q H') X.xe s
section
variable {X:Cx}{pos:Pos}
def cI (i:Nat):TG:=fun v σ H Q=>Q (σ.set i (some v)) H
theorem aC {i:Nat}{x:Str}(hN:X.N.Nodup)(hi:X.N[i]? =some x)(hx:Loc X.env.scope x)(hf:X.fn x=true\/X.env.scope.names.lookup x=some .local:=by first | exact .inl rfl | exact .inr rfl | assumption):PG X (.Name x pos) (cI i):=by
 intro pins s σ H v u Q I r h
 exact wpAny_assign_Name (js I hN hi hx r (fun s' I' =>⟨_,H,I',h⟩) hf)
def OG:Ng:=fun vs σ H Q=>vs=[]/\Q σ H
def uL (t:TG)(u:Ng):Ng:=fun vs σ H Q=>∃v r,vs=v::r/\t v σ H fun σ' H' =>u r σ' H' Q
theorem b_:RQ X [] OG:=by
 intro pins s σ H vs us Q I r h
 obtain ⟨e,h⟩:=h
 subst e
 cases r
 exact assignInOrder_nil ⟨σ,H,I,h⟩
theorem aS {e:Expr}{es:List Expr}{t:TG}{u:Ng}(h1:PG X e t)(h2:RQ X es u)
  (hs:(assignEach (e::es) X.env).map (·.2)=assign e X.env::(assignEach es X.env).map (·.2):=by rfl):RQ X (e::es) (uL t u):=by
 intro pins s σ H vs us Q I r h
 obtain ⟨v,vr,e1,h⟩:=h
 subst e1
 cases r with
 | cons r rr=>
  rw [hs]
  refine assignInOrder_cons (bZ (h1 pins s σ H _ _ _ I r h) fun _ s1 ⟨σ1,H1,I1,q1⟩=> ?_)
  exact h2 pins s1 σ1 H1 _ _ Q I1 rr q1
inductive EU (K:Frag)(n:Nat)(t:Ng)(v:V)(σ:St)(H:Hp)(Q:(St->Hp->Prop)):Prop where
 | mk (a xs:_) (_:v=.ref a) (_:bN K H a xs) (_:xs.length=n) (_:t xs σ H Q):EU K n t v σ H Q
theorem dF {es:List Expr}{k:Nat}{t:Ng}{n:Nat}(hc:X.calm=true)(h:RQ X es t)
  (hn:(assignEach es X.env).length=n:=by rfl) (KZ:(assignEach es X.env).findIdx? (·.1)=none:=by rfl):PG X (.Tuple es k pos) (EU X.K n t):=by
 intro pins s σ H v u Q I r hw
 obtain ⟨a,xs,e1,hq,hl,hw⟩:=hw
 subst e1
 cases r
 obtain ⟨its,rv,ht,hz⟩:=I.tuple hq
 refine assign_Tuple_tuple (I.ok.hd hc) ht (by simp [hn, <- hl,rv.length]) KZ fun h' hx=> ?_
 have I1:Inv X pins σ H {s with heap:=h' }:=I.kept (t' :=s.toks) fun b o e=>hx b o (aaQ (Heap.lt_size e)) e
 exact h pins _ σ H xs _ Q I1 (by simpa using rv) hw
def ZJ (to ti:TE)(t:OF):TG:=fun v σ H Q=>to σ H fun o H1=>ti σ H1 fun i H2=>t o i v H2 fun H3=>Q σ H3
theorem rX {o i:Expr}{to ti:TE}{t:OF}(ho:PE X o to)(hi:PE X i ti)(hs:RS X t)
  (ha:∀v,assign (.Subscript o i pos) X.env v=(do
   let ov <- holding [v] (eval o X.env)
   let iv <- holding [v,ov] (eval i X.env)
   standAt pos
   holding [v,ov,iv] (setItem ov iv v)
   release [v,ov,iv] []):=by intro _;rfl):PG X (.Subscript o i pos) (ZJ to ti t):=by
 intro pins s σ H v u Q I r h
 rw [ha]
 refine wpAny_bind (wpAny_holding (bZ (ho pins s σ H _ I h) fun ov s1 ⟨x,H1,I1,r1,q1⟩=> ?_))
 refine wpAny_bind (wpAny_holding (bZ (hi pins s1 σ H1 _ I1 q1) fun iv s2 ⟨y,H2,I2,r2,q2⟩=> ?_))
 refine wpAny_bind (wpAny_standAt (wpAny_bind (wpAny_holding (bZ (hs pins s2 σ H2 x y v ov iv u _ I2 r1 r2 r q2) fun _ s3 ⟨H3,I3,q3⟩=> ?_))))
 exact wpAny_release ⟨σ,H3,I3,q3⟩
def K0 (te:TE)(g:TG):TS:=fun D σ H=>te σ H fun x H1=>g x σ H1 D.nx
theorem nC {tg e:Expr}{te:TE}{g:TG}(he:PE X e te)(hg:PG X tg g)(hs:swapsWithSole [tg] e pos.line X.env=pure false:=by rfl)(hw:swappedStores [tg] e X.env=pure none:=by rfl)
  (h1:(assignEach [tg] X.env).map (·.2)=[assign tg X.env]:=by rfl):PS X (.Assign [tg] e pos) (K0 te g):=by
 intro pins s σ H D I h
 refine wpAny_Assign_stores (bZ (he pins s σ H _ I h) fun v s1 ⟨x,H1,I1,r1,q1⟩=> ?_) hs hw
 rw [h1]
 exact bZ (hg pins s1 σ H1 x v _ I1 r1 q1) fun _ s2 q=>q
theorem aF {i:Nat}{x:Str}{e:Expr}{te:TE}{pos' :Pos}(hN:X.N.Nodup)(hi:X.N[i]? =some x)(hx:Loc X.env.scope x)(he:PE X e te)(hs:swapsWith e (some (.Name x pos')) pos.line X.env=pure false:=by rfl)(hf:X.fn x=true\/X.env.scope.names.lookup x=some .local:=by first | exact .inl rfl | exact .inr rfl | assumption):
  PS X (.Assign [.Name x pos'] e pos) (K0 te (cI i)):=by
 intro pins s σ H D I h
 refine wpAny_Assign_Name (bZ (he pins s σ H _ I h) fun v s1 ⟨y,H1,I1,r1,q1⟩=> ?_) hs
 exact js I1 hN hi hx r1 (fun s2 I2=>⟨_,H1,I2,q1⟩) hf
inductive Nh (i:Nat)(j:Nat)(D:Ends)(σ:St)(vs:η)(H1:Hp):Prop where
 | mk (v w:_) (_:vs=[v,w]) (_:D.nx ((σ.set i (some v)).set j (some w)) H1):Nh i j D σ vs H1
def ZK (i j:Nat)(ta:TA):TS:=fun D σ H=>ta σ H fun vs H1=>Nh i j D σ vs H1
theorem OH {i j:Nat}{x y:Str}{a b:Expr}{ta:TA}{px py pt:Pos}{kt k2 ZL}(hc:X.calm=true)(hN:X.N.Nodup)(hi:X.N[i]? =some x)(hj:X.N[j]? =some y)(hij:i≠j)
  (hx:X.env.scope.names.lookup x=some .local) (hy:X.env.scope.names.lookup y=some .local) (ha:PA X [a,b] ta)
  (hw:swappedStores [.Tuple [.Name x px,.Name y py] kt pt] (.Tuple [a,b] k2 ZL) X.env=pure (some [x,y]))
  (hs:swapsWithSole [.Tuple [.Name x px,.Name y py] kt pt] (.Tuple [a,b] k2 ZL) pos.line X.env=pure false:=by rfl):
  PS X (.Assign [.Tuple [.Name x px,.Name y py] kt pt] (.Tuple [a,b] k2 ZL) pos) (ZK i j ta):=by
 intro pins s σ H D I h
 rw [exec_Assign_arm]
 refine wpAny_bind (wpAny_standAt ?_)
 rw [hs]
 refine wpAny_bind (wpAny_pure ?_)
 rw [if_neg (by decide)]
 refine wpAny_bind (Tuple_ (bZ (ha _ pins s σ H _ I h) fun us s1 ⟨vs,H1,I1,r1,q1⟩=> ?_))
 obtain ⟨v,w,e1,q1⟩:=q1
 subst e1
 obtain ⟨u1,u2,rfl,rv,mK⟩:∃u1 u2,us=[u1,u2]/\RelV v u1/\RelV w u2:=by
  cases r1 with
  | cons p q=>
   cases q with
   | cons p' q' =>
    cases q'
    exact ⟨_,_,rfl,p,p'⟩
 refine wpAny_newObj_type ?_ (by show 2<=sizeLine;decide)
 have I2:Inv X pins σ H1 {s1 with heap:=s1.heap.push {cls:=.type "tuple",data:=.seq [u1,u2].toArray}}:=I1.kept (t' :=s1.toks) fun b o e=>Heap.get?_push_of_some _ e
 rw [hw]
 refine wpAny_bind (wpAny_pure ?_)
 show wpAny (model X.prog X.w) X.A (do rule "assign.swapped-stores";let items <- unpackItems (.ref s1.heap.objs.size) 2 none;assignInOrder [fun v=>bindName X.env y v,fun v=>bindName X.env x v] items.reverse;pure Flow.next) _ _ _
 refine wpAny_bind (wpAny_rule (wpAny_bind (unpackItems_tuple (items:= #[u1,u2]) (I.ok.hd hc) (IsTup.new s1.heap _) fun h' uE => ?_)))
 have I3:=I2.kept (h' :=h') (t' :=s1.toks) fun b o e=>uE b o (aaQ (Heap.lt_size e)) e
 show wpAny _ _ (assignInOrder [fun v=>bindName X.env y v,fun v=>bindName X.env x v] [u2,u1] >>=fun _=>pure Flow.next) _ _ _
 refine wpAny_bind (assignInOrder_cons (wpAny_bindName (js I3 hN hj (.inl hy) mK (fun s2 I4=> ?_) (.inr hy))))
 refine assignInOrder_cons (wpAny_bindName (js I4 hN hi (.inl hx) rv (fun s3 I5=>assignInOrder_nil (wpAny_pure ?_)) (.inr hx)))
 rw [List.set_comm _ _ (aaO hij)] at I5
 exact ⟨_,H1,I5,q1⟩
def EV (c:TT)(tb:TS):TS:=fun D σ H=>∃W:Nat->St->Hp->Prop,(∃m,W m σ H)/\∀m σ H,W m σ H->
 c σ H fun b H1=>if b=true then ∃N:St->Hp->Prop,(∀σ' H',N σ' H' ->∃m',m' < m/\W m' σ' H')/\tb {D with nx:=N,ct:=N,bk:=D.nx} σ H1 else D.nx σ H1
theorem nE {c:Expr}{body:List Stmt}{tc:TT}{tb:TS}(hp:PassesOwn (model X.prog X.w) X.A X.env X.xe)(hc:PT X c tc)(hb:PSs X body tb):PS X (.While c body [] pos) (EV tc tb):=by
 intro pins s σ H D I h
 obtain ⟨W,⟨m0,w0⟩,turn⟩:=h
 refine wpAny_While (codeAny_whileLoop (fun n s' =>∃σ' H',Inv X pins σ' H' s' /\W n σ' H') ?_ m0 ⟨σ,H,I,w0⟩)
 rintro n s1 ⟨σ1,H1,I1,w1⟩
 refine wpAny_passesOwn hp (bZ (hc pins s1 σ1 H1 _ I1 (turn n σ1 H1 w1)) fun b s2 ⟨H2,I2,q2⟩=> ?_)
 cases b with
 | true=>
  obtain ⟨N,hN,q2⟩:=q2
  rw [if_pos rfl]
  refine wpAny_passesOwn hp (bZ (hb pins s2 σ1 H2 _ I2 q2) fun f s3 q3=> ?_)
  cases f with
  | next=>
   obtain ⟨σ3,H3,I3,n3⟩:=q3
   obtain ⟨m',hm,w3⟩:=hN σ3 H3 n3
   exact ⟨m',hm,σ3,H3,I3,w3⟩
  | cont=>
   obtain ⟨σ3,H3,I3,n3⟩:=q3
   obtain ⟨m',hm,w3⟩:=hN σ3 H3 n3
   exact ⟨m',hm,σ3,H3,I3,w3⟩
  | brk=>exact q3
  | ret v=>exact q3
 | false=>
  rw [if_neg aaz]
  exact wpAny_execs_nil ⟨σ1,H2,I2,q2⟩
end
structure It where
 go:Nat->Hp->Prop
 EW:Nat->Hp->V->Hp->Prop
 stop:Nat->Hp->Prop
def h7 (X:Cx)(pins:ζ)(H:Hp)(b:Addr):Prop:=
 H b=none/\b≠X.env.locals/\b∉X.fs/\(b∈X.ex\/X.s₀.heap.objs.size<=b)/\(∀x c,X.env.cells.lookup x=some c->c≠b)/\∀p∈X.pn++pins,p.1≠b
theorem Inv.nG {X:Cx}{pins:ζ}{σ:St}{H H' :Hp}{s:Shared}{b:Addr}(I:Inv X pins σ H s)(hb:s.heap.objs.size<=b)(hn:H' b=none):h7 X pins H' b:=by
 refine ⟨hn,ahX (aaD I.lt hb),I.ZA hb,.inr (aaf I.sz hb),fun x c e z=> ?_,fun p hp z=> ?_⟩
 ·obtain ⟨v,q⟩:=I.cell x c e
  exact absurd (aaD q.lt (by rw [z];exact hb)) (ab5 _)
 ·exact absurd (aaD (Heap.lt_size (I.pin p hp).1) (by rw [z];exact hb)) (ab5 _)
structure Turn (P:Program)(w:World)(K:Frag)(tg:Expr)(J:It)(fp:List Addr)(it:Addr)(tn:Nat->Heap->Prop):Prop where
 mem:it∈fp
 obj:∀i h,tn i h->∀b∈fp,∃o,h.get? b=some o/\∀v,o.data≠.cell v
 keep:∀i h h',tn i h->(∀b∈fp,∀o,h.get? b=some o->h'.get? b=some o)->tn i h'
 item:∀(X:Cx),X.prog=P->X.w=w->X.K=K->X.calm=true->∀(i:Nat) (pins:ζ) (s:Shared) (σ:St) (H:Hp) (E:δ),Inv X pins σ H s->(∀b∈fp,h7 X pins H b)->tn i s.heap->J.go i H->
  wpAny (model P w) X.A (pyNext (.ref it)) (fun r s1=>∃u,r=some u/\
   wpAny (model P w) X.A (letOwnedTupleGo tg (.ref it) u) (fun _ s2=>∃x H',Inv X pins σ H' s2/\RelV x u/\J.EW i H x H' /\tn (i+1) s2.heap/\∀b∈fp,H' b=none) E s1) E s
 done:∀(X:Cx),X.prog=P->X.w=w->X.K=K->X.calm=true->∀(i:Nat) (pins:ζ) (s:Shared) (σ:St) (H:Hp) (E:δ),Inv X pins σ H s->(∀b∈fp,h7 X pins H b)->tn i s.heap->J.stop i H->
  wpAny (model P w) X.A (pyNext (.ref it)) (fun r s1=>r=none/\Inv X pins σ H s1) E s
 self:∀(A:Around) (i:Nat) (s:Shared) (Q:δ) (E:δ),tn i s.heap->Q (.ref it) s->wpAny (model P w) A (pyIter (.ref it)) Q E s
abbrev TI:=St->Hp->(It->Hp->Prop)->Prop
def PIE (X:Cx)(pins:ζ)(σ:St)(tg:Expr)(R:It->Hp->Prop)(RT:Value)(s2:Shared):Prop:=
 ∃(it:Addr) (fp:List Addr) (tn:Nat->Heap->Prop) (J:It) (H' :Hp),RT=.ref it/\Inv X pins σ H' s2/\Turn X.prog X.w X.K tg J fp it tn/\tn 0 s2.heap/\(∀b∈fp,h7 X pins H' b)/\R J H'
def PI (X:Cx)(tg iter:Expr)(wi:TI):Prop:=
 ∀(pins:ζ) (s:Shared) (σ:St) (H:Hp) (R:It->Hp->Prop),Inv X pins σ H s->wi σ H R->
  wpAny (model X.prog X.w) X.A (eval iter X.env) (fun v s1=>wpAny (model X.prog X.w) X.A (pyIter v) (PIE X pins σ tg R) X.xe s1) X.xe s
theorem EX {M : Model} {A : Around} {E : Value -> Shared -> Prop} {s : Shared} {tg : Expr} {it : Addr} {u : Value} {o : Obj} {n : String} {vs : Array Value} {Q : Unit -> Shared -> Prop} (ho : s.heap.get? it = some o) (hc : o.cls = .type n) (hd : o.data = .fields vs)
    (hn : ["enumerate", "zip", "dict_itemiterator", "dict_reverseitemiterator", "odict_iterator", "itertools.zip_longest", "itertools.pairwise"].contains n = false) (hQ : Q () s) : wpAny M A (letOwnedTupleGo tg (.ref it) u) Q E s := by
  unfold letOwnedTupleGo
  cases tg <;> first
    | exact wpAny_pure hQ
    | (cases u <;> first
        | exact wpAny_pure hQ
        | (refine wpAny_bind (wpAny_load ho ?_)
           rw [hc, hd]
           show wpAny M A (if (["enumerate", "zip", "dict_itemiterator", "dict_reverseitemiterator", "odict_iterator", "itertools.zip_longest", "itertools.pairwise"].contains n && vs[0]? == some (rawInt _)) = true then _ else _) Q E s
           rw [if_neg (by intro h; rw [hn, Bool.false_and] at h; cases h)]
           exact wpAny_pure hQ))
def K1 (K:Frag)(a:Addr):It:=
 ⟨fun i H=>∃xs x,a8 K H a xs/\xs[i]? =some x,fun i H x H' =>H' =H/\∀xs,a8 K H a xs->xs[i]? =some x,fun i H=>∃xs,a8 K H a xs/\xs.length<=i⟩
def RU (K:Frag)(a:Addr):It:=
 ⟨fun i H=>∃xs x,bN K H a xs/\xs[i]? =some x,fun i H x H' =>H' =H/\∀xs,bN K H a xs->xs[i]? =some x,fun i H=>∃xs,bN K H a xs/\xs.length<=i⟩
def Ni (lo:Int)(n:Nat):It:=⟨fun i _=>i < n,fun i H x H' =>H' =H/\x=.int (lo+i),fun i _=>n<=i⟩
theorem zT {P:Program}{w:World}{K:Frag}{tg:Expr}(a it:Addr):Turn P w K tg (K1 K a) [it] it (fun i h=>h.IsListIter it a i) where
 mem:=by simp
 obj:=fun i h st b hb=>by
  have e:b=it:=by simpa using hb
  subst e
  obtain ⟨o,e,c,d⟩:=st
  exact ⟨o,e,fun v z=>by rw [d] at z;cases z⟩
 keep:=fun i h h' st k=>st.at fun o e=>k it (by simp) o e
 item:=by
  intro X hP hw hK hc i pins s σ H E I hf st hg
  subst hP hw hK
  obtain ⟨xs,x,hq,hx⟩:=hg
  obtain ⟨its,rv,p,hz⟩:=I.list hq
  obtain ⟨u,hu,ru⟩:=rv.get hx
  obtain ⟨f0,f1,f2,f3,f4,f5⟩:=hf it (by simp)
  refine wpAny_pyNext_list_item st p.isList (x:=u) (by simpa using hu) fun h' JZ sb=> ?_
  have I1:Inv X pins σ H {s with heap:=h' }:=I.turned (t' :=s.toks) (fun b o hb e=>(sb.2 b hb).trans e) f0 f1 f3 f4 f5
  obtain ⟨o,e,c,d⟩:=id JZ
  exact ⟨u,rfl,EX (s:={s with heap:=h' }) e c d (by decide) ⟨x,H,I1,ru,⟨rfl,fun ys hy=>by rw [I.hV hy hq];exact hx⟩,JZ,fun b hb=>(hf b hb).1⟩⟩
 done:=by
  intro X hP hw hK hc i pins s σ H E I hf st hg
  subst hP hw hK
  obtain ⟨xs,hq,hx⟩:=hg
  obtain ⟨its,rv,p,hz⟩:=I.list hq
  obtain ⟨f0,f1,f2,f3,f4,f5⟩:=hf it (by simp)
  have hl:=rv.length
  exact wpAny_pyNext_list_end (I.ok.hd hc) st p.isList (by simp;omega) fun h' eb=>⟨rfl,I.turned (t' :=s.toks) (fun b o hb e=>eb b o hb e) f0 f1 f3 f4 f5⟩
 self:=fun _ _ _ _ _ st h=>wpAny_pyIter_listiter st h
theorem wJ {P:Program}{w:World}{K:Frag}{tg:Expr}(a it:Addr):Turn P w K tg (RU K a) [it] it (fun i h=>h.IsTupleIter it a i) where
 mem:=by simp
 obj:=fun i h st b hb=>by
  have e:b=it:=by simpa using hb
  subst e
  obtain ⟨o,e,c,d⟩:=st
  exact ⟨o,e,fun v z=>by rw [d] at z;cases z⟩
 keep:=fun i h h' st k=>st.at fun o e=>k it (by simp) o e
 item:=by
  intro X hP hw hK hc i pins s σ H E I hf st hg
  subst hP hw hK
  obtain ⟨xs,x,hq,hx⟩:=hg
  obtain ⟨its,rv,p,hz⟩:=I.tuple hq
  obtain ⟨u,hu,ru⟩:=rv.get hx
  obtain ⟨f0,f1,f2,f3,f4,f5⟩:=hf it (by simp)
  refine wpAny_pyNext_tuple_item st (show s.heap.IsTuple a its.toArray from p) (x:=u) (by simpa using hu) fun h' JZ sb=> ?_
  have I1:Inv X pins σ H {s with heap:=h' }:=I.turned (t' :=s.toks) (fun b o hb e=>(sb.2 b hb).trans e) f0 f1 f3 f4 f5
  obtain ⟨o,e,c,d⟩:=id JZ
  exact ⟨u,rfl,EX (s:={s with heap:=h' }) e c d (by decide) ⟨x,H,I1,ru,⟨rfl,fun ys hy=>by rw [I.gc hy hq];exact hx⟩,JZ,fun b hb=>(hf b hb).1⟩⟩
 done:=by
  intro X hP hw hK hc i pins s σ H E I hf st hg
  subst hP hw hK
  obtain ⟨xs,hq,hx⟩:=hg
  obtain ⟨its,rv,p,hz⟩:=I.tuple hq
  obtain ⟨f0,f1,f2,f3,f4,f5⟩:=hf it (by simp)
  have hl:=rv.length
  exact wpAny_pyNext_tuple_end (I.ok.hd hc) st (show s.heap.IsTuple a its.toArray from p) (by simp;omega) fun h' eb=>⟨rfl,I.turned (t' :=s.toks) (fun b o hb e=>eb b o hb e) f0 f1 f3 f4 f5⟩
 self:=fun _ _ _ _ _ st h=>wpAny_pyIter_tupleiter st h
theorem wK {P:Program}{w:World}{K:Frag}{tg:Expr}(it:Addr)(lo:Int)(n:Nat):Turn P w K tg (Ni lo n) [it] it (fun i h=>IsRangeIter h it (lo+(i:Nat)*1) ((n:Int) - (i:Nat)) 1) where
 mem:=by simp
 obj:=fun i h st b hb=>by
  have e:b=it:=by simpa using hb
  subst e
  exact ⟨_,st,fun v z=>by
   have z' :Data.fields _=Data.cell v:=z
   cases z'⟩
 keep:=fun i h h' st k=>k it (by simp) _ st
 item:=by
  intro X hP hw hK hc i pins s σ H E I hf st hg
  subst hP hw hK
  obtain ⟨f0,f1,f2,f3,f4,f5⟩:=hf it (by simp)
  have W:=Walks.range (prog:=X.prog) (w:=X.w) (I.ok.hd hc) it lo 1 n
  refine W.item i s _ _ hg st fun v h' tk hv JZ kk=> ?_
  obtain ⟨t,rfl⟩:=hv
  have I1:Inv X pins σ H {s with heap:=h',toks:=tk}:=I.turned (fun b o hb e=>kk b o (by simpa using hb) e) f0 f1 f3 f4 f5
  refine ⟨_,rfl,EX (s:={s with heap:=h',toks:=tk}) (n:="range_iterator") JZ rfl rfl (by decide) ⟨.int (lo+i),H,I1,⟨t,?_⟩,⟨rfl,rfl⟩,JZ,fun b hb=>(hf b hb).1⟩⟩
  rw [Int.mul_one]
 done:=by
  intro X hP hw hK hc i pins s σ H E I hf st hg
  subst hP hw hK
  obtain ⟨f0,f1,f2,f3,f4,f5⟩:=hf it (by simp)
  exact wpAny_pyNext_range_end (I.ok.hd hc) st (by have:n<=i:=hg;omega) fun h' eb=>⟨rfl,I.turned (t' :=s.toks) (fun b o hb e=>eb b o hb e) f0 f1 f3 f4 f5⟩
 self:=fun _ _ _ _ _ st h=>wpAny_pyIter_rangeiter st h
end L2
namespace L2
open PySem PySem.Spec PyProof.Rows
section
variable {X:Cx}{tg:Expr}
inductive EY (K:Frag)(R:(It->Hp->Prop))(x:V)(H1:Hp):Prop where
 | mk (a:_) (_:x=.ref a) (_:(∃xs,a8 K H1 a xs)) (_:R (K1 K a) H1):EY K R x H1
def Nj (K:Frag)(tl:TE):TI:=fun σ H R=>tl σ H fun x H1=>EY K R x H1
inductive Nk (K:Frag)(R:(It->Hp->Prop))(x:V)(H1:Hp):Prop where
 | mk (a:_) (_:x=.ref a) (_:(∃xs,bN K H1 a xs)) (_:R (RU K a) H1):Nk K R x H1
def ZM (K:Frag)(tl:TE):TI:=fun σ H R=>tl σ H fun x H1=>Nk K R x H1
theorem bu {l:Expr}{tl:TE}(hl:PE X l tl):PI X tg l (Nj X.K tl):=by
 intro pins s σ H R I h
 refine bZ (hl pins s σ H _ I h) fun v s1 ⟨x,H1,I1,r1,q1⟩=> ?_
 obtain ⟨a,e,⟨xs,hq⟩,q⟩:=q1
 subst e
 cases r1
 obtain ⟨its,rv,p,hz⟩:=I1.list hq
 refine wpAny_pyIter_list p.isList ?_
 refine ⟨s1.heap.objs.size,[s1.heap.objs.size],_,_,H1,rfl,I1.kept (t' :=s1.toks) fun b o e=>Heap.get?_push_of_some _ e,zT a _,⟨_,Heap.get?_push_size _ rfl,rfl,rfl⟩,fun b hb=> ?_,q⟩
 have e:b=s1.heap.objs.size:=by simpa using hb
 subst e
 exact I1.nG (aah _) (I1.bH.fresh (aah _))
theorem OI {l:Expr}{tl:TE}(hl:PE X l tl):PI X tg l (ZM X.K tl):=by
 intro pins s σ H R I h
 refine bZ (hl pins s σ H _ I h) fun v s1 ⟨x,H1,I1,r1,q1⟩=> ?_
 obtain ⟨a,e,⟨xs,hq⟩,q⟩:=q1
 subst e
 cases r1
 obtain ⟨its,rv,p,hz⟩:=I1.tuple hq
 refine wpAny_pyIter_tuple (show s1.heap.IsTuple a its.toArray from p) ?_
 refine ⟨s1.heap.objs.size,[s1.heap.objs.size],_,_,H1,rfl,I1.kept (t' :=s1.toks) fun b o e=>Heap.get?_push_of_some _ e,wJ a _,⟨_,Heap.get?_push_size _ rfl,rfl,rfl⟩,fun b hb=> ?_,q⟩
 have e:b=s1.heap.objs.size:=by simpa using hb
 subst e
 exact I1.nG (aah _) (I1.bH.fresh (aah _))
theorem EZ {pins:ζ}{σ:St}{H:Hp}{s:Shared}{R:It->Hp->Prop}{E:δ}{lo hi:Int}{t u v:Tok}{tk:Nat}(I:Inv X pins σ H s)(h1: -(2^62)<=lo)(h2:lo < 2^62)(h3: -(2^62)<=hi)(h4:hi < 2^62)
  (q:R (Ni lo (hi - lo).toNat) H):wpAny (model X.prog X.w) X.A (pyIter (.ref s.heap.objs.size)) (PIE X pins σ tg R) E {s with heap:=s.heap.push {cls:=.type "range",data:=.fields #[.int lo t,.int hi u,.int 1 v]},toks:=tk}:=by
 refine wpAny_pyIter_range (IsRange.new ..) (small_one h1 h2 h3 h4) ?_
 have I1:Inv X pins σ H {s with heap:=s.heap.push {cls:=.type "range",data:=.fields #[.int lo t,.int hi u,.int 1 v]},toks:=tk}:=I.kept fun b o e=>Heap.get?_push_of_some _ e
 refine ⟨(s.heap.push {cls:=.type "range",data:=.fields #[.int lo t,.int hi u,.int 1 v]}).objs.size,[(s.heap.push {cls:=.type "range",data:=.fields #[.int lo t,.int hi u,.int 1 v]}).objs.size],_,_,H,rfl,
  I1.kept (t' :=tk) fun b o e=>Heap.get?_push_of_some _ e,wK _ lo (hi - lo).toNat,?_,fun b hb=> ?_,q⟩
 ·have e1:lo+((0:Nat):Int)*1=lo:=by simp
  have e2:(((hi - lo).toNat:Nat):Int) - ((0:Nat):Int)=Builtin.Range.rangeSize lo hi 1:=by rw [rangeSize_one];split <;> omega
  show IsRangeIter _ _ (lo+((0:Nat):Int)*1) ((((hi - lo).toNat:Nat):Int) - ((0:Nat):Int)) 1
  rw [e1,e2]
  exact Heap.get?_push_size _ rfl
 ·have e:b=(s.heap.push {cls:=.type "range",data:=.fields #[.int lo t,.int hi u,.int 1 v]}).objs.size:=by simpa using hb
  subst e
  exact I1.nG (aah _) (I1.bH.fresh (aah _))
inductive FA (R:(It->Hp->Prop))(vs:η)(H1:Hp):Prop where
 | mk (j:Int) (_:vs=[.int j]) (_: -(2^62)<=j) (_:j < 2^62) (_:R (Ni 0 j.toNat) H1):FA R vs H1
def RV (ta:TA):TI:=fun σ H R=>ta σ H fun vs H1=>FA R vs H1
theorem dJ {a:Expr}{ta:TA}{p pos:Pos}(hg:Gl X "range")(hm:X.mg "range"=none)(ha:PA X [a] ta)(hs:starEach [a] X.env=[(false,eval a X.env)]:=by rfl):PI X tg (.Call (.Name "range" p) [a] [] pos) (RV ta):=by
 intro pins s σ H R I h
 refine Call_ (gG I hg hm boot_range (PyProof.Rows.callWith_type1 (bZ (ha pos pins s σ H _ I h) fun us s1 ⟨vs,H1,I1,r1,q1⟩=> ?_) hs rfl))
 obtain ⟨j,e,q1,q2,q⟩:=q1
 subst e
 cases r1 with
 | cons r rr=>
  cases rr
  obtain ⟨t,rfl⟩:=r
  exact call_range_1 (EZ I1 (by omega) (by omega) q1 q2 (by simpa using q))
def ZN (wi:TI)(g:TG)(tb:TS):TS:=fun D σ H=>wi σ H fun J H1=>∃W:Nat->Nat->St->Hp->Prop,(∃m,W 0 m σ H1)/\∀i m σ H,W i m σ H->
 (J.stop i H/\D.nx σ H)\/(J.go i H/\∃N:St->Hp->Prop,(∀σ' H',N σ' H' ->∃m',m' < m/\W (i+1) m' σ' H')/\∀x H',J.EW i H x H' ->g x σ H' fun σ2 H2=>tb {D with nx:=N,ct:=N,bk:=D.nx} σ2 H2)
def ki (fp:List Addr)(h:Heap):List (Addr×Obj):=fp.filterMap fun b=>(h.get? b).map fun o=>(b,o)
theorem eE {fp:List Addr}{h:Heap}{b:Addr}{o:Obj}(hb:b∈fp)(e:h.get? b=some o):(b,o)∈ki fp h:=ahZ.mpr ⟨b,hb,by rw [e];rfl⟩
theorem zU {fp:List Addr}{h:Heap}{p:Addr×Obj}(hp:p∈ki fp h):p.1∈fp/\h.get? p.1=some p.2:=by
 obtain ⟨b,hb,e⟩:=ahZ.mp hp
 cases q:h.get? b with
 | none=>rw [q] at e;cases e
 | some o=>
  rw [q] at e
  have e' :(b,o)=p:=aaM e
  subst e'
  exact ⟨hb,q⟩
theorem Inv.pinned {pins:ζ}{σ:St}{H:Hp}{s:Shared}{fp:List Addr}(I:Inv X pins σ H s)(hf:∀b∈fp,h7 X pins H b)(ho:∀b∈fp,∃o,s.heap.get? b=some o/\∀v,o.data≠.cell v):Inv X (pins++ki fp s.heap) σ H s:=
 I.ya fun p hp=>(aaF.mp hp).elim (fun z=>I.pin p (aaV _ z)) fun z=>by
  obtain ⟨hb,e⟩:=zU z
  obtain ⟨f0,f1,f2,_⟩:=hf p.1 hb
  obtain ⟨o,e',d⟩:=ho p.1 hb
  rw [e] at e';cases e'
  exact ⟨e,f0,f1,f2,d⟩
theorem Inv.fu {pins pl:ζ}{σ:St}{H:Hp}{s:Shared}(I:Inv X (pins++pl) σ H s):Inv X pins σ H s:=I.ya fun p hp=>I.pin p (aaV _ (aaZ _ hp))
theorem bD {iter:Expr}{body:List Stmt}{wi:TI}{g:TG}{tb:TS}{pos:Pos}(hp:PassesOwn (model X.prog X.w) X.A X.env X.xe)(hc:X.calm=true)(hi:PI X tg iter wi)(hg:PG X tg g)(hb:PSs X body tb)
  (hs:∀x,foldedSetIterable iter X.env x=pure x:=by intro _;rfl):PS X (.For tg iter body [] pos) (ZN wi g tb):=by
 intro pins s σ H D I h
 refine wpAny_For (bZ (hi pins s σ H _ I h) fun v s1 h1=>bZ h1 fun RT s2 h2=> ?_) hs
 obtain ⟨it,fp,tn,J,H2,e,I2,T,iP,f2,W,⟨m0,w0⟩,turn⟩:=h2
 subst e
 have stat:∀{H' :Hp},(∀b∈fp,H' b=none)->∀b∈fp,h7 X pins H' b:=fun hn b hb=>⟨hn b hb,(f2 b hb).2⟩
 refine codeAny_forLoop_any (fun n s' =>∃i σ' H',Inv X pins σ' H' s' /\tn i s'.heap/\(∀b∈fp,H' b=none)/\W i n σ' H') ?_ m0 ⟨0,σ,H2,I2,iP,fun b hb=>(f2 b hb).1,w0⟩
 rintro n s3 ⟨i,σ3,H3,I3,wz,fr3,w3⟩
 rcases turn i n σ3 H3 w3 with ⟨stop,qn⟩ | ⟨go,N,hN,step⟩
 ·refine wpAny_passesOwn hp (bZ (T.done X rfl rfl rfl hc i pins s3 σ3 H3 X.xe I3 (stat fr3) wz stop) fun r s4 ⟨hr,I4⟩=> ?_)
  subst hr
  exact wpAny_execs_nil ⟨σ3,H3,I4,qn⟩
 ·refine wpAny_passesOwn hp (bZ (T.item X rfl rfl rfl hc i pins s3 σ3 H3 X.xe I3 (stat fr3) wz go) fun r s4 ⟨u,hr,h4⟩=> ?_)
  subst hr
  refine wpAny_passesOwn hp (bZ h4 fun _ s5 ⟨x,H5,I5,r5,y5,zV,OJ⟩=> ?_)
  have I5' :=I5.pinned (stat OJ) (T.obj _ _ zV)
  refine wpAny_passesOwn hp (bZ (hg _ s5 σ3 H5 x u _ I5' r5 (step x H5 y5)) fun _ s6 ⟨σ6,H6,I6,q6⟩=> ?_)
  refine wpAny_passesOwn hp (bZ (hb _ s6 σ6 H6 _ I6 q6) fun f s7 q7=> ?_)
  have again:∀{σ7:St} {H7:Hp},Inv X (pins++ki fp s5.heap) σ7 H7 s7->N σ7 H7->∃m,m < n/\∃i σ' H',Inv X pins σ' H' s7/\tn i s7.heap/\(∀b∈fp,H' b=none)/\W i m σ' H' :=fun {σ7 H7} I7 n7=>by
   obtain ⟨m',hm,w7⟩:=hN σ7 H7 n7
   refine ⟨m',hm,i+1,σ7,H7,I7.fu,T.keep _ _ _ zV fun b hb o e=>(I7.pin (b,o) (aaV _ (aaV _ (eE hb e)))).1,fun b hb=> ?_,w7⟩
   obtain ⟨o,e,d⟩:=T.obj _ _ zV b hb
   exact (I7.pin (b,o) (aaV _ (aaV _ (eE hb e)))).2.1
  cases f with
  | next=>obtain ⟨σ7,H7,I7,n7⟩:=q7;exact again I7 n7
  | cont=>obtain ⟨σ7,H7,I7,n7⟩:=q7;exact again I7 n7
  | brk=>obtain ⟨σ7,H7,I7,q7⟩:=q7;exact ⟨σ7,H7,I7.fu,q7⟩
  | ret v=>obtain ⟨x7,σ7,H7,I7,r7,q7⟩:=q7;exact ⟨x7,σ7,H7,I7.fu,r7,q7⟩
end
theorem bO {K:Frag}{a:Addr}{xs:η}{g:TG}{tb:TS}{D:Ends}{σ:St}{H:Hp}(Pv:Nat->St->Hp->Prop)(h0:Pv 0 σ H)(hl:∀i σ H,i<=xs.length->Pv i σ H->a8 K H a xs)
  (hs:∀i x σ H,xs[i]? =some x->Pv i σ H->g x σ H fun σ2 H2=>tb {D with nx:=Pv (i+1),ct:=Pv (i+1),bk:=D.nx} σ2 H2) (hd:∀σ H,Pv xs.length σ H->D.nx σ H):
  ∃W:Nat->Nat->St->Hp->Prop,(∃m,W 0 m σ H)/\∀i m σ H,W i m σ H->
   ((K1 K a).stop i H/\D.nx σ H)\/((K1 K a).go i H/\∃N:St->Hp->Prop,(∀σ' H',N σ' H' ->∃m',m' < m/\W (i+1) m' σ' H')/\∀x H',(K1 K a).EW i H x H' ->g x σ H' fun σ2 H2=>tb {D with nx:=N,ct:=N,bk:=D.nx} σ2 H2):=by
 refine ⟨fun i m σ H=>m=xs.length - i/\i<=xs.length/\Pv i σ H,⟨xs.length,by simp,aaX _,h0⟩,?_⟩
 rintro i m σ H ⟨rfl,hi,p⟩
 have q:=hl i σ H hi p
 by_cases kc:i < xs.length
 ·refine .inr ⟨⟨xs,xs[i],q,by simp [kc]⟩,Pv (i+1),fun σ' H' p' =>⟨xs.length - (i+1),by omega,rfl,kc,p'⟩,fun x H' y=> ?_⟩
  obtain ⟨e,y⟩:=y
  subst e
  exact hs i x σ _ (y xs q) p
 ·have e:i=xs.length:=by omega
  subst e
  exact .inl ⟨⟨xs,q,aah _⟩,hd σ H p⟩
theorem K2 {K:Frag}{a:Addr}{xs:η}{g:TG}{tb:TS}{D:Ends}{σ:St}{H:Hp}(Pv:Nat->St->Hp->Prop)(h0:Pv 0 σ H)(hl:∀i σ H,i<=xs.length->Pv i σ H->bN K H a xs)
  (hs:∀i x σ H,xs[i]? =some x->Pv i σ H->g x σ H fun σ2 H2=>tb {D with nx:=Pv (i+1),ct:=Pv (i+1),bk:=D.nx} σ2 H2) (hd:∀σ H,Pv xs.length σ H->D.nx σ H):
  ∃W:Nat->Nat->St->Hp->Prop,(∃m,W 0 m σ H)/\∀i m σ H,W i m σ H->
   ((RU K a).stop i H/\D.nx σ H)\/((RU K a).go i H/\∃N:St->Hp->Prop,(∀σ' H',N σ' H' ->∃m',m' < m/\W (i+1) m' σ' H')/\∀x H',(RU K a).EW i H x H' ->g x σ H' fun σ2 H2=>tb {D with nx:=N,ct:=N,bk:=D.nx} σ2 H2):=by
 refine ⟨fun i m σ H=>m=xs.length - i/\i<=xs.length/\Pv i σ H,⟨xs.length,by simp,aaX _,h0⟩,?_⟩
 rintro i m σ H ⟨rfl,hi,p⟩
 have q:=hl i σ H hi p
 by_cases kc:i < xs.length
 ·refine .inr ⟨⟨xs,xs[i],q,by simp [kc]⟩,Pv (i+1),fun σ' H' p' =>⟨xs.length - (i+1),by omega,rfl,kc,p'⟩,fun x H' y=> ?_⟩
  obtain ⟨e,y⟩:=y
  subst e
  exact hs i x σ _ (y xs q) p
 ·have e:i=xs.length:=by omega
  subst e
  exact .inl ⟨⟨xs,q,aah _⟩,hd σ H p⟩
theorem fo {lo:Int}{n:Nat}{g:TG}{tb:TS}{D:Ends}{σ:St}{H:Hp}(Pv:Nat->St->Hp->Prop)(h0:Pv 0 σ H)
  (hs:∀i σ H,i < n->Pv i σ H->g (.int (lo+i)) σ H fun σ2 H2=>tb {D with nx:=Pv (i+1),ct:=Pv (i+1),bk:=D.nx} σ2 H2) (hd:∀σ H,Pv n σ H->D.nx σ H):
  ∃W:Nat->Nat->St->Hp->Prop,(∃m,W 0 m σ H)/\∀i m σ H,W i m σ H->
   ((Ni lo n).stop i H/\D.nx σ H)\/((Ni lo n).go i H/\∃N:St->Hp->Prop,(∀σ' H',N σ' H' ->∃m',m' < m/\W (i+1) m' σ' H')/\∀x H',(Ni lo n).EW i H x H' ->g x σ H' fun σ2 H2=>tb {D with nx:=N,ct:=N,bk:=D.nx} σ2 H2):=by
 refine ⟨fun i m σ H=>m=n - i/\i<=n/\Pv i σ H,⟨n,by simp,aaX _,h0⟩,?_⟩
 rintro i m σ H ⟨rfl,hi,p⟩
 by_cases kc:i < n
 ·refine .inr ⟨kc,Pv (i+1),fun σ' H' p' =>⟨n - (i+1),by omega,rfl,kc,p'⟩,fun x H' y=> ?_⟩
  obtain ⟨e,y⟩:=y
  subst e y
  exact hs i σ _ kc p
 ·have e:i=n:=by omega
  subst e
  exact .inl ⟨aah _,hd σ H p⟩
theorem uM {c:TT}{tb:TS}{D:Ends}{σ:St}{H:Hp}(Pv:St->Hp->Prop)(μ:St->Hp->Nat)(h0:Pv σ H)
  (hs:∀σ H,Pv σ H->c σ H fun b H1=>if b=true then tb {D with nx:=fun σ' H' =>Pv σ' H' /\μ σ' H' < μ σ H,ct:=fun σ' H' =>Pv σ' H' /\μ σ' H' < μ σ H,bk:=D.nx} σ H1 else D.nx σ H1)
  (mono:∀σ H Q Q',(∀b H1,Q b H1->Q' b H1)->c σ H Q->c σ H Q'):EV c tb D σ H:=by
 refine ⟨fun m σ H=>m=μ σ H/\Pv σ H,⟨_,rfl,h0⟩,?_⟩
 rintro m σ H ⟨rfl,p⟩
 refine mono σ H _ _ (fun b H1 q=> ?_) (hs σ H p)
 cases b with
 | true=>exact ⟨_,fun σ' H' ⟨p',l⟩=>⟨_,l,rfl,p'⟩,q⟩
 | false=>exact q
end L2
namespace L2
open PySem PySem.Spec PyProof.Rows
abbrev R2:=V->V->Hp->VK->Prop
def jq (X:Cx)(f:Value->Value->Sem Value)(r:R2):Prop:=
 ∀(pins:ζ) (s:Shared) (σ:St) (H:Hp) (x y:V) (v u:Value) (Q:VK),Inv X pins σ H s->RelV x v->RelV y u->r x y H Q->
  wpAny (model X.prog X.w) X.A (f v u) (EP X pins σ Q) X.xe s
def ZO (X:Cx)(f:Value->Sem Value)(r:V->Hp->VK->Prop):Prop:=
 ∀(pins:ζ) (s:Shared) (σ:St) (H:Hp) (x:V) (v:Value) (Q:VK),Inv X pins σ H s->RelV x v->r x H Q->
  wpAny (model X.prog X.w) X.A (f v) (EP X pins σ Q) X.xe s
def fw (X:Cx)(f:Value)(r:List V->Hp->VK->Prop):Prop:=
 ∀(pins:ζ) (s:Shared) (σ:St) (H:Hp) (xs:η) (us:ο) (Q:VK),Inv X pins σ H s->Vals xs us->r xs H Q->
  wpAny (model X.prog X.w) X.A (call f us) (EP X pins σ Q) X.xe s
def OK (r:R2)(ta tb:TE):TE:=fun σ H Q=>ta σ H fun x H1=>tb σ H1 fun y H2=>r x y H2 Q
def tUn (r:V->Hp->VK->Prop)(ta:TE):TE:=fun σ H Q=>ta σ H fun x H1=>r x H1 Q
inductive rI (C:Int->Int->Prop)(g:Int->Int->V)(x:V)(y:V)(H:Hp)(Q:VK):Prop where
 | mk (i j:_) (_:x=.int i) (_:y=.int j) (_:C i j) (_:Q (g i j) H):rI C g x y H Q
inductive Nl (g:Int->Int->V)(x:V)(y:V)(H:Hp)(Q:VK):Prop where
 | mk (i j:_) (_:x=.int i) (_:y=.int j) (_:Q (g i j) H):Nl g x y H Q
inductive rU (g:Int->V)(x:V)(H:Hp)(Q:VK):Prop where
 | mk (i:_) (_:x=.int i) (_:Q (g i) H):rU g x H Q
section
variable {X:Cx}{a b c:Expr}{ta tb tc:TE}{pos:Pos}
theorem OL (ha:PE X a ta)(hb:PE X b tb){pins:ζ}{s:Shared}{σ:St}{H:Hp}{R:V->V->Hp->Prop}(I:Inv X pins σ H s)
  (h:ta σ H fun x H1=>tb σ H1 fun y H2=>R x y H2) {Q:δ} {f:Value->Value->Sem Value}
  (hf:∀v u s2 x y H2,Inv X pins σ H2 s2->RelV x v->RelV y u->R x y H2->wpAny (model X.prog X.w) X.A (f v u) Q X.xe s2):
  wpAny (model X.prog X.w) X.A (eval a X.env) (fun v s₁=>wpAny (model X.prog X.w) X.A (eval b X.env) (fun u s₂=>wpAny (model X.prog X.w) X.A (f v u) Q X.xe s₂) X.xe s₁) X.xe s:=by
 refine bZ (ha pins s σ H _ I h) fun v s1 ⟨x,H1,I1,r1,q1⟩=> ?_
 refine bZ (hb pins s1 σ H1 _ I1 q1) fun u s2 ⟨y,H2,I2,r2,q2⟩=> ?_
 exact hf v u s2 x y H2 I2 r1 r2 q2
theorem aK {op:Operator}{r:R2}(ho:jq X (binaryOp op) r)(ha:PE X a ta)(hb:PE X b tb):PE X (.BinOp a op b pos) (OK r ta tb):=by
 intro pins s σ H Q I h
 exact wpAny_BinOp (OL ha hb I h fun v u s2 x y H2 I2 rx ry q=>ho pins s2 σ H2 x y v u Q I2 rx ry q)
theorem FC {op:UnaryOp}{r:V->Hp->VK->Prop}(ho:ZO X (unaryOp op) r)(ha:PE X a ta):PE X (.UnaryOp op a pos) (tUn r ta):=by
 intro pins s σ H Q I h
 exact UnaryOp_ (bZ (ha pins s σ H _ I h) fun v s1 ⟨x,H1,I1,r1,q1⟩=>ho pins s1 σ H1 x v Q I1 r1 q1)
theorem YJ {f:Value->Value->Sem Value}{C:Int->Int->Prop}{g:Int->Int->Int}
  (rule:∀(i j:Int) (t u:Tok) (s:Shared) (Q:δ) (E:δ),C i j->Q (.int (g i j) s.toks) {s with toks:=s.toks+1}->wpAny (model X.prog X.w) X.A (f (.int i t) (.int j u)) Q E s):
  jq X f (rI C fun i j=>.int (g i j)):=by
 intro pins s σ H x y v u Q I rx ry h
 obtain ⟨i,j,rfl,rfl,hc,q⟩:=h
 obtain ⟨t,rfl⟩:=rx
 obtain ⟨t',rfl⟩:=ry
 exact rule i j t t' s _ _ hc ⟨.int (g i j),H,I.tok _,⟨_,rfl⟩,q⟩
theorem RW {f:Value->Value->Sem Value}{g:Int->Int->Int}
  (rule:∀(i j:Int) (t u:Tok) (s:Shared) (Q:δ) (E:δ),Q (.int (g i j) s.toks) {s with toks:=s.toks+1}->wpAny (model X.prog X.w) X.A (f (.int i t) (.int j u)) Q E s):
  jq X f (Nl fun i j=>.int (g i j)):=by
 intro pins s σ H x y v u Q I rx ry h
 obtain ⟨i,j,rfl,rfl,q⟩:=h
 obtain ⟨t,rfl⟩:=rx
 obtain ⟨t',rfl⟩:=ry
 exact rule i j t t' s _ _ ⟨.int (g i j),H,I.tok _,⟨_,rfl⟩,q⟩
theorem OM {f:Value->Value->Sem Value}{g:Int->Int->Bool}
  (rule:∀(i j:Int) (t u:Tok) (s:Shared) (Q:δ) (E:δ),Q (.bool (g i j)) s->wpAny (model X.prog X.w) X.A (f (.int i t) (.int j u)) Q E s):
  jq X f (Nl fun i j=>.bl (g i j)):=by
 intro pins s σ H x y v u Q I rx ry h
 obtain ⟨i,j,rfl,rfl,q⟩:=h
 obtain ⟨t,rfl⟩:=rx
 obtain ⟨t',rfl⟩:=ry
 exact rule i j t t' s _ _ ⟨.bl (g i j),H,I,rfl,q⟩
theorem cz:jq X (binaryOp .Add) (Nl fun i j=>.int (i+j)):=RW fun _ _ _ _ _ _ _ q=>add_int q
theorem cU:jq X (binaryOp .Sub) (Nl fun i j=>.int (i - j)):=RW fun _ _ _ _ _ _ _ q=>sub_int q
theorem K3:jq X (binaryOp .Mod) (rI (fun _ j=>j≠0) fun i j=>.int (i.fmod j)):=YJ fun _ _ _ _ _ _ _ hc q=>mod_int' hc q
theorem unI {f:Value->Sem Value}{g:Int->Int}
  (rule:∀(i:Int) (t:Tok) (s:Shared) (Q:δ) (E:δ),Q (.int (g i) s.toks) {s with toks:=s.toks+1}->wpAny (model X.prog X.w) X.A (f (.int i t)) Q E s):
  ZO X f (rU fun i=>.int (g i)):=by
 intro pins s σ H x v Q I rx h
 obtain ⟨i,rfl,q⟩:=h
 obtain ⟨t,rfl⟩:=rx
 exact rule i t s _ _ ⟨.int (g i),H,I.tok _,⟨_,rfl⟩,q⟩
theorem wL:ZO X (unaryOp .USub) (rU fun i=>.int (-i)):=unI fun _ _ _ _ _ q=>neg_int q
end
def RX:V->V->Bool
 | .cv,.cv=>true | .cv,.int _=>true | .int _,.cv=>true | .cv,.bl _=>true | .bl _,.cv=>true | .cv,.str _=>true | .str _,.cv=>true
 | .int _,.int _=>true | .bl _,.bl _=>true | .str _,.str _=>true | .byt _,.byt _=>true
 | .int _,.str _=>true | .str _,.int _=>true | .bl _,.str _=>true | .str _,.bl _=>true
 | _,_=>false
def rEq:R2:=fun x y H Q=>RX x y=true/\Q (.bl (decide (x=y))) H
def rNe:R2:=fun x y H Q=>RX x y=true/\Q (.bl (!decide (x=y))) H
theorem ye {i j:Int}:decide (V.int i=V.int j)=(i==j):=by
 rw [abj]
 simp
theorem FD {i j:Bool}:decide (V.bl i=V.bl j)=(i==j):=by
 rw [abj]
 simp
theorem yf {i j:Str}:decide (V.str i=V.str j)=(i==j):=by
 rw [abj]
 simp
theorem yg {i j:Array UInt8}:decide (V.byt i=V.byt j)=(i.toList==j.toList):=by
 rw [abj]
 cases i
 cases j
 simp
section
variable {X:Cx}{a b c:Expr}{ta tb tc:TE}{pos:Pos}
theorem bG {pins:ζ}{σ:St}{H:Hp}{s:Shared}{Q:VK}{k k' :Bool}(I:Inv X pins σ H s)(q:Q (.bl k) H)(e:k=k'):EP X pins σ Q (.bool k') s:=by
 subst e
 exact ⟨.bl k,H,I,rfl,q⟩
theorem eC:jq X (compareOp .Eq) rEq:=by
 intro pins s σ H x y v u Q I rx ry h
 obtain ⟨hs,q⟩:=h
 cases x with
 | cv=>
  cases rx
  cases y with
  | cv=>cases ry;exact PySem.EqNone.eq_none_none (bG I q (by simp))
  | bl j=>cases ry;exact PySem.EqNone.eq_none_bool (bG I q (by simp))
  | int j=>obtain ⟨t',rfl⟩:=ry;exact PySem.EqNone.eq_none_int (bG I q (by simp))
  | str j=>obtain ⟨t',rfl⟩:=ry;exact PySem.EqNone.eq_none_str (bG I q (by simp))
  | _=>exact absurd (show false=true from hs) aaz
 | bl i=>
  cases rx
  cases y with
  | cv=>cases ry;exact PySem.EqNone.eq_bool_none (bG I q (by simp))
  | bl j=>cases ry;exact eq_bool (bG I q FD)
  | str j=>obtain ⟨t',rfl⟩:=ry;exact PySem.EqMixed.eq_bool_str (bG I q (by simp))
  | _=>exact absurd (show false=true from hs) aaz
 | int i=>
  obtain ⟨t,rfl⟩:=rx
  cases y with
  | cv=>cases ry;exact PySem.EqNone.eq_int_none (bG I q (by simp))
  | int j=>obtain ⟨t',rfl⟩:=ry;exact eq_int (bG I q ye)
  | str j=>obtain ⟨t',rfl⟩:=ry;exact PySem.EqMixed.eq_int_str (bG I q (by simp))
  | _=>exact absurd (show false=true from hs) aaz
 | str i=>
  obtain ⟨t,rfl⟩:=rx
  cases y with
  | cv=>cases ry;exact PySem.EqNone.eq_str_none (bG I q (by simp))
  | bl j=>cases ry;exact PySem.EqMixed.eq_str_bool (bG I q (by simp))
  | int j=>obtain ⟨t',rfl⟩:=ry;exact PySem.EqMixed.eq_str_int (bG I q (by simp))
  | str j=>obtain ⟨t',rfl⟩:=ry;exact eq_str (bG I q yf)
  | _=>exact absurd (show false=true from hs) aaz
 | byt i=>
  obtain ⟨t,rfl⟩:=rx
  cases y with
  | byt j=>obtain ⟨t',rfl⟩:=ry;exact PySem.W.eq_bytes (bG I q yg)
  | _=>exact absurd (show false=true from hs) aaz
 | _=>cases y <;> exact absurd (show false=true from hs) aaz
theorem lE:jq X (compareOp .NotEq) rNe:=by
 intro pins s σ H x y v u Q I rx ry h
 obtain ⟨hs,q⟩:=h
 cases x with
 | cv=>
  cases rx
  cases y with
  | cv=>cases ry;exact PySem.EqNone.ne_none_none (bG I q (by simp))
  | bl j=>cases ry;exact PySem.EqNone.ne_none_bool (bG I q (by simp))
  | int j=>obtain ⟨t',rfl⟩:=ry;exact PySem.EqNone.ne_none_int (bG I q (by simp))
  | str j=>obtain ⟨t',rfl⟩:=ry;exact PySem.EqNone.ne_none_str (bG I q (by simp))
  | _=>exact absurd (show false=true from hs) aaz
 | bl i=>
  cases rx
  cases y with
  | cv=>cases ry;exact PySem.EqNone.ne_bool_none (bG I q (by simp))
  | bl j=>cases ry;exact ne_bool (bG I q (congrArg not FD))
  | str j=>obtain ⟨t',rfl⟩:=ry;exact PySem.EqMixed.ne_bool_str (bG I q (by simp))
  | _=>exact absurd (show false=true from hs) aaz
 | int i=>
  obtain ⟨t,rfl⟩:=rx
  cases y with
  | cv=>cases ry;exact PySem.EqNone.ne_int_none (bG I q (by simp))
  | int j=>obtain ⟨t',rfl⟩:=ry;exact ne_int (bG I q (congrArg not ye))
  | str j=>obtain ⟨t',rfl⟩:=ry;exact PySem.EqMixed.ne_int_str (bG I q (by simp))
  | _=>exact absurd (show false=true from hs) aaz
 | str i=>
  obtain ⟨t,rfl⟩:=rx
  cases y with
  | cv=>cases ry;exact PySem.EqNone.ne_str_none (bG I q (by simp))
  | bl j=>cases ry;exact PySem.EqMixed.ne_str_bool (bG I q (by simp))
  | int j=>obtain ⟨t',rfl⟩:=ry;exact PySem.EqMixed.ne_str_int (bG I q (by simp))
  | str j=>obtain ⟨t',rfl⟩:=ry;exact ne_str (bG I q (congrArg not yf))
  | _=>exact absurd (show false=true from hs) aaz
 | byt i=>
  obtain ⟨t,rfl⟩:=rx
  cases y with
  | byt j=>obtain ⟨t',rfl⟩:=ry;exact PySem.W.ne_bytes (bG I q (congrArg not yg))
  | _=>exact absurd (show false=true from hs) aaz
 | _=>cases y <;> exact absurd (show false=true from hs) aaz
theorem uN:jq X (compareOp .Lt) (Nl fun i j=>.bl (decide (i < j))):=OM fun _ _ _ _ _ _ _ q=>lt_int q
theorem uO:jq X (compareOp .Gt) (Nl fun i j=>.bl (decide (j < i))):=OM fun _ _ _ _ _ _ _ q=>gt_int q
theorem FE:jq X (compareOp .GtE) (Nl fun i j=>.bl (decide (j<=i))):=OM fun _ _ _ _ _ _ _ q=>ge_int q
theorem wM:jq X (compareOp .Is) (fun x y H Q=>y=.cv/\Q (.bl (decide (x=.cv))) H):=by
 intro pins s σ H x y v u Q I rx ry h
 obtain ⟨rfl,q⟩:=h
 cases ry
 refine is_none_gen (bG I q ?_)
 cases x <;> first
  | (cases rx;rfl)
  | (obtain ⟨t,rfl⟩:=rx;rfl)
theorem aZ (b:Expr){op:CmpOp}(h:op≠.In:=by decide)(h2:op≠.NotIn:=by decide):behindInMarks op b=false:=by
 have e1:(op==CmpOp.In)=false:=by cases op <;> first | rfl | exact absurd rfl h
 have e2:(op==CmpOp.NotIn)=false:=by cases op <;> first | rfl | exact absurd rfl h2
 cases b <;> simp [behindInMarks,e1,e2]
theorem jv {op:CmpOp}{r:R2}(ho:jq X (compareOp op) r)(ha:PE X a ta)(hb:PE X b tb)(hm:behindInMarks op b=false):PE X (.Compare a [op] [b] pos) (OK r ta tb):=by
 intro pins s σ H Q I h
 exact wpAny_Compare1 (OL ha hb I h fun v u s2 x y H2 I2 rx ry q=>ho pins s2 σ H2 x y v u Q I2 rx ry q) hm
inductive FF (Q:(Bool->Hp->Prop))(x:V)(H' :Hp):Prop where
 | mk (k:_) (_:x=.bl k) (_:Q k H'):FF Q x H'
def RY (t:TE):TT:=fun σ H Q=>t σ H fun x H' =>FF Q x H'
theorem aR {op:CmpOp}{r:R2}(ho:jq X (compareOp op) r)(ha:PE X a ta)(hb:PE X b tb)(hm:behindInMarks op b=false):PT X (.Compare a [op] [b] pos) (RY (OK r ta tb)):=by
 intro pins s σ H Q I h
 refine wpAny_isTrue_Compare1 (bZ (ha pins s σ H _ I h) fun v s1 ⟨x,H1,I1,r1,q1⟩=>bZ (hb pins s1 σ H1 _ I1 q1) fun u s2 ⟨y,H2,I2,r2,q2⟩=>
  bZ (ho pins s2 σ H2 x y v u _ I2 r1 r2 q2) fun c s3 ⟨z,H3,I3,r3,k,e,q3⟩=> ?_) hm
 subst e
 cases r3
 exact wpAny_truthy_bool ⟨H3,I3,q3⟩
theorem nH:(sizeLine:Nat) < 2^63:=by rw [sizeLine_eq];decide
theorem jd:jq X (binaryOp .Add) (fun x y H Q=>∃i j,x=.str i/\y=.str j/\i.length+j.length<=sizeLine/\Q (.str (i++j)) H):=by
 intro pins s σ H x y v u Q I rx ry h
 obtain ⟨i,j,rfl,rfl,hz,q⟩:=h
 obtain ⟨t,rfl⟩:=rx
 obtain ⟨t',rfl⟩:=ry
 exact add_str (fun t' tk=>⟨.str (i++j),H,I.tok _,⟨_,rfl⟩,q⟩) hz
theorem vals1 {x:V}{us:ο}(r:Vals [x] us):∃u,us=[u]/\RelV x u:=by
 cases r with
 | cons r1 r2=>cases r2;exact ⟨_,rfl,r1⟩
theorem vals2 {x y:V}{us:ο}(r:Vals [x,y] us):∃u w',us=[u,w']/\RelV x u/\RelV y w' :=by
 cases r with
 | cons r1 r2=>
  cases r2 with
  | cons r3 r4=>cases r4;exact ⟨_,_,rfl,r1,r3⟩
theorem uP:fw X (.builtin "abs") (fun xs H Q=>∃i,xs=[.int i]/\Q (.int (if i < 0 then -i else i)) H):=by
 intro pins s σ H xs us Q I r h
 obtain ⟨i,rfl,q⟩:=h
 obtain ⟨u,rfl,t,rfl⟩:=vals1 r
 exact call_abs_int fun u tk=>⟨.int (if i < 0 then -i else i),H,I.tok _,⟨_,rfl⟩,q⟩
theorem zW (hc:X.calm=true):fw X (.builtin "min") (fun xs H Q=>∃i j,xs=[.int i,.int j]/\Q (.int (if j < i then j else i)) H):=by
 intro pins s σ H xs us Q I r h
 obtain ⟨i,j,rfl,q⟩:=h
 obtain ⟨u,w',rfl,⟨t,rfl⟩,⟨t',rfl⟩⟩:=vals2 r
 refine min_two_ints (I.ok.hd hc) fun h' tk k=>⟨_,H,I.kept k,?_,q⟩
 by_cases hj:j < i
 ·rw [if_pos hj,if_pos hj];exact ⟨_,rfl⟩
 ·rw [if_neg hj,if_neg hj];exact ⟨_,rfl⟩
theorem qS:fw X (.type "int") (fun xs H Q=>(∃i,xs=[.int i]/\Q (.int i) H)\/∃k,xs=[.bl k]/\Q (.int (if k then 1 else 0)) H):=by
 intro pins s σ H xs us Q I r h
 rcases h with ⟨i,rfl,q⟩ | ⟨k,rfl,q⟩
 ·obtain ⟨u,rfl,t,rfl⟩:=vals1 r
  exact call_int_int ⟨.int i,H,I,⟨_,rfl⟩,q⟩
 ·obtain ⟨u,rfl,r1⟩:=vals1 r
  cases r1
  exact call_int_bool ⟨.int (if k then 1 else 0),H,I.tok _,⟨_,rfl⟩,q⟩
theorem rY:fw X (.type "str") (fun xs H Q=>∃i,xs=[.int i]/\i.natAbs.log2 < 1920/\Q (.str (toString i)) H):=by
 intro pins s σ H xs us Q I r h
 obtain ⟨i,rfl,hz,q⟩:=h
 obtain ⟨u,rfl,t,rfl⟩:=vals1 r
 exact PySem.P.str_of_int hz ⟨.str _,H,I.tok _,⟨_,rfl⟩,q⟩
end
end L2
namespace L2
open PySem PySem.Spec PyProof.Rows
structure wN (h:Heap)(x dx C:Addr)(mA:ι):Prop where
 obj:h.get? x=some (PySem.W.instObj C dx)
 ns:h.Ns1 dx mA
 ne:dx≠x
theorem zX {h:Heap}{dx:Addr}{mA:ι}(n:h.Ns1 dx mA):∃od,h.get? dx=some od/\∀name,PySem.W.lookIn name od=some (mA name):=by
 obtain ⟨o,es,ep,ho,hd,hk,_,hm⟩:=n
 refine ⟨o,ho,fun name=> ?_⟩
 have e:=hm name
 unfold nsFind findBy at e
 rw [<- Array.find?_toList] at e
 unfold PySem.W.lookIn
 rw [hd]
 dsimp only
 split
 ·rename_i y q
  rw [q] at e
  exact congrArg some e
 ·rename_i q
  rw [q] at e
  have a:es.toList.any (·.refKey)=false:=by
   rw [List.any_eq_false]
   intro y hy
   obtain ⟨z,t,ON⟩:=hk y (Array.mem_toList_iff.mp hy)
   simp [DictEntry.refKey,ON]
  have a' :¬ es.toList.any (·.refKey)=true:=by rw [a];exact aaz
  rw [if_neg a']
  exact congrArg some e
theorem wN.look {h:Heap}{x dx C:Addr}{mA:ι}(I:wN h x dx C mA):∃od,PySem.W.InstAt h x (PySem.W.instObj C dx) C (some od)/\∀name,PySem.W.lookIn name od=some (mA name):=
 let ⟨od,ho,hl⟩:=zX I.ns
 ⟨od,⟨I.obj,rfl,rfl,ho⟩,hl⟩
section
variable {prog:Program}{w:World}{A:Around}{E:δ}{s:Shared}{K:Frag}{x dx C f:Addr}{mA:ι}{name:Str}{v:Value}
theorem get_map {expr:Bool}{Q:δ}(X:K.In s.heap)(I:wN s.heap x dx C mA)(hg:PySem.W.plainGet K C name=true)(hh:PySem.W.hasDictIn K C=true)
  (ha:PySem.W.findIn K (.ref C) name=some none) (hv:mA name=some v) (YK :PySem.W.handedIn v=true) (h:Q v {s with toks:=s.toks+1}):
  wpAny (model prog w) A (getAttr (.ref x) name expr) Q E s:=by
 obtain ⟨od,J,hl⟩:=I.look
 exact PySem.W.get_value X J (PySem.W.plainGet_of hg).1 (PySem.W.findObj_own hh ha rfl (by rw [hl,hv])) YK h
theorem FG {pl:Sem Bool}{Q:Value×List Value->Shared->Prop}(X:K.In s.heap)(I:wN s.heap x dx C mA)(hg:PySem.W.plainGet K C name=true)
  (hf:PySem.W.findIn K (.ref C) name=some (some (.ref f))) (ht:PySem.W.isFn K (.ref f)=true) (hv:mA name=none) (h:Q (.ref f,[.ref x]) s):
  wpAny (model prog w) A (getMethod (.ref x) name pl) Q E s:=by
 obtain ⟨od,J,hl⟩:=I.look
 exact PySem.W.method_fn X J (PySem.W.plainGet_of hg).1 (PySem.W.plainGet_of hg).2 hf (beq_iff_eq.mp ht) (by show (PySem.W.lookIn name od).map (·.isSome)=some false;rw [hl,hv];rfl) h
theorem K4 {ns:List Str}{Q:Unit->Shared->Prop}(X:K.In s.heap)(I:wN s.heap x dx C mA)
  (hs:PySem.W.findIn K (.ref C) "__setattr__"=some (some (.builtin "object.__setattr__"))) (hp:PySem.W.plainOver K C=true) (ht:PySem.W.takerIn K C name=some none) (hh:PySem.W.hasDictIn K C=true)
  (hw:PySem.Within mA ns) (hsz:ns.length<=sizeLine)
  (h:∀h',wN h' x dx C (fun y=>if y=name then some v else mA y)->Heap.SameBut dx s.heap h' ->Q () {s with heap:=h',toks:=s.toks+2}):
  wpAny (model prog w) A (setAttr (.ref x) name v) Q E s:=by
 obtain ⟨od,J,hl⟩:=I.look
 refine PySem.W.set_plain X J hs (PySem.W.osa_open (s:={s with toks:=s.toks+1}) (r:=none) X J hp ht fun b=> ?_)
 obtain ⟨cd,hc,EN⟩:=PySem.W.any_some hh
 have hx:s.heap.get? x=some ⟨.ref C,some dx,.plain, #[]⟩:=I.obj
 refine wpAny_bind (wpAny_pure (wpAny_bind (wpAny_bind (wpAny_loadPart hx (wpAny_bind (PySem.W.Looks.here (s:={s with toks:=s.toks+1}) (PySem.W.looks_clsIn X hc) ?_))))))
 rw [EN]
 refine wpAny_pure (a:=some dx) (wpAny_bind (wpAny_pure (wpAny_bind ?_)))
 refine wpAny_nsSet1 (s:={s with toks:=s.toks+1}) I.ns fun h' J_ J'=> ?_
 obtain ⟨oD,esD,epD,hoD,hdD,hcD⟩:=J_.count (PySem.Within.cons name v hw)
 refine wpAny_bind (wpAny_lookBehind hoD (by rw [hdD];exact pastItsLine_dict (aaf hcD (by rw [aaY];omega))) ?_)
 exact wpAny_pure (h _ ⟨(J'.2 _ (aaO I.ne)).trans I.obj,J_,I.ne⟩ J')
theorem FH {R:Result->Shared->Prop}{vs:ο}{kw:List (Str×Value)}(X:K.In s.heap)(hm:PySem.W.makesIn K C=true)
  (hi:PySem.W.findIn K (.ref C) "__init__"=some (some (.ref f))) (hf:PySem.W.typeIn K (.ref f)=some (.type "function"))
  (h:codeAny (model prog w) (A.under (.builtin "type.__call__" ⟨.ref C::vs,kw⟩)) (.call (.ref f) ⟨.ref (s.heap.objs.size+1)::vs,kw⟩) (PySem.W.InitBack (s.heap.objs.size+1) R)
   {s with heap:=(s.heap.push PySem.W.emptyDict).push (PySem.W.instObj C s.heap.objs.size)}):
  codeAny (model prog w) A (.call (.ref C) ⟨vs,kw⟩) R s:=by
 obtain ⟨hh,g,d,t,os⟩:=s
 exact PySem.W.make_core (PySem.W.makes_of X hm) (PySem.W.looks_findIn X hi) (fun self=>PySem.W.bind_fn X self hf) (.inl rfl) h
theorem zY {R:Result->Shared->Prop}(X:K.In s.heap)(hm:PySem.W.makesIn K C=true)
  (hi:PySem.W.findIn K (.ref C) "__init__"=some (some (.builtin "object.__init__")))
  (hb:∀self,PySem.W.Looks (model prog w) s.heap (bindSpecial (.builtin "object.__init__") self) (.builtin "object.__init__",[self]))
  (h:codeAny (model prog w) (A.under (.builtin "type.__call__" ⟨[.ref C],[]⟩)) (.call (.builtin "object.__init__") ⟨[.ref (s.heap.objs.size+1)],[]⟩) (PySem.W.InitBack (s.heap.objs.size+1) R)
   {s with heap:=(s.heap.push PySem.W.emptyDict).push (PySem.W.instObj C s.heap.objs.size)}):
  codeAny (model prog w) A (.call (.ref C) ⟨[],[]⟩) R s:=by
 obtain ⟨hh,g,d,t,os⟩:=s
 exact PySem.W.make_core (PySem.W.makes_of X hm) (PySem.W.looks_findIn X hi) hb (.inr ⟨rfl,rfl⟩) h
end
def fX (f:Str)(v:V):List (Str×V)->List (Str×V)
 | []=>[(f,v)]
 | (g,x)::r=>if g=f then (g,v)::r else (g,x)::fX f v r
theorem lH (f g:Str)(v:V):∀fs:List (Str×V),(fX f v fs).lookup g=if g=f then some v else fs.lookup g
 | []=>by
  show ab7 g [(f,v)]=_
  by_cases h:g=f
  ·have hb:(g==f)=true:=beq_iff_eq.mpr h
   simp only [ab7,hb,if_pos h]
  ·have hb:(g==f)=false:=beq_eq_false_iff_ne.mpr h
   simp only [ab7,hb,if_neg h]
 | (k,x)::r=>by
  have ih:=lH f g v r
  rw [show fX f v ((k,x)::r)=(if k=f then (k,v)::r else (k,x)::fX f v r) from rfl]
  by_cases hk:k=f
  ·rw [if_pos hk]
   by_cases h:g=k
   ·have hb:(g==k)=true:=beq_iff_eq.mpr h
    simp only [ab7,hb,if_pos (h.trans hk)]
   ·have hb:(g==k)=false:=beq_eq_false_iff_ne.mpr h
    simp only [ab7,hb,if_neg (fun e:g=f=>h (e.trans hk.symm))]
  ·rw [if_neg hk]
   by_cases h:g=k
   ·have hb:(g==k)=true:=beq_iff_eq.mpr h
    simp only [ab7,hb,if_neg (fun e:g=f=>hk (h.symm.trans e))]
   ·have hb:(g==k)=false:=beq_eq_false_iff_ne.mpr h
    simp only [ab7,hb]
    exact ih
theorem kj (f:Str)(v:V):∀fs:List (Str×V),f∈(fX f v fs).map (·.1)/\∀g,g∈fs.map (·.1)->g∈(fX f v fs).map (·.1)
 | []=>⟨by simp [fX],fun g h=>by simp at h⟩
 | (k,x)::r=>by
  obtain ⟨i1,i2⟩:=kj f v r
  rw [show fX f v ((k,x)::r)=(if k=f then (k,v)::r else (k,x)::fX f v r) from rfl]
  by_cases hk:k=f
  ·rw [if_pos hk]
   subst hk
   exact ⟨by simp,fun g h=>by simpa using h⟩
  ·rw [if_neg hk]
   refine ⟨?_,fun g h=> ?_⟩
   ·rw [aac]
    exact aag _ i1
   ·rw [aac] at h ⊢
    rcases aaN.mp h with e | e
    ·exact aaN.mpr (.inl e)
    ·exact aag _ (i2 g e)
theorem lI (f:Str)(v:V):∀fs:List (Str×V),(fX f v fs).length<=fs.length+1
 | []=>by simp [fX]
 | (k,x)::r=>by
  have ih:=lI f v r
  rw [show fX f v ((k,x)::r)=(if k=f then (k,v)::r else (k,x)::fX f v r) from rfl]
  by_cases hk:k=f
  ·rw [if_pos hk,aaY,aaY];omega
  ·rw [if_neg hk,aaY,aaY];omega
theorem gF.some_of {v:V}{o:Option Value}(r:gF (some v) o):∃u,o=some u/\RelV v u:=by
 cases o with
 | none=>exact (show False from r).elim
 | some u=>exact ⟨u,rfl,r⟩
theorem gF.none_of {o:Option Value}(r:gF none o):o=none:=by
 cases o with
 | none=>rfl
 | some u=>exact (show False from r).elim
theorem zZ {v:V}{u:Value}(r:RelV v u):PySem.W.handedIn u=true:=by
 cases v with
 | cv=>cases (show u=Value.none from r);rfl
 | bl b=>cases (show u=Value.bool b from r);rfl
 | int i=>obtain ⟨t,e⟩:=(show ∃t,u=Value.int i t from r);cases e;rfl
 | str x=>obtain ⟨t,e⟩:=(show ∃t,u=Value.str x t from r);cases e;rfl
 | byt b=>obtain ⟨t,e⟩:=(show ∃t,u=Value.bytes b t from r);cases e;rfl
 | Ox b=>obtain ⟨t,e⟩:=(show ∃t,u=Value.float b t from r);cases e;rfl
 | ref a=>cases (show u=Value.ref a from r);rfl
 | ty n=>cases (show u=Value.type n from r);rfl
section
variable {P:Program}{w:World}{H H' :Hp}{h h' :Heap}{a C dx:Addr}{fs fs' :List (Str×V)}
theorem mL (bH:iY P w H h)(e:H a=some (.ins C dx fs)):∃mA,wN h a dx C mA/\(∀f,gF (fs.lookup f) (mA f))/\PySem.Within mA (fs.map (·.1))/\fs.length<=1000/\H dx=some (.own a):=by
 obtain ⟨d,z,ne,ob,mA,n,r,q⟩:=(show cw P w H h a (.ins C dx fs) from bH a _ e)
 exact ⟨mA,⟨ob,n,ne⟩,r,q,z,d⟩
end
structure uQ (K:Frag)(C:Addr):Prop where
 pg:PySem.W.plainGet K C Str.empty=true
 hd:PySem.W.hasDictIn K C=true
 po:PySem.W.plainOver K C=true
 sa:PySem.W.findIn K (.ref C) "__setattr__"=some (some (.builtin "object.__setattr__"))
theorem uQ.get {K:Frag}{C:Addr}(c:uQ K C)(f:Str):PySem.W.plainGet K C f=true:=c.pg
def fC (K:Frag)(C:Addr)(f:Str):Prop:=PySem.W.findIn K (.ref C) f=some none
theorem fC.R5 {K:Frag}{C:Addr}{f:Str}(n:fC K C f):PySem.W.takerIn K C f=some none:=by
 unfold PySem.W.takerIn
 rw [show PySem.W.findIn K (.ref C) f=some none from n]
 rfl
structure Meth (K:Frag)(C:Addr)(m:Str)(f:Addr):Prop where
 at_:PySem.W.findIn K (.ref C) m=some (some (.ref f))
 fn:PySem.W.isFn K (.ref f)=true
 kp:keepIn K (.ref f)=true
section
variable {X:Cx}{pins:ζ}{σ:St}{H:Hp}{s:Shared}{a C dx:Addr}{fs:List (Str×V)}{f:Str}{v:V}{A:Around}{E:δ}
theorem wO {b:Bool}{Q:δ}(I:Inv X pins σ H s)(e:H a=some (.ins C dx fs))(c:uQ X.K C)(n:fC X.K C f)(l:fs.lookup f=some v)
  (h:∀u s',Inv X pins σ H s' ->RelV v u->Q u s'):wpAny (model X.prog X.w) A (getAttr (.ref a) f b) Q E s:=by
 obtain ⟨mA,O,r,_,_,_⟩:=mL I.bH e
 obtain ⟨u,hu,ru⟩:=gF.some_of (v:=v) (o:=mA f) (by rw [<- l];exact r f)
 exact get_map I.ja O (c.get f) c.hd n hu (zZ ru) (h u _ (I.tok _) ru)
theorem je {m:Str}{g:Addr}{pl:Sem Bool}{Q:Value×List Value->Shared->Prop}(I:Inv X pins σ H s)(e:H a=some (.ins C dx fs))(c:uQ X.K C)(k:Meth X.K C m g)(l:fs.lookup m=none)
  (h:Q (.ref g,[.ref a]) s):wpAny (model X.prog X.w) A (getMethod (.ref a) m pl) Q E s:=by
 obtain ⟨mA,O,r,_,_,_⟩:=mL I.bH e
 have hn:mA m=none:=gF.none_of (by rw [<- l];exact r m)
 exact FG I.ja O (c.get m) k.at_ k.fn hn h
theorem wQ {y:V}{u:Value}{Q:Unit->Shared->Prop}(I:Inv X pins σ H s)(e:H a=some (.ins C dx fs))(c:uQ X.K C)(n:fC X.K C f)(hl:fs.length < 1000)(ry:RelV y u)
  (h:∀s',Inv X pins σ (upd H a (.ins C dx (fX f y fs))) s' ->Q () s'):wpAny (model X.prog X.w) A (setAttr (.ref a) f u) Q E s:=by
 obtain ⟨mA,O,r,wi,_,ho⟩:=mL I.bH e
 have hz:(fs.map (·.1)).length<=sizeLine:=by rw [aaa,sizeLine_eq];omega
 refine K4 I.ja O c.sa c.po n.R5 c.hd wi hz fun h' O' sb=>h _ ?_
 have hd:∃o,h'.get? dx=some o:=let ⟨o,_,_,e',_⟩:=O'.ns;⟨o,e'⟩
 refine I.write (x:=a) (e:=dx) (by rw [e];exact True.intro) (.inr ho) (fun b q hb z=>(sb.2 b hb).trans z) hd ?_
 refine ⟨by rw [ao O.ne];exact ho,?_,O.ne,O'.obj,_,O'.ns,fun g=> ?_,fun g hg=> ?_⟩
 ·have:=lI f y fs;omega
 ·show gF ((fX f y fs).lookup g) (if g=f then some u else mA g)
  rw [lH]
  by_cases q:g=f
  ·rw [if_pos q,if_pos q];exact ry
  ·rw [if_neg q,if_neg q];exact r g
 ·by_cases q:g=f
  ·rw [q];exact (kj f y fs).1
  ·refine (kj f y fs).2 g (wi g fun z=>hg ?_)
   show (if g=f then some u else mA g)=none
   rw [if_neg q];exact z
theorem Inv.made (I:Inv X pins σ H s):Inv X pins σ (upd (upd H s.heap.objs.size (.own (s.heap.objs.size+1))) (s.heap.objs.size+1) (.ins C s.heap.objs.size []))
  {s with heap:=(s.heap.push PySem.W.emptyDict).push (PySem.W.instObj C s.heap.objs.size)}:=by
 have e1:(s.heap.push PySem.W.emptyDict).get? s.heap.objs.size=some PySem.W.emptyDict:=Heap.get?_push_size s.heap rfl
 have e2:((s.heap.push PySem.W.emptyDict).push (PySem.W.instObj C s.heap.objs.size)).get? (s.heap.objs.size+1)=some (PySem.W.instObj C s.heap.objs.size):=by
  have:=Heap.get?_push_size (s.heap.push PySem.W.emptyDict) (o:=PySem.W.instObj C s.heap.objs.size) rfl
  rwa [Heap.size_push] at this
 have e3:(s.heap.push PySem.W.emptyDict).Ns s.heap.objs.size (fun _=>none):=⟨PySem.W.emptyDict, #[],_,e1,rfl,(fun e he=>absurd he (by simp)),fun _=>rfl⟩
 have I1:=I.laid (a:=s.heap.objs.size) (o:=.own (s.heap.objs.size+1)) (h' :=s.heap.push PySem.W.emptyDict) (t' :=s.toks) (fun b u q=>Heap.get?_push_of_some _ q) (aah _) ⟨_,e1⟩
 refine I1.laid (a:=s.heap.objs.size+1) (o:=.ins C s.heap.objs.size []) (t' :=s.toks) (fun b u q=>Heap.get?_push_of_some _ q) (aid (Heap.size_push _ _)) ?_
 have ne:s.heap.objs.size≠s.heap.objs.size+1:=aaQ (abc _)
 refine ⟨by rw [ao ne,ah],aaX _,ne,e2,fun _=>none,(Heap.Ns1.of_empty e3).at fun o q=>Heap.get?_push_of_some _ q,fun _=>True.intro,fun y hy=>absurd rfl hy⟩
theorem K5 {prog:Program}{w:World}{env:Env}{e:Expr}{f:Str}{pos:Pos}{s:Shared}{Q:δ}(hb:attributeBase e f env (eval e env)=eval e env)
  (h:wpAny (model prog w) A (eval e env) (fun o s₁=>wpAny (model prog w) A (getAttr o f true) Q E s₁) E s):wpAny (model prog w) A (eval (.Attribute e f pos) env) Q E s:=
 Attribute_any_ h (by rw [arm_eval_Attribute,hb])
end
inductive Nn (K:Frag)(f:Str)(Q:VK)(x:V)(H1:Hp):Prop where
 | mk (a C dx fs v:_) (_:x=.ref a) (_:H1 a=some (.ins C dx fs)) (_:uQ K C) (_:fC K C f) (_:fs.lookup f=some v) (_:Q v H1):Nn K f Q x H1
def ZP (K:Frag)(ta:TE)(f:Str):TE:=fun σ H Q=>ta σ H fun x H1=>Nn K f Q x H1
inductive Np (K:Frag)(f:Str)(D:Ends)(σ:St)(y:V)(x:V)(H2:Hp):Prop where
 | mk (a C dx fs:_) (_:x=.ref a) (_:H2 a=some (.ins C dx fs)) (_:uQ K C) (_:fC K C f) (_:fs.length < 1000) (_:D.nx σ (upd H2 a (.ins C dx (fX f y fs)))):Np K f D σ y x H2
def ZQ (K:Frag)(ta tv:TE)(f:Str):TS:=fun D σ H=>tv σ H fun y H1=>ta σ H1 fun x H2=>Np K f D σ y x H2
section
variable {X:Cx}{o e value:Expr}{f:Str}{pos pos' rZ:Pos}{ta tv:TE}
theorem cn (he:PE X e ta)(hb:attributeBase e f X.env (eval e X.env)=eval e X.env):PE X (.Attribute e f pos) (ZP X.K ta f):=by
 intro pins s σ H Q I h
 refine K5 hb (bZ (he pins s σ H _ I h) fun u s1 ⟨x,H1,I1,rx,a,C,dx,fs,v,ex,ea,c,n,l,q⟩=> ?_)
 subst ex
 obtain rfl:u=Value.ref a:=rx
 exact wO I1 ea c n l fun u' s2 I2 ru=>⟨v,H1,I2,ru,q⟩
theorem r6 (ha:PE X o ta)(hv:PE X value tv)(hs:swapsWith value (some (.Attribute o f pos')) pos.line X.env=pure false):PS X (.Assign [.Attribute o f pos'] value pos) (ZQ X.K ta tv f):=by
 intro pins s σ H D I h
 refine plainObj_wpAny_Assign_Attribute (bZ (hv pins s σ H _ I h) fun u s1 ⟨y,H1,I1,ry,q⟩=>bZ (ha pins s1 σ H1 _ I1 q) fun ov s2 ⟨x,H2,I2,rx,a,C,dx,fs,ex,ea,c,n,l,q2⟩=> ?_) hs
 subst ex
 obtain rfl:ov=Value.ref a:=rx
 exact wQ I2 ea c n l ry fun s3 I3=>⟨σ,_,I3,q2⟩
end
section
variable {X:Cx}{pins:ζ}{σ:St}{H:Hp}{s:Shared}{A:Around}{E:δ}{Q:δ}{c:Value}{b:Bool}
inductive km (K:Frag)(H:Hp):V->Value->Prop where
 | cv:km K H .cv (.type "NoneType")
 | bl (x:Bool):km K H (.bl x) (.type "bool")
 | int (i:Int):km K H (.int i) (.type "int")
 | str (x:Str):km K H (.str x) (.type "str")
 | Ox (x:UInt64):km K H (.Ox x) (.type "float")
 | lst {a:Addr} {xs:η} (e:H a=some (.lst xs)):km K H (.ref a) (.type "list")
 | fk {a:Addr} {o:Obj} {xs:η} (e:H a=some (.fk o (.lst xs))):km K H (.ref a) (.type "list")
 | tup {a:Addr} {xs:η} (e:H a=some (.tup xs)):km K H (.ref a) (.type "tuple")
 | dK {a:Addr} {kvs:γ} (e:H a=some (.dK kvs)):km K H (.ref a) (.type "dict")
 | dT {a:Addr} {kvs:List (List Key×V)} (e:H a=some (.dT kvs)):km K H (.ref a) (.type "dict")
 | ins {a C dx:Addr} {fs:List (Str×V)} (e:H a=some (.ins C dx fs)) (cl:uQ K C) (ha:PySem.W.findIn K (.ref C) "__class__"=some (some (.builtin "object.__class__")))
   (hn:PySem.W.specialIn K (.builtin "object.__class__") "__get__"=some (some (.builtin "getset_descriptor.__get__"))) (htk:PySem.W.takesIn K (.builtin "object.__class__")=some true)
   (hm:PySem.W.mroIn K C (.type "object")=some true):km K H (.ref a) (.ref C)
theorem z5 {x:V}{u t:Value}(I:Inv X pins σ H s)(rx:RelV x u)(ty:km X.K H x t)(e:PySem.W.kitOne X.K t c=some b)(h:∀tk,Q (.bool b) {s with toks:=tk}):
  wpAny (model X.prog X.w) A (call (.builtin "isinstance") [u,c]) Q E s:=by
 cases ty with
 | cv=>cases (show u=Value.none from rx);exact PySem.W.kia_one PySem.W.kitx_none I.ja True.intro e (fun z=>nomatch z) h
 | bl y=>cases (show u=Value.bool y from rx);exact PySem.W.kia_one PySem.W.kitx_bool I.ja True.intro e (fun z=>nomatch z) h
 | int i=>obtain ⟨t,q⟩:=(show ∃t,u=Value.int i t from rx);cases q;exact PySem.W.kia_one PySem.W.kitx_int I.ja True.intro e (fun z=>nomatch z) h
 | str y=>obtain ⟨t,q⟩:=(show ∃t,u=Value.str y t from rx);cases q;exact PySem.W.kia_one PySem.W.kitx_str I.ja True.intro e (fun z=>nomatch z) h
 | Ox y=>obtain ⟨t,q⟩:=(show ∃t,u=Value.float y t from rx);cases q;exact PySem.W.kia_one PySem.W.kitx_float I.ja True.intro e (fun z=>nomatch z) h
 | @lst a xs ea=>
  cases (show u=Value.ref a from rx)
  obtain ⟨_,_,n,_,h1⟩:=(show cw X.prog X.w H s.heap a (.lst xs) from I.bH a _ ea)
  exact PySem.W.kia_one PySem.W.kitx_list I.ja ⟨_,h1,rfl⟩ e (fun z=>nomatch z) h
 | @fk a ob xs ea=>
  cases (show u=Value.ref a from rx)
  obtain ⟨_,_,_,n,_,h1⟩:=(show cw X.prog X.w H s.heap a (.fk ob (.lst xs)) from I.bH a _ ea)
  exact PySem.W.kia_one PySem.W.kitx_list I.ja ⟨_,h1,rfl⟩ e (fun z=>nomatch z) h
 | @tup a xs ea=>
  cases (show u=Value.ref a from rx)
  obtain ⟨_,_,_,p⟩:=(show cw X.prog X.w H s.heap a (.tup xs) from I.bH a _ ea)
  obtain ⟨o,h1,h2,_⟩:=p
  exact PySem.W.kia_one PySem.W.kitx_tuple I.ja ⟨o,h1,h2⟩ e (fun z=>nomatch z) h
 | @dK a kvs ea=>
  cases (show u=Value.ref a from rx)
  obtain ⟨_,_,vs,_,p⟩:=(show cw X.prog X.w H s.heap a (.dK kvs) from I.bH a _ ea)
  obtain ⟨o,es,ep,h1,h2,_⟩:=p
  exact PySem.W.kia_one PySem.W.kitx_dict I.ja ⟨o,h1,h2.1⟩ e (fun z=>nomatch z) h
 | @dT a kvs ea=>
  cases (show u=Value.ref a from rx)
  obtain ⟨_,_,xs,_,o,es,ep,h1,h2,_⟩:=(show cw X.prog X.w H s.heap a (.dT kvs) from I.bH a _ ea)
  exact PySem.W.kia_one PySem.W.kitx_dict I.ja ⟨o,h1,h2.1⟩ e (fun z=>nomatch z) h
 | @ins a C dx fs ea cl ha hn htk hm=>
  cases (show u=Value.ref a from rx)
  obtain ⟨mA,O,_⟩:=mL I.bH ea
  obtain ⟨od,J,_⟩:=O.look
  exact PySem.W.kia_one (PySem.W.kitx_own (cl.get _) cl.hd ha hn htk hm) I.ja J e (fun z=>nomatch z) h
end
end L2
namespace L2
open PySem PySem.Spec PyProof.Rows
structure cp (k:Nat)(A:Around):Prop where
 hd:A.handled=none
 dp:A.depth+3*k+5 < recursionLimit
 un:A.units+16*k+200 < cLine
theorem cp.mono {j k:Nat}{A:Around}(r:cp k A)(h:j<=k):cp j A:=⟨r.hd,by have:=r.dp;omega,by have:=r.un;omega⟩
theorem cp.deeper {k:Nat}{A:Around}(r:cp (k+1) A)(env:Env):cp k (A.deeper env):=
 ⟨r.hd,by have:=r.dp;show A.depth+1+3*k+5 < _;omega,by have:=r.un;show A.units+3+16*k+200 < _;omega⟩
theorem wU {A:Around}{C:Addr}{us:ο}{kw:List (Str×Value)}:(A.under (.builtin "type.__call__" ⟨.ref C::us,kw⟩)).depth=A.depth+1:=by
 first | rfl | simp [Around.under,Code.weight,Code.isCreation,Code.isGuard,Code.isCaller,Code.frames,Code.isFrame,guardIds]
theorem wV {A:Around}{C:Addr}{us:ο}{kw:List (Str×Value)}:(A.under (.builtin "type.__call__" ⟨.ref C::us,kw⟩)).units=A.units+1:=by
 first | rfl | simp [Around.under,Code.cUnits,Code.frames,Code.isFrame]
theorem cp.make {k:Nat}{A:Around}(r:cp (k+1) A)(C:Addr)(us:ο)(kw:List (Str×Value)):cp k (A.under (.builtin "type.__call__" ⟨.ref C::us,kw⟩)):=
 ⟨r.hd,by have:=r.dp;rw [wU];omega,by have:=r.un;rw [wV];omega⟩
theorem cp.depth {k:Nat}{A:Around}(r:cp k A):A.depth < recursionLimit:=by have:=r.dp;omega
theorem cp.units {k:Nat}{A:Around}(r:cp k A):A.units+64 < cLine:=by have:=r.un;omega
def fN:TA:=fun _ H Q=>Q [] H
def Nq (ta:TE)(tr:TA):TA:=fun σ H Q=>ta σ H fun x H1=>tr σ H1 fun xs H2=>Q (x::xs) H2
section
variable {X:Cx}{e:Expr}{es:List Expr}{te:TE}{t:TA}{pos:Pos}
theorem aa:PA X [] fN:=fun _ _ _ _ H Q I h=>Calls.spliced_nil ⟨[],H,I,.nil,h⟩
theorem K6 (ha:PE X e te)(hr:PA X es t)(hs:starEach (e::es) X.env=(false,eval e X.env)::starEach es X.env:=by rfl):PA X (e::es) (Nq te t):=by
 intro pos pins s σ H Q I h
 rw [hs]
 show wpAny _ _ (spliced ((false,eval e X.env)::backTo pos (starEach es X.env))) _ _ s
 refine Calls.spliced_cons (bZ (ha pins s σ H _ I h) fun u s1 ⟨x,H1,I1,r1,q1⟩=> ?_)
 exact bZ (hr pos pins s1 σ H1 _ I1 q1) fun us s2 ⟨xs,H2,I2,r2,q2⟩=>⟨x::xs,H2,I2,.cons r1 r2,q2⟩
def ZR (t:TA):TE:=fun σ H Q=>t σ H fun xs H1=>xs.length<=sizeLine/\∀p,H1 p=none->Q (.ref p) (upd H1 p (.tup xs))
def ZS (t:TA):TE:=fun σ H Q=>t σ H fun xs H1=>xs.length<=sizeLine/\∀p,H1 p=none->Q (.ref p) (upd H1 p (.lst xs))
theorem a9 {x1}(h:PA X es t):PE X (.Tuple es x1 pos) (ZR t):=by
 intro pins s σ H Q I hq
 refine wpAny_Tuple_spliced (bZ (h pos pins s σ H _ I hq) fun us s1 ⟨xs,H1,I1,r,z,q⟩=>⟨by rw [<- r.length];exact z,?_⟩)
 have hf:H1 s1.heap.objs.size=none:=I1.bH.fresh (aah _)
 refine ⟨.ref s1.heap.objs.size,upd H1 s1.heap.objs.size (.tup xs),I1.laid (t' :=s1.toks) (fun b u e=>Heap.get?_push_of_some _ e) (aah _) ?_,rfl,q _ hf⟩
 exact ⟨z,us,r,⟨_,Heap.get?_push_size _ rfl,rfl,_,rfl⟩⟩
theorem dk (h:PA X es t):PE X (.List es pos) (ZS t):=by
 intro pins s σ H Q I hq
 refine wpAny_List_spliced (bZ (h pos pins s σ H _ I hq) fun us s1 ⟨xs,H1,I1,r,z,q⟩=>⟨by rw [<- r.length];exact z,?_⟩)
 have hf:H1 s1.heap.objs.size=none:=I1.bH.fresh (aah _)
 refine ⟨.ref s1.heap.objs.size,upd H1 s1.heap.objs.size (.lst xs),I1.laid (t' :=s1.toks) (fun b u e=>Heap.get?_push_of_some _ e) (aah _) ?_,rfl,q _ hf⟩
 exact ⟨z,us,0,r,Heap.get?_push_size _ rfl⟩
end
abbrev Sp:=List V->Hp->VK->XK->Prop
abbrev kd:=List Env->Hp->Shared->XK->Value->Shared->Prop
structure wW (P:Program)(w:World)(K:Frag)(mg:ι)(base:Heap)(A:Around)(outer:List Env)(s:Shared)(H:Hp):Prop where
 frames:A.frames=some outer
 mod:Mod K mg base
 bs:∀b o,base.get? b=some o->s.heap.get? b=some o/\H b=none
 EL:base.objs.size<=s.heap.objs.size
 l7:s.heap.FunFrames base outer
 OA:∀b∈wI outer,H b=none
 bH:iY P w H s.heap
 bare:AllBare s.gens
def CE (outer:List Env)(P:Program)(w:World)(H:Hp)(s:Shared)(Q:VK)(u:Value)(s' :Shared):Prop:=
 ∃v H',s'.os=s.os/\AllBare s'.gens/\Un (wI outer) [] H H' s.heap s'.heap/\iY P w H' s'.heap/\RelV v u/\Q v H'
def CR (CX:kd)(outer:List Env)(P:Program)(w:World)(H:Hp)(s:Shared)(Q:VK)(E:XK)(r:Result)(s' :Shared):Prop:=
 match r with
 | .ok (.ret u)=>CE outer P w H s Q u s'
 | .ok _=>False
 | .error e=>CX outer H s E e s'
structure cB (P:Program)(w:World)(K:Frag)(mg:ι)(base:Heap)(CX:kd)(k:Nat)(f:Addr)(fd:FuncData)(ps:List Str)(sp:Sp):Prop where
 len:∀vs H Q E,sp vs H Q E->vs.length=ps.length
 run:∀(A:Around) (outer:List Env) (s:Shared) (H:Hp) (args:Args) (us:ο) (vs:η) (Q:VK) (E:XK),cp k A->wW P w K mg base A outer s H->BindsTo s fd args (ps.zip us)->Vals vs us->sp vs H Q E->
  codeAny (model P w) A (.call (.ref f) args) (CR CX outer P w H s Q E) s
theorem cB.mono {P:Program}{w:World}{K:Frag}{mg:ι}{base:Heap}{CX:kd}{j k:Nat}{f:Addr}{fd:FuncData}{ps:List Str}{sp:Sp}(F:cB P w K mg base CX j f fd ps sp)(h:j<=k):
  cB P w K mg base CX k f fd ps sp:=⟨F.len,fun A outer s H args us vs Q E hr=>F.run A outer s H args us vs Q E (hr.mono h)⟩
theorem cB.imp {P:Program}{w:World}{K:Frag}{mg:ι}{base:Heap}{CX:kd}{k:Nat}{f:Addr}{fd:FuncData}{ps:List Str}{sp sp' :Sp}(F:cB P w K mg base CX k f fd ps sp)
  (h:∀vs H Q E,sp' vs H Q E->sp vs H Q E):cB P w K mg base CX k f fd ps sp' :=
 ⟨fun vs H Q E q=>F.len vs H Q E (h _ _ _ _ q),fun A outer s H args us vs Q E hr he hb hv hs=>F.run A outer s H args us vs Q E hr he hb hv (h _ _ _ _ hs)⟩
theorem wW.make {P:Program}{w:World}{K:Frag}{mg:ι}{base:Heap}{A:Around}{outer:List Env}{s:Shared}{H:Hp}(e:wW P w K mg base A outer s H)(C:Addr)(us:ο)(kw:List (Str×Value)):
  wW P w K mg base (A.under (.builtin "type.__call__" ⟨.ref C::us,kw⟩)) outer s H:=⟨by first | exact e.frames | (simpa [Around.under,Code.envs,Code.isFrame,pushEnvs] using e.frames),e.mod,e.bs,e.EL,e.l7,e.OA,e.bH,e.bare⟩
section
variable {X:Cx}{pins:ζ}{σ:St}{H:Hp}{s s' :Shared}
theorem Inv.R7 (I:Inv X pins σ H s):wW X.prog X.w X.K X.mg X.base X.A X.stack s H:=
 ⟨I.ok.frames,I.ok.mod,I.bs,aaf I.ok.EL I.sz,I.stack,I.rV,I.bH,I.bare⟩
theorem Inv.after {Q:VK}{u:Value}(I:Inv X pins σ H s)(h:CE X.stack X.prog X.w H s Q u s'):EP X pins σ Q u s' :=by
 obtain ⟨v,H',os,bare,un,bH,r,q⟩:=h
 obtain ⟨hh,g,d,t,K7⟩:=s'
 obtain rfl:K7 =s.os:=os
 exact ⟨v,H',I.call (h' :=hh) (g' :=g) (d' :=d) (t' :=t) (ch:=[]) un bH bare (fun b z=>absurd z (by simp)),r,q⟩
end
def Nr (sp:Sp)(dvs:η)(E:XK)(t:TA):TE:=fun σ H Q=>t σ H fun vs H1=>sp (vs++dvs) H1 Q E
def Nt (C:Addr)(sp:Sp)(dvs:η)(E:XK)(t:TA):TE:=fun σ H Q=>t σ H fun vs H1=>∀x dx,H1 x=none->H1 dx=none->dx≠x->
 sp (.ref x::(vs++dvs)) (upd (upd H1 dx (.own x)) x (.ins C dx [])) (fun v H2=>v=.cv/\Q (.ref x) H2) E
def Binds (K:Frag)(fd:FuncData)(ps:List Str)(ds:ο):Prop:=
 ∀(s:Shared) (us:ο),K.In s.heap->(us++ds).length=ps.length->BindsTo s fd ⟨us,[]⟩ (ps.zip (us++ds))
theorem Binds.all {K:Frag}{fd:FuncData}{ps:List Str}(h:∀us:List Value,us.length=ps.length->bindArgs fd ⟨us,[]⟩=pure (ps.zip us)):Binds K fd ps []:=fun s us _ hl=>by
 rw [ace] at hl ⊢
 exact .of_eq (h us hl)
def Passes (CX:kd)(X:Cx)(E:XK):Prop:=∀(pins:ζ) (σ:St) (H:Hp) (s:Shared) (e:Value) (s' :Shared),Inv X pins σ H s->CX X.stack H s E e s' ->X.xe e s'
section
variable {X:Cx}{CX:kd}{k:Nat}{f C:Addr}{fd:FuncData}{ps:List Str}{sp:Sp}{dvs:η}{ds:ο}{E:XK}{x m:Str}{p pos apos:Pos}{e o:Expr}{es:List Expr}{ta:TE}{t:TA}
theorem r8 {pins:ζ}{σ:St}{H:Hp}{s:Shared}{Q:VK}{us:ο}{vs:η}(F:cB X.prog X.w X.K X.mg X.base CX k f fd ps sp)(hr:cp k X.A)(hb:Binds X.K fd ps ds)(hd:Vals dvs ds)(hx:Passes CX X E)
  (I:Inv X pins σ H s) (r:Vals vs us) (h:sp (vs++dvs) H Q E):wpAny (model X.prog X.w) X.A (call (.ref f) us) (EP X pins σ Q) X.xe s:=by
 have r2:Vals (vs++dvs) (us++ds):=r.append hd
 have hl:(us++ds).length=ps.length:=by rw [<- r2.length];exact F.len _ _ _ _ h
 refine wpAny_call (codeAny_mono (F.run X.A X.stack s H ⟨us,[]⟩ (us++ds) (vs++dvs) Q E hr I.R7 (hb s us I.ja hl) r2 h) fun r s' hq=> ?_)
 cases r with
 | error e=>exact hx pins σ H s e s' I hq
 | ok fl=>
  cases fl with
  | ret u=>exact I.after hq
  | next=>exact False.elim hq
  | brk=>exact False.elim hq
  | cont=>exact False.elim hq
theorem K8 (F:cB X.prog X.w X.K X.mg X.base CX k f fd ps sp)(hr:cp k X.A)(hg:Gl X x)(hm:X.mg x=some (.ref f))(hk:keepIn X.K (.ref f)=true)(hb:Binds X.K fd ps ds)(hd:Vals dvs ds)(hx:Passes CX X E)
  (ha:PA X (e::es) t) (z6:(x==("__debug__":Str))=false:=by decide) (he:starEach (e::es) X.env=(false,eval e X.env)::starEach es X.env:=by rfl) (yh:(backTo pos (starEach es X.env)).any (·.1)=false:=by rfl):
  PE X (.Call (.Name x p) (e::es) [] pos) (Nr sp dvs E t):=by
 intro pins s σ H Q I h
 refine wpAny_Call_Name_kw (jt I hg hm ?_ z6)
 refine PySem.W.callWith_K (h₀:=X.base) I.ok.mod.Q6 hk (bZ (ha pos pins s σ H _ I h) fun us s1 ⟨vs,H1,I1,r,q⟩=>⟨I1.ja,?_⟩) he yh
 exact r8 F hr hb hd hx I1 r q
structure Mk (K:Frag)(C f:Addr):Prop where
 makes:PySem.W.makesIn K C=true
 init:PySem.W.findIn K (.ref C) "__init__"=some (some (.ref f))
 fn:PySem.W.isFn K (.ref f)=true
 kp:keepIn K (.ref C)=true
theorem uR {pins:ζ}{σ:St}{H:Hp}{s:Shared}{Q:VK}{us:ο}{vs:η}(M:Mk X.K C f)(F:cB X.prog X.w X.K X.mg X.base CX k f fd ps sp)(hr:cp (k+1) X.A)(hb:Binds X.K fd ps ds)(hd:Vals dvs ds)
  (hx:Passes CX X E) (I:Inv X pins σ H s) (r:Vals vs us)
  (h:∀x dx,H x=none->H dx=none->dx≠x->sp (.ref x::(vs++dvs)) (upd (upd H dx (.own x)) x (.ins C dx [])) (fun v H2=>v=.cv/\Q (.ref x) H2) E):
  wpAny (model X.prog X.w) X.A (call (.ref C) us) (EP X pins σ Q) X.xe s:=by
 have hq:=h (s.heap.objs.size+1) s.heap.objs.size (I.bH.fresh (af_ _)) (I.bH.fresh (aah _)) (aaQ (abc _))
 have I2:=Inv.made (C:=C) I
 have r2:Vals (V.ref (s.heap.objs.size+1)::(vs++dvs)) (Value.ref (s.heap.objs.size+1)::(us++ds)):=.cons rfl (r.append hd)
 have hl:(Value.ref (s.heap.objs.size+1)::us++ds).length=ps.length:=by
  have e:=r2.length
  rw [F.len _ _ _ _ hq] at e
  exact e.symm
 refine wpAny_call (FH (f:=f) I.ja M.makes M.init (beq_iff_eq.mp M.fn) (codeAny_mono (F.run _ X.stack _ _ ⟨Value.ref (s.heap.objs.size+1)::us,[]⟩ (Value.ref (s.heap.objs.size+1)::(us++ds)) _ _ E (hr.make C us [])
  (I2.R7.make C us []) (hb _ (Value.ref (s.heap.objs.size+1)::us) I2.ja hl) r2 hq) fun r s' qi => ?_))
 cases r with
 | error e=>exact hx pins σ _ _ e s' I2 qi
 | ok fl=>
  cases fl with
  | ret u=>
   obtain ⟨v,H',I3,rv,ev,q3⟩:=I2.after qi
   subst ev
   exact ⟨rv,⟨V.ref (s.heap.objs.size+1),H',I3,rfl,q3⟩⟩
  | next=>exact False.elim qi
  | brk=>exact False.elim qi
  | cont=>exact False.elim qi
theorem yj (M:Mk X.K C f)(F:cB X.prog X.w X.K X.mg X.base CX k f fd ps sp)(hr:cp (k+1) X.A)(hg:Gl X x)(hm:X.mg x=some (.ref C))(hb:Binds X.K fd ps ds)(hd:Vals dvs ds)(hx:Passes CX X E)
  (ha:PA X (e::es) t) (z6:(x==("__debug__":Str))=false:=by decide) (he:starEach (e::es) X.env=(false,eval e X.env)::starEach es X.env:=by rfl) (yh:(backTo pos (starEach es X.env)).any (·.1)=false:=by rfl):
  PE X (.Call (.Name x p) (e::es) [] pos) (Nt C sp dvs E t):=by
 intro pins s σ H Q I h
 refine wpAny_Call_Name_kw (jt I hg hm ?_ z6)
 refine PySem.W.callWith_K (h₀:=X.base) I.ok.mod.Q6 M.kp (bZ (ha pos pins s σ H _ I h) fun us s1 ⟨vs,H1,I1,r,q⟩=>⟨I1.ja,?_⟩) he yh
 exact uR M F hr hb hd hx I1 r q
theorem FI (M:Mk X.K C f)(F:cB X.prog X.w X.K X.mg X.base CX k f fd ps sp)(hr:cp (k+1) X.A)(hg:Gl X x)(hm:X.mg x=some (.ref C))(hb:Binds X.K fd ps ds)(hd:Vals dvs ds)(hx:Passes CX X E)
  (z6:(x==("__debug__":Str))=false:=by decide):PE X (.Call (.Name x p) [] [] pos) (Nt C sp dvs E fN):=by
 intro pins s σ H Q I h
 refine wpAny_Call_Name_kw (jt I hg hm ?_ z6)
 exact PySem.W.callWith_K0 I.ja M.kp (uR (us:=[]) M F hr hb hd hx I .nil h)
end
section
variable {X:Cx}{CX:kd}{k:Nat}{f C:Addr}{fd:FuncData}{ps ks:List Str}{sp:Sp}{E:XK}{x m:Str}{p pos apos ap3:Pos}{e o:Expr}{es:List Expr}{kws:List Keyword}{te ta:TE}{t tk:TA}{nm:Option Str}
variable {g:List Value->List Value->List Value}{gV:List V->List V->List V}
end
structure aD (N P:List Str)(sc:Scope):Prop where
 kind:sc.kind=.function
 co:sc.isCoroutine=false
 gen:sc.isGenerator=false
 nd:N.Nodup
 pre:N.take P.length=P
 par:∀x∈P,sc.names.lookup x=some .local\/sc.names.lookup x=some .cell
 OO:∀y∈sc.names,y.2≠.free
theorem qT {kindOf:Str->Option NameKind}{x:Str}:∀{binds:List (Str×Value)} {m:ι},(∀v,(x,v)∉binds)->bindL kindOf binds m x=m x
 | [],_,_=>rfl
 | (n,v)::r,m,h=>by
  unfold bindL
  rw [qT fun w hw=>h w (aag _ hw)]
  split
  ·have:x≠n:=by rintro rfl;exact h v aaq
   simp [this]
  ·rfl
theorem qU {kindOf:Str->Option NameKind}{x:Str}:∀{binds:List (Str×Value)} {m:ι},(∀v,(x,v)∉binds)->bindC kindOf binds m x=m x
 | [],_,_=>rfl
 | (n,v)::r,m,h=>by
  unfold bindC
  rw [qU fun w hw=>h w (aag _ hw)]
  split
  ·rfl
  ·have:x≠n:=by rintro rfl;exact h v aaq
   simp [this]
theorem qV {kindOf:Str->Option NameKind}{x:Str}{v:Value}:∀{P:List Str} {vs:ο} {i:Nat} {m:ι},P.Nodup->P[i]? =some x->vs[i]? =some v->kindOf x=some .local->
  bindL kindOf (P.zip vs) m x=some v
 | [],_,_,_,_,h,_,_=>by simp at h
 | _::_,[],_,_,_,_,h,_=>by simp at h
 | p::P,w::vs,0,m,nd,h1,h2,hk=>by
  simp at h1 h2;subst h1;subst h2
  show bindL kindOf ((p,w)::P.zip vs) m p=_
  unfold bindL
  rw [qT fun v hv=>(aaU.mp nd).1 (aii hv).1,if_pos hk]
  simp
 | p::P,w::vs,i+1,m,nd,h1,h2,hk=>by
  show bindL kindOf ((p,w)::P.zip vs) m x=_
  unfold bindL
  exact qV (i:=i) (aaU.mp nd).2 (by simpa using h1) (by simpa using h2) hk
theorem qW {kindOf:Str->Option NameKind}{x:Str}{v:Value}:∀{P:List Str} {vs:ο} {i:Nat} {m:ι},P.Nodup->P[i]? =some x->vs[i]? =some v->kindOf x≠some .local->
  bindC kindOf (P.zip vs) m x=some v
 | [],_,_,_,_,h,_,_=>by simp at h
 | _::_,[],_,_,_,_,h,_=>by simp at h
 | p::P,w::vs,0,m,nd,h1,h2,hk=>by
  simp at h1 h2;subst h1;subst h2
  show bindC kindOf ((p,w)::P.zip vs) m p=_
  unfold bindC
  rw [qU fun v hv=>(aaU.mp nd).1 (aii hv).1,if_neg hk]
  simp
 | p::P,w::vs,i+1,m,nd,h1,h2,hk=>by
  show bindC kindOf ((p,w)::P.zip vs) m x=_
  unfold bindC
  exact qW (i:=i) (aaU.mp nd).2 (by simpa using h1) (by simpa using h2) hk
def start (N:List Str)(vs:η):St:=vs.map some++aaH (N.length - vs.length) none
def l_ (CX:kd)(P:Program)(w:World)(K:Frag)(mg:ι)(base:Heap)(N:List Str)(qual:Str)(scope:Scope)(f:Addr)(cd:Value)(A:Around)(outer:List Env)(s:Shared)(H:Hp)(E:XK):Cx where
 prog:=P
 w:=w
 K:=K
 mg:=mg
 base:=base
 A:=A.deeper (envOfC qual scope s.heap.objs.size f cd)
 N:=N
 s₀:=s
 H₀:=H
 env:=envOfC qual scope s.heap.objs.size f cd
 outer:=outer
 stack:=envOfC qual scope s.heap.objs.size f cd::outer
 ex:=[]
 calm:=true
 fn:=fun _=>true
 pn:=[]
 xe:=fun e s' =>wpAny (model P w) (A.deeper (envOfC qual scope s.heap.objs.size f cd)) (leaving (envOfC qual scope s.heap.objs.size f cd) e) (fun _ OP =>CX outer H s E e OP) (fun e' OP =>CX outer H s E e' OP) s'
theorem uS {sc:Scope}{n:Nat}{x:Str}(h:sc.names.lookup x=some .cell):∃c,(cellsFrom n sc.names []).lookup x=some c:=by
 have q:=PySem.W.cellsFrom_some sc.names n [] (.inl h)
 exact ac_.mp q
theorem z7 {CX:kd}{P:Program}{w:World}{K:Frag}{mg:ι}{base:Heap}{N ps:List Str}{qual:Str}{scope:Scope}{f:Addr}{cd:Value}{A:Around}{outer:List Env}{s s1:Shared}{H:Hp}{E:XK}{us:ο}{vs:η}
  (S:aD N ps scope) (hd:A.handled=none) (e0:wW P w K mg base A outer s H) (hl:vs.length=ps.length) (r:Vals vs us)
  (x:InCallC s s.heap.objs.size (bindL (envOfC qual scope s.heap.objs.size f cd).kindOf (ps.zip us) fun _=>none) (cellsFrom (s.heap.objs.size+1) scope.names []) (bindC (envOfC qual scope s.heap.objs.size f cd).kindOf (ps.zip us) fun _=>none) s1):
  Inv (l_ CX P w K mg base N qual scope f cd A outer s H E) [] (start N vs) H s1:=by
 have yh:ps.length<=N.length:=by have:=congrArg ab8 S.pre;rw [aaW] at this;omega
 obtain ⟨h1,tk,rfl,hk⟩:=x.done
 have R8:∀b:Addr,b∉(l_ CX P w K mg base N qual scope f cd A outer s H E).ex:=fun b z=>absurd (show b∈([]:List Addr) from z) (by simp)
 refine ⟨⟨e0.mod,S.kind,rfl,rfl,aah _,fun y z c h1 h2=> ?_,fun y hy=> ?_,fun y c _ h=> ?_,fun _=>hd,Around.frames_deeper e0.frames,.inr ⟨rfl,rfl⟩,fun b z=>absurd z (R8 b),e0.bs,e0.EL,fun b _ _=>R8 b,fun b z=>absurd z (R8 b),e0.l7,e0.OA⟩,
  rfl,e0.bare,Un.kept hk,⟨_,x.toInCall.ns,fun i y v h1 h2 h3=> ?_⟩,fun y c h=>⟨_,x.cell y c h⟩,e0.bH.fresh (aah _),fun y c h=> ?_,fun p hp=>absurd (show p∈([]:List (Addr×Obj)) from hp) (by simp),e0.bH.kept hk,?_⟩
 ·exact name_of_addr x.apart (PySem.mem_of_lookup h1) (PySem.mem_of_lookup h2)
 ·have hy:scope.names.lookup y=some .cell\/scope.names.lookup y=some .free:=hy
  rcases hy with hy | hy
  ·exact uS hy
  ·exact absurd rfl (S.OO _ (PySem.mem_of_lookup hy))
 ·exact acf (x.above y c (PySem.mem_of_lookup h))
 ·have hi:i < vs.length:=by
   unfold start at h2
   by_cases hi:i < vs.length
   ·exact hi
   ·rw [aaJ (by simpa using hi)] at h2
    rw [abP] at h2
    split at h2 <;> cases h2
  have ha:vs[i]? =some v:=by
   unfold start at h2
   rw [aat (by simpa using hi),Wp] at h2
   cases e:vs[i]? with
   | none=>rw [e] at h2;cases h2
   | some a=>rw [e] at h2;cases h2;rfl
  obtain ⟨u,hu,rv⟩:=r.get ha
  have hp:ps[i]? =some y:=by
   rw [<- S.pre,ah' (by omega)];exact h1
  have ndP:ps.Nodup:=by rw [<- S.pre];exact S.nd.sublist (List.take_sublist _ _)
  refine ⟨u,rv,?_⟩
  rcases S.par y (ir hp) with k | k
  ·exact .inl ⟨k,qV ndP hp hu k⟩
  ·obtain ⟨c,e⟩:=uS (n:=s.heap.objs.size+1) k
   refine .inr ⟨.inl k,c,e,?_⟩
   have q:=x.cell y c e
   rw [qW ndP hp hu (by show scope.names.lookup y≠_;rw [k];decide)] at q
   exact q
 ·exact e0.bH.fresh (acf (x.above y c (PySem.mem_of_lookup h)))
 ·unfold start
  show _=N.length
  rw [aas,aaa,acb]
  omega
theorem yk {CX:kd}{P:Program}{w:World}{K:Frag}{mg:ι}{base:Heap}{k:Nat}{f:Addr}{name qual:Str}{params:Arguments}{body:List Stmt}{scope:Scope}{dV kV doc pm bE ct oc:Value}{an od:Option Addr}
  {pZ:Array (Option Value)} {N ps:List Str} {sp:Sp} (lk:K.lookup f=some ⟨oc,od,.func (fnOf name qual params body scope dV kV doc pm an bE ct),pZ⟩) (qg:codeIn K bE qual=true) (S:aD N ps scope)
  (len:∀vs H Q E,sp vs H Q E->vs.length=ps.length)
  (jw:∀(A:Around) (outer:List Env) (s:Shared) (H:Hp) (vs:η) (Q:VK) (E:XK),cp k (A.deeper (envOfC qual scope s.heap.objs.size f bE))->sp vs H Q E->
   ∃t,PSs (l_ CX P w K mg base N qual scope f bE A outer s H E) body t/\t {nx:=fun _ H' =>Q .cv H',rt:=Q} (start N vs) H):
  cB P w K mg base CX (k+1) f (fnOf name qual params body scope dV kV doc pm an bE ct) ps sp:=by
 refine ⟨len,fun A outer s H args us vs Q E hr e0 hb r qj=> ?_⟩
 have hl:=len _ _ _ _ qj
 have KX:K.In s.heap:=e0.mod.Q6.keeps fun b o e=>(e0.bs b o e).1
 have lim:s.heap.NoLimit:=e0.mod.nolimit.keeps fun b o e=>(e0.bs b o e).1
 have R9:∀y∈ps.zip us,scope.names.lookup y.1=some .local\/(scope.names.lookup y.1=some .cell/\((cellsFrom (s.heap.objs.size+1) scope.names []).lookup y.1).isSome=true):=fun ⟨n,v⟩ hy=>by
  rcases S.par n (aii hy).1 with q | q
  ·exact .inl q
  ·exact .inr ⟨q,PySem.W.cellsFrom_some _ _ _ (.inl q)⟩
 refine codeAny_call_function hr.depth (KX _ _ lk) rfl S.co S.gen rfl (PySem.W.codeRec_of KX qg) (hb _ _ _ _ ?_)
 refine wpAny_newFunctionEnv_cells S.kind R9 fun env he s1 x=> ?_
 subst he
 refine ⟨lim.keeps x.toInCall.keep,codeAny_func ?_⟩
 obtain ⟨t,ht,hq⟩:=jw A outer s H vs Q E (hr.deeper _) qj
 have I:Inv (l_ CX P w K mg base N qual scope f bE A outer s H E) [] (start N vs) H s1:=z7 S hr.hd e0 hl r x
 refine wpAny_mono (ht [] s1 (start N vs) H _ I hq) (fun fl s' hs=> ?_) fun e s' hs=>hs
 have fin:∀{σ' :St} {H' :Hp} {v:V} {u:Value},Inv (l_ CX P w K mg base N qual scope f bE A outer s H E) [] σ' H' s' ->RelV v u->Q v H' ->CE outer P w H s Q u s' :=
  fun {σ' H' v u} J rv q=>⟨v,H',J.os,J.bare,J.base,J.bH,rv,q⟩
 cases fl with
 | ret u=>
  obtain ⟨v,σ',H',J,rv,q⟩:=hs
  exact fin J rv q
 | next=>
  obtain ⟨σ',H',J,q⟩:=hs
  exact fin (v:=V.cv) (u:=Value.none) J rfl q
 | brk=>
  obtain ⟨_,_,_,q⟩:=hs
  exact False.elim q
 | cont=>
  obtain ⟨_,_,_,q⟩:=hs
  exact False.elim q
end L2
namespace L2
open PySem PySem.Spec PyProof.Rows
section
variable {X:Cx}{x:Str}{p pos:Pos}{e:Expr}{es:List Expr}{t:TA}{id T:String}{r:List V->Hp->VK->Prop}
def tCB (r:List V->Hp->VK->Prop)(t:TA):TE:=fun σ H Q=>t σ H fun vs H1=>r vs H1 Q
theorem aT (hc:fw X (.builtin id) r)(hg:Gl X x)(hm:X.mg x=none)(hv:bootBuiltins x=some (.builtin id))(ha:PA X (e::es) t)(hn:x≠ "__name__":=by decide)(z6:(x==("__debug__":Str))=false:=by decide)
  (he:starEach (e::es) X.env=(false,eval e X.env)::starEach es X.env:=by rfl) (yh:(backTo pos (starEach es X.env)).any (·.1)=false:=by rfl):PE X (.Call (.Name x p) (e::es) [] pos) (tCB r t):=by
 intro pins s σ H Q I h
 refine wpAny_Call_Name_kw (gG I hg hm hv ?_ hn z6)
 exact PyProof.Rows.callWith_builtin1 (bZ (ha pos pins s σ H _ I h) fun us s1 ⟨vs,H1,I1,r1,q1⟩=>hc pins s1 σ H1 vs us Q I1 r1 q1) he yh
theorem b7 (hc:fw X (.type T) r)(hg:Gl X x)(hm:X.mg x=none)(hv:bootBuiltins x=some (.type T))(ha:PA X (e::es) t)(hn:x≠ "__name__":=by decide)(z6:(x==("__debug__":Str))=false:=by decide)
  (he:starEach (e::es) X.env=(false,eval e X.env)::starEach es X.env:=by rfl) (yh:(backTo pos (starEach es X.env)).any (·.1)=false:=by rfl):PE X (.Call (.Name x p) (e::es) [] pos) (tCB r t):=by
 intro pins s σ H Q I h
 refine wpAny_Call_Name_kw (gG I hg hm hv ?_ hn z6)
 exact PyProof.Rows.callWith_type1 (bZ (ha pos pins s σ H _ I h) fun us s1 ⟨vs,H1,I1,r1,q1⟩=>hc pins s1 σ H1 vs us Q I1 r1 q1) he yh
end
end L2
namespace HT
open PySem PyProof.Rows
section
open PySem.SeqAt
open PySem.AutoSeq1 (wpAny_loadPart')
open PySem.MeetsSeq PySem.MeetsSeq2 PySem.MeetsSeq3
end
section
variable {prog:Program}{w:World}{A:Around}{E:δ}{s:Shared}
theorem K9 {t b:Addr}{vs ws:ο}{Q:δ}(ht:IsTup s.heap t vs.toArray)(hb:IsTup s.heap b ws.toArray)(hv:vs≠[])
  (h1:ws=[]->Q (.ref t) s) (h2:ws≠[]->Q (.ref s.heap.objs.size) {s with heap:=s.heap.push {cls:=.type "tuple",data:=.seq (vs++ws).toArray}})
  (hsz:vs.length+ws.length<=sizeLine):wpAny (model prog w) A (binaryOp .Add (.ref t) (.ref b)) Q E s:=by
 obtain ⟨⟨cls,dd,data,sl⟩,ho,hc,n,hd⟩:=id ht
 obtain ⟨⟨ap4,R_,data2,sl2⟩,YL,ZT,n2,hd2⟩:=id hb
 simp only at hc hd ZT hd2
 subst hc hd ZT hd2
 have e:vs.toArray++ws.toArray=(vs++ws).toArray:=by simp
 by_cases hw:ws=[]
 ·exact concat_meets ⟨_,ho,rfl⟩ ⟨_,YL,rfl⟩ noFill_tuple_add seq_tuple_add PySem.F.slot_tuple_add PySem.F.entry_tuple_add (PySem.F.args_tuple_add_2 _ _)
   (tuple_addW1 t b vs.toArray ws.toArray n n2 dd R_ sl sl2 (by simpa using hv) (by simp [hw])) ⟨ho,YL,h1 hw⟩
 ·refine concat_meets ⟨_,ho,rfl⟩ ⟨_,YL,rfl⟩ noFill_tuple_add seq_tuple_add PySem.F.slot_tuple_add PySem.F.entry_tuple_add (PySem.F.args_tuple_add_2 _ _)
   (tuple_addW2 t b vs.toArray ws.toArray n n2 dd R_ sl sl2 (by simpa using hv) (by simpa using hw) (by rw [aaE,aaE];exact hsz)) ⟨ho,YL,?_⟩
  rw [e]
  exact h2 hw
def dX (n d:Nat):Option Int->Nat
 | none=>d
 | some v=>if v < 0 then (v+(n:Int)).toNat else min v.toNat n
theorem uT (n d:Nat):dX n d none=d:=rfl
theorem mM (n d k:Nat):dX n d (some (k:Int))=min k n:=by
 show (if (k:Int) < 0 then ((k:Int)+(n:Int)).toNat else min (k:Int).toNat n)=min k n
 rw [if_neg (by omega),ah5]
theorem OQ (n d:Nat)(hd:d<=n)(o:Option Int):dX n d o<=n:=by
 cases o with
 | none=>exact hd
 | some v=>
  show (if v < 0 then (v+(n:Int)).toNat else min v.toNat n)<=n
  by_cases hv:v < 0
  ·rw [if_pos hv];omega
  ·rw [if_neg hv];exact Nat.min_le_right _ _
theorem yl (v:Int)(n d:Nat):(if v < 0 then max (v+(n:Int)) 0 else min v (n:Int))=((dX n d (some v):Nat):Int):=by
 show (if v < 0 then max (v+(n:Int)) 0 else min v (n:Int))=(((if v < 0 then (v+(n:Int)).toNat else min v.toNat n):Nat):Int)
 by_cases hv:v < 0
 ·simp only [if_pos hv];omega
 ·simp only [if_neg hv];omega
theorem wX (lo hi:Option Int)(n:Nat):Builtin.Slice.sliceAdjust lo hi 1 (n:Int)=(((dX n 0 lo:Nat):Int),((dX n n hi:Nat):Int)):=by
 have h1:¬ ((1:Int) < 0):=by omega
 unfold Builtin.Slice.sliceAdjust
 simp only [h1,if_false]
 refine ahS ?_ ?_
 ·cases lo with
  | none=>rfl
  | some v=>exact yl v n 0
 ·cases hi with
  | none=>rfl
  | some v=>exact yl v n n
theorem wY (i j:Nat):Builtin.Slice.slicePlaces (i:Int) (j:Int) 1=j - i:=by
 unfold Builtin.Slice.slicePlaces
 have h1:(1:Int) > 0:=by omega
 simp only [h1,if_true,Int.ediv_one]
 split <;> omega
theorem nI {v:Value}{o:Option Int}{Q:Option Int->Shared->Prop}(p:IsPart v o)(h:Q o s):wpAny (model prog w) A (Builtin.Slice.slicePartIndex v) Q E s:=by
 cases p with
 | none=>exact slicePart_none h
 | int i t=>exact slicePart_int h
theorem kq {sl:Addr}{vl vu:Value}{lo hi:Option Int}{n:Nat}{Q:Int×Int×Nat->Shared->Prop}(hs:s.heap.IsSliceOf sl vl vu .none)(pl:IsPart vl lo)(pu:IsPart vu hi)
  (h:Q (((dX n 0 lo:Nat):Int),1,dX n n hi - dX n 0 lo) s):wpAny (model prog w) A (Builtin.Slice.sliceApplied (.ref sl) (pure (n:Int))) Q E s:=by
 obtain ⟨os,Sa,hcs,YM⟩:=id hs
 unfold Builtin.Slice.sliceApplied Builtin.Slice.sliceFields
 refine wpAny_bind (wpAny_bind (wpAny_field Sa YM (x:=vl) rfl (wpAny_bind (wpAny_field Sa YM (x:=vu) rfl (wpAny_bind (wpAny_field Sa YM (x:=.none) rfl (wpAny_pure ?_)))))))
 refine wpAny_bind (slicePart_none ?_)
 show wpAny _ _ (if ((1:Int)==0)=true then _ else _) _ _ s
 rw [if_neg (by decide)]
 refine wpAny_bind (nI pl (wpAny_bind (nI pu (wpAny_bind (wpAny_pure ?_)))))
 show wpAny _ _ (match Builtin.Slice.sliceAdjust lo hi 1 (n:Int) with | (lo,hi)=>pure (lo,(1:Int),Builtin.Slice.slicePlaces lo hi 1)) _ _ s
 rw [wX lo hi n]
 show wpAny _ _ (pure (((dX n 0 lo:Nat):Int),(1:Int),Builtin.Slice.slicePlaces ((dX n 0 lo:Nat):Int) ((dX n n hi:Nat):Int) 1)) _ _ s
 rw [wY]
 exact wpAny_pure h
theorem FJ (xs:Array Value)(i k:Nat):((aa_ k).filterMap fun (m:Nat)=>xs[((i:Int)+(m:Int)*1).toNat]?).toArray=((xs.toList.drop i).take k).toArray:=by
 have e:(fun (m:Nat)=>xs[((i:Int)+(m:Int)*1).toNat]?)=fun m=>xs[i+m]? :=by
  funext m
  have:((i:Int)+(m:Int)*1).toNat=i+m:=by omega
  rw [this]
 rw [e]
 have:=pick_run xs i k
 rw [List.filterMap_map] at this
 have e2:((fun x=>xs[x]?) ∘ fun x=>i+x)=fun m=>xs[i+m]? :=rfl
 rw [e2] at this
 rw [this]
theorem jx {t sl:Addr}{items:Array Value}{vl vu:Value}{lo hi:Option Int}{Q:δ}(ht:IsTup s.heap t items)(hs:s.heap.IsSliceOf sl vl vu .none)(pl:IsPart vl lo)(pu:IsPart vu hi)
  (hw:¬ (dX items.size 0 lo=0/\dX items.size items.size hi=items.size))
  (h:Q (.ref s.heap.objs.size) {s with heap:=s.heap.push {cls:=.type "tuple",data:=.seq ((items.toList.drop (dX items.size 0 lo)).take (dX items.size items.size hi - dX items.size 0 lo)).toArray}})
  (hsz:items.size<=sizeLine):wpAny (model prog w) A (getItem (.ref t) (.ref sl)) Q E s:=by
 have ym:sizeOk (.seq ((items.toList.drop (dX items.size 0 lo)).take (dX items.size items.size hi - dX items.size 0 lo)).toArray):=by
  show ((items.toList.drop (dX items.size 0 lo)).take (dX items.size items.size hi - dX items.size 0 lo)).toArray.size<=sizeLine
  rw [aaE,aaW,abp,ahU]
  omega
 have hj:dX items.size items.size hi<=items.size:=OQ _ _ (aah _) hi
 obtain ⟨os,Sa,hcs,YM⟩:=id hs
 have hTs:s.TypeIs (.ref sl) "slice":=⟨os,Sa,hcs⟩
 unfold getItem
 try with_reducible refine wpAny_holding ?_
 first | refine wpAny_bind (wpAny_pure ?_) | skip
 refine wpAny_bind (wpAny_sequenceKey ht.typeIs (by decide) ?_)
 refine wpAny_bind (wpAny_callSpecial?_slot (name:=Str.ofString "__getitem__") ht.typeIs PyProof.Rows.slot_tuple_getitem
  (wpAny_call_entry PyProof.Rows.slot_tuple_getitem ht.typeIs entry_tuple_getitem ?_ (args_tuple_getitem _ _)))
 show wpAny _ _ (Builtin.Tuple.tupleItemsOf (.ref t) >>=_) _ _ s
 refine wpAny_bind (tupleItemsOf_ ht ?_)
 refine wpAny_bind (wpAny_typeOf hTs ?_)
 rw [if_pos (by decide)]
 refine wpAny_bind (kq hs pl pu ?_)
 have K_:¬ ((((dX items.size 0 lo:Nat):Int)==0 && (1:Int)==1 && (dX items.size items.size hi - dX items.size 0 lo)==items.size)=true):=by
  intro q
  rw [abg,abg] at q
  have q1:((dX items.size 0 lo:Nat):Int)=0:=eq_of_beq q.1.1
  have q2:dX items.size items.size hi - dX items.size 0 lo=items.size:=eq_of_beq q.2
  exact hw ⟨by omega,by omega⟩
 show wpAny _ _ (if (((dX items.size 0 lo:Nat):Int)==0 && (1:Int)==1 && (dX items.size items.size hi - dX items.size 0 lo)==items.size)=true then _ else _) _ _ s
 rw [if_neg K_,FJ]
 first
  | exact wpAny_bind (m:=Builtin.Tuple.tupleExact _) (wpAny_newObj_type (wpAny_pure ⟨_,rfl,wpAny_pure h⟩) ym)
  | exact wpAny_bind (m:=Builtin.Tuple.tupleExact _) (wpAny_newObj_type (wpAny_bind (wpAny_pure (wpAny_pure ⟨_,rfl,wpAny_pure h⟩))) ym)
  | exact wpAny_bind (wpAny_bind (m:=Builtin.Tuple.tupleExact _) (wpAny_newObj_type (wpAny_pure (wpAny_pure ⟨_,rfl,wpAny_pure h⟩)) ym))
  | exact wpAny_bind (wpAny_bind (m:=Builtin.Tuple.tupleExact _) (wpAny_newObj_type (wpAny_pure ⟨_,rfl,wpAny_pure h⟩) ym))
end
end HT
namespace L2
open PySem PySem.Spec PyProof.Rows
abbrev TO:=St->Hp->(Option Int->Hp->Prop)->Prop
def PO (X:Cx)(e:Option Expr)(t:TO):Prop:=
 ∀(pins:ζ) (s:Shared) (σ:St) (H:Hp) (Q:Option Int->Hp->Prop),Inv X pins σ H s->t σ H Q->
  wpAny (model X.prog X.w) X.A (evalPart e X.env) (fun u s' =>∃o H',Inv X pins σ H' s' /\IsPart u o/\Q o H') X.xe s
def K':TO:=fun _ H Q=>Q none H
inductive FK (Q:(Option Int->Hp->Prop))(x:V)(H1:Hp):Prop where
 | mk (i:_) (_:x=.int i) (_:Q (some i) H1):FK Q x H1
def Sb (t:TE):TO:=fun σ H Q=>t σ H fun x H1=>FK Q x H1
section
variable {X:Cx}{e:Expr}{te:TE}{lo hi:Option Expr}{tl th:TO}{pos p2:Pos}
theorem iB:PO X none K':=by
 intro pins s σ H Q I h
 rw [evalPart_none]
 exact wpAny_pure ⟨none,H,I,.none,h⟩
theorem dB (h:PE X e te):PO X (some e) (Sb te):=by
 intro pins s σ H Q I hw
 rw [evalPart_some]
 refine bZ (h pins s σ H _ I hw) fun u s1 ⟨x,H1,I1,r1,q1⟩=> ?_
 obtain ⟨i,rfl,q⟩:=q1
 obtain ⟨t,rfl⟩:=r1
 exact ⟨some i,H1,I1,.int i t,q⟩
def Sd (X:Cx)(r:V->Option Int->Option Int->Hp->VK->Prop):Prop:=
 ∀(pins:ζ) (s:Shared) (σ:St) (H:Hp) (x:V) (v vl vu:Value) (lo hi:Option Int) (sl:Addr) (Q:VK),Inv X pins σ H s->RelV x v->s.heap.IsSliceOf sl vl vu .none->IsPart vl lo->IsPart vu hi->r x lo hi H Q->
  ∃T id,typeLookup (.type T) "__getitem__"=pure (some (.builtin id))/\s.TypeIs v T/\wpAny (model X.prog X.w) X.A (getItem v (.ref sl)) (EP X pins σ Q) X.xe s
def tSl (r:V->Option Int->Option Int->Hp->VK->Prop)(te:TE)(tl th:TO):TE:=fun σ H Q=>te σ H fun x H1=>tl σ H1 fun l H2=>th σ H2 fun u H3=>r x l u H3 Q
theorem dY {r:V->Option Int->Option Int->Hp->VK->Prop}(hr:Sd X r)(he:PE X e te)(hl:PO X lo tl)(hu:PO X hi th):PE X (.Subscript e (.Slice lo hi none p2) pos) (tSl r te tl th):=by
 intro pins s σ H Q I h
 refine Subscript_ (bZ (he pins s σ H _ I h) fun v s1 ⟨x,H1,I1,r1,q1⟩=> ?_)
 refine wpAny_Slice (bZ (hl pins s1 σ H1 _ I1 q1) fun vl s2 ⟨l,H2,I2,pl,q2⟩=>bZ (hu pins s2 σ H2 _ I2 q2) fun vu s3 ⟨u,H3,I3,pu,q3⟩=> ?_)
 rw [evalPart_none]
 refine wpAny_pure ?_
 have I4:Inv X pins σ H3 {s3 with heap:=s3.heap.push {cls:=.type "slice",data:=.fields #[vl,vu,.none]}}:=I3.kept (t' :=s3.toks) fun b ob q=>Heap.get?_push_of_some _ q
 obtain ⟨T,id,hT,ht,hg⟩:=hr pins {s3 with heap:=s3.heap.push {cls:=.type "slice",data:=.fields #[vl,vu,.none]}} σ H3 x v vl vu l u s3.heap.objs.size Q I4 r1 (Heap.IsSliceOf.new ..) pl pu q3
 show wpAny (model X.prog X.w) X.A (subscriptTail e (.Slice lo hi none p2) v (.ref s3.heap.objs.size)) (EP X pins σ Q) X.xe {s3 with heap:=s3.heap.push {cls:=.type "slice",data:=.fields #[vl,vu,.none]}}
 exact tail_any (ops:=[.ref s3.heap.objs.size,v]) ht hT hg (by with_unfolding_all rfl)
def fD (xs:η)(lo hi:Option Int):List V:=(xs.drop (HT.dX xs.length 0 lo)).take (HT.dX xs.length xs.length hi - HT.dX xs.length 0 lo)
theorem lJ (xs:η)(lo hi:Option Int):(fD xs lo hi).length<=xs.length:=by
 unfold fD
 rw [aaW,abp]
 omega
inductive OR (K:Frag)(x:V)(lo:Option Int)(hi:Option Int)(H:Hp)(Q:VK):Prop where
 | mk (a xs:_) (_:x=.ref a) (_:bN K H a xs) (_:¬ (HT.dX xs.length 0 lo=0/\HT.dX xs.length xs.length hi=xs.length)) (_:∀p,H p=none->Q (.ref p) (upd H p (.tup (fD xs lo hi)))):OR K x lo hi H Q
theorem wZ:Sd X (OR X.K):=by
 intro pins s σ H x v vl vu lo hi sl Q I rx hs pl pu h
 obtain ⟨a,xs,rfl,hx,hw,q⟩:=h
 cases rx
 obtain ⟨its,r,ht,hz⟩:=I.tuple hx
 have hlen:its.toArray.size=xs.length:=by rw [aaE];exact r.length.symm
 refine ⟨"tuple",_,PyProof.Rows.slot_tuple_getitem.lookup,ht.typeIs,?_⟩
 refine HT.jx ht hs pl pu (by rw [hlen];exact hw) ?_ (by rw [hlen];exact hz)
 rw [hlen]
 refine ⟨.ref s.heap.objs.size,_,I.laid (t' :=s.toks) (o:=.tup (fD xs lo hi)) (fun b ob q=>Heap.get?_push_of_some _ q) (aah _) ?_,rfl,q _ (I.bH.fresh (aah _))⟩
 exact ⟨aaf (lJ xs lo hi) hz,_,(r.drop (HT.dX xs.length 0 lo)).take (HT.dX xs.length xs.length hi - HT.dX xs.length 0 lo),IsTup.new _ _⟩
inductive Nu (K:Frag)(x:V)(y:V)(H:Hp)(Q:VK):Prop where
 | mk (a b xs ys:_) (_:x=.ref a) (_:y=.ref b) (_:bN K H a xs) (_:bN K H b ys) (_:xs≠[]) (_:xs.length+ys.length<=sizeLine) (_:(ys=[]->Q (.ref a) H)) (_:(ys≠[]->∀p,H p=none->Q (.ref p) (upd H p (.tup (xs++ys))))):Nu K x y H Q
theorem Vals.r9 {xs:η}{us:ο}(r:Vals xs us):us=[] ↔ xs=[]:=by
 cases r with
 | nil=>simp
 | cons _ _=>simp
theorem La:jq X (binaryOp .Add) (Nu X.K):=by
 intro pins s σ H x y v u Q I rx ry h
 obtain ⟨a,b,xs,ys,rfl,rfl,ha,hb,hx,hz,q1,q2⟩:=h
 cases rx
 cases ry
 obtain ⟨its,r1,p1,_⟩:=I.tuple ha
 obtain ⟨dZ,r2,p2,_⟩:=I.tuple hb
 refine HT.K9 p1 p2 (fun z=>hx (r1.r9.mp z)) (fun z=>⟨.ref a,H,I,rfl,q1 (r2.r9.mp z)⟩) (fun z=> ?_) (by rw [<- r1.length, <- r2.length];exact hz)
 refine ⟨.ref s.heap.objs.size,_,I.laid (t' :=s.toks) (o:=.tup (xs++ys)) (fun b ob q=>Heap.get?_push_of_some _ q) (aah _) ?_,rfl,q2 (fun w=>z (r2.r9.mpr w)) _ (I.bH.fresh (aah _))⟩
 exact ⟨by rw [aas];exact hz,_,r1.append r2,IsTup.new _ _⟩
end
end L2
namespace L2
open PySem PySem.Spec PyProof.Rows
def Ka (n:Nat)(i:Int):Option Nat:=if 0<=i then (if i < n then some i.toNat else none) else if -(n:Int)<=i then some (i+n).toNat else none
def jr {α:Type}(xs:List α)(i:Int):Option α:=(Ka xs.length i).bind fun j=>xs[j]?
theorem yn {n:Nat}{i:Int}{j:Nat}(h:Ka n i=some j):seqIndex? i n=some j/\j < n/\ -(n:Int)<=i/\i < n:=by
 unfold Ka at h
 by_cases h0:0<=i
 ·rw [if_pos h0] at h
  by_cases h1:i < n
  ·rw [if_pos h1] at h
   have e:i.toNat=j:=aaM h
   exact ⟨by rw [seqIndex_of h0 h1,e],by omega,by omega,h1⟩
  ·rw [if_neg h1] at h;cases h
 ·rw [if_neg h0] at h
  by_cases h1: -(n:Int)<=i
  ·rw [if_pos h1] at h
   have e:(i+n).toNat=j:=aaM h
   exact ⟨by rw [seqIndex_neg (by omega) h1,e],by omega,h1,by omega⟩
  ·rw [if_neg h1] at h;cases h
theorem r_ {α:Type}{xs:List α}{i:Int}{v:α}(h:jr xs i=some v):∃j,seqIndex? i xs.length=some j/\xs[j]? =some v/\j < xs.length/\ -(xs.length:Int)<=i/\i < xs.length:=by
 unfold jr at h
 cases e:Ka xs.length i with
 | none=>rw [e] at h;cases h
 | some j=>
  rw [e] at h
  obtain ⟨h1,h2,h3,h4⟩:=yn e
  exact ⟨j,h1,h,h2,h3,h4⟩
theorem cE {α:Type}{xs:List α}{j:Nat}{v:α}(h:xs[j]? =some v):jr xs (j:Int)=some v:=by
 have hj:j < xs.length:=(be.mp h).1
 have e:Ka xs.length (j:Int)=some j:=by
  unfold Ka
  rw [if_pos (by omega),if_pos (by omega)];simp
 unfold jr;rw [e];exact h
def Lb (b:Expr):Prop:=∀o i,subscripted b false o i=operate [o,i] (getItem o i)
def OS (X:Cx)(r:R2):Prop:=
 ∀(value slice:Expr) (pins:ζ) (s:Shared) (σ:St) (H:Hp) (x y:V) (v u:Value) (Q:VK),Inv X pins σ H s->RelV x v->RelV y u->r x y H Q->
  subscripted slice false v u=operate [v,u] (getItem v u)->wpAny (model X.prog X.w) X.A (subscriptTail value slice v u) (EP X pins σ Q) X.xe s
def MtR (X:Cx)(id:String)(r:V->List V->Hp->VK->Prop):Prop:=
 ∀(pins:ζ) (s:Shared) (σ:St) (H:Hp) (x:V) (xs:η) (v:Value) (us:ο) (Q:VK),Inv X pins σ H s->RelV x v->Vals xs us->r x xs H Q->
  wpAny (model X.prog X.w) X.A (call (.builtin id) (v::us)) (EP X pins σ Q) X.xe s
section
variable {X:Cx}{a b:Expr}{ta tb:TE}{pos:Pos}
theorem bq {r:R2}(hr:OS X r)(ha:PE X a ta)(hb:PE X b tb)(hs:Lb b):PE X (.Subscript a b pos) (OK r ta tb):=by
 intro pins s σ H Q I h
 exact Subscript_ (OL ha hb I h fun v u s2 x y H2 I2 rx ry q=>hr a b pins s2 σ H2 x y v u Q I2 rx ry q (hs _ _))
inductive Lc (K:Frag)(x:V)(y:V)(H:Hp)(Q:VK):Prop where
 | mk (p xs i v:_) (_:x=.ref p) (_:y=.int i) (_:a8 K H p xs) (_:jr xs i=some v) (_:Q v H):Lc K x y H Q
inductive FL (K:Frag)(x:V)(y:V)(H:Hp)(Q:VK):Prop where
 | mk (p xs i v:_) (_:x=.ref p) (_:y=.int i) (_:bN K H p xs) (_:jr xs i=some v) (_:Q v H):FL K x y H Q
inductive Se (x:V)(y:V)(H:Hp)(Q:VK):Prop where
 | mk (z i c:_) (_:x=.str z) (_:y=.int i) (_:z.length<=sizeLine) (_:jr z.cps.toList i=some c) (_:Q (.str ⟨#[c]⟩) H):Se x y H Q
theorem bt:OS X (Lc X.K):=by
 intro value slice pins s σ H x y v u Q I rx ry h hs
 obtain ⟨p,xs,i,z,rfl,rfl,hq,he,q⟩:=h
 cases rx
 obtain ⟨t,rfl⟩:=ry
 obtain ⟨its,r,pl,hz⟩:=I.list hq
 obtain ⟨j,h1,h2,h3,h4,h5⟩:=r_ he
 obtain ⟨w,ew,mK⟩:=r.get h2
 have hl:=r.length
 have hn:=nH
 have fin:EP X pins σ Q w s:=⟨z,H,I,mK,q⟩
 by_cases h0:0<=i
 ·have hj:i.toNat=j:=by
   rw [seqIndex_of h0 h5] at h1
   exact aaM h1
  exact item_listR pl.isList h0 (by omega) (by rw [hj];simpa using ew) fin hs
 ·have hj:(i+(its.toArray.size:Int)).toNat=j:=by
   rw [seqIndex_neg (by omega) h4] at h1
   rw [aaE, <- hl]
   exact aaM h1
  exact subscriptTail_builtinR (x:=w) pl.isList.typeIs slot_list_getitem.lookup
   (wpAny_getItem_list_neg (Q:=fun r s' =>r=w/\EP X pins σ Q r s') pl.isList (by omega) (by rw [aaE] <;> omega) (by omega) (by rw [hj];simpa using ew) ⟨rfl,fin⟩) hs
theorem nJ:OS X (FL X.K):=by
 intro value slice pins s σ H x y v u Q I rx ry h hs
 obtain ⟨p,xs,i,z,rfl,rfl,hq,he,q⟩:=h
 cases rx
 obtain ⟨t,rfl⟩:=ry
 obtain ⟨its,r,pl,hz⟩:=I.tuple hq
 obtain ⟨j,h1,h2,h3,h4,h5⟩:=r_ he
 obtain ⟨w,ew,mK⟩:=r.get h2
 have hl:=r.length
 have hn:=nH
 have fin:EP X pins σ Q w s:=⟨z,H,I,mK,q⟩
 exact subscriptTail_builtinR (x:=w) pl.typeIs slot_tuple_getitem.lookup
  (getItem_tuple (j:=j) (Q:=fun r s' =>r=w/\EP X pins σ Q r s') pl (by omega) (by omega) (by rw [aaE, <- hl];exact h1) (by simpa using ew) ⟨rfl,fin⟩) hs
theorem OT:OS X Se:=by
 intro value slice pins s σ H x y v u Q I rx ry h hs
 obtain ⟨z,i,c,rfl,rfl,hz,he,q⟩:=h
 obtain ⟨t,rfl⟩:=rx
 obtain ⟨t',rfl⟩:=ry
 obtain ⟨j,h1,h2,h3,h4,h5⟩:=r_ he
 have hl:z.cps.toList.length=z.length:=by simp [Str.length]
 rw [hl] at h1 h4 h5
 have hn:=nH
 exact tail_any (typeIs_str s z t) slot_str_getitem.lookup (getItem_str (c:=c) (by
  have e1:decide (i < -(2^63:Int))=false:=decide_eq_false (by omega)
  have e2:decide (i≥2^63)=false:=decide_eq_false (by omega)
  rw [e1,e2,aiu]) (by rw [h1];simpa using h2) ⟨.str ⟨#[c]⟩,H,I.tok _,⟨_,rfl⟩,q⟩) hs
theorem w4 (its:ο)(n j:Nat)(u:Value):Obj.mapSeq (·.setIfInBounds j u) {cls:=.type "list",data:=.seq its.toArray n}={cls:=.type "list",data:=.seq (its.set j u).toArray n}:=by
 simp [Obj.mapSeq]
theorem Inv.lst {pins:ζ}{σ:St}{H:Hp}{s:Shared}{p:Addr}{xs:η}(I:Inv X pins σ H s)(h:H p=some (.lst xs)):
  ∃(its:ο) (n:Nat),Vals xs its/\s.heap.get? p=some {cls:=.type "list",data:=.seq its.toArray n}/\xs.length<=sizeLine:=by
 obtain ⟨z,its,n,r,e⟩:=I.bH p _ h
 exact ⟨its,n,r,e,z⟩
theorem Inv.OU {pins:ζ}{σ:St}{H:Hp}{s:Shared}{p:Addr}{xs ys:η}{its its' :ο}{n n' :Nat}{f:Obj->Obj}(I:Inv X pins σ H s)(h:H p=some (.lst xs))
  (ho:s.heap.get? p=some {cls:=.type "list",data:=.seq its.toArray n}) (hf:f {cls:=.type "list",data:=.seq its.toArray n}={cls:=.type "list",data:=.seq its'.toArray n' }) (r:Vals ys its') (hz:ys.length<=sizeLine) (t:Nat):
  Inv X pins σ (upd H p (.lst ys)) {s with heap:=s.heap.update p f,toks:=t}:=by
 have e:(s.heap.update p f).get? p=some {cls:=.type "list",data:=.seq its'.toArray n' }:=by
  rw [Heap.get?_update_self f ho (by rw [hf] <;> rfl),hf]
 refine I.write (x:=p) (e:=p) (by rw [h];trivial) (.inl rfl) (fun b u hb q=>(Heap.get?_update_other _ _ (aaO hb)).trans q) ⟨_,e⟩ ?_
 exact ⟨hz,its',n',r,e⟩
inductive Nv (o:V)(i:V)(v:V)(H:Hp)(Q:(Hp->Prop)):Prop where
 | mk (p xs k j:_) (_:o=.ref p) (_:i=.int k) (_:H p=some (.lst xs)) (_:Ka xs.length k=some j) (_:Q (upd H p (.lst (xs.set j v)))):Nv o i v H Q
theorem set_list:RS X Nv:=by
 intro pins s σ H o i v ov iv u Q I ro ri rv h
 obtain ⟨p,xs,k,j,rfl,rfl,hp,hj,q⟩:=h
 cases ro
 obtain ⟨t,rfl⟩:=ri
 obtain ⟨its,n,r,ho,hz⟩:=I.lst hp
 obtain ⟨h1,h2,h3,h4⟩:=yn hj
 have hl:=r.length
 have hn:=nH
 have I' :Inv X pins σ (upd H p (.lst (xs.set j v))) {s with heap:=s.heap.update p (Obj.mapSeq (·.setIfInBounds j u))}:=
  I.OU hp ho (w4 its n j u) (r.set rv j) (by rw [anX];exact hz) s.toks
 by_cases h0:0<=k
 ·have hk:k.toNat=j:=by
   rw [seqIndex_of h0 h4] at h1
   exact aaM h1
  exact PySem.W.ki_setAt ho h0 (by omega) (by rw [aaE, <- hl];exact h4) (by rw [hk];exact ⟨_,I',q⟩)
 ·have hk:(k+(its.toArray.size:Int)).toNat=j:=by
   rw [seqIndex_neg (by omega) h3] at h1
   rw [aaE, <- hl]
   exact aaM h1
  exact PySem.W.ki_setBack ho (by omega) (by rw [aaE, <- hl];exact h3) (by omega) (by rw [hk];exact ⟨_,I',q⟩)
theorem se (lo hi:Option Int)(n:Nat):(sliceBounds lo hi none n).1=((HT.dX n 0 lo:Nat):Int)/\(sliceBounds lo hi none n).2.1=((HT.dX n n hi:Nat):Int)/\(sliceBounds lo hi none n).2.2=1:=by
 refine ⟨?_,?_,rfl⟩
 ·cases lo with
  | none=>simp [sliceBounds,HT.dX]
  | some i=>
   simp only [sliceBounds,HT.dX,aiO,show (1:Int) > 0 by decide,if_true]
   by_cases h:i < 0
   ·simp only [h,if_true] <;> omega
   ·simp only [h,if_false] <;> omega
 ·cases hi with
  | none=>simp [sliceBounds,HT.dX]
  | some i=>
   simp only [sliceBounds,HT.dX,aiO,show (1:Int) > 0 by decide,if_true]
   by_cases h:i < 0
   ·simp only [h,if_true] <;> omega
   ·simp only [h,if_false] <;> omega
theorem qk (its:ο)(lo hi:Option Int):slicePick its.toArray lo hi none=((its.drop (HT.dX its.length 0 lo)).take (HT.dX its.length its.length hi - HT.dX its.length 0 lo)).toArray:=by
 obtain ⟨h1,h2,h3⟩:=se lo hi its.toArray.size
 unfold slicePick
 rw [h1,h2,h3]
 simp only [sliceRange_one,pick_run,aaE] <;> rfl
inductive Sf (K:Frag)(x:V)(lo:Option Int)(hi:Option Int)(H:Hp)(Q:VK):Prop where
 | mk (a xs:_) (_:x=.ref a) (_:a8 K H a xs) (_:∀p,H p=none->Q (.ref p) (upd H p (.lst (fD xs lo hi)))):Sf K x lo hi H Q
theorem jy:Sd X (Sf X.K):=by
 intro pins s σ H x v vl vu lo hi sl Q I rx hs pl pu h
 obtain ⟨a,xs,rfl,hx,q⟩:=h
 cases rx
 obtain ⟨its,r,ht,hz⟩:=I.list hx
 have hlen:=r.length
 refine ⟨"list",_,slot_list_getitem.lookup,ht.isList.typeIs,?_⟩
 refine wpAny_getItem_list_slice ht.isList hs pl pu .none (by simp) ?_ (by rw [aaE] <;> omega)
 rw [qk, <- hlen]
 refine ⟨.ref s.heap.objs.size,_,I.laid (t' :=s.toks) (o:=.lst (fD xs lo hi)) (fun b ob q=>Heap.get?_push_of_some _ q) (aah _) ?_,rfl,q _ (I.bH.fresh (aah _))⟩
 exact ⟨aaf (lJ xs lo hi) hz,_,0,(r.drop (HT.dX xs.length 0 lo)).take (HT.dX xs.length xs.length hi - HT.dX xs.length 0 lo),Heap.get?_push_size _ rfl⟩
def iZ:V->Bool
 | .cv=>true
 | .bl _=>true
 | .int _=>true
 | .str _=>true
 | _=>false
def p_:V->V->Bool
 | .cv,.cv=>true
 | .bl a,.bl b=>a==b
 | .bl a,.int b=>(if a then 1 else 0)==b
 | .int a,.bl b=>a==(if b then 1 else 0)
 | .int a,.int b=>a==b
 | .str a,.str b=>a==b
 | _,_=>false
theorem FN {A:Around}{s:Shared}{y x:V}{u v:Value}(ry:RelV y u)(rx:RelV x v)(fy:iZ y=true)(fx:iZ x=true):SeqAt.EqAt A s u v (p_ y x):=by
 cases y with
 | cv=>
  cases ry
  cases x with
  | cv=>cases rx;exact SeqAt.EqAt.same _
  | bl b=>cases rx;exact SeqAt.EqAt.none_bool b
  | int b=>obtain ⟨t,rfl⟩:=rx;exact SeqAt.EqAt.none_int b t
  | str b=>obtain ⟨t,rfl⟩:=rx;exact SeqAt.EqAt.none_str b t
  | _=>exact absurd (show false=true from fx) aaz
 | bl a=>
  cases ry
  cases x with
  | cv=>cases rx;exact SeqAt.EqAt.bool_none a
  | bl b=>cases rx;exact SeqAt.EqAt.bool_bool a b
  | int b=>obtain ⟨t,rfl⟩:=rx;exact SeqAt.EqAt.bool_int a b t
  | str b=>obtain ⟨t,rfl⟩:=rx;exact SeqAt.EqAt.bool_str a b t
  | _=>exact absurd (show false=true from fx) aaz
 | int a=>
  obtain ⟨t',rfl⟩:=ry
  cases x with
  | cv=>cases rx;exact SeqAt.EqAt.int_none a t'
  | bl b=>cases rx;exact SeqAt.EqAt.int_bool a t' b
  | int b=>obtain ⟨t,rfl⟩:=rx;exact SeqAt.EqAt.int_int a t' b t
  | str b=>obtain ⟨t,rfl⟩:=rx;exact SeqAt.EqAt.int_str a t' b t
  | _=>exact absurd (show false=true from fx) aaz
 | str a=>
  obtain ⟨t',rfl⟩:=ry
  cases x with
  | cv=>cases rx;exact SeqAt.EqAt.str_none a t'
  | bl b=>cases rx;exact SeqAt.EqAt.str_bool a t' b
  | int b=>obtain ⟨t,rfl⟩:=rx;exact SeqAt.EqAt.str_int a t' b t
  | str b=>obtain ⟨t,rfl⟩:=rx;exact SeqAt.EqAt.str_str a t' b t
  | _=>exact absurd (show false=true from fx) aaz
 | _=>exact absurd (show false=true from fy) aaz
def Ld (x:V)(u:Value):Bool:=match u with
 | .none=>p_ .cv x
 | .bool b=>p_ (.bl b) x
 | .int i _=>p_ (.int i) x
 | .str z _=>p_ (.str z) x
 | _=>false
theorem FO {x y:V}{u:Value}(r:RelV y u)(f:iZ y=true):Ld x u=p_ y x:=by
 cases y with
 | cv=>cases r;rfl
 | bl b=>cases r;rfl
 | int i=>obtain ⟨t,rfl⟩:=r;rfl
 | str z=>obtain ⟨t,rfl⟩:=r;rfl
 | _=>exact absurd (show false=true from f) aaz
theorem sf {x:V}:∀{xs:η} {us:ο},Vals xs us->xs.all iZ=true->us.any (Ld x)=xs.any fun y=>p_ y x
 | _,_,.nil,_=>rfl
 | y::xs,u::us,.cons r t,f=>by
  rw [aiv,abg] at f
  rw [ahx,ahx,FO r f.1,sf t f.2]
theorem nK {A:Around}{s:Shared}{x:V}{v:Value}(rx:RelV x v)(fx:iZ x=true):∀{xs:η} {us:ο},Vals xs us->xs.all iZ=true->∀u∈us,SeqAt.EqAt A s u v (Ld x u)
 | _,_,.nil,_=>fun u hu=>by cases hu
 | y::xs,u::us,.cons r t,f=>fun u' hu=>by
  rw [aiv,abg] at f
  rcases aaN.mp hu with rfl | hu
  ·rw [FO r f.1];exact FN r rx f.1 fx
  ·exact nK rx fx t f.2 u' hu
def Q7 (x:V)(xs:η):Bool:=xs.any fun y=>p_ y x
inductive ZU (K:Frag)(neg:Bool)(x:V)(y:V)(H:Hp)(Q:VK):Prop where
 | mk (p xs:_) (_:y=.ref p) (_:(a8 K H p xs\/bN K H p xs)) (_:iZ x=true) (_:xs.all iZ=true) (_:Q (.bl (if neg then !Q7 x xs else Q7 x xs)) H):ZU K neg x y H Q
theorem qX:jq X (compareOp .In) (ZU X.K false):=by
 intro pins s σ H x y v u Q I rx ry h
 obtain ⟨p,xs,rfl,hq,fx,fs,q⟩:=h
 cases ry
 rcases hq with hq | hq
 ·obtain ⟨its,r,pl,hz⟩:=I.list hq
  refine SeqAt.in_listAt (Ld x) pl.isList (fun w hw=>nK rx fx r fs w (by simpa using hw)) ⟨.bl _,H,I,rfl,?_⟩
  rw [show its.toArray.any (Ld x)=its.any (Ld x) by simp,sf r fs]
  exact q
 ·obtain ⟨its,r,pl,hz⟩:=I.tuple hq
  refine SeqAt.in_tupleAt (Ld x) pl (fun w hw=>nK rx fx r fs w (by simpa using hw)) ⟨.bl _,H,I,rfl,?_⟩
  rw [show its.toArray.any (Ld x)=its.any (Ld x) by simp,sf r fs]
  exact q
theorem aJ:fw X (.builtin "len") (fun xs H Q=>∃p ys,xs=[.ref p]/\(a8 X.K H p ys\/bN X.K H p ys)/\Q (.int ys.length) H):=by
 intro pins s σ H xs us Q I r h
 obtain ⟨p,ys,rfl,hq,q⟩:=h
 obtain ⟨u,rfl,rx⟩:=vals1 r
 cases rx
 have hn:=nH
 rcases hq with hq | hq
 ·obtain ⟨its,r',pl,hz⟩:=I.list hq
  have hlen:=r'.length
  exact Calls.call_len_list pl.isList (by simp only [aaE] <;> omega) ⟨.int ys.length,H,I.tok _,⟨s.toks+1,by rw [aaE,hlen]⟩,q⟩
 ·obtain ⟨its,r',pl,hz⟩:=I.tuple hq
  have hlen:=r'.length
  exact len_tuple pl (by simp only [aaE] <;> omega) ⟨.int ys.length,H,I.tok _,⟨s.toks+1,by rw [aaE,hlen]⟩,q⟩
def tyV (K:Frag)(T:String)(x:V)(H:Hp):Prop:=match x with
 | .str _=>T="str"
 | .int _=>T="int"
 | .ref p=>(T="list"/\∃xs,a8 K H p xs)\/(T="tuple"/\∃o,K.lookup p=some o/\o.cls=.type "tuple"/\o.dict=none)\/
   (T="dict"/\((∃kvs,H p=some (.dK kvs))\/∃kvs,H p=some (.dT kvs)))\/(T="set"/\∃S n,H p=some (.set S n))
 | _=>False
theorem FP {pins:ζ}{σ:St}{H:Hp}{s:Shared}{T:String}{x:V}{v:Value}(I:Inv X pins σ H s)(r:RelV x v)(ty:tyV X.K T x H):
  s.TypeIs v T/\∀a,v=.ref a->∃ob,s.heap.get? a=some ob/\ob.dict=none:=by
 cases x with
 | str z=>
  obtain ⟨t,rfl⟩:=r
  cases (show T="str" from ty)
  exact ⟨typeIs_str s z t,fun _ e=>nomatch e⟩
 | int i=>
  obtain ⟨t,rfl⟩:=r
  cases (show T="int" from ty)
  exact ⟨typeIs_int s i t,fun _ e=>nomatch e⟩
 | ref p=>
  cases r
  rcases ty with ⟨rfl,xs,hq⟩ | ⟨rfl,o,hk,hc,hd⟩ | ⟨rfl,hk⟩ | ⟨rfl,S,n,hk⟩
  ·obtain ⟨its,_,pl,_⟩:=I.list hq
   refine ⟨pl.isList.typeIs,fun a e=> ?_⟩
   cases e
   obtain ⟨o,n,e,c,hd,_⟩:=pl
   exact ⟨o,e,hd⟩
  ·refine ⟨⟨o,I.ja p o hk,hc⟩,fun a e=> ?_⟩
   cases e
   exact ⟨o,I.ja _ o hk,hd⟩
  ·have z:∃o,s.heap.get? p=some o/\o.ExactDict:=by
    rcases hk with ⟨kvs,hk⟩ | ⟨kvs,hk⟩
    ·obtain ⟨_,_,_,_,o,_,_,e,ex,_⟩:=I.bH p _ hk
     exact ⟨o,e,ex⟩
    ·obtain ⟨_,_,_,_,o,_,_,e,ex,_⟩:=I.bH p _ hk
     exact ⟨o,e,ex⟩
   obtain ⟨o,e,ex⟩:=z
   refine ⟨⟨o,e,ex.1⟩,fun a e2=> ?_⟩
   cases e2
   exact ⟨o,e,ex.2.1⟩
  ·obtain ⟨o,_,_,_,e,ex,_⟩:=I.bH p _ hk
   refine ⟨⟨o,e,ex.1⟩,fun a e2=> ?_⟩
   cases e2
   exact ⟨o,e,ex.2.1⟩
 | _=>exact False.elim ty
def tBM (K:Frag)(T:String)(r:V->List V->Hp->VK->Prop)(to:TE)(t:TA):TE:=fun σ H Q=>to σ H fun x H1=>tyV K T x H1/\t σ H1 fun xs H2=>r x xs H2 Q
variable {o e:Expr}{es:List Expr}{to:TE}{t:TA}{name:Str}{apos cJ:Pos}{T id:String}{r:V->List V->Hp->VK->Prop}
theorem i0 (pa:PlainAttrs T)(slot:Slot T name id)(hty:typeOf (.builtin id)=pure (.type "method_descriptor"))(hm:MtR X id r)(ho:PE X o to)(ha:PA X (e::es) t)
  (jz:attributeBase o name X.env (eval o X.env)=eval o X.env:=by rfl)
  (ZV:((backTo cJ (starEach (e::es) X.env)).all (fun x=> !x.1) && (backToKw cJ (keywordEach [] X.env)).all (fun x=>x.1.isSome)
   && decide ((e::es).length+([]:List Keyword).length+(if ([]:List Keyword).isEmpty then 0 else 1) < 30))=true:=by rfl)
  (jA:(apos.endLine==cJ.line)=true:=by rfl) (hs:starEach (e::es) X.env=(false,eval e X.env)::starEach es X.env:=by rfl) (OV:(backTo cJ (starEach es X.env)).any (·.1)=false:=by rfl):
  PE X (.Call (.Attribute o name apos) (e::es) [] cJ) (tBM X.K T r to t):=by
 intro pins s σ H Q I h
 refine wpAny_Call_method_late jz ZV jA rfl (bZ (ho pins s σ H _ I h) fun v s1 ⟨x,H1,I1,r1,ty,q1⟩=> ?_)
 obtain ⟨h1,h2⟩:=FP I1 r1 ty
 refine ⟨T,id,pa,slot,hty,h1,h2,?_⟩
 have hA:=ha cJ pins s1 σ H1 _ I1 q1
 rw [hs] at hA ⊢
 refine Calls.callWith_builtin (by show (false || (backTo cJ (starEach es X.env)).any (·.1))=false;rw [OV] <;> rfl) (Calls.evalArgs_plain ?_)
 exact bZ hA fun us s2 ⟨vs,H2,I2,r2,q2⟩=>hm pins s2 σ H2 x vs v us Q I2 r1 r2 q2
end
end L2
namespace L2
open PySem PySem.Spec PyProof.Rows
def MtM (X:Cx)(id:String)(r:V->List V->Hp->VK->Prop):Prop:=
 ∀(pins:ζ) (s:Shared) (σ:St) (H:Hp) (x:V) (xs:η) (v:Value) (us:ο) (Q:VK),Inv X pins σ H s->RelV x v->Vals xs us->r x xs H Q->
  wpAny (model X.prog X.w) X.A (call (.builtin id) (v::us)) (EP X pins σ Q) X.xe s
theorem Vals.one:∀{x:V} {us:ο},Vals [x] us->∃u,us=[u]/\RelV x u
 | _,_,.cons r .nil=>⟨_,rfl,r⟩
theorem Vals.eraseIdx:∀{xs:η} {us:ο} (i:Nat),Vals xs us->Vals (xs.eraseIdx i) (us.eraseIdx i)
 | _,_,_,.nil=>.nil
 | _,_,0,.cons _ t=>t
 | _,_,i+1,.cons r t=>.cons r (Vals.eraseIdx i t)
theorem Vals.rep {xs:η}{us:ο}(h:Vals xs us):∀k:Nat,Vals (aaH k xs).flatten (aaH k us).flatten
 | 0=>.nil
 | k+1=>by
  rw [ab3,ab3,ahE,ahE]
  exact Vals.append h (Vals.rep h k)
theorem qY {α:Type}:∀(l:List α) (i:Nat),(l.eraseIdx i).length<=l.length
 | [],_=>aah _
 | _::_,0=>af_ _
 | _::r,i+1=>Nat.succ_le_succ (qY r i)
theorem foldl_rep (its:ο):∀(k:Nat) (acc:ο),
  apN (fun x1 x2=>x1++x2) acc.toArray (aaH k its.toArray)=(acc++(aaH k its).flatten).toArray
 | 0,acc=>by simp
 | k+1,acc=>by
  have e:acc.toArray++its.toArray=(acc++its).toArray:=by simp
  have e2:(acc++its)++(aaH k its).flatten=acc++(aaH (k+1) its).flatten:=by
   rw [ab3,ahE,ahm]
  rw [<- e2, <- foldl_rep its k (acc++its), <- e,ab3,List.foldl_cons]
section
variable {X:Cx}{pins:ζ}{σ:St}{H:Hp}{s:Shared}{l b:Addr}{xs ys zs:η}
theorem Inv.OW {its its' :ο}{n:Nat}{f:Array Value->Array Value}{t' :Nat}(I:Inv X pins σ H s)(hH:H l=some (.lst xs))
  (e:s.heap.get? l=some {cls:=.type "list",data:=.seq its.toArray n}) (hf:f its.toArray=its'.toArray) (hv:Vals ys its') (hz:ys.length<=sizeLine):
  Inv X pins σ (upd H l (.lst ys)) {s with heap:=s.heap.update l (Obj.mapSeq f),toks:=t' }:=by
 have q:=PySem.IsL.update e f
 rw [hf] at q
 refine I.write (x:=l) (e:=l) (by rw [hH];exact trivial) (.inl rfl) (fun b' u hb hu=>(Heap.get?_update_other s.heap (Obj.mapSeq f) (aaO hb)).trans hu) ⟨_,q⟩ ?_
 exact ⟨hz,its',_,hv,q⟩
theorem Inv.Le {its:ο}{t' :Nat}(I:Inv X pins σ H s)(hv:Vals ys its)(hz:ys.length<=sizeLine):
  Inv X pins σ (upd H s.heap.objs.size (.lst ys)) {s with heap:=s.heap.push {cls:=.type "list",data:=.seq its.toArray},toks:=t' }:=
 I.laid (fun _ _ q=>Heap.get?_push_of_some _ q) (aah _) ⟨hz,its,0,hv,Heap.get?_push_size _ rfl⟩
theorem Inv.fresh (I:Inv X pins σ H s):H s.heap.objs.size=none:=I.bH.fresh (aah _)
theorem Inv.ma (I:Inv X pins σ H s)(hH:H l=some (.lst xs)):xs.length<=sizeLine/\∃(its:ο) (n:Nat),Vals xs its/\xs.length=its.length/\s.heap.get? l=some {cls:=.type "list",data:=.seq its.toArray n}:=by
 obtain ⟨z,its,n,r,e⟩:=I.bH l _ hH
 exact ⟨z,its,n,r,r.length,e⟩
theorem uU {n:Nat}(h:n<=sizeLine):Builtin.List.listTooLong n=false:=by
 unfold Builtin.List.listTooLong
 exact decide_eq_false (by omega)
end
section
variable {X:Cx}
inductive yo (x:V)(vs:η)(H:Hp)(Q:VK):Prop where
 | mk (l xs y:_) (_:x=.ref l) (_:vs=[y]) (_:H l=some (.lst xs)) (_:xs.length < sizeLine) (_:Q .cv (upd H l (.lst (xs++[y])))):yo x vs H Q
theorem c7:MtM X "list.append" yo:=by
 intro pins s σ H x vs v us Q I rx rv h
 obtain ⟨l,xs,y,rfl,rfl,hH,hz,q⟩:=h
 cases rx
 obtain ⟨u,rfl,ru⟩:=rv.one
 obtain ⟨z,its,n,r,hl,e⟩:=I.ma hH
 refine call_meets F.slot_list_append ⟨_,e,rfl⟩ F.entry_list_append (F.args_list_append_2 _ _) (PySem.list_append l its.toArray n u (by rw [aaE];omega)) ⟨e,?_⟩
 refine ⟨.cv,_,I.OW (its' :=its++[u]) hH e (by simp) (r.append (.cons ru .nil)) ?_,rfl,q⟩
 rw [aas,ail]
 omega
def OX:V->List V->Hp->VK->Prop:=fun x vs H Q=>∃l xs i k y,x=.ref l/\vs=[.int i]/\H l=some (.lst xs)/\ -(2^63)<=i/\i < 2^63/\seqIndex? i xs.length=some k/\xs[k]? =some y/\Q y (upd H l (.lst (xs.eraseIdx k)))
theorem uV:MtM X "list.pop" OX:=by
 intro pins s σ H x vs v us Q I rx rv h
 obtain ⟨l,xs,i,k,y,rfl,rfl,hH,h1,h2,hk,hy,q⟩:=h
 cases rx
 obtain ⟨u,rfl,ru⟩:=rv.one
 obtain ⟨t,rfl⟩:=ru
 obtain ⟨z,its,n,r,hl,e⟩:=I.ma hH
 obtain ⟨w,hw,mK⟩:=r.get hy
 refine call_meets F.slot_list_pop ⟨_,e,rfl⟩ F.entry_list_pop (F.args_list_pop_2 _ _)
  (MeetsSeq.list_pop_at l its.toArray n i t k w (fitsIndex_both h1 h2) (by rw [aaE, <- hl];exact hk) (by rw [<- Array.getElem?_toList];exact hw) (by rw [aaE];omega)) ⟨e,?_⟩
 refine ⟨y,_,I.OW (its' :=its.eraseIdx k) hH e ?_ (r.eraseIdx k) ?_,mK,q⟩
 ·show its.toArray.eraseIdxIfInBounds k=(its.eraseIdx k).toArray
  rw [List.eraseIdxIfInBounds_toArray]
 ·have:=qY xs k
  omega
inductive Sg (x:V)(y:V)(H:Hp)(Q:VK):Prop where
 | mk (l b xs zs:_) (_:x=.ref l) (_:y=.ref b) (_:H l=some (.lst xs)) (_:H b=some (.lst zs)) (_:xs.length+zs.length<=sizeLine) (_:∀p,H p=none->Q (.ref p) (upd H p (.lst (xs++zs)))):Sg x y H Q
theorem FQ:jq X (binaryOp .Add) Sg:=by
 intro pins s σ H x y v u Q I rx ry h
 obtain ⟨l,b,xs,zs,rfl,rfl,hH,hB,hz,q⟩:=h
 cases rx
 cases ry
 obtain ⟨z,its,n,r,hl,e⟩:=I.ma hH
 obtain ⟨z2,dZ,n2,r2,w6,e2⟩:=I.ma hB
 refine PySem.P.add_list e e2 ?_ (by rw [aaE,aaE];omega)
 have ea:its.toArray++dZ.toArray=(its++dZ).toArray:=by simp
 rw [ea]
 exact ⟨.ref _,_,I.Le (t' :=s.toks) (r.append r2) (by rw [aas];omega),rfl,q _ I.fresh⟩
inductive Sh (x:V)(y:V)(H:Hp)(Q:VK):Prop where
 | mk (l k xs:_) (_:x=.ref l) (_:y=.int k) (_:H l=some (.lst xs)) (_: -(2^63)<=k) (_:k < 2^63) (_:xs.length*k.toNat<=sizeLine) (_:∀p,H p=none->Q (.ref p) (upd H p (.lst (aaH k.toNat xs).flatten))):Sh x y H Q
theorem len_rep {α:Type}(xs:List α)(k:Nat):(aaH k xs).flatten.length=k*xs.length:=by
 induction k with
 | zero=>simp
 | succ k ih=>rw [ab3,ahE,aas,ih,Nat.succ_mul,aie]
theorem FR:jq X (binaryOp .Mult) Sh:=by
 intro pins s σ H x y v u Q I rx ry h
 obtain ⟨l,k,xs,rfl,rfl,hH,h1,h2,hz,q⟩:=h
 cases rx
 obtain ⟨t,rfl⟩:=ry
 obtain ⟨z,its,n,r,hl,e⟩:=I.ma hH
 have hlen:its.toArray.size*k.toNat<=sizeLine:=by rw [aaE, <- hl];exact hz
 have ZW:¬ its.toArray.size*k.toNat > (2^63 - 1) / 8:=by
  have:(sizeLine:Nat)<=(2^63 - 1) / 8:=by decide
  omega
 have ZX:¬ (!Builtin.List.listFitsIndex k)=true:=by
  rw [fitsIndex_both h1 h2]
  exact aaz
 have FT:¬ Builtin.List.listTooLong (its.toArray.size*k.toNat)=true:=by
  rw [uU hlen]
  exact aaz
 have ZY:apN (fun x1 x2=>x1++x2) #[] (aaH (if its.toArray.isEmpty=true then 0 else k.toNat) its.toArray)=(aaH k.toNat its).flatten.toArray:=by
  have f0:∀m:Nat,apN (fun x1 x2=>x1++x2) #[] (aaH m its.toArray)=(aaH m its).flatten.toArray:=fun m=>by
   have:=foldl_rep its m []
   rw [ahj] at this
   exact this
  rw [f0]
  cases its with
  | nil=>simp
  | cons a r' =>rw [if_neg (by simp)]
 refine wpAny_binaryOp_repeat_ref (T:="list") (U:="int") (by decide) ⟨_,e,rfl⟩ (fun s' =>typeIs_int s' k t) noFill_list_mul F.fills_int_mul F.slot_int_rmul repeat_list F.slot_int_index.lookup
  (call_meets F.slot_int_rmul (typeIs_int s k t) F.entry_int_rmul (F.args_int_rmul_2 _ _) (int___rmul___int_list k t l its.toArray n)
   ⟨e,rfl,⟨_,e,rfl⟩,call_meets F.slot_list_mul ⟨_,e,rfl⟩ F.entry_list_mul (F.args_list_mul_2 _ _) (AutoListH.list___mul___list_int_3 l its.toArray n k t ZX ZW FT) ⟨e,?_⟩⟩)
 rw [ZY]
 exact ⟨.ref _,_,I.Le (t' :=s.toks) (r.rep k.toNat) (by rw [len_rep,ahY];exact hz),rfl,q _ I.fresh⟩
end
section
variable {prog:Program}{w:World}{A:Around}{E:δ}{s:Shared}
set_option maxRecDepth 100000 in
end
section
variable {X:Cx}
end
end L2
namespace Att
open PySem PySem.W PySem.Calls PyProof.Rows
theorem me {P:Params}{h:Heap}:∀(ns:ξ) (vs:ο),WellAll P h vs (ns.map WData.int)->IntsAre vs ns:=by
 intro ns
 induction ns with
 | nil=>
  intro vs w
  rw [ach] at w
  cases w
  exact .nil
 | cons n ns ih=>
  intro vs w
  rw [aac] at w
  cases w with
  | cons a b=>
   cases a
   exact .cons _ _ (ih _ b)
theorem z8 {l:OpenLaw}{n:Nat}(hn:l.most=some n){P:Params}{h:Heap}{args:List WData}{vals:ο}
  (Lf:l.row.toRowW.claim.pre args=true) (ZZ:WellAll P h vals args):
  ∃a vs ns,vals=[Value.ref a]/\args=[WData.list (ns.map WData.int)]/\h.get? a=some {cls:=.type "list",data:=.seq vs.toArray}/\IntsAre vs ns/\ns.length<=n:=by
 have hsh:WShape.hasAll [] args [.list .int]=true:=(pre_splitW Lf).1
 have hc:l.pre.holds [] {args:=args}=true:=(pre_splitW Lf).2
 obtain ⟨d,r,rfl,h1,h2⟩:=hasAllW_cons hsh
 obtain rfl:=hasAllW_nil h2
 obtain ⟨xs,rfl,h3⟩:=hasW_list h1
 obtain ⟨ns,rfl⟩:=items_int h3
 have hlen:ns.length<=n:=by
  unfold OpenLaw.pre at hc
  have h4:(WTm.not (.lt (.lit (.int (n:Int))) (.len (.arg 0)))).holds [] {args:=[.list (ns.map .int)]}=true:=by
   have h4:=(holds_andW hc).1
   rw [hn] at h4
   exact h4
  have h5:=condW_of h4 (w_not (w_lt w_lit (w_len_list (w_arg rfl))))
  rw [aaa] at h5
  refine aib fun q=> ?_
  have q' :(n:Int) < ((ns.length:Nat):Int):=by omega
  first
   | (rw [decide_eq_true q'] at h5;exact absurd h5 (by decide))
   | (simp at h5;omega)
 cases ZZ with
 | cons w1 w2=>
  cases w2
  cases w1 with
  | list ho FU=>exact ⟨_,_,ns,rfl,rfl,ho,me ns _ FU,hlen⟩
theorem z9 (l:OpenLaw)(args:List WData):l.row.toRowW.claim.post args (.bool true) args=true:=
 postW_of (r:=l.row.toRowW) (X:=(true==true))
  (show WShape.has [] (.bool true) .bool=true by first | rfl | decide | simp [WShape.has,WShape.arms,WShape.armsAll])
  (show (WTm.eq .res (.lit (.bool true))).value [] {args:=args,res:=some (.bool true),after:=args}=some (.bool (true==true)) from w_eq_bool (w_res rfl) w_lit) rfl
section
variable {prog:Program}{w:World}{A:Around}{E:δ}{s:Shared}{K:Frag}
end
end Att
namespace L2
open PySem PySem.Spec PyProof.Rows
theorem qZ:∀{vs:ο} {ns:ξ},IntsAre vs ns->Vals (ns.map V.int) vs
 | _,_,.nil=>.nil
 | _,_,.cons n t h=>.cons ⟨t,rfl⟩ (qZ h)
def Si (H:Hp):Prop:=∀b,H b=none\/∃o xs,H b=some (.fk o (.lst xs))
theorem FV {P:Program}{w:World}{K:Frag}{mg mb:ι}{CX:kd}{k:Nat}{fa a:Addr}{fd:FuncData}{x:Str}{sp:Sp}{s₁:Shared}{vs:ο}{ns:ξ}
  (KX:K.In s₁.heap) (hns:s₁.heap.Ns mainGlobals mg) (hb:s₁.heap.Ns builtinsNs mb) (hbb:∀x:Str,x≠ "__name__"->mb x=bootBuiltins x) (Z0:s₁.heap.NoLimit) (Lg:s₁.heap.NoSeer) (hg:s₁.gens= #[])
  (ha:s₁.heap.get? a=some {cls:=.type "list",data:=.seq vs.toArray}) (hi:IntsAre vs ns) (hl:ns.length<=sizeLine) (hr:cp k callerA)
  (F:∀base:Heap,K.In base->base.Ns mainGlobals mg->cB P w K mg base CX k fa fd [x] sp) (Sj:∀(s:Shared) (u:Value),BindsTo s fd ⟨[u],[]⟩ [(x,u)])
  (qj:∀H:Hp,Si H->a8 K H a (ns.map V.int)->sp [.ref a] H (fun v _=>v=.bl true) fun _ _ _=>False)
  (hCX:∀H e s',CX [] H s₁ (fun _ _ _=>False) e s' ->False):
  codeAny (model P w) callerA (.call (.ref fa) ⟨[.ref a],[]⟩) (fun r s' =>r=.ok (.ret (.bool true))/\OldK s₁.heap s'.heap/\s'.os=s₁.os/\AllBare s'.gens) s₁:=by
 have rv:=qZ hi
 have Z1:=hi.length
 have core:∀H:Hp,Si H->a8 K H a (ns.map V.int)->iY P w H s₁.heap->(∀b,H b≠none->b=a)->(H a≠none->K.lookup a=none)->
   codeAny (model P w) callerA (.call (.ref fa) ⟨[.ref a],[]⟩) (fun r s' =>r=.ok (.ret (.bool true))/\OldK s₁.heap s'.heap/\s'.os=s₁.os/\AllBare s'.gens) s₁:=by
  intro H hO hS bH hA hK
  have si:∀{b:Addr} {o:Obj},s₁.heap.get? b=some o->H b=none->(rS s₁.heap H).get? b=some o:=fun e n=>EK e n
  have R8:∀{b:Addr} {o:Obj} {es:Array DictEntry} {ep:Nat},s₁.heap.get? b=some o->o.data=.dict es ep->H b=none:=fun {b o es ep} e d=>by
   cases q:H b with
   | none=>rfl
   | some u=>
    have e' :b=a:=hA b (by rw [q];simp)
    subst e'
    rw [ha] at e;cases e
    have d' :Data.seq vs.toArray _=Data.dict es ep:=d
    cases d'
  have Nw:∀{b:Addr} {m:ι},s₁.heap.Ns b m->(rS s₁.heap H).Ns b m:=fun {b m} ⟨o,es,ep,e,d,r⟩=>⟨o,es,ep,si e (R8 e d),d,r⟩
  have hKb:K.In (rS s₁.heap H):=fun b o e=>si (KX b o e) (by
   cases q:H b with
   | none=>rfl
   | some u=>
    have e' :b=a:=hA b (by rw [q];simp)
    subst e'
    rw [hK (by rw [q];simp)] at e;cases e)
  have hM:Mod K mg (rS s₁.heap H):=⟨hKb,Nw hns,⟨mb,Nw hb,hbb⟩,let ⟨mc,h1,h2⟩:=Z0;⟨mc,Nw h1,h2⟩,
   ⟨let ⟨mc,h1,h2⟩:=Lg.statics;⟨mc,Nw h1,h2⟩,let ⟨mc,h1,h2⟩:=Lg.mods;⟨mc,Nw h1,h2⟩,let ⟨mc,h1,h2⟩:=Lg.imp;⟨mc,Nw h1,h2⟩,
    let ⟨mg',bm,ob,h1,h2,h3,h4,h5⟩:=Lg.main;⟨mg',bm,ob,Nw h1,h2,si h3 (by
     cases q:H bm with
     | none=>rfl
     | some u=>
      have e' :bm=a:=hA bm (by rw [q];simp)
      subst e'
      rw [ha] at h3
      cases h3
      have h4' :Value.type "list"=Value.type "module":=h4
      injection h4' with e9
      exact absurd e9 (by decide)),h4,h5⟩⟩⟩
  have e0:wW P w K mg (rS s₁.heap H) callerA [] s₁ H:=⟨rfl,hM,fun b o e=>KR e,aid (zP _ _),trivial,fun b hb=>absurd (show b∈([]:List Addr) from hb) (by simp),bH,.of_eq hg⟩
  refine codeAny_mono ((F _ hKb (Nw hns)).run callerA [] s₁ H ⟨[.ref a],[]⟩ [.ref a] [.ref a] _ _ hr e0 (Sj s₁ (.ref a)) (.cons rfl .nil) (qj H hO hS)) fun r s' h=> ?_
  cases r with
  | error e=>exact (hCX H e s' h).elim
  | ok fl=>
   cases fl with
   | next=>exact False.elim h
   | brk=>exact False.elim h
   | cont=>exact False.elim h
   | ret u=>
    obtain ⟨v,H',os,bare,un,Z2,r',q⟩:=h
    have q' :v=.bl true:=q
    subst q'
    obtain rfl:u=Value.bool true:=r'
    refine ⟨rfl,OldK.of_keep fun b o e=> ?_,os,bare⟩
    cases q:H b with
    | none=>exact un.keep b o e q (by intro z;exact absurd (show b∈([]:List Addr) from z) (by simp)) (by simp)
    | some u=>
     rcases hO b with z | ⟨ob,xs,z⟩
     ·rw [q] at z;cases z
     ·have z2:=un.qf b ob _ z
      obtain ⟨e1,_⟩:=bH b _ z
      obtain ⟨e2,_⟩:=Z2 b _ z2
      rw [e] at e1;cases e1
      exact e2
 cases hk:K.lookup a with
 | some o=>
  have e:=KX a o hk
  rw [ha] at e
  cases e
  refine core (fun _=>none) (fun _=>.inl rfl) (.inr ⟨_,vs.toArray,_,hk,rfl,rfl,rfl,by rw [aaE,Z1];exact hl,by simpa using rv⟩) (fun b u z=>by have z' :(none:Option HO)=some u:=z;cases z') (fun b z=>absurd rfl z) fun z=>absurd rfl z
 | none=>
  refine core (fun b=>if b=a then some (.fk {cls:=.type "list",data:=.seq vs.toArray} (.lst (ns.map V.int))) else none) (fun b=> ?_) (.inl (.inr ⟨{cls:=.type "list",data:=.seq vs.toArray},if_pos rfl⟩)) (fun b u z=> ?_) (fun b z=> ?_) fun _=>hk
  ·by_cases hb:b=a
   ·exact .inr ⟨_,_,if_pos hb⟩
   ·exact .inl (if_neg hb)
  ·by_cases hb:b=a
   ·have z' :=(if_pos hb).symm.trans z
    cases z'
    subst hb
    exact ⟨ha,by rw [aaa];exact hl,vs,_,rv,ha⟩
   ·have z' :=(if_neg hb).symm.trans z
    cases z'
  ·by_cases hb:b=a
   ·exact hb
   ·exact absurd (if_neg hb) z
end L2
namespace L2
open PySem PySem.Spec PyProof.Rows
abbrev KOf {K:Frag}{h:Heap}(_:K.In h):Frag:=K
end L2
namespace L2
open PySem PySem.Spec PyProof.Rows
def inClass (s:Stmt)(j:Nat):Stmt:=match s with
 | .ClassDef _ _ _ body _ _ _ _ _ _ _=>body.getD j (.Pass ⟨0,0,0,0⟩)
 | _=>.Pass ⟨0,0,0,0⟩
def ay (s:Stmt):Arguments:=match s with
 | .FunctionDef _ a _ _ _ _ _ _ _ _=>a
 | _=>{posonlyargs:=[],args:=[],vararg:=none,kwonlyargs:=[],kw_defaults:=[],kwarg:=none,defaults:=[]}
def aw (s:Stmt):List Stmt:=match s with
 | .FunctionDef _ _ b _ _ _ _ _ _ _=>b
 | _=>[]
def ag (s:Stmt):Scope:=match s with
 | .FunctionDef _ _ _ _ _ _ sc _ _ _=>sc
 | _=>{kind:=.function,names:=[],isGenerator:=false,isCoroutine:=false}
abbrev E0:XK:=fun _ _ _=>False
structure mN (K:Frag)(x qual:Str)(st:Stmt)(f:Addr)(fd:FuncData):Prop where
 ex:∃(oc:Value) (od:Option Addr) (kV doc pm:Value) (an:Option Addr) (bE ct:Value) (pZ:Array (Option Value)),
  fd=fnOf x qual (ay st) (aw st) (ag st) .none kV doc pm an bE ct/\K.lookup f=some ⟨oc,od,.func fd,pZ⟩/\codeIn K bE qual=true
 kp:keepIn K (.ref f)=true
section
variable {P:Program}{w:World}{K:Frag}{mg:ι}{base:Heap}
theorem mN.binds {x qual:Str}{st:Stmt}{f:Addr}{fd:FuncData}{ps:List Str}(F:mN K x qual st f fd)
  (h:∀(kV doc pm:Value) (an:Option Addr) (bE ct:Value) (us:ο),us.length=ps.length->bindArgs (fnOf x qual (ay st) (aw st) (ag st) .none kV doc pm an bE ct) ⟨us,[]⟩=pure (ps.zip us)):Binds K fd ps []:=by
 obtain ⟨oc,od,kV,doc,pm,an,bE,ct,pZ,rfl,lk,qg⟩:=F.ex
 exact .all (h kV doc pm an bE ct)
theorem cQ {x qual:Str}{st:Stmt}{f:Addr}{oc:Value}{od an:Option Addr}{pZ:Array (Option Value)}{kV doc pm bE ct:Value}(l:K.lookup f=some ⟨oc,od,.func (fnOf x qual (ay st) (aw st) (ag st) .none kV doc pm an bE ct),pZ⟩)
  (c:codeIn K bE qual=true) (k:keepIn K (.ref f)=true):mN K x qual st f (fnOf x qual (ay st) (aw st) (ag st) .none kV doc pm an bE ct):=⟨⟨oc,od,kV,doc,pm,an,bE,ct,pZ,rfl,l,c⟩,k⟩
end
theorem bR {A:Around}{k:Nat}(hr:cp k A):A.units+1 < cLine:=aar (Nat.add_le_add_left (by decide:1<=64) _) hr.units
section
variable {X:Cx}
theorem pv (i:Nat){x:Str}{pos:Pos}(hN:X.N[i]? =some x:=by rfl)(hv:Zy X.env.scope x:=by first | exact aai rfl | exact aa2 (aai rfl) | exact aa2 (aa2 rfl))(hd:(x==("__debug__":Str))=false:=by decide)
  (qg:(x==("__classdict__":Str))=false:=by decide):PE X (.Name x pos) (KW i):=OD hN hv hd qg
end
theorem OY {A B:Prop}(h:B):if false=true then A else B:=by
 rw [if_neg aaz]
 exact h
theorem bc {c A B:Prop}[Decidable c](h1:c->A)(h2:¬ c->B):if c then A else B:=by
 by_cases h:c
 ·rw [if_pos h]
  exact h1 h
 ·rw [if_neg h]
  exact h2 h
theorem Ny {c A B:Prop}[Decidable c](hc:c)(h:B):if (!decide c)=true then A else B:=by
 rw [decide_eq_true hc]
 exact OY h
def au (H H' :Hp):Prop:=∀b o,H b=some o->H' b=some o
theorem au.refl (H:Hp):au H H:=fun _ _ h=>h
theorem au.trans {H H1 H2:Hp}(a:au H H1)(b:au H1 H2):au H H2:=fun c o h=>b c o (a c o h)
theorem au.free {H H' :Hp}(e:au H H'){l:Addr}(h:H' l=aqi):H l=aqi:=by
 cases q:H l with
 | none=>rfl
 | some o=>
  rw [e l o q] at h
  cases h
theorem au.seq {K:Frag}{H H' :Hp}{a:Addr}{xs:η}(e:au H H')(h:a8 K H a xs):a8 K H' a xs:=by
 rcases h with (h | ⟨o,h⟩) | h
 ·exact .inl (.inl (e _ _ h))
 ·exact .inl (.inr ⟨o,e _ _ h⟩)
 ·exact .inr h
end L2
namespace Ty
def gz (t b:Int):Int:=(aa' t b:Nat)
def sg (t b:Int):Int:=if b < 0 then -gz t b else gz t b
def low (t b:Int):Int×Int:=(t.fdiv (sg t b),b.fdiv (sg t b))
theorem uW (a b:Int):aa' b (a.fmod b)=aa' a b:=by
 rw [aiC,Int.gcd_sub_mul_left_right,Int.gcd_comm]
theorem q4 {a b:Int}(h:b≠0):(a.fmod b).natAbs < b.natAbs:=by
 rcases ah6 b 0 with q | q | q
 ·have h1:(-a).fmod (-b)= -(a.fmod b):=by
   rw [aiC,aiC,Int.neg_fdiv_neg,Int.neg_mul]
   omega
  have h2:=ag_ (-a) (show 0 < -b by omega)
  have h3:=ah0 (-a) (show 0 < -b by omega)
  omega
 ·exact absurd q h
 ·have h2:=ag_ a q
  have h3:=ah0 a q
  omega
theorem sj {t b:Int}(h:b≠0):0 < gz t b:=by
 have:=an_.mpr (aa2 h:t≠0\/b≠0)
 show (0:Int) < ((aa' t b:Nat):Int)
 omega
theorem Sk {t b:Int}(h:b≠0):(gz t b).natAbs<=b.natAbs:=by
 have h1:aa' t b ∣ b.natAbs:=ahl.mpr (aci t b)
 have h2:=Nat.le_of_dvd (by omega) h1
 show ((aa' t b:Nat):Int).natAbs<=_
 omega
theorem nL {t b:Int}(h:b≠0):sg t b≠0:=by
 have:=sj (t:=t) h
 unfold sg
 split <;> omega
theorem OZ {t b:Int}:(sg t b).natAbs=(gz t b).natAbs:=by
 unfold sg
 split
 ·exact ah1 _
 ·rfl
theorem uX (t b:Int):sg t b ∣ t:=by
 unfold sg gz
 split
 ·exact Int.neg_dvd.mpr (ae_ t b)
 ·exact ae_ t b
theorem sk (t b:Int):sg t b ∣ b:=by
 unfold sg gz
 split
 ·exact Int.neg_dvd.mpr (aci t b)
 ·exact aci t b
theorem cb {a g:Int}(h:g≠0)(d:g ∣ a):a=g*a.fdiv g:=by
 obtain ⟨c,hc⟩:=d
 have:=ahn h hc
 rw [this]
 exact hc
theorem mO {t b:Int}(h:b≠0):t=sg t b*(low t b).1:=cb (nL h) (uX t b)
theorem jB {t b:Int}(h:b≠0):b=sg t b*(low t b).2:=cb (nL h) (sk t b)
theorem jC {t b:Int}(h:b≠0):0 < (low t b).2:=by
 have e:=jB (t:=t) h
 have g:=sj (t:=t) h
 rcases ah6 (low t b).2 0 with q | q | q
 ·exfalso
  by_cases c:b < 0
  ·have s:sg t b= -gz t b:=by unfold sg;rw [if_pos c]
   rw [s] at e
   have:=Int.mul_pos_of_neg_of_neg (show -gz t b < 0 by omega) q
   omega
  ·have s:sg t b=gz t b:=by unfold sg;rw [if_neg c]
   rw [s] at e
   have:=ah3 g q
   omega
 ·exfalso
  rw [q,ahF] at e
  exact h e
 ·exact q
theorem z_ {t b:Int}(h:b≠0):(low t b).1*b=t*(low t b).2:=by
 have e1:=mO (t:=t) h
 have e2:=jB (t:=t) h
 calc (low t b).1*b=(low t b).1*(sg t b*(low t b).2):=by rw [<- e2]
  _=sg t b*(low t b).1*(low t b).2:=by rw [<- ahQ,acj (low t b).1]
  _=t*(low t b).2:=by rw [<- e1]
theorem mP {t b:Int}(h:b≠0):aa' (low t b).1 (low t b).2=1:=by
 have e1:=mO (t:=t) h
 have e2:=jB (t:=t) h
 have k:aa' t b=(sg t b).natAbs*aa' (low t b).1 (low t b).2:=by
  have q:=aiP (sg t b) (low t b).1 (low t b).2
  rw [<- e1, <- e2] at q
  exact q
 have g:(sg t b).natAbs=aa' t b:=by
  rw [OZ]
  rfl
 have p:=an_.mpr (aa2 h:t≠0\/b≠0)
 rw [g] at k
 have k' :aa' t b*1=aa' t b*aa' (low t b).1 (low t b).2:=by rw [Nat.mul_one];exact k
 exact (Nat.eq_of_mul_eq_mul_left p k').symm
theorem dw {g a:Int}(h:g≠0):a.natAbs<=(g*a).natAbs:=by
 rw [aby]
 have:1<=g.natAbs:=by omega
 have:=abK a.natAbs this
 omega
theorem nO {t b:Int}(h:b≠0):(low t b).1.natAbs<=t.natAbs:=by
 have e:=mO (t:=t) h
 have:=dw (g:=sg t b) (a:=(low t b).1) (nL h)
 rw [<- e] at this
 exact this
theorem nQ {t b:Int}(h:b≠0):(low t b).2.natAbs<=b.natAbs:=by
 have e:=jB (t:=t) h
 have:=dw (g:=sg t b) (a:=(low t b).2) (nL h)
 rw [<- e] at this
 exact this
theorem FW {t b g x y:Int}(hg:g≠0)(ht:t=g*x)(hb:b=g*y)(hy:0 < y)(h1:aa' x y=1):low t b=(x,y):=by
 have hbn:b≠0:=by
  rw [hb]
  exact ao_ hg (by omega)
 have gg:aa' t b=g.natAbs:=by
  rw [ht,hb,aiP,h1,Nat.mul_one]
 have s:sg t b=g:=by
  unfold sg gz
  rw [gg]
  by_cases c:g < 0
  ·have:b < 0:=by rw [hb];exact Int.mul_neg_of_neg_of_pos c hy
   rw [if_pos this]
   omega
  ·have:¬ b < 0:=by
    have:=Int.mul_nonneg (show 0<=g by omega) (show 0<=y by omega)
    omega
   rw [if_neg this]
   omega
 unfold low
 rw [s]
 rw [ahn hg ht,ahn hg hb]
theorem nR {x y:Int}(hy:0 < y)(h:aa' x y=1):low x y=(x,y):=FW (g:=1) (by decide) (by omega) (by omega) hy h
theorem q5 {t b k:Int}(hk:k≠0)(h:b≠0):low (k*t) (k*b)=low t b:=by
 refine FW (g:=k*sg t b) (ao_ hk (nL h)) ?_ ?_ (jC h) (mP h)
 ·rw [ahQ]
  exact congrArg (k*·) (mO h)
 ·rw [ahQ]
  exact congrArg (k*·) (jB h)
theorem qm {t b u c:Int}(hb:b≠0)(hc:c≠0)(h:t*c=u*b):low t b=low u c:=by
 rw [<- q5 (t:=t) (b:=b) hc hb, <- q5 (t:=u) (b:=c) hb hc]
 rw [acj c t,h,acj u b,acj c b]
end Ty
set_option maxHeartbeats 4000000
namespace Ty
open PySem PySem.Spec PyProof.Rows L2
open Builtin.Int (intBits)
section
variable {X:Cx}
def q_ (i j:Int):Prop:=intBits i<=33554432/\intBits j<=33554432
theorem cu:jq X (binaryOp .Mult) (rI q_ fun i j=>.int (i*j)):=
 YJ fun _ _ _ _ _ _ _ hc q=>mul_int q (IntMulOk.of_le hc.1 hc.2 (by decide))
def Sl (i j:Int):Prop:=j≠0/\intBits j<=9000
theorem Z3 {i j:Int}(h:intBits j<=9000):Builtin.divisionGoesByPylong i j=false:=by
 refine PyProof.noPylong_of_log2 ?_
 have h1:=intBits_le_iff.mp h
 by_cases h0:j.natAbs=0
 ·rw [h0]
  decide+kernel
 ·exact (Nat.log2_lt h0).mpr h1
theorem uY:jq X (binaryOp .FloorDiv) (rI Sl fun i j=>.int (i.fdiv j)):=
 YJ fun _ _ _ _ _ _ _ hc q=>floordiv_int hc.1 q (.inl (Z3 hc.2))
end
inductive Da where
 | v (x:V)
 | t (ds:List Da)
 | l (ds:List Da)
mutual
def Is (K:Frag)(H:Hp):Da->V->Prop
 | .v x,u=>u=x/\iZ x=true
 | .t ds,u=>∃p xs,u=.ref p/\bN K H p xs/\fj K H ds xs
 | .l ds,u=>∃p xs,u=.ref p/\a8 K H p xs/\fj K H ds xs
def fj (K:Frag)(H:Hp):List Da->List V->Prop
 | [],[]=>True
 | d::ds,x::xs=>Is K H d x/\fj K H ds xs
 | _,_=>False
end
mutual
def fY:Da->Da->Bool
 | .v x,.v y=>p_ x y
 | .t ds,.t es=>cC ds es
 | .l ds,.l es=>cC ds es
 | _,_=>false
def cC:List Da->List Da->Bool
 | [],[]=>true
 | d::ds,e::es=>fY d e && cC ds es
 | _,_=>false
end
mutual
def alike:Da->Da->Bool
 | .v _,.v _=>true
 | .t ds,.t es=>cV ds es
 | .l ds,.l es=>cV ds es
 | _,_=>false
def cV:List Da->List Da->Bool
 | d::ds,e::es=>alike d e && cV ds es
 | _,_=>true
end
mutual
def dep:Da->Nat
 | .v _=>0
 | .t ds=>fO ds+1
 | .l ds=>fO ds+1
def fO:List Da->Nat
 | []=>0
 | d::ds=>max (dep d) (fO ds)
end
theorem fj.length {K:Frag}{H:Hp}:∀{ds:List Da} {xs:η},fj K H ds xs->ds.length=xs.length
 | [],[],_=>rfl
 | _::_,_::_,h=>congrArg (·+1) (fj.length (by unfold fj at h;exact h.2))
 | [],_::_,h=>by unfold fj at h;exact h.elim
 | _::_,[],h=>by unfold fj at h;exact h.elim
def h8 (ds es:List Da)(j:Nat):Bool:=match ds[j]?,es[j]? with
 | some d,some e=>fY d e
 | _,_=>true
theorem cW:∀ds es:List Da,cC ds es=((aa_ (min ds.length es.length)).all (h8 ds es) && ds.length==es.length)
 | [],[]=>rfl
 | [],_::_=>by simp [cC]
 | _::_,[]=>by simp [cC]
 | d::ds,e::es=>by
  have ih:=cW ds es
  have r:min (d::ds).length (e::es).length=min ds.length es.length+1:=by simp [Nat.succ_min_succ]
  rw [r,List.range_succ_eq_map,aiv,List.all_map]
  have b0:h8 (d::ds) (e::es) 0=fY d e:=rfl
  have b1:(h8 (d::ds) (e::es) ∘ Nat.succ)=h8 ds es:=by
   funext j
   rfl
  have l1:((d::ds).length==(e::es).length)=(ds.length==es.length):=by simp
  rw [b0,b1,l1,Bool.and_assoc, <- ih]
  rfl
section
variable {X:Cx}{pins:ζ}{σ:L2.St}{H:Hp}{s:Shared}
theorem uZ {x:V}(h:iZ x=true):p_ x x=true:=by
 cases x <;> first | rfl | (simp [p_];done) | (cases h;done)
mutual
theorem so (I:Inv X pins σ H s):∀(d e:Da) (x:V),Is X.K H d x->Is X.K H e x->alike d e=true->fY d e=true
 | .v a,.v b,x,h1,h2,_=>by
  unfold Is at h1 h2
  obtain ⟨rfl,f⟩:=h1
  obtain ⟨rfl,_⟩:=h2
  unfold fY
  exact uZ f
 | .t ds,.t es,x,h1,h2,a=>by
  unfold Is at h1 h2
  obtain ⟨p,xs,rfl,q1,k1⟩:=h1
  obtain ⟨p',ys,e',q2,k2⟩:=h2
  cases e'
  cases I.gc q1 q2
  unfold fY
  unfold alike at a
  exact nS I ds es xs k1 k2 a
 | .l ds,.l es,x,h1,h2,a=>by
  unfold Is at h1 h2
  obtain ⟨p,xs,rfl,q1,k1⟩:=h1
  obtain ⟨p',ys,e',q2,k2⟩:=h2
  cases e'
  cases I.hV q1 q2
  unfold fY
  unfold alike at a
  exact nS I ds es xs k1 k2 a
 | .v _,.t _,_,_,_,a=>by unfold alike at a;cases a
 | .v _,.l _,_,_,_,a=>by unfold alike at a;cases a
 | .t _,.v _,_,_,_,a=>by unfold alike at a;cases a
 | .t _,.l _,_,_,_,a=>by unfold alike at a;cases a
 | .l _,.v _,_,_,_,a=>by unfold alike at a;cases a
 | .l _,.t _,_,_,_,a=>by unfold alike at a;cases a
theorem nS (I:Inv X pins σ H s):∀(ds es:List Da) (xs:η),fj X.K H ds xs->fj X.K H es xs->cV ds es=true->cC ds es=true
 | [],[],_,_,_,_=>by unfold cC;rfl
 | d::ds,e::es,x::xs,h1,h2,a=>by
  unfold fj at h1 h2
  unfold cV at a
  rw [abg] at a
  unfold cC
  rw [so I d e x h1.1 h2.1 a.1,nS I ds es xs h1.2 h2.2 a.2]
  rfl
 | [],_::_,[],_,h2,_=>by unfold fj at h2;exact h2.elim
 | [],_::_,_::_,h1,_,_=>by unfold fj at h1;exact h1.elim
 | _::_,[],[],h1,_,_=>by unfold fj at h1;exact h1.elim
 | _::_,[],_::_,_,h2,_=>by unfold fj at h2;exact h2.elim
 | _::_,_::_,[],h1,_,_=>by unfold fj at h1;exact h1.elim
end
theorem in1_units (A:Around):A.in1.units=A.units+1:=rfl
mutual
theorem yp (I:Inv X pins σ H s):∀(d e:Da) (x y:V) (u w:Value) (A:Around),Is X.K H d x->Is X.K H e y->alike d e=true->RelV x u->RelV y w->A.units+dep d < cLine->SeqAt.EqAt A s u w (fY d e)
 | .v a,.v b,x,y,u,w,A,h1,h2,_,r1,r2,_=>by
  unfold Is at h1 h2
  obtain ⟨rfl,f1⟩:=h1
  obtain ⟨rfl,f2⟩:=h2
  unfold fY
  exact FN r1 r2 f1 f2
 | .t ds,.t es,x,y,u,w,A,h1,h2,a,r1,r2,hu=>by
  have du :=h1
  have Z4 :=h2
  unfold Is at h1 h2
  obtain ⟨p,xs,rfl,q1,k1⟩:=h1
  obtain ⟨p',ys,rfl,q2,k2⟩:=h2
  cases r1
  cases r2
  by_cases e:p=p'
  ·subst e
   rw [so I _ _ _ du Z4 a]
   exact .same _
  ·refine .of_refs e ?_
   obtain ⟨its,v1,t1,_⟩:=I.tuple q1
   obtain ⟨dZ,v2,t2,_⟩:=I.tuple q2
   unfold fY
   rw [cW,k1.length,k2.length,v1.length,v2.length]
   have z:=SeqAt.RcAt.tuples (A:=A) (e:=h8 ds es) t1 t2 (by unfold dep at hu;omega) fun j g1 g2=>by
    unfold dep at hu
    unfold alike at a
    exact fE I ds es xs ys its dZ A.in1 k1 k2 a v1 v2 (by rw [in1_units];omega) j (by simpa using g1) (by simpa using g2)
   simpa using z
 | .l ds,.l es,x,y,u,w,A,h1,h2,a,r1,r2,hu=>by
  have du :=h1
  have Z4 :=h2
  unfold Is at h1 h2
  obtain ⟨p,xs,rfl,q1,k1⟩:=h1
  obtain ⟨p',ys,rfl,q2,k2⟩:=h2
  cases r1
  cases r2
  by_cases e:p=p'
  ·subst e
   rw [so I _ _ _ du Z4 a]
   exact .same _
  ·refine .of_refs e ?_
   obtain ⟨its,v1,t1,_⟩:=I.list q1
   obtain ⟨dZ,v2,t2,_⟩:=I.list q2
   unfold fY
   unfold dep at hu
   unfold alike at a
   by_cases el:its.length=dZ.length
   ·rw [cW,k1.length,k2.length,v1.length,v2.length]
    have z:=SeqAt.RcAt.lists (A:=A) (e:=h8 ds es) t1.isList t2.isList (by simpa using el) (by omega) fun j g1 g2=>
     fE I ds es xs ys its dZ A.in1 k1 k2 a v1 v2 (by rw [in1_units];omega) j (by simpa using g1) (by simpa using g2)
    rw [el,aiD,beq_self_eq_true,aia]
    rw [aaE,el] at z
    exact z
   ·have ne:cC ds es=false:=by
     rw [cW,k1.length,k2.length,v1.length,v2.length,beq_eq_false_iff_ne.mpr el,ah2]
    rw [ne]
    exact SeqAt.RcAt.lists_lengths t1.isList t2.isList (by simpa using el) (by omega)
 | .v _,.t _,_,_,_,_,_,_,_,a,_,_,_=>by unfold alike at a;cases a
 | .v _,.l _,_,_,_,_,_,_,_,a,_,_,_=>by unfold alike at a;cases a
 | .t _,.v _,_,_,_,_,_,_,_,a,_,_,_=>by unfold alike at a;cases a
 | .t _,.l _,_,_,_,_,_,_,_,a,_,_,_=>by unfold alike at a;cases a
 | .l _,.v _,_,_,_,_,_,_,_,a,_,_,_=>by unfold alike at a;cases a
 | .l _,.t _,_,_,_,_,_,_,_,a,_,_,_=>by unfold alike at a;cases a
theorem fE (I:Inv X pins σ H s):∀(ds es:List Da) (xs ys:η) (us ws:ο) (A:Around),fj X.K H ds xs->fj X.K H es ys->cV ds es=true->Vals xs us->Vals ys ws->A.units+fO ds < cLine->
  ∀(j:Nat) (h1:j < us.length) (h2:j < ws.length),SeqAt.EqAt A s us[j] ws[j] (h8 ds es j)
 | d::ds,e::es,x::xs,y::ys,u::us,w::ws,A,k1,k2,a,.cons r1 v1,.cons r2 v2,hu,0,_,_=>by
  unfold fj at k1 k2
  unfold cV at a
  rw [abg] at a
  unfold fO at hu
  exact yp I d e x y u w A k1.1 k2.1 a.1 r1 r2 (by omega)
 | d::ds,e::es,x::xs,y::ys,u::us,w::ws,A,k1,k2,a,.cons r1 v1,.cons r2 v2,hu,j+1,h1,h2=>by
  unfold fj at k1 k2
  unfold cV at a
  rw [abg] at a
  unfold fO at hu
  exact fE I ds es xs ys us ws A k1.2 k2.2 a.2 v1 v2 (by omega) j (by simpa using h1) (by simpa using h2)
 | [],_,[],_,_,_,_,_,_,_,.nil,_,_,_,h1,_=>absurd h1 (abG _)
 | _,[],_,[],_,_,_,_,_,_,_,.nil,_,_,_,h2=>absurd h2 (abG _)
 | [],_,_::_,_,_,_,_,k1,_,_,_,_,_,_,_,_=>by unfold fj at k1;exact k1.elim
 | _::_,_,[],_,_,_,_,k1,_,_,_,_,_,_,_,_=>by unfold fj at k1;exact k1.elim
 | _,[],_,_::_,_,_,_,_,k2,_,_,_,_,_,_,_=>by unfold fj at k2;exact k2.elim
 | _,_::_,_,[],_,_,_,_,k2,_,_,_,_,_,_,_=>by unfold fj at k2;exact k2.elim
end
end
section
variable {X:Cx}
inductive FX (K:Frag)(x:V)(y:V)(H:Hp)(Q:VK):Prop where
 | mk (ds es:_) (_:((Is K H (.t ds) x/\Is K H (.t es) y)\/(Is K H (.l ds) x/\Is K H (.l es) y))) (_:cV ds es=true) (_:fO ds<=60) (_:Q (.bl (cC ds es)) H):FX K x y H Q
inductive u0 (K:Frag)(x:V)(y:V)(H:Hp)(Q:VK):Prop where
 | mk (ds es:_) (_:((Is K H (.t ds) x/\Is K H (.t es) y)\/(Is K H (.l ds) x/\Is K H (.l es) y))) (_:cV ds es=true) (_:fO ds<=60) (_:Q (.bl (!cC ds es)) H):u0 K x y H Q
theorem mQ (hu:X.A.units+64 < cLine):jq X (compareOp .Eq) (FX X.K):=by
 intro pins s σ H x y v u Q I rx ry h
 obtain ⟨ds,es,h,a,hd,q⟩:=h
 rcases h with ⟨h1,h2⟩ | ⟨h1,h2⟩
 ·unfold Is at h1 h2
  obtain ⟨p,xs,rfl,q1,k1⟩:=h1
  obtain ⟨p',ys,rfl,q2,k2⟩:=h2
  cases rx
  cases ry
  obtain ⟨its,v1,t1,_⟩:=I.tuple q1
  obtain ⟨dZ,v2,t2,_⟩:=I.tuple q2
  have z:=SeqAt.RcAt.tuples (A:=X.A) (e:=h8 ds es) t1 t2 (by omega) fun j g1 g2=>
   fE I ds es xs ys its dZ X.A.in1 k1 k2 a v1 v2 (by rw [in1_units];omega) j (by simpa using g1) (by simpa using g2)
  refine z X.prog X.w X.xe _ ⟨.bl _,H,I,rfl,?_⟩
  have e:=cW ds es
  rw [k1.length,k2.length,v1.length,v2.length] at e
  simpa [e] using q
 ·unfold Is at h1 h2
  obtain ⟨p,xs,rfl,q1,k1⟩:=h1
  obtain ⟨p',ys,rfl,q2,k2⟩:=h2
  cases rx
  cases ry
  obtain ⟨its,v1,t1,_⟩:=I.list q1
  obtain ⟨dZ,v2,t2,_⟩:=I.list q2
  have e:=cW ds es
  rw [k1.length,k2.length,v1.length,v2.length] at e
  by_cases el:its.length=dZ.length
  ·have z:=SeqAt.RcAt.lists (A:=X.A) (e:=h8 ds es) t1.isList t2.isList (by simpa using el) (by omega) fun j g1 g2=>
    fE I ds es xs ys its dZ X.A.in1 k1 k2 a v1 v2 (by rw [in1_units];omega) j (by simpa using g1) (by simpa using g2)
   refine z X.prog X.w X.xe _ ⟨.bl _,H,I,rfl,?_⟩
   rw [el,aiD,beq_self_eq_true,aia] at e
   simpa [e,el] using q
  ·have ne:cC ds es=false:=by rw [e,beq_eq_false_iff_ne.mpr el,ah2]
   rw [ne] at q
   exact SeqAt.RcAt.lists_lengths t1.isList t2.isList (by simpa using el) (by omega) X.prog X.w X.xe _ ⟨.bl _,H,I,rfl,q⟩
theorem mR (hu:X.A.units+64 < cLine):jq X (compareOp .NotEq) (u0 X.K):=by
 intro pins s σ H x y v u Q I rx ry h
 obtain ⟨ds,es,h,a,hd,q⟩:=h
 rcases h with ⟨h1,h2⟩ | ⟨h1,h2⟩
 ·unfold Is at h1 h2
  obtain ⟨p,xs,rfl,q1,k1⟩:=h1
  obtain ⟨p',ys,rfl,q2,k2⟩:=h2
  cases rx
  cases ry
  obtain ⟨its,v1,t1,_⟩:=I.tuple q1
  obtain ⟨dZ,v2,t2,_⟩:=I.tuple q2
  have z:=SeqAt.RcNeAt.tuples (A:=X.A) (e:=h8 ds es) t1 t2 (by omega) fun j g1 g2=>
   fE I ds es xs ys its dZ X.A.in1 k1 k2 a v1 v2 (by rw [in1_units];omega) j (by simpa using g1) (by simpa using g2)
  refine z X.prog X.w X.xe _ ⟨.bl _,H,I,rfl,?_⟩
  have e:=cW ds es
  rw [k1.length,k2.length,v1.length,v2.length] at e
  simpa [e] using q
 ·unfold Is at h1 h2
  obtain ⟨p,xs,rfl,q1,k1⟩:=h1
  obtain ⟨p',ys,rfl,q2,k2⟩:=h2
  cases rx
  cases ry
  obtain ⟨its,v1,t1,_⟩:=I.list q1
  obtain ⟨dZ,v2,t2,_⟩:=I.list q2
  have e:=cW ds es
  rw [k1.length,k2.length,v1.length,v2.length] at e
  by_cases el:its.length=dZ.length
  ·have z:=SeqAt.RcNeAt.lists (A:=X.A) (e:=h8 ds es) t1.isList t2.isList (by simpa using el) (by omega) fun j g1 g2=>
    fE I ds es xs ys its dZ X.A.in1 k1 k2 a v1 v2 (by rw [in1_units];omega) j (by simpa using g1) (by simpa using g2)
   refine z X.prog X.w X.xe _ ⟨.bl _,H,I,rfl,?_⟩
   rw [el,aiD,beq_self_eq_true,aia] at e
   simpa [e,el] using q
  ·have ne:cC ds es=false:=by rw [e,beq_eq_false_iff_ne.mpr el,ah2]
   rw [ne] at q
   exact SeqAt.RcNeAt.lists_lengths t1.isList t2.isList (by simpa using el) (by omega) X.prog X.w X.xe _ ⟨.bl _,H,I,rfl,q⟩
def O0:V->Value
 | .ty n=>.type n
 | .ref a=>.ref a
 | _=>.none
def Nz:V->Bool
 | .ty _=>true
 | .ref _=>true
 | _=>false
theorem yq {c:V}{u:Value}(h:Nz c=true)(r:RelV c u):u=O0 c:=by
 cases c <;> first | exact r | (cases h;done)
inductive Sn (K:Frag)(xs:η)(H:Hp)(Q:VK):Prop where
 | mk (x c t b:_) (_:xs=[x,c]) (_:Nz c=true) (_:km K H x t) (_:PySem.W.kitOne K t (O0 c)=some b) (_:Q (.bl b) H):Sn K xs H Q
theorem h_:fw X (.builtin "isinstance") (Sn X.K):=by
 intro pins s σ H xs us Q I r h
 obtain ⟨x,c,t,b,rfl,hc,ty,e,q⟩:=h
 obtain ⟨u,w,rfl,r1,r2⟩:=vals2 r
 obtain rfl:=yq hc r2
 exact z5 I r1 ty e fun tk=>⟨.bl b,H,I.tok tk,rfl,q⟩
end
section
variable {K:Frag}
theorem FY {a b:String}{v:Bool}(h:((Value.type a==Value.type b)=true->v=true)/\((Value.type a==Value.type b)=false->PySem.W.kitMeta b=true/\(fastBuiltinMro a).map (·.contains (Value.type b))=some v)):PySem.W.kitOne K (.type a) (.type b)=some v:=by
 unfold PySem.W.kitOne
 by_cases e:(Value.type a==Value.type b)=true
 ·rw [if_pos e,h.1 e]
 ·rw [if_neg e]
  obtain ⟨h1,h2⟩:=h.2 (by simpa using e)
  unfold PySem.W.kitCls
  dsimp only
  rw [if_pos h1]
  exact h2
end
theorem cf:bootBuiltins "len"=some (.builtin "len"):=by decide+kernel
theorem NA:bootBuiltins "abs"=some (.builtin "abs"):=by decide+kernel
theorem c8:bootBuiltins "isinstance"=some (.builtin "isinstance"):=by decide+kernel
theorem FZ:bootBuiltins "int"=some (.type "int"):=by decide+kernel
theorem O1:bootBuiltins "bool"=some (.type "bool"):=by decide+kernel
theorem So:bootBuiltins "str"=some (.type "str"):=by decide+kernel
theorem gH:bootBuiltins "list"=some (.type "list"):=by decide+kernel
theorem yr:bootBuiltins "tuple"=some (.type "tuple"):=by decide+kernel
theorem F_:bootBuiltins "dict"=some (.type "dict"):=by decide+kernel
theorem ra {X:Cx}{x:Str}{n:String}{pos:Pos}(hg:Gl X x)(hm:X.mg x=none)(hv:bootBuiltins x=some (.type n))(hn:x≠ "__name__":=by decide)(hd:(x==("__debug__":Str))=false:=by decide):PE X (.Name x pos) (tC (.ty n)):=KY (v:=.ty n) hg hm hv rfl hn hd
def O3 (_ j:Int):Prop:=j≠0
theorem nz {i j:Int}(h:j≠0):O3 i j:=h
theorem fQ {X:Cx}:jq X (binaryOp .Mod) (rI O3 fun i j=>.int (i.fmod j)):=K3
theorem Lh {a b:V}:fO [.v a,.v b]<=60:=by simp [fO,dep]
end Ty
set_option maxHeartbeats 4000000
namespace TyAtt
open PySem PySem.W PySem.Calls PyProof.Rows
open Builtin.Int (intBits)
theorem AA {ns:ξ}{n:Int}(h:(WData.list (ns.map WData.int)).layable=true)(hn:n∈ns):intBits n<=1048576:=by
 obtain ⟨_,_,hw⟩:=layableW_iff.mp h
 have a:∀(l:ξ),n∈l->intBits n<=WData.weightAll (l.map WData.int):=by
  intro l
  induction l with
  | nil=>intro q;cases q
  | cons y r ih=>
   intro q
   rw [aac]
   unfold WData.weightAll
   rcases aaN.mp q with z | z
   ·subst z
    have:intBits n<=WData.weight (.int n):=by
     unfold WData.weight
     exact aah _
    omega
   ·have:=ih z
    omega
 have b:=a ns hn
 unfold WData.weight at hw
 omega
theorem u3 {l:OpenLaw}{n:Nat}{q:Program}{loose:List Str}{XP:(Str->Option Value)->Heap->Prop}{YP:World->Heap->Prop}{d:DefRec}
  (hn:l.most=some n) (Z5:d.params.defaults=[])
  (call:∀(w:World) (s₀ s₁:Shared) (mg mb:ι) (fa:Addr) (o:Obj) (pm cd doc:Value) (a:Addr) (vs:ο) (ns:ξ),
   Ground q loose [] XP w s₀ mg mb s₁.heap->YP w s₁.heap->
   s₁.heap.get? fa=some o->o.data=.func (docDef d.name d.params d.body d.scope pm cd doc)->s₁.heap.CodeRec cd d.name->mg d.name=some (.ref fa)->
   s₁.heap.get? a=some {cls:=.type "list",data:=.seq vs.toArray}->IntsAre vs ns->ns.length<=n->(∀i∈ns,intBits i<=1048576)->s₁.gens= #[]->
   codeAny (model l.prog w) callerA (.call (.ref fa) ⟨[.ref a],[]⟩) (fun r s' =>r=.ok (.ret (.bool true))/\OldK s₁.heap s'.heap/\s'.os=s₁.os/\AllBare s'.gens) s₁):
  WalkO q loose XP YP l.row.toRowW d [] (fun f vs=>PySem.call f vs):=by
 intro w s₀ s₁ mg mb G Y fa o pm cd doc dV kV ho hd qg hD Sq hg args vals as Lf hlay hrd ZZ hlo
 obtain rfl:dV=.none:=Dflts.none hD Z5
 obtain rfl:kV=.none:=Dflts.noKw hD
 obtain ⟨a,vs,ns,rfl,rfl,O4,hints,hlen⟩:=Att.z8 hn Lf ZZ
 have hb:∀i∈ns,intBits i<=1048576:=fun i hi=>AA (layW_cons hlay).1 hi
 refine enter_call (codeAny_mono (call w s₀ s₁ mg mb fa o pm cd doc a vs ns G Y ho (fd_plain hd) qg Sq O4 hints hlen hb hg) fun r s' hq=> ?_)
 obtain ⟨rfl,h2,h3,h4⟩:=hq
 exact ⟨.inl ⟨.bool true,.bool true,[],rfl,fun _=>rfl,.bool true,Att.z9 l _,fun _=>⟨List.Pairwise.nil,fun _ hm=>(nomatch hm)⟩⟩,h2,h3,h4⟩
end TyAtt
namespace Ty
open PySem PySem.Spec PyProof.Rows L2
open Builtin.Int (intBits)
structure Fn (P:Program)(w:World)(K:Frag)(mg:ι)(base:Heap)(CX:kd)(k:Nat)(x:Str)(ps:List Str)(sp:Sp):Prop where
 ex:∃(f:Addr) (fd:FuncData),cB P w K mg base CX k f fd ps sp/\Binds K fd ps []/\mg x=some (.ref f)/\keepIn K (.ref f)=true
structure Def (K:Frag)(mg:ι)(x:Str)(st:Stmt)(ps:List Str):Prop where
 ex:∃(f:Addr) (dV oc:Value) (od:Option Addr) (kV doc pm:Value) (an:Option Addr) (bE ct:Value) (pZ:Array (Option Value)),
  K.lookup f=some ⟨oc,od,.func (fnOf x x (ay st) (aw st) (ag st) dV kV doc pm an bE ct),pZ⟩/\codeIn K bE x=true/\keepIn K (.ref f)=true/\
  Binds K (fnOf x x (ay st) (aw st) (ag st) dV kV doc pm an bE ct) ps []/\mg x=some (.ref f)
theorem Def.of {K:Frag}{mg:ι}{x:Str}{st:Stmt}{ps:List Str}{f:Addr}{fd:FuncData}(F:mN K x x st f fd)(b:Binds K fd ps [])(m:mg x=some (.ref f)):Def K mg x st ps:=by
 obtain ⟨oc,od,kV,doc,pm,an,bE,ct,pZ,rfl,lk,qg⟩:=F.ex
 exact ⟨f,.none,oc,od,kV,doc,pm,an,bE,ct,pZ,lk,qg,F.kp,b,m⟩
section
variable {P:Program}{w:World}{K:Frag}{mg:ι}{base:Heap}{CX:kd}
theorem Def.ok {x:Str}{st:Stmt}{N ps:List Str}{k:Nat}{sp:Sp}(D:Def K mg x st ps)(S:aD N ps (ag st))(len:∀vs H Q E,sp vs H Q E->vs.length=ps.length)
  (jw:∀(f:Addr) (bE:Value) (A:Around) (outer:List Env) (s:Shared) (H:Hp) (vs:η) (Q:VK) (E:XK),cp k (A.deeper (envOfC x (ag st) s.heap.objs.size f bE))->sp vs H Q E->
   ∃t,PSs (l_ CX P w K mg base N x (ag st) f bE A outer s H E).yd (aw st) t/\t {nx:=fun _ H' =>Q .cv H',rt:=Q} (start N vs) H):Fn P w K mg base CX (k+1) x ps sp:=by
 obtain ⟨f,dV,oc,od,kV,doc,pm,an,bE,ct,pZ,lk,qg,kp,b,m⟩:=D.ex
 refine ⟨f,_,yk lk qg S len fun A outer s H vs Q E hr qj=> ?_,b,m,kp⟩
 obtain ⟨t,h,q⟩:=jw f bE A outer s H vs Q E hr qj
 exact ⟨t,h.yd,q⟩
theorem _root_.L2.mN.okG {x:Str}{st:Stmt}{f:Addr}{fd:FuncData}{N ps:List Str}{k:Nat}{sp:Sp}(F:mN K x x st f fd)(S:aD N ps (ag st))(len:∀vs H Q E,sp vs H Q E->vs.length=ps.length)
  (jw:∀(bE:Value) (A:Around) (outer:List Env) (s:Shared) (H:Hp) (vs:η) (Q:VK) (E:XK),cp k (A.deeper (envOfC x (ag st) s.heap.objs.size f bE))->sp vs H Q E->
   ∃t,PSs (l_ CX P w K mg base N x (ag st) f bE A outer s H E).yd (aw st) t/\t {nx:=fun _ H' =>Q .cv H',rt:=Q} (start N vs) H):cB P w K mg base CX (k+1) f fd ps sp:=by
 obtain ⟨oc,od,kV,doc,pm,an,bE,ct,pZ,rfl,lk,qg⟩:=F.ex
 refine yk lk qg S len fun A outer s H vs Q E hr qj=> ?_
 obtain ⟨t,h,q⟩:=jw bE A outer s H vs Q E hr qj
 exact ⟨t,h.yd,q⟩
def u4 (CX:kd):Prop:=∀outer H s e s',CX outer H s E0 e s' ->False
theorem u5 {X:Cx}(h:u4 CX):Passes CX X.yd E0:=fun _ _ _ _ _ _ _ q=>(h _ _ _ _ _ q).elim
section
variable {X:Cx}{k:Nat}{ps:List Str}{sp:Sp}{E:XK}{x:Str}{p pos:Pos}{e:Expr}{es:List Expr}{t:TA}
theorem aA (F:Fn X.prog X.w X.K X.mg X.base CX k x ps sp)(hr:cp k X.A)(hx:Passes CX X E)(ha:PA X (e::es) t)(hg:Gl X x:=by rfl)(z6:(x==("__debug__":Str))=false:=by decide)
  (he:starEach (e::es) X.env=(false,eval e X.env)::starEach es X.env:=by rfl) (yh:(backTo pos (starEach es X.env)).any (·.1)=false:=by rfl):PE X (.Call (.Name x p) (e::es) [] pos) (Nr sp [] E t):=by
 obtain ⟨f,fd,G,b,m,kp⟩:=F.ex
 exact K8 G hr hg m kp b .nil hx ha z6 he yh
end
end
def F' (K:Frag):Sp:=fun vs H Q _=>∃(a:Addr) (ns:ξ),vs=[.ref a]/\a8 K H a (ns.map V.int)/\ns.length<=63/\(∀i∈ns,intBits i<=1048576)/\∀H',Q (.bl true) H'
theorem walk {l:PySem.W.OpenLaw}{q:Program}{loose:List Str}{XP:(Str->Option Value)->Heap->Prop}{YP:World->Heap->Prop}{d:DefRec}{K:Params->Frag}{CX:World->kd}{x:Str}{k:Nat}
  (hn:l.most=some 63) (Z5:d.params.defaults=[]) (hi:importsNone q=true) (hr:cp k callerA)
  (hY:∀(w:World) (h:Heap),YP w h->(K w.params).In h) (hm:∀w,u4 (CX w))
  (F:∀(w:World) (mg:ι) (fa:Addr) (h:Heap),(K w.params).In h->h.Ns mainGlobals mg->mg d.name=some (.ref fa)->
   ∃fd:FuncData,(∀(s:Shared) (u:Value),BindsTo s fd ⟨[u],[]⟩ [(x,u)])/\
    ∀base:Heap,(K w.params).In base->base.Ns mainGlobals mg->cB l.prog w (K w.params) mg base (CX w) k fa fd [x] (F' (K w.params))):
  PySem.W.WalkO q loose XP YP l.row.toRowW d [] (fun f vs=>PySem.call f vs):=by
 refine TyAtt.u3 hn Z5 fun w s₀ s₁ mg mb fa o pm cd doc a vs ns G Y ho hd qg Sq O4 hints hlen hb hg=> ?_
 have KX:=hY w _ Y
 obtain ⟨fd,hbd,hF⟩:=F w mg fa _ KX G.T.g Sq
 exact FV KX G.T.g G.T.b G.T.builtins G.T.nolimit (G.T.seer hi) hg O4 hints (aaf hlen (by decide)) hr hF hbd (fun H hO hS=>⟨a,ns,rfl,hS,hlen,hb,fun _=>rfl⟩) fun H e s' =>hm w [] H s₁ e s'
end Ty
set_option maxHeartbeats 4000000
namespace Ty
open PySem PySem.Spec PyProof.Rows
end Ty
set_option maxHeartbeats 4000000
namespace Ty
open PySem PySem.Spec PyProof.Rows L2
def DictAt (h:Heap)(a:Addr)(dx:Option Addr):Prop:=∃o,h.get? a=some o/\o.dict=dx
def aY (P:Program)(w:World):kd:=fun outer H s E e s' =>∃(a:Addr) (cls a0:Value) (dx:Option Addr) (H' :Hp) (B:Heap),
 e=.ref a/\Heap.FlyingW B outer a cls a0 s'.heap/\DictAt s'.heap a dx/\Un (wI outer) [] H H' s.heap s'.heap/\iY P w H' s'.heap/\s'.os=s.os/\AllBare s'.gens/\
 (∀b o,s.heap.get? b=some o->b∉wI outer->∃o',B.get? b=some o')/\(∀b u,H' b=some u->∃o,B.get? b=some o)/\E cls dx H'
theorem aY.nX {P:Program}{w:World}:u4 (aY P w):=fun _ _ _ _ _ ⟨_,_,_,_,_,_,_,_,_,_,_,_,_,_,_,z⟩=>z
section
variable {P:Program}{w:World}{K:Frag}{mg:ι}{base:Heap}{N:List Str}{qual:Str}{scope:Scope}{f:Addr}{bE:Value}{A:Around}{outer:List Env}{s0:Shared}{H0:Hp}{E:XK}
abbrev cxr (P:Program)(w:World)(K:Frag)(mg:ι)(base:Heap)(N:List Str)(qual:Str)(scope:Scope)(f:Addr)(bE:Value)(A:Around)(outer:List Env)(s0:Shared)(H0:Hp)(E:XK):Cx:=l_ (aY P w) P w K mg base N qual scope f bE A outer s0 H0 E
end
section
variable {X:Cx}{pins:ζ}{σ:L2.St}{H H' :Hp}{s:Shared}
def XP (X:Cx)(pins:ζ)(σ:L2.St)(E:XK)(e:Value)(s' :Shared):Prop:=∃H s,Inv X pins σ H s/\aY X.prog X.w X.stack H s E e s'
end
end Ty
set_option maxHeartbeats 4000000
namespace TyExc
open PySem PySem.W PySem.Calls PyProof.Rows Builtin Builtin.ObjectAttr Builtin.Getset_descriptor
section
variable {prog:Program}{w:World}{A:Around}{E:δ}{K:Frag}{h:Heap}{g:Array GenState}{d:Drawn}{t:Nat}{os:OsState}{a C:Addr}{o:Obj}
end
end TyExc
set_option maxHeartbeats 4000000
namespace Ty
open PySem PySem.Spec PyProof.Rows L2
section
variable {X:Cx}
end
end Ty
set_option maxHeartbeats 4000000
namespace TyExc
open PySem PySem.W PySem.Calls PyProof.Rows Builtin Builtin.ObjectAttr Builtin.Getset_descriptor
section
variable {prog:Program}{w:World}{A:Around}{E:δ}{K:Frag}{h:Heap}{g:Array GenState}{d:Drawn}{t:Nat}{os:OsState}{a C:Addr}{o:Obj}{od:Option Obj}{name:Str}{v:Value}
end
end TyExc
set_option maxHeartbeats 4000000
namespace TyExc
open PySem PySem.W PySem.Calls PyProof.Rows Builtin Builtin.ObjectAttr
section
variable {prog:Program}{w:World}{A:Around}{E:δ}{K:Frag}{s:Shared}{x C:Addr}{ox:Obj}{od:Option Obj}{name:Str}{v:Value}{cd:ClassData}
end
end TyExc
set_option maxHeartbeats 400000
namespace TyExc
open PySem PySem.W PySem.Calls PyProof.Rows Builtin
section
variable {prog:Program}{w:World}{A:Around}{K:Frag}{h:Heap}{g:Array GenState}{d:Drawn}{t:Nat}{os:OsState}{e C:Addr}{oe:Obj}{vs:Array Value}{args:ο}{E:δ}
end
end TyExc
set_option maxHeartbeats 400000
namespace TyExc
open PySem PySem.W PySem.Calls PyProof.Rows Builtin
section
variable {prog:Program}{w:World}{A:Around}{K:Frag}{h:Heap}{g:Array GenState}{d:Drawn}{t:Nat}{os:OsState}{nm q:Str}{C N f:Addr}{bs bm bmB:ο}{Z6:Bool}{sn:List Str}{sub:ο}{ab:Bool}{col:Option Bool}{dd:Option Addr}{k0 k1 k2 k3 k5:Option Value}{B newId Z7:String}{rest:ο}{E:δ}
end
end TyExc
set_option maxHeartbeats 400000
namespace TyExc
open PySem PySem.W PySem.Calls PyProof.Rows Builtin
section
variable {M:Model}{A:Around}{E:δ}{env:Env}{nm q:Str}{C N:Addr}{bs bm:ο}{Z6:Bool}{sn:List Str}{sub:ο}{ab:Bool}{col:Option Bool}{dd:Option Addr}{k0 k1 k2 k3 k5:Option Value}{newId:String}{s:Shared}{x:Sem Value}{Q:Flow->Shared->Prop}
end
end TyExc
set_option maxHeartbeats 400000
namespace TyExc
open PySem PySem.W
end TyExc
namespace Ty
open PySem PySem.Spec PyProof.Rows L2
section
variable {P:Program}{w:World}{H:Hp}{h:Heap}{C a:Addr}{dx:Option Addr}
end
section
variable {X:Cx}
end
end Ty
set_option maxHeartbeats 1000000
namespace Ty
open PySem PySem.Spec PyProof.Rows L2
section
variable {P:Program}{w:World}{K:Frag}{mg:ι}{base:Heap}{N:List Str}{qual:Str}{scope:Scope}{f:Addr}{bE:Value}{A:Around}{outer:List Env}{s0:Shared}{H0:Hp}{E:XK}
end
section
variable {prog:Program}{w:World}{A:Around}{R:Result->Shared->Prop}{s:Shared}
theorem jD {elt target iter:Expr}{ifs:List Expr}{scope:Scope}{pos:Pos}{it acc:Value}{env:Env}(I:Nat->Shared->Prop)
  (turn:∀n s,I n s->wpAny (model prog w) A (pyNext it) (fun r s₁=>match r with
   | none=>R (.ok .next) s₁
   | some v=>wpAny (model prog w) A (letOwnedTupleGo target it v) (fun _ s₁' =>wpAny (model prog w) A (assign target env v) (fun _ s₂=>
     wpAny (model prog w) A (forIn ifs true fun c r=>if r=true then do let ok <- isTrue c env (eval c env);pure (ForInStep.yield ok) else pure (ForInStep.yield r)) (fun ok s₃=>
      if ok=true then wpAny (model prog w) A (eval elt env) (fun x s₄=>
       wpAny (model prog w) A (call (.builtin "list.append") [acc,x]) (fun _ s₅=>∃m,m < n/\I m s₅) (fun _ _=>False) s₄) (fun _ _=>False) s₃
      else ∃m,m < n/\I m s₃) (fun _ _=>False) s₂) (fun _ _=>False) s₁') (fun _ _=>False) s₁) (fun _ _=>False) s)
  (n:Nat) (h:I n s):
  codeAny (model prog w) A (.compLoop (.ListComp elt [⟨target,iter,ifs,0⟩] scope pos) 0 it acc env) R s:=by
 refine codeAny_loop rfl I (fun n s hI=> ?_) n h
 show wpAny _ A ((compTurn (.ListComp elt [⟨target,iter,ifs,0⟩] scope pos) 0 it acc env).onRaise (fun x=>do noteFrame x env;theTreesLotGoes x)) _ _ s
 refine wpAny_noted ?_
 rw [compTurn_list]
 refine wpAny_bind (wpAny_standAt (wpAny_bind (wpAny_mono (turn n s hI) (fun r s₁ h₁=> ?_) fun _ _ h' =>h'.elim)))
 cases r with
 | none=>exact wpAny_pure h₁
 | some v=>
  refine wpAny_bind (wpAny_mono h₁ (fun _ s₁' h₁' => ?_) fun _ _ h' =>h'.elim)
  refine wpAny_bind (wpAny_mono h₁' (fun _ s₂ h₂=>wpAny_bind (wpAny_mono h₂ (fun ok s₃ h₃=> ?_) fun _ _ h' =>h'.elim)) fun _ _ h' =>h'.elim)
  cases ok with
  | false=>exact wpAny_pure ⟨rfl,h₃⟩
  | true=>
   exact wpAny_bind (wpAny_bind (wpAny_mono h₃ (fun x s₄ h₄=>wpAny_bind (wpAny_mono h₄ (fun _ s₅ h₅=>wpAny_pure (wpAny_pure ⟨rfl,h₅⟩)) fun _ _ h' =>h'.elim)) fun _ _ h' =>h'.elim))
end
def bw (env:Env)(fr:List Str):List (Str×Addr):=fr.filterMap fun n=>(env.cells.lookup n).map fun c=>(n,c)
theorem lookup_mem {α:Type}{x:Str}{c:α}:∀{l:List (Str×α)},l.lookup x=some c->(x,c)∈l
 | [],h=>by simp at h
 | (y,d)::r,h=>by
  rw [ahO] at h
  cases e:x==y with
  | true=>
   rw [e] at h
   have e1:x=y:=by simpa using e
   cases h
   rw [e1]
   exact aaq
  | false=>
   rw [e] at h
   exact aag _ (lookup_mem h)
theorem AB {env:Env}{fr:List Str}{x:Str}{c:Addr}(h:(x,c)∈bw env fr):env.cells.lookup x=some c:=by
 obtain ⟨n,_,e⟩:=ahZ.mp h
 cases q:env.cells.lookup n with
 | none=>rw [q] at e;cases e
 | some d=>
  rw [q] at e
  have e' :(n,d)=(x,c):=aaM e
  cases e'
  exact q
theorem b8 {env:Env}{fr:List Str}{x:Str}{c:Addr}(h:(bw env fr).lookup x=some c):env.cells.lookup x=some c:=AB (lookup_mem h)
theorem gd {env:Env}{x:Str}{c:Addr}(q:env.cells.lookup x=some c):∀{fr:List Str},x∈fr->(bw env fr).lookup x=some c
 | [],h=>nomatch h
 | y::r,h=>by
  unfold bw
  rw [ahv]
  by_cases e:x=y
  ·subst e
   rw [q]
   simp
  ·have hr:x∈r:=by
    rcases aaN.mp h with z | z
    ·exact absurd z e
    ·exact z
   have ih:=gd q hr
   cases z:env.cells.lookup y with
   | none=>exact ih
   | some d=>
    show ab7 x ((y,d)::_)=_
    rw [ahO]
    have ne:(x==y)=false:=by simpa using e
    rw [ne]
    exact ih
def ia (env:Env):List Str->Prop
 | []=>True
 | y::r=>(env.kindOf y=some .cell\/env.kindOf y=some .free)/\ia env r
theorem ia.at {env:Env}{x:Str}:∀{fr:List Str},ia env fr->x∈fr->env.kindOf x=some .cell\/env.kindOf x=some .free
 | [],_,h=>nomatch h
 | y::r,a,h=>by
  rcases aaN.mp h with z | z
  ·rw [z]
   exact a.1
  ·exact ia.at a.2 z
section
variable {X:Cx}
def u6 (X:Cx)(NB:List Str)(scope:Scope)(cl:List (Str×Addr))(C:Addr)(s:Shared)(H:Hp)(fp:List Addr):Cx:=
 {prog:=X.prog,w:=X.w,K:=X.K,mg:=X.mg,base:=X.base,A:=X.A,N:=NB,s₀:=s,H₀:=H,env:=compEnvC scope cl C X.env,outer:=X.stack,stack:=X.stack,ex:=fp,fn:=fun _=>false,calm:=X.calm,pn:=[],xe:=fun _ _=>False}
structure O5 (X:Cx)(scope:Scope)(fr:List Str)(caps:List Nat):Prop where
 Li:closureFor scope X.env=pure (bw X.env fr)
 cell:∀y∈scope.names,y.2≠.cell
 kind:scope.kind=.function
 names:∀y∈scope.names,y.2=.local->scope.names.lookup y.1=some .local
 free:∀y∈scope.names,y.2=.free->y.1∈fr
 caps:caps.map (fun i=>X.N[i]?)=fr.map some
 out:ia X.env fr
 Z8:ia (compEnvC scope [] 0 X.env) fr
def PF (X:Cx)(ifs:List Expr)(t:TT):Prop:=
 ∀(pins:ζ) (s:Shared) (σ:L2.St) (H:Hp) (Q:Bool->Hp->Prop),Inv X pins σ H s->t σ H Q->
  wpAny (model X.prog X.w) X.A (forIn ifs true fun c r=>if r=true then do let ok <- isTrue c X.env (eval c X.env);pure (ForInStep.yield ok) else pure (ForInStep.yield r)) (TP X pins σ Q) X.xe s
def kr:TT:=fun _ H Q=>Q true H
theorem dG:PF X [] kr:=fun _ _ _ H _ I h=>wpAny_tests_nil ⟨H,I,h⟩
theorem GB {c:Expr}{t:TT}(h:PT X c t):PF X [c] t:=fun pins s σ H Q I q=>wpAny_tests_one (h pins s σ H Q I q)
def sB (k:Nat)(caps:List Nat)(σ:L2.St):L2.St:=aaH k none++caps.map fun i=>(σ[i]?).getD none
def jE (D:Addr)(g:TG)(tt:TT)(te:TE)(J:It)(σ0:L2.St)(H1:Hp)(Q:VK):Prop:=∃W:Nat->Nat->L2.St->List V->Hp->Prop,
 (∃m,W 0 m σ0 [] (upd H1 D (.lst [])))/\∀i m σ2 ys H2,W i m σ2 ys H2->(J.stop i H2/\Q (.ref D) H2)\/(J.go i H2/\∀x H3,J.EW i H2 x H3->g x σ2 H3 fun σ4 H4=>tt σ4 H4 fun b H5=>
  if b=true then te σ4 H5 fun v H6=>H6 D=some (.lst ys)/\ys.length < sizeLine/\∃m',m' < m/\W (i+1) m' σ4 (ys++[v]) (upd H6 D (.lst (ys++[v]))) else ∃m',m' < m/\W (i+1) m' σ4 ys H5)
def GG (k:Nat)(caps:List Nat)(wi:TI)(g:TG)(tt:TT)(te:TE):TE:=fun σ H Q=>wi σ H fun J H1=>∀D,H1 D=none->jE D g tt te J (sB k caps σ) H1 Q
theorem GH {k:Nat}{caps:List Nat}{σ:L2.St}{i:Nat}{v:V}(h:(sB k caps σ)[i]? =some (some v)):k<=i/\∃j,caps[i - k]? =some j/\σ[j]? =some (some v):=by
 unfold sB at h
 by_cases c:i < k
 ·rw [aat (by simpa using c),abP,if_pos c] at h
  cases h
 ·rw [aaJ (by simpa using aib c),acb,Wp] at h
  refine ⟨aib c,?_⟩
  cases e:caps[i - k]? with
  | none=>rw [e] at h;cases h
  | some j=>
   rw [e] at h
   refine ⟨j,rfl,?_⟩
   have h' :(σ[j]?).getD none=some v:=aaM h
   cases z:σ[j]? with
   | none=>rw [z] at h';cases h'
   | some o=>
    rw [z] at h'
    exact congrArg some h'
theorem nY {elt target iter:Expr}{ifs:List Expr}{scope:Scope}{pos:Pos}{tn fr:List Str}{caps:List Nat}{g:TG}{tt:TT}{te:TE}{pins:ζ}{σ:L2.St}{H2:Hp}{s2:Shared}{J:It}{fp:List Addr}{it:Addr}
  {wA:Nat->Heap->Prop} {Q:VK} {RR:Value->Addr->Result->Shared->Prop} {E:δ} (hc:X.calm=true) (B:O5 X scope fr caps)
  (hg:∀C s H fp,PG (u6 X (tn++fr) scope (bw X.env fr) C s H fp) target g) (ht:∀C s H fp,PF (u6 X (tn++fr) scope (bw X.env fr) C s H fp) ifs tt) (he:∀C s H fp,PE (u6 X (tn++fr) scope (bw X.env fr) C s H fp) elt te)
  (I2:Inv X pins σ H2 s2) (T:Turn X.prog X.w X.K target J fp it wA) (iP:wA 0 s2.heap) (f2:∀b∈fp,h7 X pins H2 b) (q:∀D,H2 D=none->jE D g tt te J (sB tn.length caps σ) H2 Q)
  (fin:∀D C H' s' m,Inv X pins σ H' s' ->s'.heap.Ns C m->h7 X pins H' C->Q (.ref D) H' ->RR (.ref D) C (.ok .next) s'):
  wpAny (model X.prog X.w) X.A (newList []) (fun acc s₃=>wpAny (model X.prog X.w) X.A (newFunctionEnv scope X.env.globals (bw X.env fr) [] X.env.qual none .none (some X.env)) (fun GJ s₄=>
   codeAny (model X.prog X.w) X.A (.compStart (.ListComp elt [⟨target,iter,ifs,0⟩] scope pos) 0 (.ref it) acc {GJ with scope:=relabel scope X.env}) (RR acc GJ.locals) s₄) E s₃) E s2:=by
 refine wpAny_newObj_type (wpAny_newFunctionEnv B.cell (by intro y hy;simp at hy) (fun h₁ O6 Z9=> ?_) B.kind)
 have I3:Inv X pins σ (upd H2 s2.heap.objs.size (.lst [])) {s2 with heap:=s2.heap.push {cls:=.type "list",data:=.seq ([]:List Value).toArray}}:=I2.Le (t' :=s2.toks) (its:=[]) .nil (aaX _)
 obtain ⟨W,⟨m0,w0⟩,turn⟩:=q s2.heap.objs.size (I2.bH.fresh (aah _))
 generalize Z_:upd H2 s2.heap.objs.size (.lst [])=H3 at I3 w0
 have f3:∀b∈fp,h7 X pins H3 b:=fun b hb=>by
  obtain ⟨a0,a1⟩:=f2 b hb
  refine ⟨?_,a1⟩
  obtain ⟨o,e,_⟩:=T.obj _ _ iP b hb
  rw [<- Z_,ao (aaQ (Heap.lt_size e))]
  exact a0
 generalize hD:s2.heap.objs.size=D at*
 generalize Q8:({s2 with heap:=s2.heap.push {cls:=.type "list",data:=.seq ([]:List Value).toArray}}:Shared)=s3 at*
 have e3:s3.heap=s2.heap.push {cls:=.type "list",data:=.seq ([]:List Value).toArray}:=by rw [<- Q8]
 have wz:wA 0 s3.heap:=T.keep _ _ _ iP fun b _ o e=>by rw [e3];exact Heap.get?_push_of_some _ e
 have kept:∀b o,s3.heap.get? b=some o->h₁.get? b=some o:=fun b o e=>(Z9.2 b (aaQ (Heap.lt_size e))).trans (Heap.get?_push_of_some _ e)
 generalize hC:s3.heap.objs.size=C at*
 have GK:s3.heap.objs.size<=C:=aid hC
 have I4:Inv X pins σ H3 {s3 with heap:=h₁,toks:=s3.toks+([]:List (Str×Value)).length}:=I3.kept kept
 have Sr:∀b∈fp,b≠C:=fun b hb z=>by
  obtain ⟨o,e,_⟩:=T.obj _ _ wz b hb
  exact absurd z (aaQ (aaD (Heap.lt_size e) GK))
 have Ss:∀b∈fp,b∉wI X.stack:=fun b hb z=>(aaN.mp (I3.rT b z)).elim (f3 b hb).2.1 (f3 b hb).2.2.1
 have Z':(u6 X (tn++fr) scope (bw X.env fr) C s3 H3 fp).Ok:=by
  refine ⟨I3.ok.mod,B.kind,I3.ok.glob,I3.ok.blt,GK,fun x y c e1 e2=>I3.ok.inj x y c (b8 e1) (b8 e2),fun x hx=> ?_,fun x c z=>(nomatch z),I3.ok.hd,I3.ok.frames,.inl rfl,
   fun b hb=>⟨Sr b hb,fun x c e=>(f3 b hb).2.2.2.2.1 x c (b8 e)⟩,I3.bs,aaf I3.ok.EL I3.sz,fun b o e hb=> ?_,Ss,I3.stack,I3.rV⟩
  ·have hm:∃k,(x,k)∈scope.names/\k≠.local/\(k=.cell\/k=.free):=by
    have:∃k',(relabel scope X.env).names.lookup x=some k' /\(k' =.cell\/k' =.free):=by
     rcases hx with z | z
     ·exact ⟨_,z,.inl rfl⟩
     ·exact ⟨_,z,.inr rfl⟩
    obtain ⟨k',e',h'⟩:=this
    obtain ⟨⟨n,k⟩,hn,en⟩:=aab.mp (lookup_mem e')
    dsimp only at en
    by_cases cc:(k==NameKind.free && X.env.scope.kind==.function && X.env.kindOf n==some .cell)=true
    ·rw [if_pos cc] at en
     cases en
     have kf:k=.free:=by
      rw [abg,abg] at cc
      simpa using cc.1.1
     exact ⟨k,hn,(by intro z;rw [kf] at z;cases z),.inr kf⟩
    ·rw [if_neg cc] at en
     cases en
     exact ⟨k',hn,fun z' =>by rcases h' with y | y <;> (rw [y] at z';cases z'),h'⟩
   obtain ⟨k,hk,_,h2⟩:=hm
   rcases h2 with z | z
   ·exact absurd z (B.cell _ hk)
   ·have hf:=B.free _ hk z
    obtain ⟨c,ec⟩:=I3.ok.has x (B.out.at hf)
    exact ⟨c,gd ec hf⟩
  ·obtain ⟨_,_,_,h1,_⟩:=f3 b hb
   rcases h1 with z | z
   ·exact I3.ok.zQ b o e z
   ·exact ab5 _ (aaD (aaD (Heap.lt_size e) I3.ok.EL) z)
 have IB:Inv (u6 X (tn++fr) scope (bw X.env fr) C s3 H3 fp) [] (sB tn.length caps σ) H3 {s3 with heap:=h₁,toks:=s3.toks+([]:List (Str×Value)).length}:=by
  refine ⟨Z',rfl,I3.bare,Un.kept kept,⟨_,O6,fun i x v e1 e2 _=> ?_⟩,fun x c e=>I4.cell x c (b8 e),?_,fun x c e=>I3.g8 x c (b8 e),fun p hp=>(nomatch hp),I3.bH.kept kept,?_⟩
  ·obtain ⟨hk,j,ej,es⟩:=GH e2
   have wB :fr[i - tn.length]? =some x:=by
    have z:(tn++fr)[i]? =some x:=e1
    rw [aaJ hk] at z
    exact z
   have hx:x∈fr:=ir wB
   have eN:X.N[j]? =some x:=by
    have z:=congrArg (fun l:List (Option Str)=>l[i - tn.length]?) B.caps
    simp only [Wp,ej,wB,abZ] at z
    exact aaM z
   have ko:=B.out.at hx
   obtain ⟨m,hn,hl⟩:=I4.loc
   obtain ⟨u,r,lk⟩:=hl j x v eN es (by rcases ko with z | z;exact .inr (.inl z);exact .inr (.inr z))
   refine ⟨u,r,?_⟩
   rcases lk with ⟨k1,_⟩ | ⟨_,c,ec,ic⟩
   ·rcases ko with z | z <;> (rw [z] at k1;cases k1)
   ·exact .inr ⟨B.Z8.at hx,c,gd ec hx,ic⟩
  ·exact I3.bH.fresh GK
  ·have:=congrArg ab8 B.caps
   simp only [aaa] at this
   show (sB tn.length caps σ).length=(tn++fr).length
   unfold sB
   simp [this]
 have nZ:∀{H' :Hp},(∀b∈fp,H' b=none)->∀b∈fp,h7 (u6 X (tn++fr) scope (bw X.env fr) C s3 H3 fp) [] H' b:=fun hn b hb=>
  ⟨hn b hb,Sr b hb,Ss b hb,.inl hb,fun x c e=>(f3 b hb).2.2.2.2.1 x c (b8 e),fun p hp=>(nomatch hp)⟩
 have Kb:wA 0 h₁:=T.keep _ _ _ wz fun b _ o e=>kept b o e
 have loop:codeAny (model X.prog X.w) X.A (.compLoop (.ListComp elt [⟨target,iter,ifs,0⟩] scope pos) 0 (.ref it) (.ref D) (compEnvC scope (bw X.env fr) C X.env)) (RR (.ref D) C) {s3 with heap:=h₁,toks:=s3.toks+([]:List (Str×Value)).length}:=by
  refine jD (fun n s' =>∃i σ' ys H',Inv (u6 X (tn++fr) scope (bw X.env fr) C s3 H3 fp) [] σ' H' s' /\wA i s'.heap/\(∀b∈fp,H' b=none)/\W i n σ' ys H') ?_ m0 ⟨0,_,[],H3,IB,Kb,fun b hb=>(f3 b hb).1,w0⟩
  rintro n s5 ⟨i,σ5,ys,H5,I5,zV,OJ,w5⟩
  rcases turn i n σ5 ys H5 w5 with ⟨stop,qn⟩ | ⟨go,step⟩
  ·refine wpAny_mono (T.done (u6 X (tn++fr) scope (bw X.env fr) C s3 H3 fp) rfl rfl rfl hc i [] s5 σ5 H5 (fun _ _=>False) I5 (nZ OJ) zV stop) (fun r s6 ⟨hr,I6⟩=> ?_) fun _ _ z=>z
   subst hr
   obtain ⟨m,hn,_⟩:=I6.loc
   have J6:Inv X pins σ H5 s6:=I3.Nf (ch:=fp) I6.os I6.base I6.bH I6.bare fun b hb=>⟨(f3 b hb).2.2.2.1,(f3 b hb).2.1,(f3 b hb).2.2.2.2.1,(f3 b hb).2.2.2.2.2⟩
   exact fin D C H5 s6 m J6 hn (I3.nG GK I6.free) qn
  ·refine wpAny_mono (T.item (u6 X (tn++fr) scope (bw X.env fr) C s3 H3 fp) rfl rfl rfl hc i [] s5 σ5 H5 (fun _ _=>False) I5 (nZ OJ) zV go) (fun r s6 ⟨u,hr,h6⟩=> ?_) fun _ _ z=>z
   subst hr
   refine wpAny_mono h6 (fun _ s7 ⟨x,H7,I7,r7,y7,O7,NC⟩=> ?_) fun _ _ z=>z
   have I7' :=I7.pinned (nZ NC) (T.obj _ _ O7)
   have held:∀{σ' :L2.St} {H' :Hp} {s' :Shared},Inv (u6 X (tn++fr) scope (bw X.env fr) C s3 H3 fp) ([]++ki fp s7.heap) σ' H' s' ->wA (i+1) s'.heap/\∀b∈fp,H' b=none:=fun {σ' H' s'} I' =>by
    refine ⟨T.keep _ _ _ O7 fun b hb o e=>(I'.pin (b,o) (aaV _ (aaV _ (eE hb e)))).1,fun b hb=> ?_⟩
    obtain ⟨o,e,d⟩:=T.obj _ _ O7 b hb
    exact (I'.pin (b,o) (aaV _ (aaV _ (eE hb e)))).2.1
   refine wpAny_mono (hg C s3 H3 fp _ s7 σ5 H7 x u _ I7' r7 (step x H7 y7)) (fun _ s8 ⟨σ8,H8,I8,q8⟩=> ?_) fun _ _ z=>z
   refine wpAny_mono (ht C s3 H3 fp _ s8 σ8 H8 _ I8 q8) (fun ok s9 ⟨H9,I9,q9⟩=> ?_) fun _ _ z=>z
   cases ok with
   | false=>
    rw [if_neg aaz] at q9
    obtain ⟨m',hm,w9⟩:=q9
    rw [if_neg aaz]
    obtain ⟨a,b⟩:=held I9
    exact ⟨m',hm,i+1,σ8,ys,H9,I9.fu,a,b,w9⟩
   | true=>
    rw [if_pos rfl] at q9
    rw [if_pos rfl]
    refine wpAny_mono (he C s3 H3 fp _ s9 σ8 H9 _ I9 q9) (fun v Lj ⟨y,wC,I10,r10,hDD,hl,m',hm,w10⟩=> ?_) fun _ _ z=>z
    refine wpAny_mono (c7 (X:=u6 X (tn++fr) scope (bw X.env fr) C s3 H3 fp) _ Lj σ8 wC (.ref D) [y] (.ref D) [v] (fun _ H' =>W (i+1) m' σ8 (ys++[y]) H') I10 rfl (.cons r10 .nil) ⟨D,ys,y,rfl,rfl,hDD,hl,w10⟩) (fun _ Su ⟨z,YN,Sv,_,q11⟩=> ?_) fun _ _ z=>z
    obtain ⟨a,b⟩:=held Sv
    exact ⟨m',hm,i+1,σ8,ys++[y],YN,Sv.fu,a,b,q11⟩
 exact codeAny_compStart_list loop (T.self X.A 0 _ _ _ Kb loop)
theorem dC {elt target iter:Expr}{ifs:List Expr}{scope:Scope}{pos:Pos}{tn fr:List Str}{caps:List Nat}{wi:TI}{g:TG}{tt:TT}{te:TE}(hc:X.calm=true)(B:O5 X scope fr caps)(hi:PI X target iter wi)
  (hg:∀C s H fp,PG (u6 X (tn++fr) scope (bw X.env fr) C s H fp) target g) (ht:∀C s H fp,PF (u6 X (tn++fr) scope (bw X.env fr) C s H fp) ifs tt) (he:∀C s H fp,PE (u6 X (tn++fr) scope (bw X.env fr) C s H fp) elt te)
  (hs:∀x,foldedSetIterable iter X.env x=pure x:=by intro _;rfl):PE X (.ListComp elt [⟨target,iter,ifs,0⟩] scope pos) (GG tn.length caps wi g tt te):=by
 intro pins s σ H Q I h
 rw [eval_ListComp]
 refine wpAny_comprehension_free (use:=none) rfl hs B.Li B.kind B.names (bZ (hi pins s σ H _ I h) fun v s1 h1=>bZ h1 fun RT s2 h2=> ?_)
 obtain ⟨it,fp,wA,J,H2,rfl,I2,T,iP,f2,q⟩:=h2
 refine nY (Q:=Q) (RR:=fun acc C=>compPost (model X.prog X.w) X.A X.xe none (EP X pins σ Q) acc C) hc B hg ht he I2 T iP f2 q ?_
 intro D C H' s' m I' hn fc qq
 obtain ⟨g0,g1,g2,g3,g4,g5⟩:=fc
 exact ⟨m,hn,fun h' Kc =>⟨.ref D,H',I'.turned (t' :=s'.toks) (fun b o hb e=>(Kc.2 b hb).trans e) g0 g1 g3 g4 g5,rfl,qq⟩⟩
theorem mS {i:Nat}{y:Str}{py:Pos}{GL:Pos}{elt target iter:Expr}{ifs:List Expr}{scope:Scope}{pos:Pos}{tn fr:List Str}{caps:List Nat}{wi:TI}{g:TG}{tt:TT}{te:TE}(hN:X.N.Nodup)(hiN:X.N[i]? =some y)(hx:Loc X.env.scope y)
  (hc:X.calm=true) (B:O5 X scope fr caps) (hi:PI X target iter wi)
  (hg:∀C s H fp,PG (u6 X (tn++fr) scope (bw X.env fr) C s H fp) target g) (ht:∀C s H fp,PF (u6 X (tn++fr) scope (bw X.env fr) C s H fp) ifs tt) (he:∀C s H fp,PE (u6 X (tn++fr) scope (bw X.env fr) C s H fp) elt te)
  (GN:swapsWith (.ListComp elt [⟨target,iter,ifs,0⟩] scope pos) (some (.Name y py)) GL.line X.env=pure true:=by rfl)
  (hs:∀x,foldedSetIterable iter X.env x=pure x:=by intro _;rfl) (hf:X.fn y=true\/X.env.scope.names.lookup y=some .local:=by first | exact .inl rfl | exact .inr rfl | assumption):
  PS X (.Assign [.Name y py] (.ListComp elt [⟨target,iter,ifs,0⟩] scope pos) GL) (K0 (GG tn.length caps wi g tt te) (cI i)):=by
 intro pins s σ H D I h
 rw [exec_Assign_Name_used _ _ _ _ GN]
 refine wpAny_bind (wpAny_standAt (wpAny_bind ?_))
 show wpAny _ X.A (do let _ <- comprehension (.ListComp elt [⟨target,iter,ifs,0⟩] scope pos) scope X.env _ (newList []) false (eval iter X.env) (some (assign (.Name y py) X.env))) _ _ s
 refine wpAny_bind (wpAny_mono (wpAny_comprehension_free (use:=some (assign (.Name y py) X.env)) (Q:=fun _ s' =>SP X pins D .next s') rfl hs B.Li B.kind B.names
  (bZ (hi pins s σ H _ I h) fun v s1 h1=>bZ h1 fun RT s2 h2=> ?_)) (fun _ s' hq=>wpAny_pure (wpAny_pure hq)) fun _ _ e=>e)
 obtain ⟨it,fp,wA,J,H2,rfl,I2,T,iP,f2,q⟩:=h2
 refine nY (Q:=fun v H1=>cI i v σ H1 D.nx) (RR:=fun acc C=>compPost (model X.prog X.w) X.A X.xe (some (assign (.Name y py) X.env)) (fun _ s' =>SP X pins D .next s') acc C) hc B hg ht he I2 T iP f2 q ?_
 intro DD C H' s' m I' hn fc qq
 obtain ⟨g0,g1,g2,g3,g4,g5⟩:=fc
 show wpAny _ X.A (assign (.Name y py) X.env (.ref DD)) _ _ _
 refine wpAny_assign_Name (kg I' hN hiN hx (v:=.ref DD) (u:=.ref DD) rfl (fun OP I'' ⟨a,sb,ha⟩=> ?_) hf)
 have hCa:C≠a:=by
  rcases ha with z | z
  ·rw [z]
   exact g1
  ·exact fun e=>g4 y a z e.symm
 exact ⟨m,hn.sameBut sb hCa,fun h' Kc =>⟨_,H',I''.turned (t' :=OP.toks) (fun b o hb e=>(Kc.2 b hb).trans e) g0 g1 g3 g4 g5,qq⟩⟩
end
section
variable {D:Addr}{te:TE}{cap:L2.St}{H1:Hp}{Q:VK}
theorem GO {J:It}(n:Nat)(xs:Nat->V)(Pv:Nat->List V->Hp->Prop)(h0:Pv 0 [] (upd H1 D (.lst [])))
  (go:∀i ys H,i < n->Pv i ys H->J.go i H/\∀x H',J.EW i H x H' ->H' =H/\x=xs i) (stop:∀ys H,Pv n ys H->J.stop n H)
  (hs:∀i ys H (R:VK),i < n->Pv i ys H->H D=some (.lst ys)->(∀v H6,H6 D=some (.lst ys)->ys.length < sizeLine->Pv (i+1) (ys++[v]) (upd H6 D (.lst (ys++[v])))->R v H6)->te (some (xs i)::cap) H R)
  (hd:∀ys H,Pv n ys H->H D=some (.lst ys)->Q (.ref D) H):jE D (cI 0) kr te J (none::cap) H1 Q:=by
 refine ⟨fun i m σ ys H=>m=n - i/\i<=n/\(∃o,σ=o::cap)/\Pv i ys H/\H D=some (.lst ys),⟨n,by simp,aaX _,⟨none,rfl⟩,h0,ah⟩,?_⟩
 rintro i m σ ys H ⟨rfl,hi,⟨o,rfl⟩,p,hD⟩
 by_cases kc:i < n
 ·obtain ⟨g1,g2⟩:=go i ys H kc p
  refine .inr ⟨g1,fun x H' y=> ?_⟩
  obtain ⟨e1,e2⟩:=g2 x H' y
  subst e1 e2
  unfold cI kr
  dsimp only
  rw [if_pos rfl]
  exact hs i ys _ _ kc p hD fun v H6 a b c=>⟨a,b,n - (i+1),by omega,rfl,by omega,⟨_,rfl⟩,c,ah⟩
 ·have e:i=n:=by omega
  subst e
  exact .inl ⟨stop ys H p,hd ys H p hD⟩
end
section
variable {X:Cx}{tg:Expr}
end
section
variable {prog:Program}{w:World}{A:Around}{E:δ}
end
structure Q9 (K:Frag)(C:Addr):Prop where
 makes:PySem.W.makesIn K C=true
 init:PySem.W.findIn K (.ref C) "__init__"=some (some (.builtin "object.__init__"))
 kp:keepIn K (.ref C)=true
def Sw (C:Addr):TE:=fun _ H Q=>∀x dx,H x=none->H dx=none->dx≠x->Q (.ref x) (upd (upd H dx (.own x)) x (.ins C dx []))
section
variable {X:Cx}
theorem Lk {pins:ζ}{σ:L2.St}{H:Hp}{s:Shared}{Q:VK}{C:Addr}(M:Q9 X.K C)(I:Inv X pins σ H s)(h:Sw C σ H Q):wpAny (model X.prog X.w) X.A (call (.ref C) []) (EP X pins σ Q) X.xe s:=by
 have hq:=h (s.heap.objs.size+1) s.heap.objs.size (I.bH.fresh (af_ _)) (I.bH.fresh (aah _)) (aaQ (abc _))
 have I2:=Inv.made (C:=C) I
 have Y:=PySem.W.makes_of (M:=model X.prog X.w) I.ja M.makes
 refine wpAny_call (zY I.ja M.makes M.init (fun self=>PySem.W.Looks.of_pure (PySem.W.oi_bind self)) ?_)
 have ho:((s.heap.push PySem.W.emptyDict).push (PySem.W.instObj C s.heap.objs.size)).get? (s.heap.objs.size+1)=some (PySem.W.instObj C s.heap.objs.size):=by
  have:=Heap.get?_push_size (s.heap.push PySem.W.emptyDict) (o:=PySem.W.instObj C s.heap.objs.size) rfl
  rwa [Heap.size_push] at this
 have t1:PySem.W.Looks (model X.prog X.w) ((s.heap.push PySem.W.emptyDict).push (PySem.W.instObj C s.heap.objs.size)) (typeOf (.ref (s.heap.objs.size+1))) (.ref C):=(PySem.W.Looks.ld ho).andThen .now
 have t2:PySem.W.Looks (model X.prog X.w) ((s.heap.push PySem.W.emptyDict).push (PySem.W.instObj C s.heap.objs.size)) (isInstance (.ref (s.heap.objs.size+1)) (.type "object")) true:=
  t1.andThen (Y.top.keeps fun b o e=>Heap.get?_push_of_some _ (Heap.get?_push_of_some _ e))
 refine codeAny_call_builtin PySem.W.oi_plain PySem.W.entry_oi (@PySem.W.check_slot (model X.prog X.w) _ _ _ "object.__init__" "object" "__init__" (.ref (s.heap.objs.size+1)) [] [] _ PySem.W.oi_kind PySem.W.oi_split t2 (PySem.W.oi_args (.ref (s.heap.objs.size+1))) ?_)
 rw [PySem.W.oi_run]
 exact wpAny_pure (And.intro rfl ⟨V.ref (s.heap.objs.size+1),_,I2,rfl,hq⟩)
theorem GP {x:Str}{p pos:Pos}{C:Addr}(M:Q9 X.K C)(hg:Gl X x)(hm:X.mg x=some (.ref C))(z6:(x==("__debug__":Str))=false:=by decide):PE X (.Call (.Name x p) [] [] pos) (Sw C):=by
 intro pins s σ H Q I h
 refine wpAny_Call_Name_kw (jt I hg hm ?_ z6)
 exact PySem.W.callWith_K0 I.ja M.kp (Lk M I h)
end
structure bx (P:Program)(w:World)(K:Frag)(mg:ι)(base:Heap)(CX:kd)(k:Nat)(C:Addr)(m:Str)(ps:List Str)(sp:Sp):Prop where
 ex:∃(f:Addr) (fd:FuncData),uQ K C/\Meth K C m f/\cB P w K mg base CX k f fd ps sp/\Binds K fd ps []
theorem bx.mono {P:Program}{w:World}{K:Frag}{mg:ι}{base:Heap}{CX:kd}{j k:Nat}{C:Addr}{m:Str}{ps:List Str}{sp:Sp}(M:bx P w K mg base CX j C m ps sp)(h:j<=k):bx P w K mg base CX k C m ps sp:=by
 obtain ⟨f,fd,a,b,c,d⟩:=M.ex
 exact ⟨f,fd,a,b,c.mono h,d⟩
section
variable {X:Cx}{CX:kd}{k:Nat}{E:XK}{m:Str}{pos apos:Pos}{e o:Expr}{es:List Expr}{ta:TE}{t:TA}
inductive ND (P:Program)(w:World)(K:Frag)(mg:ι)(base:Heap)(CX:kd)(k:Nat)(m:Str)(E:XK)(t:TA)(σ:L2.St)(Q:VK)(x:V)(H1:Hp):Prop where
 | mk (a C dx fs ps sp:_) (_:x=.ref a) (_:H1 a=some (.ins C dx fs)) (_:fs.lookup m=none) (_:bx P w K mg base CX k C m ps sp) (_:t σ H1 fun vs H2=>sp (x::vs) H2 Q E):ND P w K mg base CX k m E t σ Q x H1
def Sx (P:Program)(w:World)(K:Frag)(mg:ι)(base:Heap)(CX:kd)(k:Nat)(m:Str)(E:XK)(ta:TE)(t:TA):TE:=fun σ H Q=>ta σ H fun x H1=>ND P w K mg base CX k m E t σ Q x H1
theorem d0 {pl:Sem Bool}(he:PE X o ta)(hr:cp k X.A)(hx:Passes CX X E)
  (ht:eval (.Call (.Attribute o m apos) [] [] pos) X.env=(do
   let ov <- eval o X.env
   standAt apos.atName
   let (f,first) <- holding [ov] (getMethod ov m pl)
   callWith pos f first (backTo pos (starEach [] X.env)) (backToKw pos (keywordEach [] X.env))):=by rfl):
  PE X (.Call (.Attribute o m apos) [] [] pos) (Sx X.prog X.w X.K X.mg X.base CX k m E ta fN):=by
 intro pins s σ H Q I h
 refine PySem.W.methodCall_KW (pl:=pl) (bZ (he pins s σ H _ I h) fun u s1 ⟨x,H1,I1,rx,a,C,dx,fs,ps,sp,ex,ea,l,M,q⟩=> ?_) ht
 subst ex
 obtain rfl:u=Value.ref a:=rx
 obtain ⟨f,fd,c,hm,F,hb⟩:=M.ex
 refine je I1 ea c hm l ?_
 exact PySem.W.callWith_K0 (first:=[.ref a]) I1.ja hm.kp (r8 (us:=[.ref a]) (vs:=[.ref a]) (dvs:=[]) F hr hb .nil hx I1 (.cons rfl .nil) q)
theorem cF {pl:Sem Bool}(he:PE X o ta)(hr:cp k X.A)(hx:Passes CX X E)(ha:PA X (e::es) t)
  (KZ:starEach (e::es) X.env=(false,eval e X.env)::starEach es X.env:=by rfl) (yh:(backTo pos (starEach es X.env)).any (·.1)=false:=by rfl)
  (ht:eval (.Call (.Attribute o m apos) (e::es) [] pos) X.env=(do
   let ov <- eval o X.env
   standAt apos.atName
   let (f,first) <- holding [ov] (getMethod ov m pl)
   callWith pos f first (backTo pos (starEach (e::es) X.env)) (backToKw pos (keywordEach [] X.env))):=by rfl):
  PE X (.Call (.Attribute o m apos) (e::es) [] pos) (Sx X.prog X.w X.K X.mg X.base CX k m E ta t):=by
 intro pins s σ H Q I h
 refine PySem.W.methodCall_KW (pl:=pl) (bZ (he pins s σ H _ I h) fun u s1 ⟨x,H1,I1,rx,a,C,dx,fs,ps,sp,ex,ea,l,M,q⟩=> ?_) ht
 subst ex
 obtain rfl:u=Value.ref a:=rx
 obtain ⟨f,fd,c,hm,F,hb⟩:=M.ex
 refine je I1 ea c hm l ?_
 refine PySem.W.callWith_K (first:=[.ref a]) (h₀:=X.base) I.ok.mod.Q6 hm.kp (bZ (ha pos pins s1 σ H1 _ I1 q) fun us s2 ⟨vs,H2,I2,r,q2⟩=>⟨I2.ja,?_⟩) KZ yh
 refine r8 (us:=.ref a::us) (vs:=.ref a::vs) (dvs:=[]) F hr hb .nil hx I2 (.cons rfl r) ?_
 rw [ace]
 exact q2
end
theorem n_ {X:Cx}{CX:kd}(h:u4 CX)(e:X.xe=fun _ _=>False):Passes CX X E0:=fun _ _ _ _ _ _ _ q=>(h _ _ _ _ _ q).elim
section
variable {σ:L2.St}{H:Hp}{Q:VK}{QB:Bool->Hp->Prop}{QA:List V->Hp->Prop}{D:Ends}{t u:TS}{ta tb te:TE}{tc td:TT}{t1:TA}
end
section
variable {X:Cx}
inductive Sy (x:V)(lo:Option Int)(hi:Option Int)(H:Hp)(Q:VK):Prop where
 | mk (z:_) (_:x=.str z) (_:z.length<=sizeLine) (_:Q (.str (Txt.slice z lo hi)) H):Sy x lo hi H Q
theorem O8:Sd X Sy:=by
 intro pins s σ H x v vl vu lo hi sl Q I rx hs pl pu h
 obtain ⟨z,rfl,hz,q⟩:=h
 obtain ⟨t,rfl⟩:=rx
 refine ⟨"str",_,F.slot_str_getitem.lookup,typeIs_str _ _ _,?_⟩
 cases pl <;> cases pu
 ·exact wpAny_getItem_str_slice (l:=none) (u:=none) (st:=none) hs rfl (post_val_or_str ⟨aaf (Txt.slice_le z _ _) hz,fun t' k=>⟨.str _,H,I.tok k,⟨t',rfl⟩,q⟩⟩)
 ·rename_i j uj
  exact wpAny_getItem_str_slice (l:=none) (u:=some (j,uj)) (st:=none) hs rfl (post_val_or_str ⟨aaf (Txt.slice_le z _ _) hz,fun t' k=>⟨.str _,H,I.tok k,⟨t',rfl⟩,q⟩⟩)
 ·rename_i i ui
  exact wpAny_getItem_str_slice (l:=some (i,ui)) (u:=none) (st:=none) hs rfl (post_val_or_str ⟨aaf (Txt.slice_le z _ _) hz,fun t' k=>⟨.str _,H,I.tok k,⟨t',rfl⟩,q⟩⟩)
 ·rename_i i ui j uj
  exact wpAny_getItem_str_slice (l:=some (i,ui)) (u:=some (j,uj)) (st:=none) hs rfl (post_val_or_str ⟨aaf (Txt.slice_le z _ _) hz,fun t' k=>⟨.str _,H,I.tok k,⟨t',rfl⟩,q⟩⟩)
inductive NF (x:V)(y:V)(H:Hp)(Q:VK):Prop where
 | mk (z n:_) (_:x=.str z) (_:y=.int n) (_:MulOk z n) (_:Q (.str (Txt.mul z n)) H):NF x y H Q
theorem sr:jq X (binaryOp .Mult) NF:=by
 intro pins s σ H x y v u Q I rx ry h
 obtain ⟨z,n,rfl,rfl,ok,q⟩:=h
 obtain ⟨t,rfl⟩:=rx
 obtain ⟨t',rfl⟩:=ry
 exact SB.mul ok fun t' k=>⟨.str _,H,I.tok k,⟨t',rfl⟩,q⟩
end
end Ty
set_option maxHeartbeats 4000000
namespace Ty
open PySem PySem.Spec PyProof.Rows L2 PySem.NumText
def dg (m:Nat):List Nat:=(Nat.toDigits 10 m).map Char.toNat
def tx (n:Int):Str:=Str.ofString (toString n)
def SA:Str:=Str.ofString "/"
def nt (q:Int×Int):Str:=if q.2=1 then tx q.1 else tx q.1++SA++tx q.2
end Ty
set_option maxHeartbeats 4000000
namespace Ty
open PySem PySem.Spec PyProof.Rows L2 PySem.NumText
section
variable {X:Cx}
end
def isStar:Expr->Bool
 | .Starred .. =>true
 | _=>false
theorem AD {e:Expr}{es:List Expr}{env:Env}(h:isStar e=false):starEach (e::es) env=(false,eval e env)::starEach es env:=by
 cases e <;> first | rfl | (cases h;done)
theorem ar {X:Cx}{e:Expr}{es:List Expr}{te:TE}{t:TA}(ha:PE X e te)(hr:PA X es t)(h:isStar e=false:=by rfl):PA X (e::es) (Nq te t):=K6 ha hr (AD h)
end Ty
set_option maxHeartbeats 4000000
namespace Ty
open PySem PySem.Spec PyProof.Rows L2
section
variable {D:Addr}{te:TE}{cap:L2.St}{H1:Hp}{Q:VK}
def aV (D:Addr)(H H' :Hp):Prop:=∀b o,b≠D->H b=some o->H' b=some o
theorem aV.of {H H' :Hp}(s:au H H'):aV D H H' :=fun b o _ e=>s b o e
theorem aV.upd {H:Hp}{o:HO}:aV D H (upd H D o):=fun b o' n e=>by rw [ao n];exact e
theorem u9 {J:It}(n:Nat)(xs:Nat->V)(Rel:Nat->V->Hp->Prop)(nD:H1 D=none)(hn:n < sizeLine)
  (go:∀i H,i < n->au H1 H->J.go i H/\∀x H',J.EW i H x H' ->H' =H/\x=xs i) (stop:∀H,au H1 H->J.stop n H)
  (hR:∀i v H H' ys,H D=some (.lst ys)->aV D H H' ->Rel i v H->Rel i v H')
  (he:∀i H (R:VK),i < n->au H1 H->(∀v H6,au H H6->Rel i v H6->R v H6)->te (some (xs i)::cap) H R)
  (hd:∀ys H,ys.length=n->(∀i v,ys[i]? =some v->Rel i v H)->au H1 H->H D=some (.lst ys)->Q (.ref D) H):
  jE D (cI 0) kr te J (none::cap) H1 Q:=by
 refine GO n xs (fun i ys H=>ys.length=i/\(∀i v,ys[i]? =some v->Rel i v H)/\au H1 H) ⟨rfl,fun i v e=>by simp at e,fun b o e=>by rw [ao (aq e nD)];exact e⟩ ?_ ?_ ?_ ?_
 ·rintro i ys H hi ⟨_,_,s⟩
  exact go i H hi s
 ·rintro ys H ⟨_,_,s⟩
  exact stop H s
 ·rintro i ys H R hi ⟨l,r,s⟩ hD k
  refine he i H R hi s fun v H6 s6 rv=>k v H6 (s6 _ _ hD) (by omega) ⟨by simp [l],fun j u e=> ?_,fun b o e=> ?_⟩
  ·by_cases c:j < ys.length
   ·rw [aat c] at e
    have ru:=hR j u H H6 ys hD (aV.of s6) (r j u e)
    exact hR j u H6 _ ys (s6 _ _ hD) aV.upd ru
   ·rw [aaJ (by omega)] at e
    have ej:j=i:=by
     by_cases z:j - ys.length=0
     ·omega
     ·rw [aae (by simp;omega)] at e
      cases e
    subst ej
    have:v=u:=by
     rw [show j - ys.length=0 by omega] at e
     exact aaM e
    subst this
    exact hR j v H6 _ ys (s6 _ _ hD) aV.upd rv
  ·rw [ao (aq e nD)]
   exact s6 _ _ (s _ _ e)
 ·rintro ys H ⟨l,r,s⟩ hD
  exact hd ys H l r s hD
theorem dN {K:Frag}{a:Addr}{xs:η}(Rel:Nat->V->Hp->Prop)(nD:H1 D=none)(hn:xs.length < sizeLine)(hS:∀H,au H1 H->a8 K H a xs)
  (hR:∀i v H H' ys,H D=some (.lst ys)->aV D H H' ->Rel i v H->Rel i v H')
  (he:∀i x H (R:VK),xs[i]? =some x->au H1 H->(∀v H6,au H H6->Rel i v H6->R v H6)->te (some x::cap) H R)
  (hd:∀ys H,ys.length=xs.length->(∀i v,ys[i]? =some v->Rel i v H)->au H1 H->H D=some (.lst ys)->Q (.ref D) H):
  jE D (cI 0) kr te (K1 K a) (none::cap) H1 Q:=by
 refine u9 xs.length (fun i=>(xs[i]?).getD .cv) Rel nD hn (fun i H hi s=>⟨⟨xs,xs[i],hS H s,gE hi⟩,fun x H' y=>⟨y.1,?_⟩⟩) (fun H s=>⟨xs,hS H s,aah _⟩) hR (fun i H R hi s k=> ?_) hd
 ·rw [y.2 xs (hS H s)];rfl
 ·have e:xs[i]? =some xs[i]:=gE hi
  have k' :=he i _ H R e s k
  rw [<- (show (xs[i]?).getD .cv=xs[i] by rw [e];rfl)] at k'
  exact k'
theorem w8 {lo:Int}{n:Nat}(Rel:Nat->V->Hp->Prop)(nD:H1 D=none)(hn:n < sizeLine)
  (hR:∀i v H H' ys,H D=some (.lst ys)->aV D H H' ->Rel i v H->Rel i v H')
  (he:∀(i:Nat) H (R:VK),i < n->au H1 H->(∀v H6,au H H6->Rel i v H6->R v H6)->te (some (.int (lo+i))::cap) H R)
  (hd:∀ys H,ys.length=n->(∀i v,ys[i]? =some v->Rel i v H)->au H1 H->H D=some (.lst ys)->Q (.ref D) H):
  jE D (cI 0) kr te (Ni lo n) (none::cap) H1 Q:=
 u9 n (fun i=>.int (lo+i)) Rel nD hn (fun i H hi s=>⟨hi,fun x H' y=>y⟩) (fun H s=>aah n) hR he hd
end
section
variable {X:Cx}{pins:ζ}{σ:L2.St}{H:Hp}{s:Shared}{h' :Heap}
theorem Inv.mT {t' :Nat}{fp:List Addr}(I:Inv X pins σ H s)(k:∀b o,b∉fp->s.heap.get? b=some o->h'.get? b=some o)(hf:∀b∈fp,h7 X pins H b):Inv X pins σ H {s with heap:=h',toks:=t' }:=by
 have Nb:∀b u,H b=some u->b∉fp:=fun b u e z=>by rw [(hf b z).1] at e;cases e
 refine I.step (g' :=s.gens) (d' :=s.drawn) (ch:=fp) (fun b hb=> ?_) (fun b o _ _ hc e _=>k b o hc e) (fun b o _ _ hc e _=>⟨o.slots,k b o hc e⟩) (fun _ _ _ _ n=>n)
  (fun b o hc e=>⟨o,k b o hc e⟩) (fun _ _ e=>e) (fun _ _ _ e=>e) (fun b ps e=>⟨#[],by rw [e];simp⟩) (fun m hm=> ?_) (fun b u e=> ?_) I.bare
 ·obtain ⟨f0,f1,f2,f3,f4,f5⟩:=hf b hb
  exact ⟨f3,f1,f4,f5⟩
 ·obtain ⟨o,es,ep,ho,r⟩:=hm
  exact ⟨o,es,ep,k _ o (fun z=>(hf _ z).2.1 rfl) ho,r⟩
 ·refine (I.bH b u e).rP (fun c v hc q=>k c v ?_ q) (fun _ q=>q) fun _ _ q=>q
  rcases hc with z | z
  ·rw [z];exact Nb b u e
  ·exact Nb c _ z
theorem Inv.sx {t' :Nat}{fp:List Addr}{T:Addr}{xs:η}{its:ο}(I:Inv X pins σ H s)(k:∀b o,b∉fp->s.heap.get? b=some o->h'.get? b=some o)(hf:∀b∈fp,h7 X pins H b)(hT:s.heap.objs.size<=T)
  (hz:xs.length<=sizeLine) (rv:Vals xs its) (ht:IsTup h' T its.toArray):Inv X pins σ (upd H T (.tup xs)) {s with heap:=h',toks:=t' }:=by
 have hn:=I.bH.fresh hT
 have Nb:∀b u,H b=some u->b∉fp:=fun b u e z=>by rw [(hf b z).1] at e;cases e
 have ne:∀b o,s.heap.get? b=some o->b≠T:=fun b o e=>aaQ (aaD (Heap.lt_size e) hT)
 refine I.step (g' :=s.gens) (d' :=s.drawn) (ch:=fp) (fun b hb=> ?_) (fun b o _ _ hc e _=>k b o hc e) (fun b o _ _ hc e _=>⟨o.slots,k b o hc e⟩) (fun b o _ e n=>by rw [ao (ne b o e)];exact n)
  (fun b o hc e=>⟨o,k b o hc e⟩) (fun b ys e=>by rw [ao (aq e hn)];exact e) (fun b o u e=>by rw [ao (aq e hn)];exact e) (fun b ps e=>⟨#[],by rw [ao (aq e hn),e];simp⟩) (fun m hm=> ?_) (fun b u e=> ?_) I.bare
 ·obtain ⟨f0,f1,f2,f3,f4,f5⟩:=hf b hb
  exact ⟨f3,f1,f4,f5⟩
 ·obtain ⟨o,es,ep,ho,r⟩:=hm
  exact ⟨o,es,ep,k _ o (fun z=>(hf _ z).2.1 rfl) ho,r⟩
 ·by_cases hb:b=T
  ·subst hb
   rw [ah] at e
   cases e
   exact ⟨hz,its,rv,ht⟩
  ·rw [ao hb] at e
   refine (I.bH b u e).rP (fun c v hc q=>k c v ?_ q) (fun c q=>by rw [ao (aq q hn)];exact q) fun c ys q=>by rw [ao (aq q hn)];exact q
   rcases hc with z | z
   ·rw [z];exact Nb b u e
   ·exact Nb c _ z
end
def Itz (K:Frag)(a b:Addr):It:=
 ⟨fun i H=>∃xs ys x y,a8 K H a xs/\a8 K H b ys/\xs[i]? =some x/\ys[i]? =some y,
  fun i H v H' =>∃p x y,(∀xs,a8 K H a xs->xs[i]? =some x)/\(∀ys,a8 K H b ys->ys[i]? =some y)/\v=.ref p/\H p=none/\H' =upd H p (.tup [x,y]),
  fun i H=>∃xs ys,a8 K H a xs/\a8 K H b ys/\(xs.length<=i\/ys.length<=i)⟩
theorem GQ {P:Program}{w:World}{K:Frag}{es:List Expr}{k:Nat}{pos:Pos}(a b z TI TO i1 i2:Addr)(D:ZipApart z TI TO i1 i2 a b):
  Turn P w K (.Tuple es k pos) (Itz K a b) [z,TI,TO,i1,i2] z (fun i h=>IsZip h z TI TO .none/\IsPair h TI (.ref i1) (.ref i2)/\(∃x y,IsPair h TO x y)/\h.IsListIter i1 a i/\h.IsListIter i2 b i) where
 mem:=by simp
 obj:=fun i h st c hc=>by
  obtain ⟨hz,jf,⟨x,y,rf⟩,⟨o1,e1,c1,d1⟩,⟨o2,e2,c2,d2⟩⟩:=st
  have uD :c=z\/c=TI\/c=TO\/c=i1\/c=i2:=by simpa using hc
  rcases uD with e | e | e | e | e <;> subst e
  ·exact ⟨_,hz,fun v z=>by cases z⟩
  ·exact ⟨_,jf,fun v z=>by cases z⟩
  ·exact ⟨_,rf,fun v z=>by cases z⟩
  ·exact ⟨_,e1,fun v z=>by rw [d1] at z;cases z⟩
  ·exact ⟨_,e2,fun v z=>by rw [d2] at z;cases z⟩
 keep:=fun i h h' st k=>by
  obtain ⟨hz,jf,⟨x,y,rf⟩,h1,h2⟩:=st
  exact ⟨k z (by simp) _ hz,k TI (by simp) _ jf,⟨x,y,k TO (by simp) _ rf⟩,h1.at fun o e=>k i1 (by simp) o e,h2.at fun o e=>k i2 (by simp) o e⟩
 item:=by
  intro X hP hw hK hc i pins s σ H E I hf st hg
  subst hP hw hK
  obtain ⟨hz,jf,⟨x0,y0,rf⟩,h1,h2⟩:=st
  obtain ⟨xs,ys,x,y,qx,qy,ex,ey⟩:=hg
  obtain ⟨its,rv,p,_⟩:=I.list qx
  obtain ⟨SD,mK,p',_⟩:=I.list qy
  obtain ⟨u,hu,ru⟩:=rv.get ex
  obtain ⟨v,hv,rv'⟩:=mK.get ey
  refine wpAny_pyNext_zip_item D hz jf rf h1 h2 p.isList p'.isList (x:=u) (y:=v) (by simpa using hu) (by simpa using hv) fun h' a1 a2 a3 a4 a5 a6 a7=> ?_
  refine ⟨_,rfl,wpAny_letOwnedTupleGo_zip (s:={s with heap:=h' }) a1 fun Kd b1 sb=> ?_⟩
  have nz:∀c,c≠z->∀o,h'.get? c=some o->Kd.get? c=some o:=fun c hc o e=>(sb.2 c hc).trans e
  have kk:∀b o,b∉[z,TI,TO,i1,i2]->s.heap.get? b=some o->Kd.get? b=some o:=fun b o hb e=>by
   have iQ :b≠z/\b≠TI/\b≠TO/\b≠i1/\b≠i2:=by simpa using hb
   exact nz b iQ.1 o (a7 b o iQ.1 iQ.2.2.1 iQ.2.2.2.1 iQ.2.2.2.2 e)
  have sz:∀c o,s.heap.get? c=some o->s.heap.objs.size≠c:=fun c o e=>ahX (Heap.lt_size e)
  have tz:s.heap.objs.size≠z:=sz _ _ hz
  have hn:=I.bH.fresh (aah s.heap.objs.size)
  have I2:Inv X pins σ (upd H s.heap.objs.size (.tup [x,y])) {s with heap:=Kd,toks:=s.toks}:=
   Inv.sx I kk hf (aah _) (by show 2<=sizeLine;decide) (its:=[u,v]) (.cons ru (.cons rv' .nil)) ⟨_,nz _ tz _ a5,rfl,_,rfl⟩
  refine ⟨.ref s.heap.objs.size,_,I2,rfl,⟨s.heap.objs.size,x,y,fun xs' q=>by rw [I.hV q qx];exact ex,fun ys' q=>by rw [I.hV q qy];exact ey,rfl,hn,rfl⟩,⟨b1,nz _ D.TIz _ (a7 _ _ D.TIz D.TITO D.TIi1 D.TIi2 jf),⟨_,_,nz _ D.TOz _ a2⟩,a3.at fun o e=>nz _ D.i1z o e,a4.at fun o e=>nz _ D.i2z o e⟩,fun b hb=> ?_⟩
  have ob:∃o,s.heap.get? b=some o:=by
   obtain ⟨o1,e1,_⟩:=h1
   obtain ⟨o2,e2,_⟩:=h2
   have uD :b=z\/b=TI\/b=TO\/b=i1\/b=i2:=by simpa using hb
   rcases uD with e | e | e | e | e <;> subst e
   ·exact ⟨_,hz⟩
   ·exact ⟨_,jf⟩
   ·exact ⟨_,rf⟩
   ·exact ⟨_,e1⟩
   ·exact ⟨_,e2⟩
  obtain ⟨o,e⟩:=ob
  rw [ao (aaO (sz _ _ e))]
  exact (hf b hb).1
 done:=by
  intro X hP hw hK hc i pins s σ H E I hf st hg
  subst hP hw hK
  obtain ⟨hz,jf,⟨x0,y0,rf⟩,h1,h2⟩:=st
  obtain ⟨xs,ys,qx,qy,ee⟩:=hg
  obtain ⟨its,rv,p,_⟩:=I.list qx
  obtain ⟨SD,mK,p',_⟩:=I.list qy
  have l1:=rv.length
  have l2:=mK.length
  refine wpAny_pyNext_zip_end (I.ok.hd hc) D hz jf rf h1 h2 p.isList p'.isList ?_ fun h' kk=>⟨rfl,Inv.mT I (fun b o hb e=> ?_) hf⟩
  ·rcases ee with e | e
   ·exact .inl (by simp;omega)
   ·exact .inr (by simp;omega)
  ·have iQ :b≠z/\b≠TI/\b≠TO/\b≠i1/\b≠i2:=by simpa using hb
   exact kk b o iQ.1 iQ.2.2.1 iQ.2.2.2.1 iQ.2.2.2.2 e
 self:=fun _ _ _ _ _ st h=>wpAny_pyIter_zip st.1 h
theorem boot_zip:bootBuiltins "zip"=some (.type "zip"):=by decide+kernel
section
variable {X:Cx}
inductive NG (K:Frag)(R:(It->Hp->Prop))(vs:η)(H1:Hp):Prop where
 | mk (a b:_) (_:vs=[.ref a,.ref b]) (_:(∃xs,a8 K H1 a xs)) (_:(∃ys,a8 K H1 b ys)) (_:R (Itz K a b) H1):NG K R vs H1
def aak (K:Frag)(ta:TA):TI:=fun σ H R=>ta σ H fun vs H1=>NG K R vs H1
theorem GS {e1 e2:Expr}{ta:TA}{p pos:Pos}{es:List Expr}{k:Nat}{rZ:Pos}(hg:Gl X "zip")(hm:X.mg "zip"=none)(ha:PA X [e1,e2] ta)(hs:starEach [e1,e2] X.env=[(false,eval e1 X.env),(false,eval e2 X.env)]:=by rfl)(J':starEach [e2] X.env=[(false,eval e2 X.env)]:=by rfl):
  PI X (.Tuple es k rZ) (.Call (.Name "zip" p) [e1,e2] [] pos) (aak X.K ta):=by
 intro pins s σ H R I h
 refine Call_ (gG I hg hm boot_zip (PyProof.Rows.callWith_type1 (bZ (ha pos pins s σ H _ I h) fun us s1 ⟨vs,H1,I1,r1,q1⟩=> ?_) (by rw [hs,J']) (by rw [J'];rfl)))
 obtain ⟨a,b,e,⟨xs,hx⟩,⟨ys,hy⟩,q⟩:=q1
 subst e
 cases r1 with
 | cons r rr=>
  cases rr with
  | cons r' rr=>
   cases rr
   cases r
   cases r'
   obtain ⟨its,rv,pl,_⟩:=I1.list hx
   obtain ⟨SD,mK,pl',_⟩:=I1.list hy
   have lt1:a < s1.heap.objs.size:=by obtain ⟨o,ho,_⟩:=pl.isList;exact Heap.lt_size ho
   have lt2:b < s1.heap.objs.size:=by obtain ⟨o,ho,_⟩:=pl'.isList;exact Heap.lt_size ho
   refine call_zip_2 pl.isList pl'.isList fun h' hz jf rf SE hi2 hsz hk=>wpAny_pyIter_zip (s:={s1 with heap:=h' }) hz ?_
   refine ⟨s1.heap.objs.size+4,[s1.heap.objs.size+4,s1.heap.objs.size+2,s1.heap.objs.size+3,s1.heap.objs.size,s1.heap.objs.size+1],_,_,H1,rfl,I1.kept (t' :=s1.toks) hk,GQ a b _ _ _ _ _ ?_,⟨hz,jf,⟨_,_,rf⟩,SE,hi2⟩,fun c hc=> ?_,q⟩
   ·constructor <;> (intro z;simp only [Addr] at*;omega)
   ·have uD :s1.heap.objs.size<=c:=by
     have:c=s1.heap.objs.size+4\/c=s1.heap.objs.size+2\/c=s1.heap.objs.size+3\/c=s1.heap.objs.size\/c=s1.heap.objs.size+1:=by simpa using hc
     simp only [Addr] at*
     omega
    exact I1.nG uD (I1.bH.fresh uD)
inductive GU (K:Frag)(xs:η)(H:Hp)(Q:VK):Prop where
 | mk (p:Addr) (ys:η) (_:xs=[.ref p]) (_:a8 K H p ys) (_:∀l,H l=none->Q (.ref l) (upd H l (.lst ys))):GU K xs H Q
theorem oa:fw X (.type "list") (GU X.K):=by
 intro pins s σ H xs us Q I r h
 obtain ⟨p,ys,rfl,hq,q⟩:=h
 obtain ⟨u,rfl,r1⟩:=vals1 r
 cases r1
 obtain ⟨its,rv,⟨o,n,e,c,d1,d⟩,hz⟩:=I.list hq
 have hlen:=rv.length
 refine call_list_seq p (.inl rfl) e c d (fun h' c' hk hl=> ?_) (by simp;omega)
 have hn:=I.bH.fresh (aah s.heap.objs.size)
 have I2:Inv X pins σ (upd H s.heap.objs.size (.lst ys)) {s with heap:=h',toks:=s.toks}:=I.laid (t' :=s.toks) hk (aah _) ⟨hz,its,c',rv,hl⟩
 exact ⟨.ref _,_,I2,rfl,q _ hn⟩
end
section
variable {X:Cx}{K:Frag}
theorem c9 (h:X.K=K):OS X (FL K):=by subst h;exact nJ
theorem u_ (h:X.K=K):OS X (Lc K):=by subst h;exact bt
theorem qp (h:X.K=K):fw X (.builtin "len") (fun xs H Q=>∃p ys,xs=[.ref p]/\(a8 K H p ys\/bN K H p ys)/\Q (.int ys.length) H):=by subst h;exact aJ
theorem sy {es:List Expr}{k:Nat}{t:Ng}{n:Nat}{pos:Pos}(hK:X.K=K)(hc:X.calm=true)(h:RQ X es t)
  (hn:(assignEach es X.env).length=n:=by rfl) (KZ:(assignEach es X.env).findIdx? (·.1)=none:=by rfl):PG X (.Tuple es k pos) (EU K n t):=by subst hK;exact dF hc h hn KZ
end
section
variable {D:Addr}{te:TE}{cap:L2.St}{H1:Hp}{Q:VK}
theorem va {K:Frag}{a b:Addr}{xs ys:η}(Rel:Nat->V->Hp->Prop)(nD:H1 D=none)(hn:xs.length < sizeLine)(hl:ys.length=xs.length)(hX:∀H,au H1 H->a8 K H a xs)(hY:∀H,au H1 H->a8 K H b ys)
  (hR:∀i v H H' ys,H D=some (.lst ys)->aV D H H' ->Rel i v H->Rel i v H')
  (he:∀i x y H (R:VK),xs[i]? =some x->ys[i]? =some y->au H1 H->(∀v H6,au H H6->Rel i v H6->R v H6)->te (some x::some y::cap) H R)
  (hd:∀zs H,zs.length=xs.length->(∀i v,zs[i]? =some v->Rel i v H)->au H1 H->H D=some (.lst zs)->Q (.ref D) H):
  jE D (EU K 2 (uL (cI 0) (uL (cI 1) OG))) kr te (Itz K a b) (none::none::cap) H1 Q:=by
 refine ⟨fun i m σ zs H=>m=xs.length - i/\i<=xs.length/\(∃o o',σ=o::o' ::cap)/\(zs.length=i/\(∀i v,zs[i]? =some v->Rel i v H)/\au H1 H)/\H D=some (.lst zs),⟨xs.length,by simp,aaX _,⟨none,none,rfl⟩,⟨rfl,fun i v e=>by simp at e,fun b o e=>by rw [ao (aq e nD)];exact e⟩,ah⟩,?_⟩
 rintro i m σ zs H ⟨rfl,hi,⟨o,o',rfl⟩,⟨l,r,s⟩,hD⟩
 by_cases kc:i < xs.length
 ·have e1:xs[i]? =some xs[i]:=gE kc
  have e2:ys[i]? =some (ys[i]'(by omega)):=gE (by omega)
  refine .inr ⟨⟨xs,ys,_,_,hX H s,hY H s,e1,e2⟩,fun v H' y=> ?_⟩
  obtain ⟨p,x,y,q1,q2,rfl,np,rfl⟩:=y
  have e1:=q1 xs (hX H s)
  have e2:=q2 ys (hY H s)
  have sp:au H (upd H p (.tup [x,y])):=fun b o e=>by rw [ao (aq e np)];exact e
  refine ⟨p,_,rfl,bN.of ah,rfl,_,_,rfl,_,_,rfl,rfl,?_⟩
  unfold kr
  dsimp only
  rw [if_pos rfl]
  refine he i x y _ _ e1 e2 (fun b o e=>sp _ _ (s _ _ e)) fun v H6 s6 rv=>⟨s6 _ _ (sp _ _ hD),by omega,xs.length - (i+1),by omega,rfl,by omega,⟨_,_,rfl⟩,⟨by simp [l],fun j u e=> ?_,fun b o e=> ?_⟩,ah⟩
  ·by_cases c:j < zs.length
   ·rw [aat c] at e
    have ru:=hR j u H H6 zs hD (aV.of fun b o q=>s6 _ _ (sp _ _ q)) (r j u e)
    exact hR j u H6 _ zs (s6 _ _ (sp _ _ hD)) aV.upd ru
   ·rw [aaJ (by omega)] at e
    have ej:j=i:=by
     by_cases z:j - zs.length=0
     ·omega
     ·rw [aae (by simp;omega)] at e
      cases e
    subst ej
    have:v=u:=by
     rw [show j - zs.length=0 by omega] at e
     exact aaM e
    subst this
    exact hR j v H6 _ zs (s6 _ _ (sp _ _ hD)) aV.upd rv
  ·rw [ao (aq e nD)]
   exact s6 _ _ (sp _ _ (s _ _ e))
 ·have e:i=xs.length:=by omega
  subst e
  exact .inl ⟨⟨xs,ys,hX H s,hY H s,.inl (aah _)⟩,hd zs H l r s hD⟩
end
open Builtin.Int (intBits)
def vl (q:Int×Int):Rat:=(q.1:Rat) / (q.2:Rat)
structure Sm (T B:Nat)(q:Int×Int):Prop where
 pos:0 < q.2
 low:aa' q.1 q.2=1
 top:q.1.natAbs<=2^T
 bot:q.2.natAbs<=2^B
theorem cq {b:Int}(h:b≠0):(b:Rat)≠0:=by simpa using h
theorem w_ {t b:Int}(h:b≠0):vl (low t b)=(t:Rat) / (b:Rat):=by
 have c:=z_ (t:=t) h
 have p:=jC (t:=t) h
 have h1:=cq h
 have h2:=cq (b:=(low t b).2) (by omega)
 have c' :((low t b).1:Rat)*b=t*(low t b).2:=by exact_mod_cast c
 unfold vl
 grind
theorem vb {t b u c:Int}(hb:b≠0)(hc:c≠0)(h:(t:Rat) / b=(u:Rat) / c):t*c=u*b:=by
 have h1:=cq hb
 have h2:=cq hc
 have:(t:Rat)*c=u*b:=by grind
 exact_mod_cast this
theorem O9 {q r:Int×Int}(hq:0 < q.2)(hr:0 < r.2)(gq:aa' q.1 q.2=1)(gr:aa' r.1 r.2=1)(h:vl q=vl r):q=r:=by
 have c:=vb (t:=q.1) (b:=q.2) (u:=r.1) (c:=r.2) (by omega) (by omega) h
 have e:=qm (t:=q.1) (b:=q.2) (u:=r.1) (c:=r.2) (by omega) (by omega) c
 rw [nR hq gq,nR hr gr] at e
 exact ahS (congrArg apP e) (congrArg apQ e)
theorem AE {b d:Int}(hd:d≠0)(h:d ∣ b):((b.fdiv d:Int):Rat)=(b:Rat) / d:=by
 have e:=cb hd h
 have h1:=cq hd
 have:(b:Rat)=d*(b.fdiv d:Int):=by exact_mod_cast e
 grind
def mf (xs ys:π):Rat:=(abJ (fun a b=>vl a*vl b) xs ys).sum
theorem AF {x y:Int×Int}{xs ys:π}:mf (x::xs) (y::ys)=vl x*vl y+mf xs ys:=by simp [mf]
def rg (ts:ξ)(qs:π)(b:Int):Prop:=ts.length=qs.length/\∀(i:Nat) (t:Int) (q:Int×Int),ts[i]? =some t->qs[i]? =some q->(t:Rat)=vl q*b
theorem xa {a b:Int}{m n:Nat}(h1:a.natAbs<=2^m)(h2:b.natAbs<=2^n):(a*b).natAbs<=2^(m+n):=by
 rw [aby,ahC]
 exact abl h1 h2
theorem O_ {a b:Int}{m:Nat}(h1:a.natAbs<=2^m)(h2:b.natAbs<=2^m):(a+b).natAbs<=2^(m+1):=by
 have:=aho a b
 rw [ahG]
 omega
theorem NH {a:Int}{m n:Nat}(h:a.natAbs<=2^m)(hm:m<=n):a.natAbs<=2^n:=aaf h (aaP (by decide) hm)
theorem iC {a:Int}{m n:Nat}(h:a.natAbs<=2^m)(hm:m < n):intBits a<=n:=intBits_le_iff.mpr (aar h (Nat.pow_lt_pow_right (by decide) hm))
theorem mU {a b:Int}{m n:Nat}(h1:a.natAbs<=2^m)(h2:b.natAbs<=2^n)(hm:m < 30000000)(hn:n < 30000000):q_ a b:=⟨aaf (iC h1 hm) (by decide),aaf (iC h2 hn) (by decide)⟩
theorem GV {b d:Int}(hb:0 < b)(hd:0 < d):0 < b.fdiv (gz b d)*d/\b ∣ b.fdiv (gz b d)*d/\d ∣ b.fdiv (gz b d)*d/\(b.fdiv (gz b d)*d).natAbs<=b.natAbs*d.natAbs:=by
 have gp:=sj (t:=b) (b:=d) (by omega)
 have g1:gz b d ∣ b:=ae_ ..
 have g2:gz b d ∣ d:=aci ..
 have e1:=cb (g:=gz b d) (by omega) g1
 have e2:=cb (g:=gz b d) (by omega) g2
 generalize gz b d=g at*
 have p1:0 < b.fdiv g:=by
  rcases ah6 (b.fdiv g) 0 with z | z | z
  ·exfalso
   have:=ah3 gp z
   omega
  ·rw [z] at e1;omega
  ·exact z
 refine ⟨ahr p1 hd,⟨d.fdiv g,?_⟩,⟨b.fdiv g,acj ..⟩,?_⟩
 ·have:b.fdiv g*d=b.fdiv g*(g*d.fdiv g):=by rw [<- e2]
  rw [this]
  have h3:b*d.fdiv g=g*b.fdiv g*d.fdiv g:=by rw [<- e1]
  rw [h3]
  rw [<- ahQ,acj (b.fdiv g) g]
 ·rw [aby]
  exact abK _ (by
   have:=dw (g:=g) (a:=b.fdiv g) (by omega)
   rw [<- e1] at this
   exact this)
theorem AG {q:Int×Int}{b:Int}(hq:0 < q.2)(h:q.2 ∣ b):((q.1*b.fdiv q.2:Int):Rat)=vl q*b:=by
 have e:=AE (b:=b) (d:=q.2) (by omega) h
 have:((q.1*b.fdiv q.2:Int):Rat)=q.1*((b.fdiv q.2:Int):Rat):=by push_cast;rfl
 rw [this,e]
 unfold vl
 grind
theorem gf {b d:Int}(hd:d≠0)(h:d ∣ b):(b.fdiv d).natAbs<=b.natAbs:=by
 have:=dw (g:=d) (a:=b.fdiv d) hd
 rw [<- cb hd h] at this
 exact this
section
variable {D:Addr}{te:TE}{cap:L2.St}{H1:Hp}{Q:VK}
theorem AH {J:It}(n:Nat)(xs:Nat->V)(Rel:Nat->V->Hp->Prop)(nD:H1 D=none)(hn:n < sizeLine)
  (go:∀i H,i < n->au H1 H->J.go i H/\∀x H',J.EW i H x H' ->H' =H/\x=xs i) (stop:∀H,au H1 H->J.stop n H)
  (hR:∀i v H H' ys,H D=some (.lst ys)->aV D H H' ->Rel i v H->Rel i v H')
  (he:∀i H (R:VK),i < n->au H1 H->(∃ys,H D=some (.lst ys))->(∀v H6,au H H6->Rel i v H6->R v H6)->te (some (xs i)::cap) H R)
  (hd:∀ys H,ys.length=n->(∀i v,ys[i]? =some v->Rel i v H)->au H1 H->H D=some (.lst ys)->Q (.ref D) H):
  jE D (cI 0) kr te J (none::cap) H1 Q:=by
 refine GO n xs (fun i ys H=>ys.length=i/\(∀i v,ys[i]? =some v->Rel i v H)/\au H1 H) ⟨rfl,fun i v e=>by simp at e,fun b o e=>by rw [ao (aq e nD)];exact e⟩ ?_ ?_ ?_ ?_
 ·rintro i ys H hi ⟨_,_,s⟩
  exact go i H hi s
 ·rintro ys H ⟨_,_,s⟩
  exact stop H s
 ·rintro i ys H R hi ⟨l,r,s⟩ hD k
  refine he i H R hi s ⟨_,hD⟩ fun v H6 s6 rv=>k v H6 (s6 _ _ hD) (by omega) ⟨by simp [l],fun j u e=> ?_,fun b o e=> ?_⟩
  ·by_cases c:j < ys.length
   ·rw [aat c] at e
    have ru:=hR j u H H6 ys hD (aV.of s6) (r j u e)
    exact hR j u H6 _ ys (s6 _ _ hD) aV.upd ru
   ·rw [aaJ (by omega)] at e
    have ej:j=i:=by
     by_cases z:j - ys.length=0
     ·omega
     ·rw [aae (by simp;omega)] at e
      cases e
    subst ej
    have:v=u:=by
     rw [show j - ys.length=0 by omega] at e
     exact aaM e
    subst this
    exact hR j v H6 _ ys (s6 _ _ hD) aV.upd rv
  ·rw [ao (aq e nD)]
   exact s6 _ _ (s _ _ e)
 ·rintro ys H ⟨l,r,s⟩ hD
  exact hd ys H l r s hD
theorem jg {K:Frag}{a:Addr}{xs:η}(Rel:Nat->V->Hp->Prop)(nD:H1 D=none)(hn:xs.length < sizeLine)(hS:∀H,au H1 H->a8 K H a xs)
  (hR:∀i v H H' ys,H D=some (.lst ys)->aV D H H' ->Rel i v H->Rel i v H')
  (he:∀i x H (R:VK),xs[i]? =some x->au H1 H->(∃ys,H D=some (.lst ys))->(∀v H6,au H H6->Rel i v H6->R v H6)->te (some x::cap) H R)
  (hd:∀ys H,ys.length=xs.length->(∀i v,ys[i]? =some v->Rel i v H)->au H1 H->H D=some (.lst ys)->Q (.ref D) H):
  jE D (cI 0) kr te (K1 K a) (none::cap) H1 Q:=by
 refine AH xs.length (fun i=>(xs[i]?).getD .cv) Rel nD hn (fun i H hi s=>⟨⟨xs,xs[i],hS H s,gE hi⟩,fun x H' y=>⟨y.1,?_⟩⟩) (fun H s=>⟨xs,hS H s,aah _⟩) hR (fun i H R hi s dd k=> ?_) hd
 ·rw [y.2 xs (hS H s)];rfl
 ·have e:xs[i]? =some xs[i]:=gE hi
  have k' :=he i _ H R e s dd k
  rw [<- (show (xs[i]?).getD .cv=xs[i] by rw [e];rfl)] at k'
  exact k'
end
theorem rh {x y:Str}{c c0:Addr}{cl:List (Str×Addr)}(h:((y,c0)::cl).lookup x=some c):(x=y/\c=c0)\/(x≠y/\cl.lookup x=some c):=by
 rw [ahO] at h
 cases e:x==y with
 | true=>
  rw [e] at h
  exact .inl ⟨by simpa using e,(aaM h).symm⟩
 | false=>
  rw [e] at h
  exact .inr ⟨by simpa using e,h⟩
theorem Ll {M:Model}{A:Around}{E:δ}{s:Shared}{scope:Scope}{globals:Addr}{cl:List (Str×Addr)}{y:Str}{qual:Str}{outer:Env}{Q:Env->Shared->Prop}
  (hc:∀n acc,cellsFrom n scope.names acc=(y,n)::acc) (hp:∀h,pushCells h scope.names=h.push {cls:=.type "cell",data:=.cell none})
  (hQ:∀h',h'.Ns s.heap.objs.size (fun _=>none)->(∀b o,s.heap.get? b=some o->h'.get? b=some o)->h'.IsCell (s.heap.objs.size+1) none->
   Q (newEnv scope s.heap.objs.size globals ((y,s.heap.objs.size+1)::cl) qual none .none (some outer) builtinsNs) {s with heap:=h',toks:=s.toks+([]:List (Str×Value)).length}):
  wpAny M A (newFunctionEnv scope globals cl [] qual none .none (some outer)) Q E s:=by
 simp only [newFunctionEnv,aiw,if_true]
 refine wpAny_bind (wpAny_alloc ?_)
 refine wpAny_bind (wpAny_layCells _ (fun name kind cells=>by cases hkc:kind==NameKind.cell <;> simp [hkc]) _ _ _ _ ?_)
 rw [show ({s with heap:=s.heap.push {cls:=.type "dict",data:=.dict #[]}}:Shared).heap.objs.size=s.heap.objs.size+1 from Heap.size_push ..,hc,hp]
 rw [aio]
 refine wpAny_bind (wpAny_pure (wpAny_pure ?_))
 refine hQ _ ((Heap.Ns.new s.heap (.type "dict")).keeps fun b o e=>Heap.get?_push_of_some _ e) (fun b o e=>Heap.get?_push_of_some _ (Heap.get?_push_of_some _ e)) ?_
 have:=Heap.get?_push_size (s.heap.push {cls:=.type "dict",data:=.dict #[]}) (o:={cls:=.type "cell",data:=.cell none}) rfl
 rw [Heap.size_push] at this
 exact ⟨_,this,rfl⟩
section
variable {X:Cx}
theorem GX {K:Frag}{tg l:Expr}{tl:TE}(h:X.K=K)(hl:PE X l tl):PI X tg l (Nj K tl):=by subst h;exact bu hl
def jF (X:Cx)(NB:List Str)(scope:Scope)(y:Str)(cl:List (Str×Addr))(C:Addr)(s:Shared)(H:Hp)(fp:List Addr):Cx:=
 {prog:=X.prog,w:=X.w,K:=X.K,mg:=X.mg,base:=X.base,A:=X.A,N:=NB,s₀:=s,H₀:=H,env:=compEnvC scope ((y,C+1)::cl) C X.env,outer:=X.stack,stack:=X.stack,ex:=fp,fn:=fun x=>x==y,calm:=X.calm,pn:=[],xe:=fun _ _=>False}
structure SF (X:Cx)(scope:Scope)(y:Str)(fr:List Str)(caps:List Nat):Prop where
 Li:closureFor scope X.env=pure (bw X.env fr)
 kind:scope.kind=.function
 names:∀y∈scope.names,y.2=.local->scope.names.lookup y.1=some .local
 free:∀y∈scope.names,y.2=.free->y.1∈fr
 caps:caps.map (fun i=>X.N[i]?)=fr.map some
 out:ia X.env fr
 Z8:ia (compEnvC scope [] 0 X.env) fr
 Pa:∀n acc,cellsFrom n scope.names acc=(y,n)::acc
 SG:∀h,pushCells h scope.names=h.push {cls:=.type "cell",data:=.cell none}
 only:∀z∈scope.names,z.2=.cell->z.1=y
 ny:y∉fr
theorem vc {y:Str}{elt target iter:Expr}{ifs:List Expr}{scope:Scope}{pos:Pos}{tn fr:List Str}{caps:List Nat}{g:TG}{tt:TT}{te:TE}{pins:ζ}{σ:L2.St}{H2:Hp}{s2:Shared}{J:It}{fp:List Addr}{it:Addr}
  {wA:Nat->Heap->Prop} {Q:VK} {RR:Value->Addr->Result->Shared->Prop} {E:δ} (hc:X.calm=true) (B:SF X scope y fr caps)
  (hg:∀C s H fp,PG (jF X (tn++fr) scope y (bw X.env fr) C s H fp) target g) (ht:∀C s H fp,PF (jF X (tn++fr) scope y (bw X.env fr) C s H fp) ifs tt) (he:∀C s H fp,PE (jF X (tn++fr) scope y (bw X.env fr) C s H fp) elt te)
  (I2:Inv X pins σ H2 s2) (T:Turn X.prog X.w X.K target J fp it wA) (iP:wA 0 s2.heap) (f2:∀b∈fp,h7 X pins H2 b) (q:∀D,H2 D=none->jE D g tt te J (sB tn.length caps σ) H2 Q)
  (fin:∀D C H' s' m,Inv X pins σ H' s' ->s'.heap.Ns C m->h7 X pins H' C->Q (.ref D) H' ->RR (.ref D) C (.ok .next) s'):
  wpAny (model X.prog X.w) X.A (newList []) (fun acc s₃=>wpAny (model X.prog X.w) X.A (newFunctionEnv scope X.env.globals (bw X.env fr) [] X.env.qual none .none (some X.env)) (fun GJ s₄=>
   codeAny (model X.prog X.w) X.A (.compStart (.ListComp elt [⟨target,iter,ifs,0⟩] scope pos) 0 (.ref it) acc {GJ with scope:=relabel scope X.env}) (RR acc GJ.locals) s₄) E s₃) E s2:=by
 refine wpAny_newObj_type (Ll B.Pa B.SG (fun h₁ O6 hk₁ hc₁=> ?_))
 have I3:Inv X pins σ (upd H2 s2.heap.objs.size (.lst [])) {s2 with heap:=s2.heap.push {cls:=.type "list",data:=.seq ([]:List Value).toArray}}:=I2.Le (t' :=s2.toks) (its:=[]) .nil (aaX _)
 obtain ⟨W,⟨m0,w0⟩,turn⟩:=q s2.heap.objs.size (I2.bH.fresh (aah _))
 generalize Z_:upd H2 s2.heap.objs.size (.lst [])=H3 at I3 w0
 have f3:∀b∈fp,h7 X pins H3 b:=fun b hb=>by
  obtain ⟨a0,a1⟩:=f2 b hb
  refine ⟨?_,a1⟩
  obtain ⟨o,e,_⟩:=T.obj _ _ iP b hb
  rw [<- Z_,ao (aaQ (Heap.lt_size e))]
  exact a0
 generalize hD:s2.heap.objs.size=D at*
 generalize Q8:({s2 with heap:=s2.heap.push {cls:=.type "list",data:=.seq ([]:List Value).toArray}}:Shared)=s3 at*
 have e3:s3.heap=s2.heap.push {cls:=.type "list",data:=.seq ([]:List Value).toArray}:=by rw [<- Q8]
 have wz:wA 0 s3.heap:=T.keep _ _ _ iP fun b _ o e=>by rw [e3];exact Heap.get?_push_of_some _ e
 have kept:∀b o,s3.heap.get? b=some o->h₁.get? b=some o:=fun b o e=>hk₁ b o e
 generalize hC:s3.heap.objs.size=C at*
 have GK:s3.heap.objs.size<=C:=aid hC
 have I4:Inv X pins σ H3 {s3 with heap:=h₁,toks:=s3.toks+([]:List (Str×Value)).length}:=I3.kept kept
 have Sr:∀b∈fp,b≠C:=fun b hb z=>by
  obtain ⟨o,e,_⟩:=T.obj _ _ wz b hb
  exact absurd z (aaQ (aaD (Heap.lt_size e) GK))
 have Ss:∀b∈fp,b∉wI X.stack:=fun b hb z=>(aaN.mp (I3.rT b z)).elim (f3 b hb).2.1 (f3 b hb).2.2.1
 have old:∀x c,(bw X.env fr).lookup x=some c->c < C:=fun x c e=>by
  obtain ⟨v,ic⟩:=I3.cell x c (b8 e)
  rw [<- hC]
  exact ic.lt
 have aam:∀x z c,((y,C+1)::bw X.env fr).lookup x=some c->((y,C+1)::bw X.env fr).lookup z=some c->x=z:=fun x z c e1 e2=>by
  rcases rh e1 with ⟨a1,b1⟩ | ⟨a1,b1⟩ <;> rcases rh e2 with ⟨a2,b2⟩ | ⟨a2,b2⟩
  ·rw [a1,a2]
  ·have:=old z c b2
   rw [b1] at this
   exact absurd this (Nat.not_lt.mpr (af_ C))
  ·have:=old x c b1
   rw [b2] at this
   exact absurd this (Nat.not_lt.mpr (af_ C))
  ·exact I3.ok.inj x z c (b8 b1) (b8 b2)
 have aan:∀x c,(x==y)=true->((y,C+1)::bw X.env fr).lookup x=some c->s3.heap.objs.size<=c:=fun x c hx e=>by
  rcases rh e with ⟨a1,b1⟩ | ⟨a1,b1⟩
  ·rw [b1];exact aaf GK (af_ C)
  ·exact absurd (by simpa using hx) a1
 have nfp:∀b∈fp,∀x c,((y,C+1)::bw X.env fr).lookup x=some c->c≠b:=fun b hb x c e=>by
  rcases rh e with ⟨a1,b1⟩ | ⟨a1,b1⟩
  ·obtain ⟨o,eo,_⟩:=T.obj _ _ wz b hb
   have:=Heap.lt_size eo
   rw [hC] at this
   rw [b1]
   exact aaO (aaQ (abQ this))
  ·exact (f3 b hb).2.2.2.2.1 x c (b8 b1)
 have SH:∀{x:Str} {c:Addr},x∈fr->(bw X.env fr).lookup x=some c->((y,C+1)::bw X.env fr).lookup x=some c:=fun {x c} hx e=>by
  rw [ahO]
  have:(x==y)=false:=by simpa using fun z:x=y=>B.ny (by rw [<- z];exact hx)
  rw [this]
  exact e
 have Z':(jF X (tn++fr) scope y (bw X.env fr) C s3 H3 fp).Ok:=by
  refine ⟨I3.ok.mod,B.kind,I3.ok.glob,I3.ok.blt,GK,aam,fun x hx=> ?_,aan,I3.ok.hd,I3.ok.frames,.inl rfl,
   fun b hb=>⟨Sr b hb,fun x c e=>nfp b hb x c e⟩,I3.bs,aaf I3.ok.EL I3.sz,fun b o e hb=> ?_,Ss,I3.stack,I3.rV⟩
  ·have hm:∃k,(x,k)∈scope.names/\k≠.local/\(k=.cell\/k=.free):=by
    have:∃k',(relabel scope X.env).names.lookup x=some k' /\(k' =.cell\/k' =.free):=by
     rcases hx with z | z
     ·exact ⟨_,z,.inl rfl⟩
     ·exact ⟨_,z,.inr rfl⟩
    obtain ⟨k',e',h'⟩:=this
    obtain ⟨⟨n,k⟩,hn,en⟩:=aab.mp (lookup_mem e')
    dsimp only at en
    by_cases cc:(k==NameKind.free && X.env.scope.kind==.function && X.env.kindOf n==some .cell)=true
    ·rw [if_pos cc] at en
     cases en
     have kf:k=.free:=by
      rw [abg,abg] at cc
      simpa using cc.1.1
     exact ⟨k,hn,(by intro z;rw [kf] at z;cases z),.inr kf⟩
    ·rw [if_neg cc] at en
     cases en
     exact ⟨k',hn,fun z' =>by rcases h' with y | y <;> (rw [y] at z';cases z'),h'⟩
   obtain ⟨k,hk,_,h2⟩:=hm
   rcases h2 with z | z
   ·exact ⟨C+1,by show ab7 x ((y,C+1)::_)=_;rw [show x=y from B.only _ hk z];simp⟩
   ·have hf:=B.free _ hk z
    obtain ⟨c,ec⟩:=I3.ok.has x (B.out.at hf)
    exact ⟨c,SH hf (gd ec hf)⟩
  ·obtain ⟨_,_,_,h1,_⟩:=f3 b hb
   rcases h1 with z | z
   ·exact I3.ok.zQ b o e z
   ·exact ab5 _ (aaD (aaD (Heap.lt_size e) I3.ok.EL) z)
 have IB:Inv (jF X (tn++fr) scope y (bw X.env fr) C s3 H3 fp) [] (sB tn.length caps σ) H3 {s3 with heap:=h₁,toks:=s3.toks+([]:List (Str×Value)).length}:=by
  refine ⟨Z',rfl,I3.bare,Un.kept kept,⟨_,O6,fun i x v e1 e2 _=> ?_⟩,fun x c e=>(rh e).elim (fun z=>⟨none,by rw [z.2];exact hc₁⟩) (fun z=>I4.cell x c (b8 z.2)),?_,fun x c e=>(rh e).elim (fun z=>by rw [z.2];exact I3.bH.fresh (aaf GK (af_ _))) (fun z=>I3.g8 x c (b8 z.2)),fun p hp=>(nomatch hp),I3.bH.kept kept,?_⟩
  ·obtain ⟨hk,j,ej,es⟩:=GH e2
   have wB :fr[i - tn.length]? =some x:=by
    have z:(tn++fr)[i]? =some x:=e1
    rw [aaJ hk] at z
    exact z
   have hx:x∈fr:=ir wB
   have eN:X.N[j]? =some x:=by
    have z:=congrArg (fun l:List (Option Str)=>l[i - tn.length]?) B.caps
    simp only [Wp,ej,wB,abZ] at z
    exact aaM z
   have ko:=B.out.at hx
   obtain ⟨m,hn,hl⟩:=I4.loc
   obtain ⟨u,r,lk⟩:=hl j x v eN es (by rcases ko with z | z;exact .inr (.inl z);exact .inr (.inr z))
   refine ⟨u,r,?_⟩
   rcases lk with ⟨k1,_⟩ | ⟨_,c,ec,ic⟩
   ·rcases ko with z | z <;> (rw [z] at k1;cases k1)
   ·exact .inr ⟨B.Z8.at hx,c,SH hx (gd ec hx),ic⟩
  ·exact I3.bH.fresh GK
  ·have:=congrArg ab8 B.caps
   simp only [aaa] at this
   show (sB tn.length caps σ).length=(tn++fr).length
   unfold sB
   simp [this]
 have nZ:∀{H' :Hp},(∀b∈fp,H' b=none)->∀b∈fp,h7 (jF X (tn++fr) scope y (bw X.env fr) C s3 H3 fp) [] H' b:=fun hn b hb=>
  ⟨hn b hb,Sr b hb,Ss b hb,.inl hb,nfp b hb,fun p hp=>(nomatch hp)⟩
 have Kb:wA 0 h₁:=T.keep _ _ _ wz fun b _ o e=>kept b o e
 have loop:codeAny (model X.prog X.w) X.A (.compLoop (.ListComp elt [⟨target,iter,ifs,0⟩] scope pos) 0 (.ref it) (.ref D) (compEnvC scope ((y,C+1)::bw X.env fr) C X.env)) (RR (.ref D) C) {s3 with heap:=h₁,toks:=s3.toks+([]:List (Str×Value)).length}:=by
  refine jD (fun n s' =>∃i σ' ys H',Inv (jF X (tn++fr) scope y (bw X.env fr) C s3 H3 fp) [] σ' H' s' /\wA i s'.heap/\(∀b∈fp,H' b=none)/\W i n σ' ys H') ?_ m0 ⟨0,_,[],H3,IB,Kb,fun b hb=>(f3 b hb).1,w0⟩
  rintro n s5 ⟨i,σ5,ys,H5,I5,zV,OJ,w5⟩
  rcases turn i n σ5 ys H5 w5 with ⟨stop,qn⟩ | ⟨go,step⟩
  ·refine wpAny_mono (T.done (jF X (tn++fr) scope y (bw X.env fr) C s3 H3 fp) rfl rfl rfl hc i [] s5 σ5 H5 (fun _ _=>False) I5 (nZ OJ) zV stop) (fun r s6 ⟨hr,I6⟩=> ?_) fun _ _ z=>z
   subst hr
   obtain ⟨m,hn,_⟩:=I6.loc
   have J6:Inv X pins σ H5 s6:=I3.Nf (ch:=fp) I6.os I6.base I6.bH I6.bare fun b hb=>⟨(f3 b hb).2.2.2.1,(f3 b hb).2.1,(f3 b hb).2.2.2.2.1,(f3 b hb).2.2.2.2.2⟩
   exact fin D C H5 s6 m J6 hn (I3.nG GK I6.free) qn
  ·refine wpAny_mono (T.item (jF X (tn++fr) scope y (bw X.env fr) C s3 H3 fp) rfl rfl rfl hc i [] s5 σ5 H5 (fun _ _=>False) I5 (nZ OJ) zV go) (fun r s6 ⟨u,hr,h6⟩=> ?_) fun _ _ z=>z
   subst hr
   refine wpAny_mono h6 (fun _ s7 ⟨x,H7,I7,r7,y7,O7,NC⟩=> ?_) fun _ _ z=>z
   have I7' :=I7.pinned (nZ NC) (T.obj _ _ O7)
   have held:∀{σ' :L2.St} {H' :Hp} {s' :Shared},Inv (jF X (tn++fr) scope y (bw X.env fr) C s3 H3 fp) ([]++ki fp s7.heap) σ' H' s' ->wA (i+1) s'.heap/\∀b∈fp,H' b=none:=fun {σ' H' s'} I' =>by
    refine ⟨T.keep _ _ _ O7 fun b hb o e=>(I'.pin (b,o) (aaV _ (aaV _ (eE hb e)))).1,fun b hb=> ?_⟩
    obtain ⟨o,e,d⟩:=T.obj _ _ O7 b hb
    exact (I'.pin (b,o) (aaV _ (aaV _ (eE hb e)))).2.1
   refine wpAny_mono (hg C s3 H3 fp _ s7 σ5 H7 x u _ I7' r7 (step x H7 y7)) (fun _ s8 ⟨σ8,H8,I8,q8⟩=> ?_) fun _ _ z=>z
   refine wpAny_mono (ht C s3 H3 fp _ s8 σ8 H8 _ I8 q8) (fun ok s9 ⟨H9,I9,q9⟩=> ?_) fun _ _ z=>z
   cases ok with
   | false=>
    rw [if_neg aaz] at q9
    obtain ⟨m',hm,w9⟩:=q9
    rw [if_neg aaz]
    obtain ⟨a,b⟩:=held I9
    exact ⟨m',hm,i+1,σ8,ys,H9,I9.fu,a,b,w9⟩
   | true=>
    rw [if_pos rfl] at q9
    rw [if_pos rfl]
    refine wpAny_mono (he C s3 H3 fp _ s9 σ8 H9 _ I9 q9) (fun v Lj ⟨y9,wC,I10,r10,hDD,hl,m',hm,w10⟩=> ?_) fun _ _ z=>z
    refine wpAny_mono (c7 (X:=jF X (tn++fr) scope y (bw X.env fr) C s3 H3 fp) _ Lj σ8 wC (.ref D) [y9] (.ref D) [v] (fun _ H' =>W (i+1) m' σ8 (ys++[y9]) H') I10 rfl (.cons r10 .nil) ⟨D,ys,y9,rfl,rfl,hDD,hl,w10⟩) (fun _ Su ⟨z,YN,Sv,_,q11⟩=> ?_) fun _ _ z=>z
    obtain ⟨a,b⟩:=held Sv
    exact ⟨m',hm,i+1,σ8,ys++[y9],YN,Sv.fu,a,b,q11⟩
 exact codeAny_compStart_list loop (T.self X.A 0 _ _ _ Kb loop)
end
end Ty
namespace L2
open PySem PySem.Spec PyProof.Rows
section
variable {κ:Type}[DecidableEq κ]
def bB (kvs:List (κ×V))(k:κ):Option V:=(kvs.find? fun kv=>decide (kv.1=k)).map (·.2)
def putK (kvs:List (κ×V))(k:κ)(v:V):List (κ×V):=
 if (kvs.any fun kv=>decide (kv.1=k))=true then kvs.map (fun kv=>if kv.1=k then (kv.1,v) else kv) else kvs++[(k,v)]
def d3 (kvs:List (κ×V))(k:κ):List (κ×V):=kvs.filter fun kv=>decide (kv.1≠k)
theorem bJ {p:κ×V}{r:List (κ×V)}{k:κ}(e:p.1=k):bB (p::r) k=some p.2:=by simp [bB,ahk,e]
theorem bC {p:κ×V}{r:List (κ×V)}{k:κ}(e:¬ p.1=k):bB (p::r) k=bB r k:=by simp [bB,ahk,e]
theorem gh (k:κ):∀kvs:List (κ×V),(kvs.any fun kv=>decide (kv.1=k))=(bB kvs k).isSome
 | []=>rfl
 | p::r=>by
  rw [ahx]
  by_cases e:p.1=k
  ·simp only [bJ e,decide_eq_true e,Bool.true_or,aiw]
  ·rw [bC e,decide_eq_false e,Bool.false_or];exact gh k r
theorem vd (k j:κ)(y:V):∀kvs:List (κ×V),bB (kvs.map fun kv=>if kv.1=k then (kv.1,y) else kv) j=(bB kvs j).map fun x=>if j=k then y else x
 | []=>rfl
 | p::r=>by
  have ih:=vd k j y r
  rw [aac]
  by_cases h:p.1=k
  ·rw [if_pos h]
   by_cases e:p.1=j
   ·rw [bJ (p:=(p.1,y)) e,bJ e,abZ,if_pos (e.symm.trans h)]
   ·rw [bC (p:=(p.1,y)) e,bC e,ih]
  ·rw [if_neg h]
   by_cases e:p.1=j
   ·rw [bJ (p:=p) e,bJ e,abZ,if_neg (fun z=>h (e.trans z))]
   ·rw [bC (p:=p) e,bC e,ih]
theorem rj (k j:κ)(y:V):∀kvs:List (κ×V),bB kvs k=none->bB (kvs++[(k,y)]) j=if j=k then some y else bB kvs j
 | [],_=>by
  by_cases e:k=j
  ·rw [if_pos e.symm];exact bJ (p:=(k,y)) e
  ·rw [if_neg (fun z=>e z.symm)];exact bC (p:=(k,y)) e
 | p::r,hn=>by
  rw [aht]
  have hk:¬ p.1=k:=fun z=>by rw [bJ z] at hn;cases hn
  rw [bC hk] at hn
  have ih:=rj k j y r hn
  by_cases e:p.1=j
  ·rw [bJ e,bJ e,if_neg (fun z=>hk (e.trans z))]
  ·rw [bC e,bC e,ih]
theorem og (kvs:List (κ×V))(k j:κ)(y:V):bB (putK kvs k y) j=if j=k then some y else bB kvs j:=by
 unfold putK
 by_cases a:(kvs.any fun kv=>decide (kv.1=k))=true
 ·rw [if_pos a,vd]
  rw [gh] at a
  by_cases e:j=k
  ·obtain ⟨x,hx⟩:=ac_.mp a
   rw [if_pos e,e,hx,abZ,if_pos rfl]
  ·rw [if_neg e]
   cases bB kvs j with
   | none=>rfl
   | some x=>rw [abZ,if_neg e]
 ·rw [if_neg a]
  refine rj k j y kvs ?_
  rw [gh] at a
  cases q:bB kvs k with
  | none=>rfl
  | some x=>rw [q] at a;exact (a rfl).elim
theorem fS (kvs:List (κ×V))(k:κ)(v:V):(putK kvs k v).length<=kvs.length+1:=by
 unfold putK
 split
 ·rw [aaa];omega
 ·rw [aas,aaY,aij];omega
theorem cK {kvs:List (κ×V)}{k:κ}(v:V)(h:bB kvs k=none):putK kvs k v=kvs++[(k,v)]:=by
 unfold putK
 rw [gh,h]
 exact if_neg (by decide)
theorem gF.gi {o:Option V}{u:Option Value}(r:gF o u):o.isSome=u.isSome:=by
 cases o with
 | none=>cases u with
  | none=>rfl
  | some _=>exact (show False from r).elim
 | some _=>cases u with
  | none=>exact (show False from r).elim
  | some _=>rfl
theorem gF.getD {o:Option V}{u:Option Value}{d:V}{d' :Value}(r:gF o u)(rd:RelV d d'):RelV (o.getD d) (u.getD d'):=by
 cases o with
 | none=>cases u with
  | none=>exact rd
  | some _=>exact (show False from r).elim
 | some _=>cases u with
  | none=>exact (show False from r).elim
  | some _=>exact r
theorem KV.val {kvs:List (κ×V)}{vs:List (κ×Value)}(r:KV kvs vs)(k:κ):gF (bB kvs k) (valueAt vs k):=by
 unfold KV at r
 induction r with
 | nil=>exact True.intro
 | @cons p q ps qs h t ih=>
  obtain ⟨h1,h2⟩:=h
  by_cases e:p.1=k
  ·have e' :q.1=k:=h1.symm.trans e
   have b:valueAt (q::qs) k=some q.2:=by simp [valueAt,ahk,e']
   rw [bJ e,b];exact h2
  ·have e' :¬ q.1=k:=fun z=>e (h1.trans z)
   have b:valueAt (q::qs) k=valueAt qs k:=by simp [valueAt,ahk,e']
   rw [bC e,b];exact ih
theorem KV.any {kvs:List (κ×V)}{vs:List (κ×Value)}(r:KV kvs vs)(k:κ):(kvs.any fun kv=>decide (kv.1=k))=vs.any fun kv=>decide (kv.1=k):=by
 unfold KV at r
 induction r with
 | nil=>rfl
 | cons h t ih=>rw [ahx,ahx,ih,h.1]
theorem KV.Pb {kvs:List (κ×V)}{vs:List (κ×Value)}(r:KV kvs vs)(k:κ){y:V}{u:Value}(ry:RelV y u):
  KV (kvs.map fun kv=>if kv.1=k then (kv.1,y) else kv) (vs.map fun kv=>if kv.1=k then (kv.1,u) else kv):=by
 unfold KV at r ⊢
 induction r with
 | nil=>exact .nil
 | @cons p q ps qs h t ih=>
  rw [aac,aac]
  refine .cons ?_ ih
  obtain ⟨h1,h2⟩:=h
  by_cases e:p.1=k
  ·rw [if_pos e,if_pos (h1.symm.trans e)];exact ⟨h1,ry⟩
  ·rw [if_neg e,if_neg (fun z=>e (h1.trans z))];exact ⟨h1,h2⟩
theorem KV.put {kvs:List (κ×V)}{vs:List (κ×Value)}(r:KV kvs vs)(k:κ){y:V}{u:Value}(ry:RelV y u):KV (putK kvs k y) (stored vs k u):=by
 unfold putK stored
 rw [r.any k]
 by_cases e:(vs.any fun kv=>decide (kv.1=k))=true
 ·rw [if_pos e,if_pos e];exact r.Pb k ry
 ·rw [if_neg e,if_neg e];exact Paired.snoc r ⟨rfl,ry⟩
theorem KV.drop {kvs:List (κ×V)}{vs:List (κ×Value)}(r:KV kvs vs)(k:κ):KV (d3 kvs k) (without vs k):=by
 unfold KV at r ⊢
 unfold d3 without
 induction r with
 | nil=>exact .nil
 | @cons p q ps qs h t ih=>
  obtain ⟨h1,h2⟩:=h
  rw [abH,abH]
  by_cases e:p.1=k
  ·have a:¬ decide (p.1≠k)=true:=by simp [e]
   have b:¬ decide (q.1≠k)=true:=by simp [h1.symm.trans e]
   rw [if_neg a,if_neg b];exact ih
  ·have e' :¬ q.1=k:=fun z=>e (h1.trans z)
   have a:decide (p.1≠k)=true:=by simp [e]
   have b:decide (q.1≠k)=true:=by simp [e']
   rw [if_pos a,if_pos b];exact .cons ⟨h1,h2⟩ ih
theorem KV.length {kvs:List (κ×V)}{vs:List (κ×Value)}(r:KV kvs vs):kvs.length=vs.length:=Paired.length r
theorem GY (kvs:List (κ×V))(k:κ):(d3 kvs k).length<=kvs.length:=abi _ _
end
theorem jG {P:Program}{w:World}{k:Key}{u:Value}(r:RelV (kV k) u):(bj P w).is k u=true:=by
 cases k with
 | inl i=>obtain ⟨t,e⟩:=(show ∃t,u=Value.int i t from r);subst e;exact uH P w i t
 | inr x=>obtain ⟨t,e⟩:=(show ∃t,u=Value.str x t from r);subst e;exact uI P w x t
theorem rl {P:Program}{w:World}:∀{ks:List Key} {us:ο},Vals (ks.map kV) us->ItemsAre (bj P w) ks us
 | [],_,r=>by rw [ach] at r;cases r;exact .nil
 | k::ks,_,r=>by
  rw [aac] at r
  cases r with
  | cons h t=>exact .cons (jG h) (rl t)
abbrev KT (H:Hp):List (List Key×V)->List (List Key×Addr×Value)->Prop:=Paired fun p q=>p.1=q.1/\H q.2.1=some (.tup (p.1.map kV))/\RelV p.2 q.2.2
theorem KT.val {H:Hp}{kvs:List (List Key×V)}{xs:List (List Key×Addr×Value)}(r:KT H kvs xs)(k:List Key):gF (bB kvs k) ((atKey xs k).map (·.2)):=by
 induction r with
 | nil=>exact True.intro
 | @cons p q ps qs h t ih=>
  obtain ⟨h1,_,h2⟩:=h
  by_cases e:p.1=k
  ·have e' :q.1=k:=h1.symm.trans e
   have b:atKey (q::qs) k=some q.2:=by simp [atKey,ahk,e']
   rw [bJ e,b];exact h2
  ·have e' :¬ q.1=k:=fun z=>e (h1.trans z)
   have b:atKey (q::qs) k=atKey qs k:=by simp [atKey,ahk,e']
   rw [bC e,b];exact ih
theorem KT.Pb {H:Hp}{kvs:List (List Key×V)}{xs:List (List Key×Addr×Value)}(r:KT H kvs xs)(k:List Key){y:V}{u:Value}(ry:RelV y u):
  KT H (kvs.map fun kv=>if kv.1=k then (kv.1,y) else kv) (xs.map (putAt k u)):=by
 induction r with
 | nil=>exact .nil
 | @cons p q ps qs h t ih=>
  rw [aac,aac]
  refine .cons ?_ ih
  obtain ⟨h1,h2,h3⟩:=h
  unfold putAt
  by_cases e:p.1=k
  ·rw [if_pos e,if_pos (h1.symm.trans e)];exact ⟨h1,h2,ry⟩
  ·rw [if_neg e,if_neg (fun z=>e (h1.trans z))];exact ⟨h1,h2,h3⟩
theorem KT.put {H:Hp}{kvs:List (List Key×V)}{xs:List (List Key×Addr×Value)}(r:KT H kvs xs)(k:List Key){b:Addr}{y:V}{u:Value}(hb:H b=some (.tup (k.map kV)))(ry:RelV y u):
  KT H (putK kvs k y) (storedH xs k b u):=by
 have e:(kvs.any fun kv=>decide (kv.1=k))=(atKey xs k).isSome:=by
  rw [gh,(r.val k).gi,ah7]
 unfold putK storedH
 rw [e]
 by_cases q:(atKey xs k).isSome=true
 ·rw [if_pos q,if_pos q];exact r.Pb k ry
 ·rw [if_neg q,if_neg q];exact Paired.snoc r ⟨rfl,hb,ry⟩
theorem KT.keeps {H H' :Hp}{kvs:List (List Key×V)}{xs:List (List Key×Addr×Value)}(r:KT H kvs xs)(ht:∀b ys,H b=some (.tup ys)->H' b=some (.tup ys)):KT H' kvs xs:=
 Paired.bM r fun _ _ z=>⟨z.1,ht _ _ z.2.1,z.2.2⟩
section
variable {P:Program}{w:World}{H:Hp}{h:Heap}{a:Addr}
theorem NI {u:HO}(ok:iY P w H h)(e:Rd H a u):cw P w H h a u:=e.ok ok
theorem i5 {kvs:γ}(ok:iY P w H h)(e:Rd H a (.dK kvs)):kvs.length<=sizeLine/\(a==sysModules)=false/\∃vs,KV kvs vs/\h.DictOf (bj P w) a vs:=
 show cw P w H h a (.dK kvs) from NI ok e
theorem lK {kvs:γ}(ok:iY P w H h)(e:H a=some (.dK kvs)):kvs.length<=sizeLine/\(a==sysModules)=false/\∃vs,KV kvs vs/\h.DictOf (bj P w) a vs:=i5 ok (.inl e)
theorem ku {ks:List Key}(ok:iY P w H h)(e:H a=some (.tup (ks.map kV))):(tupleKind (bj P w)).is h ks a:=by
 obtain ⟨_,its,r,o,h1,h2,n,h3⟩:=(show cw P w H h a (.tup (ks.map kV)) from ok a _ e)
 exact ⟨o,its.toArray,n,h1,h2,h3,by simpa using rl r⟩
theorem oh {kvs:List (List Key×V)}(ok:iY P w H h)(e:Rd H a (.dT kvs)):kvs.length<=sizeLine/\(a==sysModules)=false/\
  ∃xs,KT H kvs xs/\h.DictOfH (tupleKind (bj P w)) a xs:=by
 obtain ⟨z,y,xs,r,o,es,ep,h1,h2,h3,h4,h5⟩:=(show cw P w H h a (.dT kvs) from NI ok e)
 refine ⟨z,y,xs,r,o,es,ep,h1,h2,h3,h4,fun x hx=> ?_,h5⟩
 have all:∀{l:List (List Key×V)} {m:List (List Key×Addr×Value)},KT H l m->∀x∈m,(tupleKind (bj P w)).is h x.1 x.2.1:=by
  intro l m q
  induction q with
  | nil=>intro x hx;exact nomatch hx
  | @cons p q ps qs hq t ih=>
   intro x hx
   rcases aaN.mp hx with e | hx
   ·subst e
    exact ku ok (by rw [<- hq.1];exact hq.2.1)
   ·exact ih x hx
 exact all r x hx
theorem SI {kvs:List (List Key×V)}(ok:iY P w H h)(e:H a=some (.dT kvs)):kvs.length<=sizeLine/\(a==sysModules)=false/\
  ∃xs,KT H kvs xs/\h.DictOfH (tupleKind (bj P w)) a xs:=oh ok (.inl e)
end
def d5 (H:Hp)(a:Addr)(y:V)(r:Option V):Prop:=
 (∃kvs k,Rd H a (.dK kvs)/\y=kV k/\r=bB kvs k)\/∃kvs k b,Rd H a (.dT kvs)/\y=.ref b/\H b=some (.tup (k.map kV))/\r=bB kvs k
def iR (H:Hp)(a:Addr)(y v:V)(H' :Hp):Prop:=
 (∃kvs k,H a=some (.dK kvs)/\y=kV k/\kvs.length < sizeLine/\H' =upd H a (.dK (putK kvs k v)))\/
 ∃kvs k b,H a=some (.dT kvs)/\y=.ref b/\H b=some (.tup (k.map kV))/\kvs.length < sizeLine/\H' =upd H a (.dT (putK kvs k v))
theorem d5.k {H:Hp}{a:Addr}{kvs:γ}{k:Key}(e:H a=some (.dK kvs)):d5 H a (kV k) (bB kvs k):=.inl ⟨kvs,k,.inl e,rfl,rfl⟩
theorem iR.k {H:Hp}{a:Addr}{kvs:γ}{k:Key}{v:V}(e:H a=some (.dK kvs))(hl:kvs.length < sizeLine):iR H a (kV k) v (upd H a (.dK (putK kvs k v))):=.inl ⟨kvs,k,e,rfl,hl,rfl⟩
section
variable {X:Cx}{pins:ζ}{σ:St}{H:Hp}{s:Shared}{a:Addr}{y v:V}{u r:Value}{o:Option V}{A:Around}{E:δ}
theorem Inv.big (I:Inv X pins σ H s):sysModules < s.heap.objs.size:=by
 have h:mainGlobals < s.heap.objs.size:=(I.mod.glob.keeps I.bk).lt
 exact aiE (by decide) h
theorem AI {Q:δ}(hu:A.units+1 < cLine)(I:Inv X pins σ H s)(g:d5 H a y (some v))(ry:RelV y u)(h:∀w' s',Inv X pins σ H s' ->RelV v w' ->Q w' s'):
  wpAny (model X.prog X.w) A (getItem (.ref a) u) Q E s:=by
 rcases g with ⟨kvs,k,e,ey,l⟩ | ⟨kvs,k,b,e,ey,eb,l⟩
 ·subst ey
  obtain ⟨z,hd,vs,rel,dd⟩:=i5 I.bH e
  obtain ⟨w',hw,mK⟩:=gF.some_of (v:=v) (o:=valueAt vs k) (by rw [l];exact rel.val k)
  exact wpAny_getItem_of (jG ry) dd.mapOf hw (h w' _ (I.tok _) mK)
 ·subst ey
  cases (show u=Value.ref b from ry)
  obtain ⟨z,hd,xs,rel,dd⟩:=oh I.bH e
  obtain ⟨w',hw,mK⟩:=gF.some_of (v:=v) (o:=(atKey xs k).map (·.2)) (by rw [l];exact rel.val k)
  obtain ⟨p,hp,SJ⟩:=aal.mp hw
  refine wpAny_getItem_heap (tupleKind_room_in1 hu) (ku I.bH eb) dd hp ?_
  rw [SJ]
  exact h w' _ (I.tok _) mK
theorem aao {Q:δ}(hu:A.units+1 < cLine)(I:Inv X pins σ H s)(g:d5 H a y o)(ry:RelV y u)(h:∀s',Inv X pins σ H s' ->Q (.bool o.isSome) s'):
  wpAny (model X.prog X.w) A (compareOp .In u (.ref a)) Q E s:=by
 rcases g with ⟨kvs,k,e,ey,l⟩ | ⟨kvs,k,b,e,ey,eb,l⟩
 ·subst ey
  obtain ⟨z,hd,vs,rel,dd⟩:=i5 I.bH e
  refine wpAny_in_of (jG ry) hd dd.mapOf ?_
  rw [<- (rel.val k).gi, <- l]
  exact h _ (I.tok _)
 ·subst ey
  cases (show u=Value.ref b from ry)
  obtain ⟨z,hd,xs,rel,dd⟩:=oh I.bH e
  refine wpAny_in_heap (tupleKind_room_in1 hu) (ku I.bH eb) hd dd ?_
  have q:=(rel.val k).gi
  rw [ah7] at q
  rw [<- q, <- l]
  exact h _ (I.tok _)
theorem Lm {Q:δ}(hu:A.units+1 < cLine)(I:Inv X pins σ H s)(g:d5 H a y o)(ry:RelV y u)(h:∀s',Inv X pins σ H s' ->Q (.bool (!o.isSome)) s'):
  wpAny (model X.prog X.w) A (compareOp .NotIn u (.ref a)) Q E s:=by
 rcases g with ⟨kvs,k,e,ey,l⟩ | ⟨kvs,k,b,e,ey,eb,l⟩
 ·subst ey
  obtain ⟨z,hd,vs,rel,dd⟩:=i5 I.bH e
  refine wpAny_notIn_of (jG ry) hd dd.mapOf ?_
  rw [<- (rel.val k).gi, <- l]
  exact h _ (I.tok _)
 ·subst ey
  cases (show u=Value.ref b from ry)
  obtain ⟨z,hd,xs,rel,dd⟩:=oh I.bH e
  refine wpAny_notIn_heap (tupleKind_room_in1 hu) (ku I.bH eb) hd dd ?_
  have q:=(rel.val k).gi
  rw [ah7] at q
  rw [<- q, <- l]
  exact h _ (I.tok _)
theorem iD {h' :Heap}{t' :Nat}{ob:HO}(I:Inv X pins σ H s)(mu:RF (H a))(hs:Heap.SameBut a s.heap h')(he:∃q,h'.get? a=some q)(new:cw X.prog X.w (upd H a ob) h' a ob):
  Inv X pins σ (upd H a ob) {s with heap:=h',toks:=t' }:=
 I.write (x:=a) (e:=a) mu (.inl rfl) (fun b q hb z=>(hs.2 b hb).trans z) he new
theorem oi {P:Program}{w:World}{H' :Hp}{h' :Heap}{kvs:γ}{vs:List (Key×Value)}(z:kvs.length<=sizeLine)(hd:(a==sysModules)=false)(rel:KV kvs vs)(dd:h'.DictOf (bj P w) a vs):
  cw P w H' h' a (.dK kvs):=⟨z,hd,vs,rel,dd⟩
theorem AJ {H' :Hp}{Q:Unit->Shared->Prop}(hu:A.units+1 < cLine)(I:Inv X pins σ H s)(g:iR H a y v H')(ry:RelV y u)(rv:RelV v r)(h:∀s',Inv X pins σ H' s' ->Q () s'):
  wpAny (model X.prog X.w) A (setItem (.ref a) u r) Q E s:=by
 rcases g with ⟨kvs,k,e,ey,l,eH⟩ | ⟨kvs,k,b,e,ey,eb,l,eH⟩
 ·subst ey eH
  obtain ⟨z,hd,vs,rel,dd⟩:=lK I.bH e
  have hz:vs.length<=sizeLine:=by rw [<- rel.length];exact z
  have hl:(putK kvs k v).length<=sizeLine:=by have:=fS kvs k v;omega
  refine wpAny_setItem_pairs (hsz:=hz) (jG ry) dd fun h' AK hs=>h _ ?_
  have he:∃q,h'.get? a=some q:=let ⟨q,_,_,hq,_⟩:=AK;⟨q,hq⟩
  exact iD I (by rw [e];exact True.intro) hs he (oi hl hd (rel.put k rv) AK)
 ·subst ey eH
  cases (show u=Value.ref b from ry)
  obtain ⟨z,hd,xs,rel,dd⟩:=SI I.bH e
  have hz:xs.length<=sizeLine:=by rw [<- Paired.length rel];exact z
  have hl:(putK kvs k v).length<=sizeLine:=by have:=fS kvs k v;omega
  refine wpAny_setItem_heap (hsz:=hz) (tupleKind_room_in1 hu) (ku I.bH eb) dd fun h' AK hs=>h _ ?_
  obtain ⟨q,es,ep,hq,h2,h3,h4,_,h5⟩:=AK
  refine iD I (by rw [e];exact True.intro) hs ⟨q,hq⟩ ⟨hl,hd,_,(rel.put k eb rv).keeps fun c ys ec=> ?_,q,es,ep,hq,h2,h3,h4,h5⟩
  rw [ao (RE ec e (fun z=>nomatch z))]
  exact ec
end
section
variable {X:Cx}{pins:ζ}{σ:St}{H:Hp}{s:Shared}{a:Addr}{kvs:γ}{k:Key}{u:Value}{A:Around}{E:δ}
theorem SK {v:V}{more:ο}{Q:δ}(I:Inv X pins σ H s)(e:H a=some (.dK kvs))(ry:RelV (kV k) u)(l:bB kvs k=some v)(hm:more=[]\/∃x,more=[x])
  (h:∀w' s',Inv X pins σ (upd H a (.dK (d3 kvs k))) s' ->RelV v w' ->Q w' s'):wpAny (model X.prog X.w) A (call (.builtin "dict.pop") (.ref a::u::more)) Q E s:=by
 obtain ⟨z,hd,vs,rel,dd⟩:=lK I.bH e
 obtain ⟨w',hw,mK⟩:=gF.some_of (v:=v) (o:=valueAt vs k) (by rw [<- l];exact rel.val k)
 have hp:(keyPart u).isSome=true:=by
  cases k with
  | inl i=>obtain ⟨t,q⟩:=(show ∃t,u=Value.int i t from ry);subst q;rfl
  | inr x=>obtain ⟨t,q⟩:=(show ∃t,u=Value.str x t from ry);subst q;rfl
 have ha:argsOk "dict.pop" ⟨.ref a::u::more,[]⟩:=by
  rcases hm with q | ⟨x,q⟩
  ·subst q;exact PySem.F.args_dict_pop_2 _ _
  ·subst q;exact PySem.F.args_dict_pop_3 _ _ _
 refine call_meetsIn PySem.F.slot_dict_pop dd.typeIs PySem.F.entry_dict_pop ha (meets_dict_pop_there (bj X.prog X.w) a (jG ry) more hm hp)
  ⟨vs,w',dd,by rw [<- rel.length];exact z,hw,fun h' AK hs=>h w' _ ?_ mK⟩
 have he:∃q,h'.get? a=some q:=let ⟨q,_,_,hq,_⟩:=AK;⟨q,hq⟩
 exact iD I (by rw [e];exact True.intro) hs he (oi (aaf (GY kvs k) z) hd (rel.drop k) AK)
theorem Lo {Q:δ}(I:Inv X pins σ H s)(e:H a=some (.dK kvs))(h:∀s',Inv X pins σ (upd H a (.dK [])) s' ->Q .none s'):wpAny (model X.prog X.w) A (call (.builtin "dict.clear") [.ref a]) Q E s:=by
 obtain ⟨z,hd,vs,rel,dd⟩:=lK I.bH e
 refine call_meetsIn PySem.F.slot_dict_clear dd.typeIs PySem.F.entry_dict_clear (PySem.F.args_dict_clear_1 _) (meets_dict_clear (bj X.prog X.w) a) ⟨vs,dd,by rw [<- rel.length];exact z,fun h' AK hs=>h _ ?_⟩
 have he:∃q,h'.get? a=some q:=let ⟨q,_,_,hq,_⟩:=AK;⟨q,hq⟩
 exact iD (t' :=s.toks) I (by rw [e];exact True.intro) hs he (oi (aaX _) hd .nil AK)
theorem SM {Q:δ}(I:Inv X pins σ H s)(e:Rd H a (.dK kvs))(h:∀t s',Inv X pins σ H s' ->Q (.int kvs.length t) s'):wpAny (model X.prog X.w) A (call (.builtin "len") [.ref a]) Q E s:=by
 obtain ⟨z,hd,vs,rel,dd⟩:=i5 I.bH e
 refine call_len_dict hd dd (by rw [<- rel.length];rw [sizeLine_eq] at z;omega) ?_
 rw [<- rel.length]
 exact h _ _ (I.tok _)
end
def SN (i:Expr):Prop:=∀ov iv,subscripted i false ov iv=operate [ov,iv] (getItem ov iv)
theorem Lp {prog:Program}{w:World}{A:Around}{E:δ}{s:Shared}{env:Env}{value slice:Expr}{pos:Pos}{T id:String}{Q:δ}
  (hl:typeLookup (.type T) "__getitem__"=pure (some (.builtin id))) (hs:SN slice)
  (h:wpAny (model prog w) A (eval value env) (fun o s₁=>wpAny (model prog w) A (eval slice env) (fun i s₂=>s₂.TypeIs o T/\wpAny (model prog w) A (getItem o i) Q E s₂) E s₁) E s):
  wpAny (model prog w) A (eval (.Subscript value slice pos) env) Q E s:=by
 refine Subscript_ (wpAny_mono h (fun o s₁ h₁=>wpAny_mono h₁ (fun i s₂ h₂=> ?_) fun _ _ x=>x) fun _ _ x=>x)
 obtain ⟨hT,h₂⟩:=h₂
 unfold subscriptTail
 refine wpAny_bind ?_
 rw [getitemInPython_of_ne hT.not_modules]
 refine wpAny_bind (wpAny_specialOf hT hl ?_)
 have fin:wpAny (model prog w) A (subscripted slice false o i) (fun r s₃=>wpAny (model prog w) A (letTemporaryGo value o r >>=fun _=>pure r) Q E s₃) E s₂:=by
  rw [hs o i]
  exact wpAny_operating (wpAny_mono h₂ (fun r s₃ h₃=>wpAny_bind (wpAny_letTemporaryGo (wpAny_pure h₃))) fun _ _ x=>x)
 first
  | exact wpAny_pure (wpAny_bind fin)
  | exact wpAny_bind (wpAny_pure (wpAny_bind fin))
  | exact wpAny_bind fin
theorem ve {X:Cx}{pins:ζ}{σ:St}{H:Hp}{s:Shared}{a:Addr}{y:V}{o:Option V}(I:Inv X pins σ H s)(g:d5 H a y o):s.TypeIs (.ref a) "dict":=by
 rcases g with ⟨kvs,k,e,_,_⟩ | ⟨kvs,k,b,e,_,_,_⟩
 ·obtain ⟨_,_,vs,_,dd⟩:=i5 I.bH e
  exact dd.typeIs
 ·obtain ⟨_,_,xs,_,dd⟩:=oh I.bH e
  exact dd.typeIs
inductive GZ (Q:VK)(x:V)(y:V)(H2:Hp):Prop where
 | mk (a v:_) (_:x=.ref a) (_:d5 H2 a y (some v)) (_:Q v H2):GZ Q x y H2
def SO (td ty:TE):TE:=fun σ H Q=>td σ H fun x H1=>ty σ H1 fun y H2=>GZ Q x y H2
inductive NJ (Q:VK)(y:V)(x:V)(H2:Hp):Prop where
 | mk (a o:_) (_:x=.ref a) (_:d5 H2 a y o) (_:Q (.bl o.isSome) H2):NJ Q y x H2
def aap (ty td:TE):TE:=fun σ H Q=>ty σ H fun y H1=>td σ H1 fun x H2=>NJ Q y x H2
inductive vf (Q:VK)(y:V)(x:V)(H2:Hp):Prop where
 | mk (a o:_) (_:x=.ref a) (_:d5 H2 a y o) (_:Q (.bl (!o.isSome)) H2):vf Q y x H2
def Lq (ty td:TE):TE:=fun σ H Q=>ty σ H fun y H1=>td σ H1 fun x H2=>vf Q y x H2
inductive G_ (D:Ends)(σ:L2.St)(v:V)(x:V)(y:V)(H3:Hp):Prop where
 | mk (a H4:_) (_:x=.ref a) (_:iR H3 a y v H4) (_:D.nx σ H4):G_ D σ v x y H3
def SQ (td ty tv:TE):TS:=fun D σ H=>tv σ H fun v H1=>td σ H1 fun x H2=>ty σ H2 fun y H3=>G_ D σ v x y H3
section
variable {X:Cx}{o i e value:Expr}{pos pos' rZ:Pos}{td ty tv:TE}
theorem dD (hu:X.A.units+1 < cLine)(ho:PE X o td)(hi:PE X i ty)(hs:SN i):PE X (.Subscript o i pos) (SO td ty):=by
 intro pins s σ H Q I h
 refine Lp PySem.F.slot_dict_getitem.lookup hs (bZ (ho pins s σ H _ I h) fun u s1 ⟨x,H1,I1,rx,q1⟩=>bZ (hi pins s1 σ H1 _ I1 q1) fun iv s2 ⟨y,H2,I2,ry,a,v,ex,g,q2⟩=> ?_)
 subst ex
 obtain rfl:u=Value.ref a:=rx
 exact ⟨ve I2 g,AI hu I2 g ry fun w' s3 I3 mK =>⟨v,H2,I3,mK,q2⟩⟩
theorem oj (hu:X.A.units+1 < cLine)(hi:PE X i ty)(ho:PE X o td):PC X .In i o (aap ty td):=by
 intro pins s σ H Q I h
 refine bZ (hi pins s σ H _ I h) fun iv s1 ⟨y,H1,I1,ry,q1⟩=>bZ (ho pins s1 σ H1 _ I1 q1) fun u s2 ⟨x,H2,I2,rx,a,ov,ex,g,q2⟩=> ?_
 subst ex
 obtain rfl:u=Value.ref a:=rx
 exact aao hu I2 g ry fun s3 I3=>⟨.bl ov.isSome,H2,I3,rfl,q2⟩
theorem iE (hu:X.A.units+1 < cLine)(hi:PE X i ty)(ho:PE X o td):PC X .NotIn i o (Lq ty td):=by
 intro pins s σ H Q I h
 refine bZ (hi pins s σ H _ I h) fun iv s1 ⟨y,H1,I1,ry,q1⟩=>bZ (ho pins s1 σ H1 _ I1 q1) fun u s2 ⟨x,H2,I2,rx,a,ov,ex,g,q2⟩=> ?_
 subst ex
 obtain rfl:u=Value.ref a:=rx
 exact Lm hu I2 g ry fun s3 I3=>⟨.bl (!ov.isSome),H2,I3,rfl,q2⟩
theorem d6 (hu:X.A.units+1 < cLine)(ho:PE X o td)(hi:PE X i ty)(hv:PE X value tv)(hs:swapsWith value (some (.Subscript o i pos')) pos.line X.env=pure false):
  PS X (.Assign [.Subscript o i pos'] value pos) (SQ td ty tv):=by
 intro pins s σ H D I h
 refine wpAny_Assign_Subscript (bZ (hv pins s σ H _ I h) fun r s1 ⟨v,H1,I1,rv,q1⟩=>bZ (ho pins s1 σ H1 _ I1 q1) fun u s2 ⟨x,H2,I2,rx,q2⟩=>bZ (hi pins s2 σ H2 _ I2 q2) fun iv s3 ⟨y,H3,I3,ry,a,H4,ex,g,q3⟩=> ?_) hs
 subst ex
 obtain rfl:u=Value.ref a:=rx
 exact AJ hu I3 g ry rv fun s4 I4=>⟨σ,H4,I4,q3⟩
end
theorem vg {P:Program}{w:World}{H:Hp}(h:Heap)(hb:sysModules < h.objs.size):cw P w H (h.push {cls:=.type "dict",data:=.dict #[]}) h.objs.size (.dK []):=
 ⟨aaX _,beq_eq_false_iff_ne.mpr (aaO (aaQ hb)),[],.nil,Heap.DictOf.new h⟩
def Pc:TE:=fun _ H Q=>∀p,H p=none->Q (.ref p) (upd H p (.dK []))
section
variable {X:Cx}{pos:Pos}
theorem dy:PE X (.Dict [] [] pos) Pc:=fun pins s σ H Q I h=>
 wpAny_Dict_empty ⟨.ref s.heap.objs.size,_,I.laid (a:=s.heap.objs.size) (o:=.dK []) (t' :=s.toks) (fun _ _ q=>Heap.get?_push_of_some _ q) (aah _) (vg s.heap I.big),rfl,h _ (I.bH.fresh (aah _))⟩
end
def xf:List (TE×TE)->St->Hp->(List (V×V)->Hp->Prop)->Prop
 | [],_,H,Q=>Q [] H
 | (tk,tv)::r,σ,H,Q=>tk σ H fun x H1=>tv σ H1 fun y H2=>xf r σ H2 fun ps H3=>Q ((x,y)::ps) H3
abbrev VV:List (V×V)->List (Value×Value)->Prop:=Paired fun p q=>RelV p.1 q.1/\RelV p.2 q.2
def YO (X:Cx)(pos:Pos)(keys:List (Option Expr))(values:List Expr)(Lr:List (TE×TE)):Prop:=
 ∀(pins:ζ) (s:Shared) (σ:St) (H:Hp) (Q:List (V×V)->Hp->Prop),Inv X pins σ H s->xf Lr σ H Q->
  wpAny (model X.prog X.w) X.A (evalPairs (pairTrees keys values X.env pos)) (fun vs s' =>∃ps H',Inv X pins σ H' s' /\VV ps vs/\Q ps H') X.xe s
theorem yt {X:Cx}{pos:Pos}:YO X pos [] [] []:=fun pins s σ H Q I h=>pairTrees_nil_walk ⟨[],H,I,.nil,h⟩
theorem om {X:Cx}{pos:Pos}{k v:Expr}{ks:List (Option Expr)}{vs:List Expr}{tk tv:TE}{Lr:List (TE×TE)}(hk:PE X k tk)(hv:PE X v tv)(hr:YO X pos ks vs Lr):
  YO X pos (some k::ks) (v::vs) ((tk,tv)::Lr):=fun pins s σ H Q I h=>
 pairTrees_cons_walk (bZ (hk pins s σ H _ I h) fun u s1 ⟨x,H1,I1,rx,q1⟩=>bZ (hv pins s1 σ H1 _ I1 q1) fun w2 s2 ⟨y,H2,I2,ry,q2⟩=>
  bZ (hr pins s2 σ H2 _ I2 q2) fun ws s3 ⟨ps,H3,I3,rel,q3⟩=>⟨(x,y)::ps,H3,I3,.cons ⟨rx,ry⟩ rel,q3⟩)
def bX (kvs more:γ):List (Key×V):=more.foldl (fun acc kv=>putK acc kv.1 kv.2) kvs
theorem KV.merge:∀{more:γ} {rs:List (Key×Value)} {kvs:γ} {vs:List (Key×Value)},KV more rs->KV kvs vs->KV (bX kvs more) (merged vs rs):=by
 intro more rs kvs vs r
 unfold KV at r
 induction r generalizing kvs vs with
 | nil=>intro q;exact q
 | @cons p q ps qs h t ih=>
  intro r0
  have e:KV (putK kvs p.1 p.2) (stored vs q.1 q.2):=by
   have:=r0.put p.1 h.2
   rw [<- h.1];exact this
  exact ih e
theorem fZ:∀(more kvs:γ),(bX kvs more).length<=kvs.length+more.length
 | [],kvs=>by show kvs.length<=kvs.length+0;omega
 | p::r,kvs=>by
  have h1:=fZ r (putK kvs p.1 p.2)
  have h2:=fS kvs p.1 p.2
  show (bX (putK kvs p.1 p.2) r).length<=_
  rw [aaY];omega
theorem oq {P:Program}{w:World}:∀{kvs:γ} {ws:List (Value×Value)},VV (kvs.map fun kv=>(kV kv.1,kv.2)) ws->∃rs,Carries (bj P w) ws rs/\KV kvs rs
 | [],_,r=>by rw [ach] at r;cases r;exact ⟨[],True.intro,.nil⟩
 | p::kvs,_,r=>by
  rw [aac] at r
  cases r with
  | @cons a b as bs h t=>
   obtain ⟨rs,c,q⟩:=oq (P:=P) (w:=w) t
   obtain ⟨b1,b2⟩:=b
   exact ⟨(p.1,b2)::rs,⟨jG h.1,rfl,c⟩,.cons ⟨rfl,h.2⟩ q⟩
def SR (Lr:List (TE×TE)):TE:=fun σ H Q=>∀p,H p=none->xf Lr σ (upd H p (.dK [])) fun ps H2=>H2 p=some (.dK [])/\∃kvs:List (Key×V),ps=kvs.map (fun kv=>(kV kv.1,kv.2))/\kvs.length<=15/\Q (.ref p) (upd H2 p (.dK (bX [] kvs)))
theorem yu {X:Cx}{pos:Pos}{keys:List (Option Expr)}{values:List Expr}{Lr:List (TE×TE)}(h:YO X pos keys values Lr)(FU:keys.all (·.isSome)=true)(hl:keys.length=values.length)(h0:keys≠[])
  (SS:keys.length<=15):PE X (.Dict keys values pos) (SR Lr):=by
 intro pins s σ H Q I q
 have hn:=I.bH.fresh (aah s.heap.objs.size)
 have I1:=I.laid (a:=s.heap.objs.size) (o:=.dK []) (h' :=s.heap.push {cls:=.type "dict",data:=.dict #[]}) (t' :=s.toks) (fun _ _ q=>Heap.get?_push_of_some _ q) (aah _) (vg s.heap I.big)
 refine wpAny_Dict_walk (knd:=bj X.prog X.w) FU hl h0 SS (bZ (h pins _ σ _ _ I1 (q _ hn)) fun ws s2 ⟨ps,H2,I2,rel,e,kvs,ep,lk,q2⟩=> ?_)
 subst ep
 obtain ⟨rs,c,rk⟩:=oq (P:=X.prog) (w:=X.w) rel
 obtain ⟨z,hd,vs0,r0,dd⟩:=lK I2.bH e
 cases r0
 refine ⟨rs,c,dd,fun h' AK hs=>⟨.ref s.heap.objs.size,_,?_,rfl,q2⟩⟩
 have hz:(bX [] kvs).length<=sizeLine:=by
  have h1:=fZ kvs []
  rw [aij] at h1
  rw [sizeLine_eq];omega
 have he:∃q,h'.get? s.heap.objs.size=some q:=let ⟨q,_,_,hq,_⟩:=AK;⟨q,hq⟩
 exact iD I2 (by rw [e];exact True.intro) hs he (oi hz hd (rk.merge .nil) AK)
structure M1 (X:Cx)(o:Expr)(m:Str)(apos:Pos)(e:Expr)(cJ:Pos):Prop where
 base:attributeBase o m X.env (eval o X.env)=eval o X.env
 few:((backTo cJ (starEach [e] X.env)).all (fun x=> !x.1) && (backToKw cJ (keywordEach [] X.env)).all (fun x=>x.1.isSome)
  && decide (([e]:List Expr).length+([]:List Keyword).length+(if ([]:List Keyword).isEmpty then 0 else 1) < 30))=true
 line:(apos.endLine==cJ.line)=true
 trees:backTo cJ (starEach [e] X.env)=[(false,eval e X.env)]
structure M2 (X:Cx)(o:Expr)(m:Str)(apos:Pos)(e f:Expr)(cJ:Pos):Prop where
 base:attributeBase o m X.env (eval o X.env)=eval o X.env
 few:((backTo cJ (starEach [e,f] X.env)).all (fun x=> !x.1) && (backToKw cJ (keywordEach [] X.env)).all (fun x=>x.1.isSome)
  && decide (([e,f]:List Expr).length+([]:List Keyword).length+(if ([]:List Keyword).isEmpty then 0 else 1) < 30))=true
 line:(apos.endLine==cJ.line)=true
 trees:backTo cJ (starEach [e,f] X.env)=[(false,eval e X.env),(false,eval f X.env)]
def IsD (H:Hp)(a:Addr):Prop:=(∃kvs,Rd H a (.dK kvs))\/∃kvs,Rd H a (.dT kvs)
theorem sC {X:Cx}{pins:ζ}{σ:St}{H:Hp}{s:Shared}{a:Addr}(I:Inv X pins σ H s)(d:IsD H a):
  s.TypeIs (.ref a) "dict"/\(∀b,Value.ref a=.ref b->∃ob,s.heap.get? b=some ob/\ob.dict=none)/\(a==sysModules)=false:=by
 rcases d with ⟨kvs,e⟩ | ⟨kvs,e⟩
 ·obtain ⟨_,hd,vs,_,dd⟩:=i5 I.bH e
  refine ⟨dd.typeIs,fun b q=> ?_,hd⟩
  cases q
  obtain ⟨ob,_,_,h1,h2,_⟩:=dd
  exact ⟨ob,h1,h2.2.1⟩
 ·obtain ⟨_,hd,xs,_,dd⟩:=oh I.bH e
  refine ⟨dd.typeIs,fun b q=> ?_,hd⟩
  cases q
  obtain ⟨ob,_,_,h1,h2,_⟩:=dd
  exact ⟨ob,h1,h2.2.1⟩
section
variable {X:Cx}{pins:ζ}{σ:St}{H:Hp}{s:Shared}{a:Addr}{y d:V}{u r:Value}{o:Option V}{A:Around}{E:δ}
theorem Pd {Q:δ}(hu:A.units+1 < cLine)(I:Inv X pins σ H s)(g:d5 H a y o)(ry:RelV y u)(rd:RelV d r)(h:∀w' s',Inv X pins σ H s' ->RelV (o.getD d) w' ->Q w' s'):
  wpAny (model X.prog X.w) A (call (.builtin "dict.get") [.ref a,u,r]) Q E s:=by
 rcases g with ⟨kvs,k,e,ey,l⟩ | ⟨kvs,k,b,e,ey,eb,l⟩
 ·subst ey
  obtain ⟨z,hd,vs,rel,dd⟩:=i5 I.bH e
  refine call_meetsIn PySem.F.slot_dict_get dd.typeIs PySem.F.entry_dict_get (PySem.F.args_dict_get_3 _ _ _) (meets_dict_get_default (bj X.prog X.w) a (jG ry) hd r) ⟨_,dd.mapOf,h _ _ (I.tok _) ?_⟩
  rw [l]
  exact (rel.val k).getD rd
 ·subst ey
  cases (show u=Value.ref b from ry)
  obtain ⟨z,hd,xs,rel,dd⟩:=oh I.bH e
  refine call_meetsIn PySem.F.slot_dict_get dd.typeIs PySem.F.entry_dict_get (PySem.F.args_dict_get_3 _ _ _) (meetsH_dict_get_default (tupleKind (bj X.prog X.w)) a b hd r) ⟨tupleKind_room_in1 hu,k,xs,ku I.bH eb,dd,h _ _ (I.tok _) ?_⟩
  rw [l]
  exact (rel.val k).getD rd
end
def Pe (td ty tx:TE):TE:=fun σ H Q=>td σ H fun x H1=>∃a,x=.ref a/\IsD H1 a/\ty σ H1 fun y H2=>tx σ H2 fun z H3=>∃o,d5 H3 a y o/\Q (o.getD z) H3
def Pf (td ty:TE):TE:=fun σ H Q=>td σ H fun x H1=>∃a,x=.ref a/\IsD H1 a/\ty σ H1 fun y H2=>∃kvs k v,H2 a=some (.dK kvs)/\y=kV k/\bB kvs k=some v/\Q v (upd H2 a (.dK (d3 kvs k)))
section
variable {X:Cx}{o e f:Expr}{apos cJ:Pos}{td ty tx:TE}
theorem G' (hu:X.A.units+1 < cLine)(ho:PE X o td)(he:PE X e ty)(hf:PE X f tx)(m:M2 X o "get" apos e f cJ):PE X (.Call (.Attribute o "get" apos) [e,f] [] cJ) (Pe td ty tx):=by
 intro pins s σ H Q I h
 refine wpAny_Call_method m.base m.few m.line PySem.F.plainAttrs_dict PySem.F.slot_dict_get PySem.F.type_dict_get (bZ (ho pins s σ H _ I h) fun u s1 ⟨x,H1,I1,rx,a,ex,d,q1⟩=> ?_)
 subst ex
 obtain rfl:u=Value.ref a:=rx
 obtain ⟨t1,t2,_⟩:=sC I1 d
 refine ⟨t1,t2,?_⟩
 rw [m.trees]
 refine Calls.callWith_builtin rfl (Calls.evalArgs_plain (Calls.spliced_cons (bZ (he pins s1 σ H1 _ I1 q1) fun iv s2 ⟨y,H2,I2,ry,q2⟩=>
  Calls.spliced_cons (bZ (hf pins s2 σ H2 _ I2 q2) fun fv s3 ⟨z,H3,I3,rz,ov,g,q3⟩=>Calls.spliced_nil ?_))))
 exact Pd hu I3 g ry rz fun w' s4 I4 mK =>⟨_,H3,I4,mK,q3⟩
theorem ou (ho:PE X o td)(he:PE X e ty)(m:M1 X o "pop" apos e cJ):PE X (.Call (.Attribute o "pop" apos) [e] [] cJ) (Pf td ty):=by
 intro pins s σ H Q I h
 refine wpAny_Call_method m.base m.few m.line PySem.F.plainAttrs_dict PySem.F.slot_dict_pop PySem.F.type_dict_pop (bZ (ho pins s σ H _ I h) fun u s1 ⟨x,H1,I1,rx,a,ex,d,q1⟩=> ?_)
 subst ex
 obtain rfl:u=Value.ref a:=rx
 obtain ⟨t1,t2,_⟩:=sC I1 d
 refine ⟨t1,t2,?_⟩
 rw [m.trees]
 refine Calls.callWith_builtin rfl (Calls.evalArgs_plain (Calls.spliced_cons (bZ (he pins s1 σ H1 _ I1 q1) fun iv s2 ⟨y,H2,I2,ry,kvs,k,v,ea,ey,l,q2⟩=>Calls.spliced_nil ?_)))
 subst ey
 exact SK I2 ea ry l (.inl rfl) fun w' s3 I3 mK =>⟨v,_,I3,mK,q2⟩
end
section
variable {X:Cx}{pins:ζ}{σ:St}{H:Hp}{s:Shared}{a:Addr}{kvs:γ}{A:Around}{E:δ}
end
section
variable {X:Cx}{pins:ζ}{σ:St}{H:Hp}{s:Shared}{a:Addr}{y:V}{u:Value}{A:Around}{E:δ}
end
end L2
set_option maxHeartbeats 4000000
namespace Ty
open PySem PySem.Spec PyProof.Rows L2
section
variable {X:Cx}
theorem Ls {pins:ζ}{σ:L2.St}{H:Hp}{s:Shared}(I:Inv X pins σ H s):s.heap.NoSeer:=I.ok.mod.seer.keeps I.bk
theorem cp.py {k:Nat}{A:Around}(r:cp k A)(h:32<=k):A.depth+Builtin.pylongFrames < recursionLimit:=by
 have:=r.dp
 have:Builtin.pylongFrames=100:=rfl
 omega
theorem fF {env:Env}{l:List Env}(ht:X.prog.given.tree=none)(hd:X.A.depth+Builtin.pylongFrames < recursionLimit)(KZ:X.stack=env::l)(h1:env.scope.isGenerator=false)(h2:env.scope.isCoroutine=false)(h3:env.builtins=builtinsNs)(h4:env.globals=mainGlobals):
  jq X (binaryOp .FloorDiv) (rI O3 fun i j=>.int (i.fdiv j)):=by
 intro pins s σ H x y v u Q I rx ry h
 obtain ⟨i,j,rfl,rfl,hc,q⟩:=h
 obtain ⟨t,rfl⟩:=rx
 obtain ⟨t',rfl⟩:=ry
 exact floordiv_int hc ⟨.int _,H,I.tok _,⟨_,rfl⟩,q⟩ (.inr (PylongRoom.of I.nolimit hd (SeerAt.of (Ls I) ht (by rw [I.ok.frames,KZ]) h1 h2 h3 h4)))
end
section
variable {prog:Program}{w:World}{A:Around}{E:δ}{s:Shared}{KK:Type}[DecidableEq KK]{knd:KeyKind prog w KK}
theorem AL {d:Addr}{kvs:List (KK×Value)}{Q:Bool->Shared->Prop}(hm:s.heap.DictOf knd d kvs)(h:Q false s):wpAny (model prog w) A (Builtin.List.listLengthHint (.ref d)) Q E s:=by
 unfold Builtin.List.listLengthHint
 refine wpAny_bind (wpAny_specialOf (name:=Str.ofString "__len__") hm.typeIs F.slot_dict_len.lookup ?_)
 generalize hid:("dict.__len__":String)=id0
 wp_delta
 rw [show splitId id0=some ("dict","__len__") from by subst hid;decide+kernel]
 subst hid
 refine wpAny_bind (wpAny_isInstance (T:="dict") (b:=true) hm.typeIs (by rw [isSubtype_type];kernel_rfl) ?_)
 refine wpAny_ite_split (fun hab=>absurd hab (by decide)) (fun _=> ?_)
 refine wpAny_ite_split (fun _=> ?_) (fun hab=>absurd (by decide+kernel) hab)
 refine wpAny_bind (wpAny_typeOf (T:="dict") hm.typeIs ?_)
 exact wpAny_pure h
theorem vh {R:Result->Shared->Prop}{d:Addr}{kvs:List (KK×Value)}{ep:Nat}(hh:A.handled=none)(hd:(d==sysModules)=false)(hm:s.heap.DictAt knd d kvs ep)(hlen:kvs.length<=sizeLine)(S:Addr)(res:Value)(c₀:Nat)(hS:s.heap.get? S=some {cls:=.type "list",data:=.seq #[] c₀})
  (hR:∀h' tk gj c',(∀b o,b≠S->s.heap.get? b=some o->h'.get? b=some o)->h'.get? S=some {cls:=.type "list",dict:=none,data:=.seq gj c',slots:= #[]}->
   ItemsOf (fun i v=>∃k x,kvs[i]? =some (k,x)/\knd.is k v=true) gj kvs.length->R (.ok (.ret res)) {s with heap:=h',toks:=tk}):
  wpAny (model prog w) A.in1 (Builtin.List.listExtendWith (.ref S) (.ref d) res)
   (fun fin s' =>match fin with | .done f=>R (.ok f) s' | .again c' =>c'.quiet=true/\codeAny (model prog w) A c' R s') (fun e s' =>R (.error e) s') s:=by
 obtain ⟨od,es,Q_,qg,iS,hk0,hp0,hn0⟩:=id hm
 have hT:s.TypeIs (.ref d) "dict":=hm.dictOf.typeIs
 have Ra:S≠d:=fun e=>by
  rw [e] at hS
  rw [hS] at Q_
  cases Q_
  cases iS
 have hdI:d≠s.heap.objs.size:=aaQ (Heap.lt_size Q_)
 have hSI:S≠s.heap.objs.size:=aaQ (Heap.lt_size hS)
 have hSf:S∉[s.heap.objs.size,d]:=fun hm=>by
  rcases aaN.mp hm with z | z
  ·exact hSI z
  ·exact Ra (aaw.mp z)
 have W:=(Walks.dictKeys (knd:=knd) (A:=A.in1) hh s.heap.objs.size d hdI kvs ep).toS
 unfold Builtin.List.listExtendWith
 refine wpAny_bind (wpAny_typeOf (T:="dict") hT ?_)
 have h1:Builtin.List.listSameRef (.ref S) (.ref d)=false:=by simp [Builtin.List.listSameRef,Ra]
 have h2:(Value.type "dict"==Value.type "list")=false:=by decide
 have h3:(Value.type "dict"==Value.type "tuple")=false:=by decide
 simp only [h1,h2,h3,aiu,ahA,if_false]
 refine wpAny_bind (wpAny_pyIter_dict hd hm ?_)
 have HA:(s.heap.push {cls:=.type "dict_keyiterator",data:=.fields #[.ref d,.int 0 0,.int kvs.length 0,.int ep 0]}).DictAt knd d kvs ep:=hm.at' fun o e=>Heap.get?_push_of_some _ e
 refine wpAny_bind (wpAny_holding (AL (knd:=knd) HA.dictOf ?_))
 have SU:=Heap.get?_push_of_some {cls:=.type "dict_keyiterator",data:=.fields #[.ref d,.int 0 0,.int kvs.length 0,.int ep 0]} hS
 have it₁:(s.heap.push {cls:=.type "dict_keyiterator",data:=.fields #[.ref d,.int 0 0,.int kvs.length 0,.int ep 0]}).IsKeyIter s.heap.objs.size d 0 kvs.length ep:=⟨_,Heap.get?_push_size _ rfl,rfl,rfl⟩
 have key:∀(h:Heap) (c₁ tk:Nat),h.IsKeyIter s.heap.objs.size d 0 kvs.length ep->h.DictAt knd d kvs ep->(∀b o,b≠S->s.heap.get? b=some o->h.get? b=some o)->
   h.get? S=some {cls:=.type "list",data:=.seq #[] c₁}->codeAny (model prog w) A (.builtin "list.extend.loop" ⟨[.ref S,.ref s.heap.objs.size,res],[]⟩) R {s with heap:=h,toks:=tk}:=by
  intro h c₁ tk hit hdm hk SU
  refine codeAny_extend_loopS W hlen S hSf res kvs.length 0 _ #[] c₁ rfl (aaX _) ⟨hit,hdm⟩ SU (ItemsOf.nil _) fun s' gj c' hm' Pg ow=> ?_
  rw [Moved.eq_with hm']
  refine hR s'.heap s'.toks gj c' (fun b o hb e=>hm'.heap b o (fun AM=> ?_) (hk b o hb e)) Pg ow
  rcases aaN.mp AM with e' | AM
  ·exact hb e'
  ·exact absurd (Heap.lt_size e) (by rw [aaw.mp AM];exact ab5 _)
 refine wpAny_ite_split (fun _=> ?_) (fun _=>wpAny_pure ⟨plainId_quiet F.plain_extend_loop _,key _ c₀ _ it₁ HA (fun b o _ e=>Heap.get?_push_of_some _ e) SU⟩)
 refine wpAny_bind (wpAny_rule ?_)
 refine wpAny_bind ?_
 show wpAny _ _ (updateSeq S (·.push .none) >>=fun _=>updateSeq S (·.pop)) _ _ _
 refine wpAny_bind (wpAny_updateSeq SU rfl ?_)
 have YQ:=Heap.get?_update_self (Obj.mapSeq (·.push Value.none)) SU rfl
 refine wpAny_updateSeq (hz:=by seq_fits) YQ rfl ?_
 have hS₃:=Heap.get?_update_self (Obj.mapSeq (·.pop)) YQ rfl
 refine wpAny_pure ⟨plainId_quiet F.plain_extend_loop _,key _ _ _ (it₁.at fun o e=> ?_) (HA.at' fun o e=> ?_) (fun b o hb e=> ?_) hS₃⟩
 ·exact (Heap.get?_update_other _ _ hSI).trans ((Heap.get?_update_other _ _ hSI).trans e)
 ·exact (Heap.get?_update_other _ _ Ra).trans ((Heap.get?_update_other _ _ Ra).trans e)
 ·exact (Heap.get?_update_other _ _ (aaO hb)).trans ((Heap.get?_update_other _ _ (aaO hb)).trans (Heap.get?_push_of_some _ e))
theorem oy {R:Result->Shared->Prop}{d:Addr}{kvs:List (KK×Value)}{ep:Nat}(hh:A.handled=none)(hd:(d==sysModules)=false)(hm:s.heap.DictAt knd d kvs ep)(hlen:kvs.length<=sizeLine)(S:Addr)(hS:s.heap.get? S=some {cls:=.type "list",data:=.seq #[]})
  (hR:∀h' tk gj c',(∀b o,b≠S->s.heap.get? b=some o->h'.get? b=some o)->h'.get? S=some {cls:=.type "list",dict:=none,data:=.seq gj c',slots:= #[]}->
   ItemsOf (fun i v=>∃k x,kvs[i]? =some (k,x)/\knd.is k v=true) gj kvs.length->R (.ok (.ret .none)) {s with heap:=h',toks:=tk}):
  wpAny (model prog w) A.in1 (Builtin.«list.__init__» ⟨[.ref S,.ref d],[]⟩)
   (fun fin s' =>match fin with | .done f=>R (.ok f) s' | .again c' =>c'.quiet=true/\codeAny (model prog w) A c' R s') (fun e s' =>R (.error e) s') s:=by
 obtain ⟨od,es,Q_,qg,iS,hk0,hp0,hn0⟩:=id hm
 have Ra:S≠d:=fun e=>by
  rw [e] at hS
  rw [hS] at Q_
  cases Q_
  cases iS
 show wpAny _ _ (do let old <- Builtin.List.listItems (.ref S);Builtin.List.listUpdate (.ref S) (fun _=> #[]);letGo old.toList.reverse;Builtin.List.listExtendWith (.ref S) (.ref d) .none) _ _ s
 refine wpAny_bind ?_
 unfold Builtin.List.listItems
 refine wpAny_bind (wpAny_seqItems hS rfl (wpAny_pure ?_))
 show wpAny _ _ (updateSeq S (fun _=> #[]) >>=fun _=>letGo (#[]:Array Value).toList.reverse >>=fun _=>Builtin.List.listExtendWith (.ref S) (.ref d) .none) _ _ s
 refine wpAny_bind (wpAny_updateSeq hS rfl ?_)
 have YQ:=Heap.get?_update_self (Obj.mapSeq (fun _=>(#[]:Array Value))) hS rfl
 have oth:∀b o,b≠S->s.heap.get? b=some o->(s.heap.update S (Obj.mapSeq (fun _=>(#[]:Array Value)))).get? b=some o:=
  fun b o hb e=>(Heap.get?_update_other _ _ (aaO hb)).trans e
 refine wpAny_bind (wpAny_letGo ?_)
 refine vh hh hd (hm.at' fun o e=>oth d o (aaO Ra) e) hlen S .none _ YQ fun h' tk gj c' hk Pg ow=> ?_
 exact hR h' tk gj c' (fun b o hb e=>hk b o hb (oth b o hb e)) Pg ow
theorem oz {Q:δ}{d:Addr}{kvs:List (KK×Value)}{ep:Nat}(hh:A.handled=none)(hd:(d==sysModules)=false)(hm:s.heap.DictAt knd d kvs ep)(hlen:kvs.length<=sizeLine)
  (hQ:∀h' tk gj c',(∀b o,s.heap.get? b=some o->h'.get? b=some o)->
   h'.get? s.heap.objs.size=some {cls:=.type "list",dict:=none,data:=.seq gj c',slots:= #[]}->ItemsOf (fun i v=>∃k x,kvs[i]? =some (k,x)/\knd.is k v=true) gj kvs.length->Q (.ref s.heap.objs.size) {s with heap:=h',toks:=tk}):
  wpAny (model prog w) A (call (.type "list") [.ref d]) Q E s:=by
 refine callType_codes (Q₁:=fun obj s₁=>obj=.ref s.heap.objs.size/\s₁={s with heap:=s.heap.push {cls:=.type "list",data:=.seq #[]}}) F.called_list (F.typeCall_list_1 _) F.entry_list_init
  (code_list_new _ ⟨rfl,rfl⟩) fun obj s₁ h₁=> ?_
 obtain ⟨rfl,rfl⟩:=h₁
 have hS:(s.heap.push {cls:=.type "list",data:=.seq #[]}).get? s.heap.objs.size=some {cls:=.type "list",data:=.seq #[]}:=Heap.get?_push_size _ rfl
 refine ⟨⟨_,hS,rfl⟩,F.args_list_init_2 _ _,oy (A:=A.in1) hh hd (hm.at' fun o e=>Heap.get?_push_of_some _ e) hlen _ hS fun h' tk gj c' hk Pg ow=> ?_⟩
 exact ⟨rfl,hQ h' tk gj c' (fun b o e=>hk b o (aaQ (Heap.lt_size e)) (Heap.get?_push_of_some _ e)) Pg ow⟩
end
theorem aH {α β:Type}{F:α->β->Prop}:∀{l₁:List α} {l₂:List β} {i:Nat} {a:α},Paired F l₁ l₂->l₁[i]? =some a->∃b,l₂[i]? =some b/\F a b
 | _,_,_,_,.nil,h=>by simp at h
 | _,_,0,_,.cons r _,h=>by
  cases h
  exact ⟨_,rfl,r⟩
 | _,_,i+1,_,.cons _ t,h=>by
  obtain ⟨b,e,f⟩:=aH (i:=i) t (by simpa using h)
  exact ⟨b,by simpa using e,f⟩
theorem eG {α β:Type}{F:α->β->Prop}:∀{l₁:List α} {l₂:List β},l₁.length=l₂.length->(∀(i:Nat) (a:α) (b:β),l₁[i]? =some a->l₂[i]? =some b->F a b)->Paired F l₁ l₂
 | [],[],_,_=>.nil
 | a::l₁,b::l₂,h,f=>.cons (f 0 a b rfl rfl) (eG (by simpa using h) fun i a b e1 e2=>f (i+1) a b (by simpa using e1) (by simpa using e2))
 | [],_::_,h,_=>by simp at h
 | _::_,[],h,_=>by simp at h
theorem yv {P:Program}{w:World}{k:Key}{u:Value}(h:(bj P w).is k u=true):RelV (kV k) u:=by
 rcases bT h with ⟨i,t,rfl,rfl⟩ | ⟨x,t,rfl,rfl⟩
 ·exact ⟨t,rfl⟩
 ·exact ⟨t,rfl⟩
section
variable {X:Cx}
inductive HB (xs:η)(H:Hp)(Q:VK):Prop where
 | mk (p:Addr) (kvs:γ) (_:xs=[.ref p]) (_:Rd H p (.dK kvs)) (_:∀l,H l=none->Q (.ref l) (upd H l (.lst (kvs.map fun kv=>kV kv.1)))):HB xs H Q
theorem dH (hc:X.calm=true):fw X (.type "list") HB:=by
 intro pins s σ H xs us Q I r h
 obtain ⟨p,kvs,rfl,hq,q⟩:=h
 obtain ⟨u,rfl,r1⟩:=vals1 r
 cases r1
 obtain ⟨z,hd,vs,rel,o,es,ep,ho,hx,iS,hk,hp,hn⟩:=i5 I.bH hq
 have hl:=rel.length
 refine oz (knd:=bj X.prog X.w) (I.ok.hd hc) hd ⟨o,es,ho,hx,iS,hk,hp,hn⟩ (by omega) fun h' tk gj c' kk hS ow=> ?_
 have EO :=I.bH.fresh (aah s.heap.objs.size)
 have rv:Vals (kvs.map fun kv=>kV kv.1) gj.toList:=eG (by have:=ow.1;simp;omega) fun i a b e1 e2=>by
  rw [Wp] at e1
  obtain ⟨kv,ek,rfl⟩:=aal.mp e1
  obtain ⟨q',eq,e3,_⟩:=aH rel ek
  obtain ⟨k,x,e4,e5⟩:=ow.2 i b (by simpa using e2)
  rw [eq] at e4
  cases e4
  rw [e3]
  exact yv e5
 have I2:Inv X pins σ (upd H s.heap.objs.size (.lst (kvs.map fun kv=>kV kv.1))) {s with heap:=h',toks:=tk}:=I.laid (t' :=tk) kk (aah _) ⟨by rw [aaa];exact z,gj.toList,c',rv,by simpa using hS⟩
 exact ⟨.ref _,_,I2,rfl,q _ EO⟩
theorem Inv.freeze {pins:ζ}{σ:L2.St}{H:Hp}{s:Shared}{d:Addr}{kvs:γ}{o:Obj}(I:Inv X pins σ H s)(e:H d=some (.dK kvs))(ho:s.heap.get? d=some o):Inv X pins σ (upd H d (.fk o (.dK kvs))) s:=by
 have nx:∀b u,H b=some u->b≠d->upd H d (.fk o (.dK kvs)) b=some u:=fun b u q n=>by rw [ao n];exact q
 refine I.step (g' :=s.gens) (t' :=s.toks) (d' :=s.drawn) (ch:=[]) (fun _ z=>nomatch z) (fun b o _ _ _ e _=>e) (fun b o _ _ _ e _=>⟨o.slots,e⟩) (fun b o _ _ n=>by rw [ao (fun z=>by rw [z,e] at n;cases n)];exact n) (fun b o _ e=>⟨o,e⟩)
  (fun b xs q=>nx b _ q fun z=>by rw [z,e] at q;cases q) (fun b o' u q=>nx b _ q fun z=>by rw [z,e] at q;cases q) (fun b ps q=>⟨#[],by rw [nx b _ q fun z=>by rw [z,e] at q;cases q];simp⟩) (fun m hm=>hm) (fun b u q=> ?_) I.bare
 by_cases hb:b=d
 ·subst hb
  rw [ah] at q
  cases q
  exact ⟨ho,I.bH b _ e⟩
 ·rw [ao hb] at q
  exact (I.bH b u q).rP (fun _ _ _ k=>k) (fun c k=>nx c _ k fun z=>by rw [z,e] at k;cases k) fun c xs k=>nx c _ k fun z=>by rw [z,e] at k;cases k
def Rb (d:Addr)(o:Obj)(kvs:γ):It:=
 ⟨fun i H=>H d=some (.fk o (.dK kvs))/\i < kvs.length,
  fun i H v H' =>∃p k x,kvs[i]? =some (k,x)/\v=.ref p/\H p=none/\H' =upd H p (.tup [kV k,x]),
  fun i H=>H d=some (.fk o (.dK kvs))/\kvs.length<=i⟩
theorem HC {P:Program}{w:World}{H:Hp}{h:Heap}{d:Addr}{o:Obj}{kvs:γ}{YR:Array DictEntry}{ep:Nat}(ok:iY P w H h)(e:H d=some (.fk o (.dK kvs)))(he:o.data=.dict YR ep):
  (d==sysModules)=false/\∃vs,KV kvs vs/\h.DictAt (bj P w) d vs ep/\kvs.length<=sizeLine:=by
 obtain ⟨h1,z,hd,vs,rel,o',es,wu,ho,hx,iS,hk,hp,hn⟩:=ok d _ e
 rw [h1] at ho
 cases ho
 rw [he] at iS
 cases iS
 exact ⟨hd,vs,rel,⟨o,YR,h1,hx,he,hk,hp,hn⟩,z⟩
theorem ky:entryFor table "dict_itemiterator.__iter__"=some Builtin.«dict_keyiterator.__iter__»:=
 entryFor_alias (id' :="dict_keyiterator.__iter__") (by kernel_rfl) (by first | rfl | decide+kernel | (unfold String.splitOn;simp+decide [String.splitOnAux])) (by decide+kernel) (by kernel_rfl)
theorem xg {P:Program}{w:World}{A:Around}{E:δ}{s:Shared}{it d:Addr}{i n ep:Nat}{ok ov:Value}{Q:δ}(st:IsItemIter s.heap it d i n ep ok ov)(h:Q (.ref it) s):wpAny (model P w) A (pyIter (.ref it)) Q E s:=by
 have hT:s.TypeIs (.ref it) "dict_itemiterator":=⟨_,st,rfl⟩
 refine wpAny_pyIter_slot hT F.slot_dict_itemiterator_iter (wpAny_call_entry F.slot_dict_itemiterator_iter hT ky ?_ (F.args_dict_itemiterator_iter_1 _))
 show wpAny _ _ (ret (.ref it)) _ _ s
 exact wpAny_pure ⟨_,rfl,"dict_itemiterator",_,hT,F.slot_dict_itemiterator_next.lookup,h⟩
theorem oA {P:Program}{w:World}{K:Frag}{es:List Expr}{k:Nat}{pos:Pos}(d it:Addr)(o:Obj)(kvs:γ){YR:Array DictEntry}{ep:Nat}(he:o.data=.dict YR ep)(ED:it≠d):
  Turn P w K (.Tuple es k pos) (Rb d o kvs) [it] it (fun i h=>∃ok ov,IsItemIter h it d i kvs.length ep ok ov) where
 mem:=by simp
 obj:=fun i h st b hb=>by
  have e:b=it:=by simpa using hb
  subst e
  obtain ⟨ok,ov,st⟩:=st
  exact ⟨_,st,fun v z=>by cases z⟩
 keep:=fun i h h' st k=>by
  obtain ⟨ok,ov,st⟩:=st
  exact ⟨ok,ov,k it (by simp) _ st⟩
 item:=by
  intro X hP hw hK hc i pins s σ H E I hf st hg
  subst hP hw hK
  obtain ⟨ok,ov,st⟩:=st
  obtain ⟨fz,hi⟩:=hg
  obtain ⟨hd,vs,rel,da,_⟩:=HC I.bH fz he
  have ek:kvs[i]? =some kvs[i]:=gE hi
  obtain ⟨⟨k',u⟩,ev,e1,ru⟩:=aH rel ek
  have lv:=rel.length
  rw [lv] at st
  refine wpAny_pyNext_items_item st da ev fun key h' ON out tup sz kk=> ?_
  refine ⟨_,rfl,wpAny_letOwnedTupleGo_items (s:={s with heap:=h' }) out fun Kd aau sb=> ?_⟩
  have hsz:∀c o,s.heap.get? c=some o->s.heap.objs.size≠c:=fun c o e=>ahX (Heap.lt_size e)
  have tz:s.heap.objs.size≠it:=hsz _ _ st
  have nz:∀c,c≠it->∀o,h'.get? c=some o->Kd.get? c=some o:=fun c hc o e=>(sb.2 c hc).trans e
  have hn:=I.bH.fresh (aah s.heap.objs.size)
  have wB :kvs[i].1=k' :=e1
  have I2:Inv X pins σ (upd H s.heap.objs.size (.tup [kV kvs[i].1,kvs[i].2])) {s with heap:=Kd,toks:=s.toks}:=
   Inv.sx I (fun b o hb e=>nz b (by simpa using hb) o (kk b o (by simpa using hb) e)) hf (aah _) (by show 2<=sizeLine;decide) (its:=[key,u]) (.cons (by rw [wB];exact yv ON) (.cons ru .nil)) ⟨_,nz _ tz _ tup,rfl,_,rfl⟩
  refine ⟨.ref s.heap.objs.size,_,I2,rfl,⟨s.heap.objs.size,kvs[i].1,kvs[i].2,ek,rfl,hn,rfl⟩,⟨_,_,by rw [lv];exact aau⟩,fun b hb=> ?_⟩
  have eb:b=it:=by simpa using hb
  rw [ao (by rw [eb];exact aaO tz)]
  exact (hf b hb).1
 done:=by
  intro X hP hw hK hc i pins s σ H E I hf st hg
  subst hP hw hK
  obtain ⟨ok,ov,st⟩:=st
  obtain ⟨fz,hi⟩:=hg
  obtain ⟨hd,vs,rel,da,_⟩:=HC I.bH fz he
  have lv:=rel.length
  rw [lv] at st
  obtain ⟨f0,f1,f2,f3,f4,f5⟩:=hf it (by simp)
  exact wpAny_pyNext_items_end (I.ok.hd hc) st da (aae (by omega)) fun h' eb=>⟨rfl,I.turned (t' :=s.toks) (fun b o hb e=>eb b o hb e) f0 f1 f3 f4 f5⟩
 self:=fun _ _ _ _ _ st h=>by
  obtain ⟨ok,ov,st⟩:=st
  exact xg st h
inductive yw (R:(It->Hp->Prop))(x:V)(H1:Hp):Prop where
 | mk (d kvs:_) (_:x=.ref d) (_:H1 d=some (.dK kvs)) (_:∀o,R (Rb d o kvs) (upd H1 d (.fk o (.dK kvs)))):yw R x H1
def Ph (te:TE):TI:=fun σ H R=>te σ H fun x H1=>yw R x H1
theorem jH {e:Expr}{te:TE}{apos cJ:Pos}{es:List Expr}{k:Nat}{rZ:Pos}(ho:PE X e te)(jz:attributeBase e "items" X.env (eval e X.env)=eval e X.env:=by rfl)(jA:(apos.endLine==cJ.line)=true:=by rfl):
  PI X (.Tuple es k rZ) (.Call (.Attribute e "items" apos) [] [] cJ) (Ph te):=by
 intro pins s σ H R I h
 refine wpAny_Call_method0_late jz jA (bZ (ho pins s σ H _ I h) fun v s1 ⟨x,H1,I1,r1,q1⟩=> ?_)
 obtain ⟨d,kvs,rfl,e,q⟩:=q1
 cases r1
 obtain ⟨z,hd,vs,rel,o,SV,ep,HD,hx,iS,hk,hp,hn⟩:=lK I1.bH e
 obtain ⟨h1,h2⟩:=FP (T:="dict") I1 (show RelV (.ref d) (.ref d) from rfl) (.inr (.inr (.inl ⟨rfl,.inl ⟨kvs,e⟩⟩)))
 have da:s1.heap.DictAt (bj X.prog X.w) d vs ep:=⟨o,SV,HD,hx,iS,hk,hp,hn⟩
 have lv:=rel.length
 refine ⟨"dict","dict.items",F.plainAttrs_dict,F.slot_dict_items,F.type_dict_items,h1,h2,Calls.callWith_builtin rfl (PySem.evalArgs_none ?_)⟩
 refine call_meetsIn F.slot_dict_items h1 F.entry_dict_items (F.args_dict_items_1 _) (meets_dict_items (bj X.prog X.w) d hd) ⟨⟨vs,da.dictOf⟩,?_⟩
 have I2:=Inv.freeze I1 e HD
 have SW:(s1.heap.push {cls:=.type "dict_items",data:=.fields #[.ref d]}).DictAt (bj X.prog X.w) d vs ep:=da.at' fun o e=>Heap.get?_push_of_some _ e
 show wpAny (model X.prog X.w) X.A (pyIter (.ref s1.heap.objs.size)) _ _ _
 refine wpAny_pyIter_items (s:={s1 with heap:=s1.heap.push {cls:=.type "dict_items",data:=.fields #[.ref d]}}) ⟨_,Heap.get?_push_size _ rfl,rfl,rfl⟩ SW ?_
 have sz:(s1.heap.push {cls:=.type "dict_items",data:=.fields #[.ref d]}).objs.size=s1.heap.objs.size+1:=Heap.size_push ..
 have ne:(s1.heap.push {cls:=.type "dict_items",data:=.fields #[.ref d]}).objs.size≠d:=by
  rw [sz]
  exact aaO (aaQ (abQ (Heap.lt_size HD)))
 have I3:Inv X pins σ (upd H1 d (.fk o (.dK kvs))) {s1 with heap:=(s1.heap.push {cls:=.type "dict_items",data:=.fields #[.ref d]}).push {cls:=.type "dict_itemiterator",data:=.fields #[.none,.bool false,.ref d,.int 0 0,.int vs.length 0,.int ep 0,.none,.none]}}:=I2.kept (t' :=s1.toks) fun b o e=>Heap.get?_push_of_some _ (Heap.get?_push_of_some _ e)
 refine ⟨_,[_],_,_,_,rfl,I3,oA d _ o kvs iS ne,⟨_,_,by rw [lv];exact Heap.get?_push_size _ rfl⟩,fun b hb=> ?_,q o⟩
 have eb:b=(s1.heap.push {cls:=.type "dict_items",data:=.fields #[.ref d]}).objs.size:=by simpa using hb
 have le:s1.heap.objs.size<=b:=by rw [eb,sz];exact af_ _
 exact I2.nG le (I2.bH.fresh le)
end
end Ty
set_option maxHeartbeats 4000000
namespace Ty
def ev:List Int->(Nat->Rat)->Rat
 | [],_=>0
 | a::r,z=>(a:Rat)*z 0+ev r (fun i=>z (i+1))
theorem HE:∀(l:ξ) (z y:Nat->Rat),ev l (fun i=>z i+y i)=ev l z+ev l y
 | [],_,_=>by simp [ev];grind
 | a::r,z,y=>by
  simp only [ev]
  rw [HE r (fun i=>z (i+1)) (fun i=>y (i+1))]
  grind
theorem mV:∀(l:ξ) (z:Nat->Rat),(∀j,((l.getD j 0:Int):Rat)*z j=0)->ev l z=0
 | [],_,_=>rfl
 | a::r,z,h=>by
  have h0:=h 0
  have ih:=mV r (fun i=>z (i+1)) (fun j=>by simpa using h (j+1))
  simp only [ev]
  rw [ih]
  simp at h0
  grind
theorem sD:∀(l:ξ) (z:Nat->Rat) (p:Nat),(∀j,j≠p->((l.getD j 0:Int):Rat)*z j=0)->ev l z=((l.getD p 0:Int):Rat)*z p
 | [],_,_,_=>by simp [ev]
 | a::r,z,0,h=>by
  have ih:=mV r (fun i=>z (i+1)) (fun j=>by simpa using h (j+1) (by omega))
  simp only [ev]
  rw [ih]
  simp
  grind
 | a::r,z,p+1,h=>by
  have h0:=h 0 (by omega)
  have ih:=sD r (fun i=>z (i+1)) p (fun j hj=>by simpa using h (j+1) (by omega))
  simp only [ev]
  rw [ih]
  simp at h0
  simp
  grind
theorem HF {s t u:Int}:∀{new line lead:ξ},new.length=line.length->lead.length=line.length->(∀j,s*new.getD j 0=t*line.getD j 0 - u*lead.getD j 0)->∀z:Nat->Rat,(s:Rat)*ev new z=t*ev line z - u*ev lead z
 | [],[],[],_,_,_,z=>by simp [ev];grind
 | a::new,b::line,c::lead,h1,h2,h,z=>by
  have h0:=h 0
  have ih:=HF (by simpa using h1) (by simpa using h2) (fun j=>by simpa using h (j+1)) (fun i=>z (i+1))
  simp at h0
  have h0' :(s:Rat)*a=t*b - u*c:=by exact_mod_cast h0
  simp only [ev]
  grind
 | [],_::_,_,h,_,_,_=>by simp at h
 | _::_,[],_,h,_,_,_=>by simp at h
 | _,[],_::_,_,h,_,_=>by simp at h
 | _,_::_,[],_,h,_,_=>by simp at h
def eI:List Rat->List (List Int)->Nat->Rat
 | c::y,o::os,j=>c*((o.getD j 0:Int):Rat)+eI y os j
 | _,_,_=>0
theorem vi {s t u:Rat}(hs:s≠0)(j:Nat):∀(os:ε) (y1 y2:List Rat),y1.length=os.length->y2.length=os.length->s*eI (abJ (fun a b=>(t*a - u*b) / s) y1 y2) os j=t*eI y1 os j - u*eI y2 os j
 | [],[],[],_,_=>by simp [eI];grind
 | o::os,a::y1,b::y2,h1,h2=>by
  have ih:=vi (t:=t) (u:=u) hs j os y1 y2 (by simpa using h1) (by simpa using h2)
  simp only [aif,eI]
  grind
 | [],_::_,_,h,_=>by simp at h
 | [],[],_::_,_,h=>by simp at h
 | _::_,[],_,h,_=>by simp at h
 | _::_,_::_,[],_,h=>by simp at h
theorem rm (j:Nat):∀(os:ε),eI (aaH os.length 0) os j=0
 | []=>rfl
 | o::os=>by
  simp only [aaY,ab3,eI]
  rw [rm j os]
  grind
def sE (os:ε)(l:ξ):Prop:=∃y:List Rat,y.length=os.length/\∀j,((l.getD j 0:Int):Rat)=eI y os j
theorem vj:∀{os:ε} {l:ξ},l∈os->sE os l
 | o::os,l,h=>by
  rcases aaN.mp h with z | z
  ·subst z
   refine ⟨1::aaH os.length 0,by simp,fun j=> ?_⟩
   simp only [eI]
   rw [rm]
   grind
  ·obtain ⟨y,hl,hy⟩:=vj z
   refine ⟨0::y,by simp [hl],fun j=> ?_⟩
   simp only [eI]
   rw [<- hy j]
   grind
theorem HG {os:ε}{new line lead:ξ}{s t u:Int}(hs:s≠0)(h:∀j,s*new.getD j 0=t*line.getD j 0 - u*lead.getD j 0)(h1:sE os line)(h2:sE os lead):sE os new:=by
 obtain ⟨y1,l1,e1⟩:=h1
 obtain ⟨y2,l2,e2⟩:=h2
 have Kc :=cq hs
 refine ⟨abJ (fun a b=>((t:Rat)*a - u*b) / s) y1 y2,by simp [l1,l2],fun j=> ?_⟩
 have k:=vi (t:=(t:Rat)) (u:=(u:Rat)) Kc j os y1 y2 l1 l2
 rw [<- e1 j, <- e2 j] at k
 have h' :(s:Rat)*(new.getD j 0:Int)=t*(line.getD j 0:Int) - u*(lead.getD j 0:Int):=by exact_mod_cast h j
 rw [<- h'] at k
 grind
theorem oB (k:Rat)(j:Nat):∀(os:ε) (y:List Rat),eI (y.map (fun a=>a*k)) os j=eI y os j*k
 | [],_=>by cases ‹List Rat› <;> simp [eI] <;> grind
 | _::_,[]=>by simp [eI]
 | o::os,a::y=>by
  simp only [aac,eI]
  rw [oB k j os y]
  grind
structure qa (line lead new:ξ)(c:Nat):Prop where
 len:new.length=line.length
 HH:new.getD c 0=0
 gD:∃s t u:Int,s≠0/\t≠0/\∀j,s*new.getD j 0=t*line.getD j 0 - u*lead.getD j 0
theorem qa.zero {line lead new:ξ}{c:Nat}(h:qa line lead new c){j:Nat}(h1:line.getD j 0=0)(h2:lead.getD j 0=0):new.getD j 0=0:=by
 obtain ⟨s,t,u,hs,_,e⟩:=h.gD
 have:=e j
 rw [h1,h2,ahF,ahF,Int.sub_self] at this
 rcases aik.mp this with z | z
 ·exact absurd z hs
 ·exact z
theorem qa.at {line lead new:ξ}{c:Nat}(h:qa line lead new c){j:Nat}(h2:lead.getD j 0=0)(h1:line.getD j 0≠0):new.getD j 0≠0:=by
 obtain ⟨s,t,u,hs,ht,e⟩:=h.gD
 have:=e j
 rw [h2] at this
 intro z
 rw [z,ahF,ahF,Int.sub_zero] at this
 rcases aik.mp this.symm with y | y
 ·exact ht y
 ·exact h1 y
theorem qa.comb {os:ε}{line lead new:ξ}{c:Nat}(h:qa line lead new c)(h1:sE os line)(h2:sE os lead):sE os new:=by
 obtain ⟨s,t,u,hs,ht,e⟩:=h.gD
 exact HG hs e h1 h2
theorem qa.ev {line lead new:ξ}{c:Nat}(h:qa line lead new c)(hl:lead.length=line.length){z:Nat->Rat}(h2:Ty.ev lead z=0):Ty.ev new z=0 ↔ Ty.ev line z=0:=by
 obtain ⟨s,t,u,hs,ht,e⟩:=h.gD
 have k:=HF h.len hl e z
 rw [h2] at k
 have Kc :=cq hs
 have ht' :=cq ht
 constructor
 ·intro w
  rw [w] at k
  grind
 ·intro w
  rw [w] at k
  grind
end Ty
set_option maxHeartbeats 4000000
namespace Ty
open PySem PySem.Spec PyProof.Rows L2
def Rc (K:Frag)(a:Addr):It:=
 ⟨fun i H=>∃xs x,a8 K H a xs/\xs[i]? =some x,
  fun i H v H' =>∃p x,(∀xs,a8 K H a xs->xs[i]? =some x)/\v=.ref p/\H p=none/\H' =upd H p (.tup [.int (i:Int),x]),
  fun i H=>∃xs,a8 K H a xs/\xs.length<=i⟩
theorem AN {P:Program}{w:World}{K:Frag}{es:List Expr}{k:Nat}{pos:Pos}(a e it:Addr)(ED:e≠it):
  Turn P w K (.Tuple es k pos) (Rc K a) [e,it] e (fun i h=>(∃old,IsEnum h e it ((i:Nat):Int) old)/\h.IsListIter it a i) where
 mem:=by simp
 obj:=fun i h st c hc=>by
  obtain ⟨⟨old,he⟩,⟨o1,e1,c1,d1⟩⟩:=st
  have uD :c=e\/c=it:=by simpa using hc
  rcases uD with z | z <;> subst z
  ·exact ⟨_,he,fun v z=>by cases z⟩
  ·exact ⟨_,e1,fun v z=>by rw [d1] at z;cases z⟩
 keep:=fun i h h' st k=>by
  obtain ⟨⟨old,he⟩,h1⟩:=st
  exact ⟨⟨old,k e (by simp) _ he⟩,h1.at fun o e=>k it (by simp) o e⟩
 item:=by
  intro X hP hw hK hc i pins s σ H E I hf st hg
  subst hP hw hK
  obtain ⟨⟨old,he⟩,h1⟩:=st
  obtain ⟨xs,x,qx,ex⟩:=hg
  obtain ⟨its,rv,p,_⟩:=I.list qx
  obtain ⟨u,hu,ru⟩:=rv.get ex
  refine wpAny_pyNext_enum_item he h1 p.isList (x:=u) (by simpa using hu) ED fun h' a1 a2 a3 a4 a5=> ?_
  refine ⟨_,rfl,wpAny_letOwnedTupleGo_enum (s:={s with heap:=h',toks:=s.toks+1}) a1 fun Kd b1 sb=> ?_⟩
  have nz:∀c,c≠e->∀o,h'.get? c=some o->Kd.get? c=some o:=fun c hc o q=>(sb.2 c hc).trans q
  have kk:∀b o,b∉[e,it]->s.heap.get? b=some o->Kd.get? b=some o:=fun b o hb q=>by
   have iQ :b≠e/\b≠it:=by simpa using hb
   exact nz b iQ.1 o (a5 b o iQ.1 iQ.2 q)
  have sz:∀c o,s.heap.get? c=some o->s.heap.objs.size≠c:=fun c o q=>ahX (Heap.lt_size q)
  have tz:s.heap.objs.size≠e:=sz _ _ he
  have hn:=I.bH.fresh (aah s.heap.objs.size)
  have I2:Inv X pins σ (upd H s.heap.objs.size (.tup [.int (i:Int),x])) {s with heap:=Kd,toks:=s.toks+1}:=
   Inv.sx I kk hf (aah _) (by show 2<=sizeLine;decide) (its:=[.int i s.toks,u]) (.cons ⟨_,rfl⟩ (.cons ru .nil)) ⟨_,nz _ tz _ a3,rfl,_,rfl⟩
  refine ⟨.ref s.heap.objs.size,_,I2,rfl,⟨s.heap.objs.size,x,fun xs' q=>by rw [I.hV q qx];exact ex,rfl,hn,rfl⟩,⟨⟨_,by exact b1⟩,a2.at fun o q=>nz _ (aaO ED) o q⟩,fun b hb=> ?_⟩
  have ob:∃o,s.heap.get? b=some o:=by
   obtain ⟨o1,e1,_⟩:=h1
   have uD :b=e\/b=it:=by simpa using hb
   rcases uD with z | z <;> subst z
   ·exact ⟨_,he⟩
   ·exact ⟨_,e1⟩
  obtain ⟨o,q⟩:=ob
  rw [ao (aaO (sz _ _ q))]
  exact (hf b hb).1
 done:=by
  intro X hP hw hK hc i pins s σ H E I hf st hg
  subst hP hw hK
  obtain ⟨⟨old,he⟩,h1⟩:=st
  obtain ⟨xs,qx,ee⟩:=hg
  obtain ⟨its,rv,p,_⟩:=I.list qx
  have l1:=rv.length
  refine wpAny_pyNext_enum_end (I.ok.hd hc) he h1 p.isList (by simp;omega) fun h' kk=>⟨rfl,Inv.mT I (fun b o hb q=> ?_) hf⟩
  have iQ :b≠e/\b≠it:=by simpa using hb
  exact kk b o iQ.2 q
 self:=fun _ _ _ _ _ st h=>by
  obtain ⟨⟨old,he⟩,_⟩:=st
  exact wpAny_pyIter_enum he h
theorem boot_enumerate:bootBuiltins "enumerate"=some (.type "enumerate"):=by decide+kernel
section
variable {X:Cx}
inductive HI (K:Frag)(R:(It->Hp->Prop))(vs:η)(H1:Hp):Prop where
 | mk (a:_) (_:vs=[.ref a]) (_:(∃xs,a8 K H1 a xs)) (_:R (Rc K a) H1):HI K R vs H1
def SX (K:Frag)(ta:TA):TI:=fun σ H R=>ta σ H fun vs H1=>HI K R vs H1
theorem sG {e1:Expr}{ta:TA}{p pos:Pos}{es:List Expr}{k:Nat}{rZ:Pos}(hg:Gl X "enumerate")(hm:X.mg "enumerate"=none)(ha:PA X [e1] ta)(hs:starEach [e1] X.env=[(false,eval e1 X.env)]:=by rfl):
  PI X (.Tuple es k rZ) (.Call (.Name "enumerate" p) [e1] [] pos) (SX X.K ta):=by
 intro pins s σ H R I h
 refine Call_ (gG I hg hm boot_enumerate (PyProof.Rows.callWith_type1 (bZ (ha pos pins s σ H _ I h) fun us s1 ⟨vs,H1,I1,r1,q1⟩=> ?_) hs rfl))
 obtain ⟨a,e,⟨xs,hx⟩,q⟩:=q1
 subst e
 cases r1 with
 | cons r rr=>
  cases rr
  cases r
  obtain ⟨its,rv,pl,_⟩:=I1.list hx
  refine call_enumerate_list pl.isList fun h' hE hI hsz hk=>wpAny_pyIter_enum (s:={s1 with heap:=h' }) hE ?_
  refine ⟨s1.heap.objs.size+1,[s1.heap.objs.size+1,s1.heap.objs.size],_,_,H1,rfl,I1.kept (t' :=s1.toks) hk,AN a _ _ (Nat.succ_ne_self _),⟨⟨_,hE⟩,hI⟩,fun c hc=> ?_,q⟩
  have uD :s1.heap.objs.size<=c:=by
   have:c=s1.heap.objs.size+1\/c=s1.heap.objs.size:=by simpa using hc
   simp only [Addr] at*
   omega
  exact I1.nG uD (I1.bH.fresh uD)
theorem any_range (bs:List Bool):(aa_ bs.length).any (fun i=>(bs[i]?).getD true)=bs.any id:=by
 rw [abj,ahP,ahP]
 constructor
 ·rintro ⟨i,hi,h⟩
  have Pj :i < bs.length:=abb.mp hi
  rw [gE Pj] at h
  exact ⟨bs[i],abu Pj,h⟩
 ·rintro ⟨b,hb,h⟩
  obtain ⟨i,hi⟩:=aad hb
  exact ⟨i,abb.mpr (be.mp hi).1,by rw [hi];exact h⟩
inductive Pk (K:Frag)(xs:η)(H:Hp)(Q:VK):Prop where
 | mk (p:Addr) (bs:List Bool) (_:xs=[.ref p]) (_:a8 K H p (bs.map V.bl)) (_:Q (.bl (bs.any id)) H):Pk K xs H Q
theorem AO (hc:X.calm=true):fw X (.builtin "any") (Pk X.K):=by
 intro pins s σ H xs us Q I r h
 obtain ⟨p,bs,rfl,hq,q⟩:=h
 obtain ⟨u,rfl,r1⟩:=vals1 r
 cases r1
 obtain ⟨its,rv,pl,hz⟩:=I.list hq
 refine call_any_walk (wpAny_pyIter_list pl.isList ?_)
 have ED:p≠s.heap.objs.size:=by obtain ⟨o,ho,_⟩:=pl.isList;exact aaQ (Heap.lt_size ho)
 have I1:Inv X pins σ H {s with heap:=s.heap.push {cls:=.type "list_iterator",data:=.fields #[.ref p,.int 0 0]}}:=I.kept (t' :=s.toks) fun b o e=>Heap.get?_push_of_some _ e
 obtain ⟨f0,f1,f2,f3,f4,f5⟩:=I.nG (H' :=H) (aah s.heap.objs.size) (I.bH.fresh (aah _))
 have hl:its.length=bs.length:=by rw [<- rv.length,aaa]
 refine ⟨s.heap.objs.size,_,_,_,_,_,fun i=>(bs[i]?).getD true,rfl,Walks.list (A:=X.A.in1) (I.ok.hd hc) s.heap.objs.size p ED its.toArray,⟨⟨_,Heap.get?_push_size _ rfl,rfl,rfl⟩,pl.isList.at fun o e=>Heap.get?_push_of_some _ e⟩,?_,fun h' tk kk=> ?_⟩
 ·intro i v s' Q' E' hv qi
  have YK :its[i]? =some v:=by simpa using hv
  have hi:i < bs.length:=by rw [<- hl];exact (be.mp YK).1
  have eb:(bs.map V.bl)[i]? =some (.bl bs[i]):=by rw [Wp,gE hi];rfl
  obtain ⟨u,eu,ru⟩:=rv.get eb
  rw [YK] at eu
  cases eu
  cases ru
  dsimp only at qi
  rw [gE hi] at qi
  exact wpAny_truthy_bool qi
 ·refine ⟨.bl (bs.any id),H,I1.turned (t' :=tk) (it:=s.heap.objs.size) (fun b o hb e=>kk b o (by simpa using hb) e) f0 f1 f3 f4 f5,?_,q⟩
  show _=_
  rw [<- any_range bs,aaE,hl]
theorem SY:bootBuiltins "any"=some (.builtin "any"):=by decide+kernel
end
theorem vk {K:Frag}{a:Addr}{xs:η}{g:TG}{tb:TS}{D:Ends}{σ:L2.St}{H:Hp}(Pv:Nat->L2.St->Hp->Prop)(h0:Pv 0 σ H)(hl:∀i σ H,i<=xs.length->Pv i σ H->a8 K H a xs)
  (hs:∀i x σ H p,xs[i]? =some x->Pv i σ H->H p=none->g (.ref p) σ (upd H p (.tup [.int (i:Int),x])) fun σ2 H2=>tb {D with nx:=Pv (i+1),ct:=Pv (i+1),bk:=D.nx} σ2 H2) (hd:∀σ H,Pv xs.length σ H->D.nx σ H):
  ∃W:Nat->Nat->L2.St->Hp->Prop,(∃m,W 0 m σ H)/\∀i m σ H,W i m σ H->
   ((Rc K a).stop i H/\D.nx σ H)\/((Rc K a).go i H/\∃N:L2.St->Hp->Prop,(∀σ' H',N σ' H' ->∃m',m' < m/\W (i+1) m' σ' H')/\∀x H',(Rc K a).EW i H x H' ->g x σ H' fun σ2 H2=>tb {D with nx:=N,ct:=N,bk:=D.nx} σ2 H2):=by
 refine ⟨fun i m σ H=>m=xs.length - i/\i<=xs.length/\Pv i σ H,⟨xs.length,by simp,aaX _,h0⟩,?_⟩
 rintro i m σ H ⟨rfl,hi,p⟩
 have q:=hl i σ H hi p
 by_cases kc:i < xs.length
 ·have e:xs[i]? =some xs[i]:=gE kc
  refine .inr ⟨⟨xs,_,q,e⟩,Pv (i+1),fun σ' H' z=>⟨xs.length - (i+1),by omega,rfl,by omega,z⟩,fun x H' y=> ?_⟩
  obtain ⟨pp,x',y1,rfl,np,rfl⟩:=y
  exact hs i x' σ H pp (y1 xs q) p np
 ·have e:i=xs.length:=by omega
  subst e
  exact .inl ⟨⟨xs,q,aah _⟩,hd σ H p⟩
theorem fq {d:Addr}{o:Obj}{kvs:γ}{g:TG}{tb:TS}{D:Ends}{σ:L2.St}{H:Hp}(Pv:Nat->L2.St->Hp->Prop)(h0:Pv 0 σ H)(hl:∀i σ H,i<=kvs.length->Pv i σ H->H d=some (.fk o (.dK kvs)))
  (hs:∀i k x σ H p,kvs[i]? =some (k,x)->Pv i σ H->H p=none->g (.ref p) σ (upd H p (.tup [kV k,x])) fun σ2 H2=>tb {D with nx:=Pv (i+1),ct:=Pv (i+1),bk:=D.nx} σ2 H2) (hd:∀σ H,Pv kvs.length σ H->D.nx σ H):
  ∃W:Nat->Nat->L2.St->Hp->Prop,(∃m,W 0 m σ H)/\∀i m σ H,W i m σ H->
   ((Rb d o kvs).stop i H/\D.nx σ H)\/((Rb d o kvs).go i H/\∃N:L2.St->Hp->Prop,(∀σ' H',N σ' H' ->∃m',m' < m/\W (i+1) m' σ' H')/\∀x H',(Rb d o kvs).EW i H x H' ->g x σ H' fun σ2 H2=>tb {D with nx:=N,ct:=N,bk:=D.nx} σ2 H2):=by
 refine ⟨fun i m σ H=>m=kvs.length - i/\i<=kvs.length/\Pv i σ H,⟨kvs.length,by simp,aaX _,h0⟩,?_⟩
 rintro i m σ H ⟨rfl,hi,p⟩
 have q:=hl i σ H hi p
 by_cases kc:i < kvs.length
 ·refine .inr ⟨⟨q,kc⟩,Pv (i+1),fun σ' H' z=>⟨kvs.length - (i+1),by omega,rfl,by omega,z⟩,fun x H' y=> ?_⟩
  obtain ⟨pp,k,x',y1,rfl,np,rfl⟩:=y
  exact hs i k x' σ H pp y1 p np
 ·have e:i=kvs.length:=by omega
  subst e
  exact .inl ⟨⟨q,aah _⟩,hd σ H p⟩
open Builtin.Int (intBits)
section
variable {X:Cx}
def HJ (i j:Int):Prop:=intBits i+intBits j<=134217728
theorem iF:jq X (binaryOp .Mult) (rI HJ fun i j=>.int (i*j)):=
 YJ fun _ _ _ _ _ _ _ hc q=>mul_int q (IntMulOk.of_le (aah _) (aah _) hc)
theorem gk {a b:Int}{m n:Nat}(h1:a.natAbs<=2^m)(h2:b.natAbs<=2^n)(h:m+n<=134000000):HJ a b:=by
 have x1:=iC h1 (abc m)
 have x2:=iC h2 (abc n)
 unfold HJ
 omega
inductive NK (K:Frag)(xs:η)(H:Hp)(Q:VK):Prop where
 | mk (p ys:_) (_:xs=[.ref p,.ty "tuple"]) (_:bN K H p ys) (_:Q (.bl true) H):NK K xs H Q
theorem AQ:fw X (.builtin "isinstance") (NK X.K):=by
 intro pins s σ H xs us Q I r h
 obtain ⟨p,ys,rfl,hq,q⟩:=h
 obtain ⟨u,w,rfl,r1,r2⟩:=vals2 r
 obtain rfl:=yq (c:=.ty "tuple") rfl r2
 cases r1
 obtain ⟨its,rv,⟨o,h1,h2,_⟩,_⟩:=I.tuple hq
 have e:PySem.W.kitOne X.K (.type "tuple") (O0 (.ty "tuple"))=some true:=by unfold PySem.W.kitOne;rw [if_pos (by decide)]
 exact PySem.W.kia_one PySem.W.kitx_tuple I.ja ⟨o,h1,h2⟩ e (fun z=>nomatch z) fun tk=>⟨.bl true,H,I.tok tk,rfl,q⟩
end
theorem au.cG {K:Frag}{H H' :Hp}{a:Addr}{xs:η}(e:au H H')(h:bN K H a xs):bN K H' a xs:=by
 rcases h with (h | ⟨o,h⟩) | h
 ·exact .inl (.inl (e _ _ h))
 ·exact .inl (.inr ⟨o,e _ _ h⟩)
 ·exact .inr h
section
variable {D:Addr}{te:TE}{cap:L2.St}{H1:Hp}{Q:VK}
end
def lM (K:Frag)(H:Hp)(v:V)(q:Int×Int):Prop:=∃p,v=.ref p/\bN K H p [.int q.1,.int q.2]
theorem lM.same {K:Frag}{H H' :Hp}{v:V}{q:Int×Int}(h:lM K H v q)(s:au H H'):lM K H' v q:=by
 obtain ⟨p,e,k⟩:=h
 exact ⟨p,e,Ty.au.cG s k⟩
def c_ (K:Frag)(H:Hp)(us:η)(qs:π):Prop:=us.length=qs.length/\∀(i:Nat) (u:V) (q:Int×Int),us[i]? =some u->qs[i]? =some q->lM K H u q
theorem c_.same {K:Frag}{H H' :Hp}{us:η}{qs:π}(h:c_ K H us qs)(s:au H H'):c_ K H' us qs:=⟨h.1,fun i u q e1 e2=>(h.2 i u q e1 e2).same s⟩
theorem c_.set {K:Frag}{H:Hp}{us:η}{qs:π}{j:Nat}{v:V}{q:Int×Int}(h:c_ K H us qs)(n:lM K H v q):c_ K H (us.set j v) (qs.set j q):=by
 refine ⟨by simp [h.1],fun i u q' e1 e2=> ?_⟩
 rw [aa7] at e1 e2
 by_cases c:j=i
 ·subst c
  rw [if_pos rfl] at e1 e2
  have l:=h.1
  by_cases hj:j < us.length
  ·rw [if_pos hj] at e1
   rw [if_pos (by omega)] at e2
   cases e1
   cases e2
   exact n
  ·rw [if_neg hj] at e1
   cases e1
 ·rw [if_neg c] at e1 e2
  exact h.2 i u q' e1 e2
def aav (K:Frag)(H:Hp)(a:Addr)(qs:π):Prop:=∃us,a8 K H a us/\c_ K H us qs
def sumTo:Nat->(Nat->Rat)->Rat
 | 0,_=>0
 | n+1,f=>f 0+sumTo n (fun i=>f (i+1))
theorem kz (c:Rat):∀(n:Nat) (f:Nat->Rat),sumTo n (fun i=>c*f i)=c*sumTo n f
 | 0,_=>by simp [sumTo]
 | n+1,f=>by
  simp only [sumTo]
  rw [kz c n (fun i=>f (i+1))]
  grind
theorem oC:∀(n:Nat) (f:Nat->Rat),(∀i,f i=0)->sumTo n f=0
 | 0,_,_=>rfl
 | n+1,f,h=>by
  simp only [sumTo]
  rw [h 0,oC n (fun i=>f (i+1)) (fun i=>h (i+1))]
  grind
theorem vm:∀(n:Nat) (l:ξ) (z:Nat->Rat),l.length<=n->ev l z=sumTo n (fun j=>((l.getD j 0:Int):Rat)*z j)
 | n,[],z,_=>by
  rw [oC n _ (fun i=>by simp)]
  rfl
 | 0,_::_,_,h=>by simp at h
 | n+1,a::r,z,h=>by
  simp only [ev,sumTo]
  rw [vm n r (fun i=>z (i+1)) (by simpa using h)]
  simp
theorem Pl {H:Hp}{d:Addr}{o:HO}(e:H d=some o):upd H d o=H:=by
 funext b
 by_cases z:b=d
 ·subst z
  rw [ah,e]
 ·rw [ao z]
section
variable {X:Cx}
def Lu (te:TE):TI:=fun σ H R=>te σ H fun x H1=>∃d kvs,x=.ref d/\Rd H1 d (.dK kvs)/\∀o,R (Rb d o kvs) (upd H1 d (.fk o (.dK kvs)))
theorem rn {e:Expr}{te:TE}{apos cJ:Pos}{es:List Expr}{k:Nat}{rZ:Pos}(ho:PE X e te)(jz:attributeBase e "items" X.env (eval e X.env)=eval e X.env:=by rfl)(jA:(apos.endLine==cJ.line)=true:=by rfl):
  PI X (.Tuple es k rZ) (.Call (.Attribute e "items" apos) [] [] cJ) (Lu te):=by
 intro pins s σ H R I h
 refine wpAny_Call_method0_late jz jA (bZ (ho pins s σ H _ I h) fun v s1 ⟨x,H1,I1,r1,q1⟩=> ?_)
 obtain ⟨d,kvs,rfl,e,q⟩:=q1
 cases r1
 obtain ⟨z,hd,vs,rel,o,SV,ep,HD,hx,iS,hk,hp,hn⟩:=i5 I1.bH e
 have da:s1.heap.DictAt (bj X.prog X.w) d vs ep:=⟨o,SV,HD,hx,iS,hk,hp,hn⟩
 have h1:s1.TypeIs (.ref d) "dict":=da.dictOf.typeIs
 have h2:∀a,Value.ref d=.ref a->∃ob,s1.heap.get? a=some ob/\ob.dict=none:=fun a z=>by
  cases z
  exact ⟨o,HD,hx.2.1⟩
 have lv:=rel.length
 refine ⟨"dict","dict.items",F.plainAttrs_dict,F.slot_dict_items,F.type_dict_items,h1,h2,Calls.callWith_builtin rfl (PySem.evalArgs_none ?_)⟩
 refine call_meetsIn F.slot_dict_items h1 F.entry_dict_items (F.args_dict_items_1 _) (meets_dict_items (bj X.prog X.w) d hd) ⟨⟨vs,da.dictOf⟩,?_⟩
 have I2:Inv X pins σ (upd H1 d (.fk o (.dK kvs))) s1:=by
  rcases e with e | ⟨o',e⟩
  ·exact Inv.freeze I1 e HD
  ·have g:=(I1.bH d _ e).1
   rw [HD] at g
   cases g
   rw [Pl e]
   exact I1
 have SW:(s1.heap.push {cls:=.type "dict_items",data:=.fields #[.ref d]}).DictAt (bj X.prog X.w) d vs ep:=da.at' fun o e=>Heap.get?_push_of_some _ e
 show wpAny (model X.prog X.w) X.A (pyIter (.ref s1.heap.objs.size)) _ _ _
 refine wpAny_pyIter_items (s:={s1 with heap:=s1.heap.push {cls:=.type "dict_items",data:=.fields #[.ref d]}}) ⟨_,Heap.get?_push_size _ rfl,rfl,rfl⟩ SW ?_
 have sz:(s1.heap.push {cls:=.type "dict_items",data:=.fields #[.ref d]}).objs.size=s1.heap.objs.size+1:=Heap.size_push ..
 have ne:(s1.heap.push {cls:=.type "dict_items",data:=.fields #[.ref d]}).objs.size≠d:=by
  rw [sz]
  exact aaO (aaQ (abQ (Heap.lt_size HD)))
 have I3:Inv X pins σ (upd H1 d (.fk o (.dK kvs))) {s1 with heap:=(s1.heap.push {cls:=.type "dict_items",data:=.fields #[.ref d]}).push {cls:=.type "dict_itemiterator",data:=.fields #[.none,.bool false,.ref d,.int 0 0,.int vs.length 0,.int ep 0,.none,.none]}}:=I2.kept (t' :=s1.toks) fun b o e=>Heap.get?_push_of_some _ (Heap.get?_push_of_some _ e)
 refine ⟨_,[_],_,_,_,rfl,I3,oA d _ o kvs iS ne,⟨_,_,by rw [lv];exact Heap.get?_push_size _ rfl⟩,fun b hb=> ?_,q o⟩
 have eb:b=(s1.heap.push {cls:=.type "dict_items",data:=.fields #[.ref d]}).objs.size:=by simpa using hb
 have le:s1.heap.objs.size<=b:=by rw [eb,sz];exact af_ _
 exact I2.nG le (I2.bH.fresh le)
end
section
variable {D:Addr}{te:TE}{cap:L2.St}{H1:Hp}{Q:VK}
theorem xh {K:Frag}{a:Addr}{xs:η}(Rel:Nat->V->Hp->Prop)(nD:H1 D=none)(hn:xs.length < sizeLine)(hX:∀H,au H1 H->a8 K H a xs)
  (hR:∀i v H H' ys,H D=some (.lst ys)->aV D H H' ->Rel i v H->Rel i v H')
  (he:∀(i:Nat) x H (R:VK),xs[i]? =some x->au H1 H->(∃ys,H D=some (.lst ys))->(∀v H6,au H H6->Rel i v H6->R v H6)->te (some (.int (i:Int))::some x::cap) H R)
  (hd:∀zs H,zs.length=xs.length->(∀i v,zs[i]? =some v->Rel i v H)->au H1 H->H D=some (.lst zs)->Q (.ref D) H):
  jE D (EU K 2 (uL (cI 0) (uL (cI 1) OG))) kr te (Rc K a) (none::none::cap) H1 Q:=by
 refine ⟨fun i m σ zs H=>m=xs.length - i/\i<=xs.length/\(∃o o',σ=o::o' ::cap)/\(zs.length=i/\(∀i v,zs[i]? =some v->Rel i v H)/\au H1 H)/\H D=some (.lst zs),⟨xs.length,by simp,aaX _,⟨none,none,rfl⟩,⟨rfl,fun i v e=>by simp at e,fun b o e=>by rw [ao (aq e nD)];exact e⟩,ah⟩,?_⟩
 rintro i m σ zs H ⟨rfl,hi,⟨o,o',rfl⟩,⟨l,r,s⟩,hD⟩
 by_cases kc:i < xs.length
 ·have e1:xs[i]? =some xs[i]:=gE kc
  refine .inr ⟨⟨xs,_,hX H s,e1⟩,fun v H' y=> ?_⟩
  obtain ⟨p,x,q1,rfl,np,rfl⟩:=y
  have e1:=q1 xs (hX H s)
  have sp:au H (upd H p (.tup [.int (i:Int),x])):=fun b o e=>by rw [ao (aq e np)];exact e
  refine ⟨p,_,rfl,bN.of ah,rfl,_,_,rfl,_,_,rfl,rfl,?_⟩
  unfold kr
  dsimp only
  rw [if_pos rfl]
  refine he i x _ _ e1 (fun b o e=>sp _ _ (s _ _ e)) ⟨zs,sp _ _ hD⟩ fun v H6 s6 rv=>⟨s6 _ _ (sp _ _ hD),by omega,xs.length - (i+1),by omega,rfl,by omega,⟨_,_,rfl⟩,⟨by simp [l],fun j u e=> ?_,fun b o e=> ?_⟩,ah⟩
  ·by_cases c:j < zs.length
   ·rw [aat c] at e
    have ru:=hR j u H H6 zs hD (aV.of fun b o q=>s6 _ _ (sp _ _ q)) (r j u e)
    exact hR j u H6 _ zs (s6 _ _ (sp _ _ hD)) aV.upd ru
   ·rw [aaJ (by omega)] at e
    have ej:j=i:=by
     by_cases z:j - zs.length=0
     ·omega
     ·rw [aae (by simp;omega)] at e
      cases e
    subst ej
    have:v=u:=by
     rw [show j - zs.length=0 by omega] at e
     exact aaM e
    subst this
    exact hR j v H6 _ zs (s6 _ _ (sp _ _ hD)) aV.upd rv
  ·rw [ao (aq e nD)]
   exact s6 _ _ (sp _ _ (s _ _ e))
 ·have e:i=xs.length:=by omega
  subst e
  exact .inl ⟨⟨xs,hX H s,aah _⟩,hd zs H l r s hD⟩
end
section
variable {X:Cx}
inductive NL (xs:η)(H:Hp)(Q:VK):Prop where
 | mk (p:Addr) (kvs:γ) (_:xs=[.ref p]) (_:Rd H p (.dK kvs)) (_:Q (.int (kvs.length:Int)) H):NL xs H Q
theorem rq:fw X (.builtin "len") NL:=by
 intro pins s σ H xs us Q I r h
 obtain ⟨p,kvs,rfl,hq,q⟩:=h
 obtain ⟨u,rfl,r1⟩:=vals1 r
 cases r1
 exact SM I hq fun t s' I' =>⟨.int _,H,I',⟨t,rfl⟩,q⟩
end
section
variable {D:Addr}{te:TE}{cap:L2.St}{H1:Hp}{Q:VK}
end
section
variable {X:Cx}
theorem Inv.S0 {pins:ζ}{σ:L2.St}{H:Hp}{s:Shared}{d:Addr}{u:HO}{o:Obj}(I:Inv X pins σ H s)(e:H d=some (.fk o u))(n:∀o' u',X.H₀ d≠some (.fk o' u'))(nt:∀xs,u≠.tup xs):Inv X pins σ (upd H d u) s:=by
 have nx:∀b u',H b=some u' ->b≠d->upd H d u b=some u' :=fun b u q n=>by rw [ao n];exact q
 have nn:∀b,H b=none->upd H d u b=none:=fun b q=>by rw [ao (fun z=>by rw [z,e] at q;cases q)];exact q
 refine ⟨I.ok,I.os,I.bare,⟨I.base.keep,I.base.slot,fun b ob q z hx=>nn b (I.base.free b ob q z hx),I.base.there,fun b xs q=> ?_,fun b ob u' q=> ?_,fun b ps q=> ?_⟩,I.loc,I.cell,nn _ I.free,fun x c q=>nn _ (I.g8 x c q),fun p hp=> ?_,?_,I.len⟩
 ·have z:=I.base.rQ b xs q
  exact nx b _ z fun y=>by rw [y,e] at z;cases z
 ·have z:=I.base.qf b ob u' q
  exact nx b _ z fun y=>by rw [y] at q;exact n _ _ q
 ·obtain ⟨m,z⟩:=I.base.rR b ps q
  exact ⟨m,nx b _ z fun y=>by rw [y,e] at z;cases z⟩
 ·obtain ⟨a1,a2,a3⟩:=I.pin p hp
  exact ⟨a1,nn _ a2,a3⟩
 ·have st:∀{b u'},cw X.prog X.w H s.heap b u' ->cw X.prog X.w (upd H d u) s.heap b u' :=fun {b u'} k=>k.rP (fun _ _ _ z=>z) (fun c z=>nx c _ z fun y=>by rw [y,e] at z;cases z) fun c xs z=>nx c _ z fun y=>by rw [y,e] at z;cases z
  intro b u' q
  by_cases hb:b=d
  ·subst hb
   rw [ah] at q
   cases q
   exact st (I.bH b _ e).2
  ·rw [ao hb] at q
   exact st (I.bH b u' q)
def S1 (H0:Hp)(t:TS):TS:=fun D σ H=>t {D with nx:=fun σ' H' =>∃d o kvs,H' d=some (.fk o (.dK kvs))/\(∀o' u',H0 d≠some (.fk o' u'))/\D.nx σ' (upd H' d (.dK kvs))} σ H
theorem mW {st:Stmt}{t:TS}(h:PS X st t):PS X st (S1 X.H₀ t):=by
 intro pins s σ H D I q
 refine wpAny_mono (h pins s σ H _ I q) (fun f s' z=> ?_) fun _ _ z=>z
 cases f with
 | next=>
  obtain ⟨σ',H',I',d,o,kvs,e,n,k⟩:=z
  exact ⟨σ',_,Inv.S0 I' e n (fun _ z=>nomatch z),k⟩
 | brk=>exact z
 | cont=>exact z
 | ret u=>exact z
end
section
variable {prog:Program}{w:World}{KK:Type}[DecidableEq KK]{knd:KeyKind prog w KK}{A:Around}{E:δ}{s:Shared}
open MeetsSeq MeetsSeq2 MeetsSeq3 SeqRoads2 in
open MeetsSeq MeetsSeq2 MeetsSeq3 SeqRoads2 in
end
section
variable {X:Cx}
end
structure Pm (K:Frag)(x qual:Str)(st:Stmt)(f:Addr)(fd:FuncData):Prop where
 ex:∃(dV oc:Value) (od:Option Addr) (kV doc pm:Value) (an:Option Addr) (bE ct:Value) (pZ:Array (Option Value)),
  fd=fnOf x qual (ay st) (aw st) (ag st) dV kV doc pm an bE ct/\K.lookup f=some ⟨oc,od,.func fd,pZ⟩/\codeIn K bE qual=true
 kp:keepIn K (.ref f)=true
section
variable {P:Program}{w:World}{K:Frag}{mg:ι}{base:Heap}{CX:kd}
theorem Lv {x qual:Str}{st:Stmt}{f:Addr}{dV oc:Value}{od an:Option Addr}{pZ:Array (Option Value)}{kV doc pm bE ct:Value}(l:K.lookup f=some ⟨oc,od,.func (fnOf x qual (ay st) (aw st) (ag st) dV kV doc pm an bE ct),pZ⟩)
  (c:codeIn K bE qual=true) (k:keepIn K (.ref f)=true):Pm K x qual st f (fnOf x qual (ay st) (aw st) (ag st) dV kV doc pm an bE ct):=⟨⟨dV,oc,od,kV,doc,pm,an,bE,ct,pZ,rfl,l,c⟩,k⟩
theorem cR {name qual:Str}{st:Stmt}{f:Addr}{fd:FuncData}{N ps:List Str}{k:Nat}{sp:Sp}(F:mN K name qual st f fd)(S:aD N ps (ag st))(len:∀vs H Q E,sp vs H Q E->vs.length=ps.length)
  (jw:∀(bE:Value) (A:Around) (outer:List Env) (s:Shared) (H:Hp) (vs:η) (Q:VK) (E:XK),cp k (A.deeper (envOfC qual (ag st) s.heap.objs.size f bE))->sp vs H Q E->
   ∃t,PSs (cxr P w K mg base N qual (ag st) f bE A outer s H E).yd (aw st) t/\t {nx:=fun _ H' =>Q .cv H',rt:=Q} (start N vs) H):cB P w K mg base (aY P w) (k+1) f fd ps sp:=by
 obtain ⟨oc,od,kV,doc,pm,an,bE,ct,pZ,rfl,lk,qg⟩:=F.ex
 exact yk lk qg S len fun A outer s H vs Q E hr qj=>by
  obtain ⟨t,h,q⟩:=jw bE A outer s H vs Q E hr qj
  exact ⟨t,h.yd,q⟩
theorem HK {name qual:Str}{st:Stmt}{f:Addr}{fd:FuncData}{N ps:List Str}{k:Nat}{sp:Sp}(F:Pm K name qual st f fd)(S:aD N ps (ag st))(len:∀vs H Q E,sp vs H Q E->vs.length=ps.length)
  (jw:∀(bE:Value) (A:Around) (outer:List Env) (s:Shared) (H:Hp) (vs:η) (Q:VK) (E:XK),cp k (A.deeper (envOfC qual (ag st) s.heap.objs.size f bE))->sp vs H Q E->
   ∃t,PSs (cxr P w K mg base N qual (ag st) f bE A outer s H E).yd (aw st) t/\t {nx:=fun _ H' =>Q .cv H',rt:=Q} (start N vs) H):cB P w K mg base (aY P w) (k+1) f fd ps sp:=by
 obtain ⟨dV,oc,od,kV,doc,pm,an,bE,ct,pZ,rfl,lk,qg⟩:=F.ex
 exact yk lk qg S len fun A outer s H vs Q E hr qj=>by
  obtain ⟨t,h,q⟩:=jw bE A outer s H vs Q E hr qj
  exact ⟨t,h.yd,q⟩
end
structure sH (P:Program)(w:World)(K:Frag)(mg:ι)(base:Heap)(CX:kd)(k:Nat)(C:Addr)(m:Str)(ps:List Str)(ds:ο)(sp:Sp):Prop where
 ex:∃(f:Addr) (fd:FuncData),uQ K C/\Meth K C m f/\cB P w K mg base CX k f fd ps sp/\Binds K fd ps ds
section
variable {X:Cx}{CX:kd}{k:Nat}{E:XK}{m:Str}{pos apos:Pos}{e o:Expr}{es:List Expr}{ta:TE}{t:TA}
inductive HL (P:Program)(w:World)(K:Frag)(mg:ι)(base:Heap)(CX:kd)(k:Nat)(m:Str)(E:XK)(t:TA)(σ:L2.St)(Q:VK)(x:V)(H1:Hp):Prop where
 | mk (a C dx fs ps sp:_) (_:x=.ref a) (_:H1 a=some (.ins C dx fs)) (_:fs.lookup m=none) (_:sH P w K mg base CX k C m ps [.none] sp) (_:t σ H1 fun vs H2=>sp (x::vs++[.cv]) H2 Q E):HL P w K mg base CX k m E t σ Q x H1
def S2 (P:Program)(w:World)(K:Frag)(mg:ι)(base:Heap)(CX:kd)(k:Nat)(m:Str)(E:XK)(ta:TE)(t:TA):TE:=fun σ H Q=>ta σ H fun x H1=>HL P w K mg base CX k m E t σ Q x H1
theorem yx {pl:Sem Bool}(he:PE X o ta)(hr:cp k X.A)(hx:Passes CX X E)(ha:PA X (e::es) t)
  (KZ:starEach (e::es) X.env=(false,eval e X.env)::starEach es X.env:=by rfl) (yh:(backTo pos (starEach es X.env)).any (·.1)=false:=by rfl)
  (ht:eval (.Call (.Attribute o m apos) (e::es) [] pos) X.env=(do
   let ov <- eval o X.env
   standAt apos.atName
   let (f,first) <- holding [ov] (getMethod ov m pl)
   callWith pos f first (backTo pos (starEach (e::es) X.env)) (backToKw pos (keywordEach [] X.env))):=by rfl):
  PE X (.Call (.Attribute o m apos) (e::es) [] pos) (S2 X.prog X.w X.K X.mg X.base CX k m E ta t):=by
 intro pins s σ H Q I h
 refine PySem.W.methodCall_KW (pl:=pl) (bZ (he pins s σ H _ I h) fun u s1 ⟨x,H1,I1,rx,a,C,dx,fs,ps,sp,ex,ea,l,M,q⟩=> ?_) ht
 subst ex
 obtain rfl:u=Value.ref a:=rx
 obtain ⟨f,fd,c,hm,F,hb⟩:=M.ex
 refine je I1 ea c hm l ?_
 refine PySem.W.callWith_K (first:=[.ref a]) (h₀:=X.base) I.ok.mod.Q6 hm.kp (bZ (ha pos pins s1 σ H1 _ I1 q) fun us s2 ⟨vs,H2,I2,r,q2⟩=>⟨I2.ja,?_⟩) KZ yh
 exact r8 (us:=.ref a::us) (vs:=.ref a::vs) (dvs:=[.cv]) F hr hb (.cons rfl .nil) hx I2 (.cons rfl r) q2
end
theorem oE {κ:Type}[DecidableEq κ]{k:κ}{v:V}:∀{kvs:List (κ×V)},bB kvs k=some v->(k,v)∈kvs
 | p::r,h=>by
  by_cases e:p.1=k
  ·rw [bJ e] at h
   cases h
   subst e
   exact aaq ..
  ·rw [bC e] at h
   exact aag _ (oE h)
theorem cL {κ:Type}[DecidableEq κ]{k:κ}:∀{kvs:List (κ×V)},k∉kvs.map (·.1)->bB kvs k=none
 | [],_=>rfl
 | p::r,h=>by
  rw [aac,aaN,not_or] at h
  rw [bC (fun e=>h.1 e.symm)]
  exact cL h.2
theorem dO {κ:Type}[DecidableEq κ]{k:κ}:∀{kvs:List (κ×V)},k∈kvs.map (·.1)->∃v,bB kvs k=some v
 | p::r,h=>by
  by_cases e:p.1=k
  ·exact ⟨_,bJ e⟩
  ·rw [bC e]
   rw [aac,aaN] at h
   rcases h with h | h
   ·exact absurd h.symm e
   ·exact dO h
theorem HM {k n:Nat}(h:k < n):seqIndex? (k:Int) n=some k:=by
 unfold seqIndex?
 simp [h]
 omega
structure AR (K:Frag)(C:Addr):Prop where
 cls:uQ K C
 pl:fC K C "pin_places"
 wy:fC K C "pin_ways"
 br:fC K C "bar_ends"
abbrev frF (pP pW pB:Addr):List (Str×V):=[("pin_places",.ref pP),("pin_ways",.ref pW),("bar_ends",.ref pB)]
abbrev Pt:=(Int×Int)×(Int×Int)
abbrev eD (p:Pt):List Da:=[.t [.v (.int p.1.1),.v (.int p.1.2)],.t [.v (.int p.2.1),.v (.int p.2.2)]]
def bg (H H' :Hp):Prop:=∀b xs,Rd H b (.tup xs)->Rd H' b (.tup xs)
theorem bg.of {H H' :Hp}(s:au H H'):bg H H' :=fun b xs e=>by
 rcases e with e | ⟨o,e⟩
 ·exact .inl (s _ _ e)
 ·exact .inr ⟨o,s _ _ e⟩
theorem bg.trans {H H1 H2:Hp}(a:bg H H1)(b:bg H1 H2):bg H H2:=fun c xs e=>b c xs (a c xs e)
theorem bg.dict {H:Hp}{d:Addr}{kvs:γ}{o:HO}(e:H d=some (.dK kvs)):bg H (upd H d o):=fun b xs r=>by
 rcases r with r | ⟨o,r⟩
 ·exact .inl (by rw [ao (fun z=>by rw [z,e] at r;cases r)];exact r)
 ·exact .inr ⟨o,by rw [ao (fun z=>by rw [z,e] at r;cases r)];exact r⟩
theorem bg.list {H:Hp}{d:Addr}{xs:η}{o:HO}(e:H d=some (.lst xs)):bg H (upd H d o):=fun b xs r=>by
 rcases r with r | ⟨o,r⟩
 ·exact .inl (by rw [ao (fun z=>by rw [z,e] at r;cases r)];exact r)
 ·exact .inr ⟨o,by rw [ao (fun z=>by rw [z,e] at r;cases r)];exact r⟩
theorem bg.cG {K:Frag}{H H' :Hp}(s:bg H H'){p:Addr}{xs:η}(q:bN K H p xs):bN K H' p xs:=by
 rcases q with q | q
 ·exact .inl (s _ _ q)
 ·exact .inr q
theorem lM.aX {K:Frag}{H H' :Hp}{v:V}{q:Int×Int}(h:lM K H v q)(s:bg H H'):lM K H' v q:=by
 obtain ⟨p,e,k⟩:=h
 exact ⟨p,e,s.cG k⟩
def Spot (K:Frag)(H:Hp)(v:V)(p:Pt):Prop:=∃a u1 u2,v=.ref a/\bN K H a [u1,u2]/\lM K H u1 p.1/\lM K H u2 p.2
theorem Spot.aX {K:Frag}{H H' :Hp}{v:V}{p:Pt}(h:Spot K H v p)(s:bg H H'):Spot K H' v p:=by
 obtain ⟨a,u1,u2,e,h1,h2,h3⟩:=h
 exact ⟨a,u1,u2,e,s.cG h1,h2.aX s,h3.aX s⟩
theorem mX {K:Frag}{H:Hp}{v:V}{q:Int×Int}(h:lM K H v q):Is K H (.t [.v (.int q.1),.v (.int q.2)]) v:=by
 obtain ⟨p,rfl,e⟩:=h
 unfold Is
 refine ⟨p,_,rfl,e,?_⟩
 unfold fj
 refine ⟨by unfold Is;exact ⟨rfl,rfl⟩,?_⟩
 unfold fj
 refine ⟨by unfold Is;exact ⟨rfl,rfl⟩,?_⟩
 unfold fj
 trivial
theorem Spot.is {K:Frag}{H:Hp}{v:V}{p:Pt}(h:Spot K H v p):Is K H (.t (eD p)) v:=by
 obtain ⟨a,u1,u2,rfl,h1,h2,h3⟩:=h
 unfold Is
 refine ⟨a,_,rfl,h1,?_⟩
 unfold fj
 refine ⟨mX h2,?_⟩
 unfold fj
 refine ⟨mX h3,?_⟩
 unfold fj
 trivial
theorem vn (p q:Pt):cC (eD p) (eD q)=decide (p=q):=by
 have e:cC (eD p) (eD q)=((p.1.1==q.1.1 && (p.1.2==q.1.2 && true)) && ((p.2.1==q.2.1 && (p.2.2==q.2.2 && true)) && true)):=by
  simp only [eD,cC,fY,p_]
 rw [e]
 obtain ⟨⟨a,b⟩,c,d⟩:=p
 obtain ⟨⟨a',b'⟩,c',d'⟩:=q
 by_cases h:a=a' <;> by_cases h1:b=b' <;> by_cases h2:c=c' <;> by_cases h3:d=d' <;> simp [h,h1,h2,h3,Prod.mk.injEq]
theorem lO (p q:Pt):cV (eD p) (eD q)=true:=by simp [eD,cV,alike]
theorem rA (p:Pt):fO (eD p)<=60:=by simp [eD,fO,dep]
structure d_ (K:Frag)(H:Hp)(C a dx pP pW pB:Addr)(ps:List (Str×Pt))(bs:List (Str×Str×Str))(kP kW kB:γ):Prop where
 obj:H a=some (.ins C dx (frF pP pW pB))
 pl:H pP=some (.dK kP)
 wy:H pW=some (.dK kW)
 br:H pB=some (.dK kB)
 ne1:pP≠pW
 ne2:pP≠pB
 ne3:pW≠pB
 rp:Paired (fun (p:Str×Pt) (kv:Key×V)=>kv.1=.inr p.1/\Spot K H kv.2 p.2) ps kP
 rb:Paired (fun (b:Str×Str×Str) (kv:Key×V)=>kv.1=.inr b.1/\∃p,kv.2=.ref p/\Rd H p (.tup [.str b.2.1,.str b.2.2])) bs kB
section
variable {K:Frag}{H H' :Hp}{C a dx pP pW pB:Addr}{ps:List (Str×Pt)}{bs:List (Str×Str×Str)}{kP kW kB:γ}
theorem eT {α:Type}{R:(Str×α)->(Key×V)->Prop}:∀{l:List (Str×α)} {kvs:γ},Paired (fun b kv=>kv.1=.inr b.1/\R b kv) l kvs->kvs.map (·.1)=l.map (fun b=>(aa6 b.1:Key))
 | _,_,.nil=>rfl
 | _,_,.cons h t=>by rw [aac,aac,h.1,eT t]
theorem dE {l:List Str}{x:Str}:(aa6 x:Key)∈l.map (fun b=>(aa6 b:Key)) ↔ x∈l:=by
 constructor
 ·intro h
  obtain ⟨y,hy,e⟩:=aab.mp h
  exact aba e▸hy
 ·exact fun h=>aab.mpr ⟨x,h,rfl⟩
theorem d_.eg (R:d_ K H C a dx pP pW pB ps bs kP kW kB)(s:bg H H')(h1:H' a=H a)(h2:H' pP=H pP)(h3:H' pW=H pW)(h4:H' pB=H pB):d_ K H' C a dx pP pW pB ps bs kP kW kB:=
 ⟨h1.trans R.obj,h2.trans R.pl,h3.trans R.wy,h4.trans R.br,R.ne1,R.ne2,R.ne3,Paired.bM R.rp fun _ _ h=>⟨h.1,h.2.aX s⟩,Paired.bM R.rb fun _ _ h=>⟨h.1,by obtain ⟨p,e,k⟩:=h.2;exact ⟨p,e,s _ _ k⟩⟩⟩
theorem d_.same (R:d_ K H C a dx pP pW pB ps bs kP kW kB)(s:au H H'):d_ K H' C a dx pP pW pB ps bs kP kW kB:=
 R.eg (.of s) ((s _ _ R.obj).trans R.obj.symm) ((s _ _ R.pl).trans R.pl.symm) ((s _ _ R.wy).trans R.wy.symm) ((s _ _ R.br).trans R.br.symm)
theorem d_.oF (R:d_ K H C a dx pP pW pB ps bs kP kW kB):kB.map (·.1)=(bs.map (·.1)).map (fun b=>(aa6 b:Key)):=by
 rw [eT R.rb,aay]
 rfl
theorem d_.vo (R:d_ K H C a dx pP pW pB ps bs kP kW kB):kP.map (·.1)=(ps.map (·.1)).map (fun b=>(aa6 b:Key)):=by
 rw [eT R.rp,aay]
 rfl
theorem d_.bar (R:d_ K H C a dx pP pW pB ps bs kP kW kB)(x:Str):(bB kB (.inr x)).isSome=decide (x∈bs.map (·.1)):=by
 by_cases h:x∈bs.map (·.1)
 ·obtain ⟨v,e⟩:=dO (kvs:=kB) (k:=.inr x) (by rw [R.oF];exact dE.mpr h)
  rw [e,decide_eq_true h]
  rfl
 ·rw [cL (by rw [R.oF];exact fun z=>h (dE.mp z)),decide_eq_false h]
  rfl
theorem d_.pin (R:d_ K H C a dx pP pW pB ps bs kP kW kB)(x:Str):(bB kP (.inr x)).isSome=decide (x∈ps.map (·.1)):=by
 by_cases h:x∈ps.map (·.1)
 ·obtain ⟨v,e⟩:=dO (kvs:=kP) (k:=.inr x) (by rw [R.vo];exact dE.mpr h)
  rw [e,decide_eq_true h]
  rfl
 ·rw [cL (by rw [R.vo];exact fun z=>h (dE.mp z)),decide_eq_false h]
  rfl
theorem d_.ab (R:d_ K H C a dx pP pW pB ps bs kP kW kB):a≠pP/\a≠pW/\a≠pB:=
 ⟨fun z=>(by have h:=R.obj;rw [z,R.pl] at h;cases h),fun z=>(by have h:=R.obj;rw [z,R.wy] at h;cases h),fun z=>(by have h:=R.obj;rw [z,R.br] at h;cases h)⟩
theorem d_.Pn (R:d_ K H C a dx pP pW pB ps bs kP kW kB){x one other:Str}{t:Addr}(ht:Rd H t (.tup [.str one,.str other])):
  d_ K (upd H pB (.dK (kB++[(.inr x,.ref t)]))) C a dx pP pW pB ps (bs++[(x,one,other)]) kP kW (kB++[(.inr x,.ref t)]):=by
 have s:bg H (upd H pB (.dK (kB++[(.inr x,.ref t)]))):=.dict R.br
 exact ⟨by rw [ao R.ab.2.2];exact R.obj,by rw [ao R.ne2];exact R.pl,by rw [ao R.ne3];exact R.wy,ah,R.ne1,R.ne2,R.ne3,Paired.bM R.rp fun _ _ h=>⟨h.1,h.2.aX s⟩,
  Paired.snoc (Paired.bM R.rb fun _ _ h=>⟨h.1,by obtain ⟨p,e,k⟩:=h.2;exact ⟨p,e,s _ _ k⟩⟩) ⟨rfl,t,rfl,s _ _ ht⟩⟩
theorem fT {α:Type}{R:(Str×α)->(Key×V)->Prop}(x:Str):∀{l:List (Str×α)} {kvs:γ},Paired (fun b kv=>kv.1=.inr b.1/\R b kv) l kvs->Paired (fun b kv=>kv.1=.inr b.1/\R b kv) (l.filter fun b=>decide (b.1≠x)) (d3 kvs (.inr x))
 | _,_,.nil=>.nil
 | b::_,kv::_,.cons h t=>by
  unfold d3
  rw [abH,abH]
  have ih:=fT x t
  unfold d3 at ih
  by_cases e:b.1=x
  ·have e' :kv.1=.inr x:=by rw [h.1,e]
   rw [if_neg (by simp [e]),if_neg (by simp [e'])]
   exact ih
  ·have e' :¬ kv.1=.inr x:=fun z=>e (aba (h.1.symm.trans z))
   rw [if_pos (by simp [e]),if_pos (by simp [e'])]
   exact .cons h ih
theorem d_.Lw (R:d_ K H C a dx pP pW pB ps bs kP kW kB)(x:Str):
  d_ K (upd H pB (.dK (d3 kB (.inr x)))) C a dx pP pW pB ps (bs.filter fun b=>decide (b.1≠x)) kP kW (d3 kB (.inr x)):=by
 have s:bg H (upd H pB (.dK (d3 kB (.inr x)))):=.dict R.br
 exact ⟨by rw [ao R.ab.2.2];exact R.obj,by rw [ao R.ne2];exact R.pl,by rw [ao R.ne3];exact R.wy,ah,R.ne1,R.ne2,R.ne3,Paired.bM R.rp fun _ _ h=>⟨h.1,h.2.aX s⟩,
  fT x (Paired.bM R.rb fun _ _ h=>⟨h.1,by obtain ⟨p,e,k⟩:=h.2;exact ⟨p,e,s _ _ k⟩⟩)⟩
theorem bU {α β:Type}{R:α->β->Prop}:∀{l:List α} {m:List β},Paired R l m->Paired (fun b a=>R a b) m l
 | _,_,.nil=>.nil
 | _,_,.cons h t=>.cons h (bU t)
theorem d_.Po (R:d_ K H C a dx pP pW pB ps bs kP kW kB){x:Str}{p:Pt}{t:Addr}(ht:Spot K H (.ref t) p):
  d_ K (upd H pP (.dK (kP++[(.inr x,.ref t)]))) C a dx pP pW pB (ps++[(x,p)]) bs (kP++[(.inr x,.ref t)]) kW kB:=by
 have s:bg H (upd H pP (.dK (kP++[(.inr x,.ref t)]))):=.dict R.pl
 exact ⟨by rw [ao R.ab.1];exact R.obj,ah,by rw [ao (aaO R.ne1)];exact R.wy,by rw [ao (aaO R.ne2)];exact R.br,R.ne1,R.ne2,R.ne3,
  Paired.snoc (Paired.bM R.rp fun _ _ h=>⟨h.1,h.2.aX s⟩) ⟨rfl,ht.aX s⟩,Paired.bM R.rb fun _ _ h=>⟨h.1,by obtain ⟨p,e,k⟩:=h.2;exact ⟨p,e,s _ _ k⟩⟩⟩
theorem d_.sI (R:d_ K H C a dx pP pW pB ps bs kP kW kB)(iT :γ):d_ K (upd H pW (.dK iT)) C a dx pP pW pB ps bs kP iT kB:=by
 have s:bg H (upd H pW (.dK iT)):=.dict R.wy
 exact ⟨by rw [ao R.ab.2.1];exact R.obj,by rw [ao R.ne1];exact R.pl,ah,by rw [ao (aaO R.ne3)];exact R.br,R.ne1,R.ne2,R.ne3,
  Paired.bM R.rp fun _ _ h=>⟨h.1,h.2.aX s⟩,Paired.bM R.rb fun _ _ h=>⟨h.1,by obtain ⟨p,e,k⟩:=h.2;exact ⟨p,e,s _ _ k⟩⟩⟩
end
open Builtin.Int (intBits)
def qr (r:Rat):Int×Int:=(r.num,(r.den:Int))
theorem cX (r:Rat):0 < (qr r).2:=by
 have:=r.den_pos
 show (0:Int) < (r.den:Int)
 omega
theorem kA (r:Rat):aa' (qr r).1 (qr r).2=1:=by
 have:=r.reduced
 show aa' r.num (r.den:Int)=1
 unfold aa'
 simpa [Nat.Coprime] using this
theorem fG (r:Rat):vl (qr r)=r:=by
 show (r.num:Rat) / ((r.den:Int):Rat)=r
 rw [<- aiF]
 exact aix r
theorem oG {q:Int×Int}(h:0 < q.2)(g:aa' q.1 q.2=1):q=qr (vl q):=O9 h (cX _) g (kA _) (fG _).symm
theorem gI {t b:Int}(h:b≠0):low t b=qr ((t:Rat) / (b:Rat)):=by
 rw [<- w_ h]
 exact oG (jC h) (mP h)
theorem gJ {a b:Rat}(h:qr a=qr b):a=b:=by
 rw [<- fG a, <- fG b,h]
theorem oH (i:Int):qr (i:Rat)=(i,1):=by
 have e:(i,(1:Int))=qr (vl (i,1)):=oG (by show (0:Int) < 1;decide) (by show aa' i 1=1;simp)
 have v:vl (i,(1:Int))=(i:Rat):=by
  unfold vl
  show (i:Rat) / ((1:Int):Rat)=i
  have:((1:Int):Rat)=1:=by rfl
  rw [this]
  grind
 rw [e,v]
theorem xi (r:Rat):qr (-r)=(-(qr r).1,(qr r).2):=by
 have e:((-(qr r).1,(qr r).2):Int×Int)=qr (vl (-(qr r).1,(qr r).2)):=oG (cX r) (by
  have:=kA r
  show aa' (-(qr r).1) (qr r).2=1
  rw [Int.neg_gcd]
  exact this)
 have v:vl (-(qr r).1,(qr r).2)= -r:=by
  have h:=fG r
  unfold vl at h ⊢
  push_cast
  rw [<- h]
  grind
 rw [e,v]
theorem xj {r:Rat}:((qr r).2:Rat)≠0:=cq (abz (cX r))
theorem Pp (a b:Rat):low ((qr a).1*(qr b).2+(qr b).1*(qr a).2) ((qr a).2*(qr b).2)=qr (a+b):=by
 have ha:=cX a
 have hb:=cX b
 rw [gI (abz (ahr ha hb))]
 have e1:=fG a
 have e2:=fG b
 have z1:=xj (r:=a)
 have z2:=xj (r:=b)
 unfold vl at e1 e2
 congr 1
 push_cast
 grind
theorem HN (a b:Rat):low ((qr a).1*(qr b).2 - (qr b).1*(qr a).2) ((qr a).2*(qr b).2)=qr (a - b):=by
 have ha:=cX a
 have hb:=cX b
 rw [gI (abz (ahr ha hb))]
 have e1:=fG a
 have e2:=fG b
 have z1:=xj (r:=a)
 have z2:=xj (r:=b)
 unfold vl at e1 e2
 congr 1
 push_cast
 grind
structure Sz (k:Nat)(r:Rat):Prop where
 top:intBits (qr r).1<=k
 bot:intBits (qr r).2<=k
theorem Sz.up {k l:Nat}{r:Rat}(h:Sz k r)(kl:k<=l):Sz l r:=⟨aaf h.top kl,aaf h.bot kl⟩
theorem AS {a b:Int}{k:Nat}(ha:intBits a<=k)(hb:intBits b<=k):intBits (a+b)<=k+1:=by
 rw [intBits_le_iff] at ha hb ⊢
 have:=aho a b
 rw [ahG]
 omega
theorem AU {a b:Int}{k:Nat}(ha:intBits a<=k)(hb:intBits b<=k):intBits (a - b)<=k+1:=by
 rw [intBits_le_iff] at ha hb ⊢
 have:=Int.natAbs_sub_le a b
 rw [ahG]
 omega
theorem HP {t b:Int}{k:Nat}(hb:b≠0)(h1:intBits t<=k)(h2:intBits b<=k):Sz k ((t:Rat) / (b:Rat)):=by
 rw [<- w_ hb]
 have e:=oG (jC (t:=t) hb) (mP hb)
 exact ⟨by rw [<- e];exact intBits_le_of_natAbs (nO hb) h1,by rw [<- e];exact intBits_le_of_natAbs (nQ hb) h2⟩
theorem NM {t b:Int}{k:Nat}{r:Rat}(hb:b≠0)(e:low t b=qr r)(h1:intBits t<=k)(h2:intBits b<=k):Sz k r:=by
 have z:=gI (t:=t) hb
 rw [z] at e
 have:=gJ e
 rw [<- this]
 exact HP hb h1 h2
theorem Sz.add {k l:Nat}{a b:Rat}(ha:Sz k a)(hb:Sz l b):Sz (k+l+1) (a+b):=
 NM (abz (ahr (cX a) (cX b))) (Pp a b) (AS (intBits_mul_le ha.top hb.bot) (by rw [aie];exact intBits_mul_le hb.top ha.bot)) (aiG (intBits_mul_le ha.bot hb.bot))
theorem Sz.sub {k l:Nat}{a b:Rat}(ha:Sz k a)(hb:Sz l b):Sz (k+l+1) (a - b):=
 NM (abz (ahr (cX a) (cX b))) (HN a b) (AU (intBits_mul_le ha.top hb.bot) (by rw [aie];exact intBits_mul_le hb.top ha.bot)) (aiG (intBits_mul_le ha.bot hb.bot))
theorem kC {i:Int}{k:Nat}(h:i.natAbs < 2^k)(hk:1<=k):Sz k (i:Rat):=by
 refine ⟨?_,?_⟩
 ·rw [oH]
  exact intBits_le_iff.mpr h
 ·rw [oH]
  refine intBits_le_iff.mpr ?_
  show 1 < 2^k
  exact Nat.one_lt_two_pow (by omega)
def f' (K:Frag)(H:Hp)(v:V)(r:Rat):Prop:=lM K H v (qr r)
def ff (K:Frag)(H:Hp)(v:V)(p:Rat×Rat):Prop:=∃a u1 u2,v=.ref a/\bN K H a [u1,u2]/\f' K H u1 p.1/\f' K H u2 p.2
section
variable {K:Frag}{H H' :Hp}{v:V}{r:Rat}{p:Rat×Rat}
theorem f'.aX (h:f' K H v r)(s:bg H H'):f' K H' v r:=lM.aX h s
theorem f'.same (h:f' K H v r)(s:au H H'):f' K H' v r:=lM.same h s
theorem ff.aX (h:ff K H v p)(s:bg H H'):ff K H' v p:=by
 obtain ⟨a,u1,u2,e,h1,h2,h3⟩:=h
 exact ⟨a,u1,u2,e,s.cG h1,h2.aX s,h3.aX s⟩
theorem ff.same (h:ff K H v p)(s:au H H'):ff K H' v p:=h.aX (.of s)
abbrev mY (p:Rat×Rat):Pt:=(qr p.1,qr p.2)
theorem ff.S3 (h:ff K H v p):Spot K H v (mY p):=h
def g_ (K:Frag)(H:Hp)(us:η)(ps:List (Rat×Rat)):Prop:=Paired (ff K H) us ps
theorem g_.aX {us:η}{ps:List (Rat×Rat)}(h:g_ K H us ps)(s:bg H H'):g_ K H' us ps:=Paired.bM h fun _ _ z=>z.aX s
theorem g_.same {us:η}{ps:List (Rat×Rat)}(h:g_ K H us ps)(s:au H H'):g_ K H' us ps:=h.aX (.of s)
end
section
variable {X:Cx}
theorem yy {pins:ζ}{σ:L2.St}{H:Hp}{s:Shared}{v:V}{p q:Rat×Rat}(I:Inv X pins σ H s)(h1:ff X.K H v p)(h2:ff X.K H v q):p=q:=by
 obtain ⟨a,u1,u2,rfl,t1,⟨b1,rfl,n1⟩,b2,rfl,n2⟩:=h1
 obtain ⟨a',w1,w2,e,t2,⟨c1,rfl,m1⟩,c2,rfl,m2⟩:=h2
 cases e
 cases I.gc t1 t2
 have e1:=I.gc n1 m1
 have e2:=I.gc n2 m2
 simp only [List.cons.injEq,V.int.injEq,and_true] at e1 e2
 exact ahS (gJ (ahS e1.1 e1.2)) (gJ (ahS e2.1 e2.2))
def S4 (K:Frag)(neg:Bool):R2:=fun x y H Q=>∃p l us ps,y=.ref l/\a8 K H l us/\ff K H x p/\g_ K H us ps/\Q (.bl (if neg then !decide (p∈ps) else decide (p∈ps))) H
theorem S5 {pins:ζ}{σ:L2.St}{H:Hp}{s:Shared}{A:Around}{x:V}{v:Value}{p:Rat×Rat}{us:η}{its:ο}{ps:List (Rat×Rat)}(I:Inv X pins σ H s)(hu:A.units+60 < cLine)(hx:ff X.K H x p)(rx:RelV x v)(hp:g_ X.K H us ps)(rv:Vals us its):
  ∃e:Value->Bool,(∀y,y∈its.toArray->SeqAt.EqAt A s y v (e y))/\its.toArray.any e=decide (p∈ps):=by
 have key:∀(j:Nat) (y:Value),its[j]? =some y->∃u q,us[j]? =some u/\ps[j]? =some q/\RelV u y/\ff X.K H u q:=fun j y ey=>by
  obtain ⟨u,eu,ru⟩:=aH (bU rv) ey
  obtain ⟨q,eq,hq⟩:=aH hp eu
  exact ⟨u,q,eu,eq,ru,hq⟩
 refine ⟨fun y=> @decide (∃u q,RelV u y/\ff X.K H u q/\q=p) (abv _),fun y hy=> ?_,?_⟩
 ·obtain ⟨j,hj,ey⟩:=abx.mp (by simpa using hy:y∈its)
  obtain ⟨u,q,eu,eq,ru,hq⟩:=key j y (by rw [gE hj,ey])
  have z:=yp (A:=A) I (.t (eD (mY q))) (.t (eD (mY p))) u x y v hq.S3.is hx.S3.is (by unfold alike;exact lO _ _) ru rx (by have:=rA (mY q);unfold dep;simp only [eD,fO,dep] at this ⊢;omega)
  have e:fY (.t (eD (mY q))) (.t (eD (mY p)))= @decide (∃u q,RelV u y/\ff X.K H u q/\q=p) (abv _):=by
   unfold fY
   rw [vn]
   by_cases c:q=p
   ·subst c
    rw [decide_eq_true rfl]
    symm
    exact @decide_eq_true _ (abv _) ⟨u,q,ru,hq,rfl⟩
   ·rw [decide_eq_false (fun z=>c (ahS (gJ (congrArg apP z)) (gJ (congrArg apQ z))))]
    symm
    refine @decide_eq_false _ (abv _) fun ⟨u',q',ru',qi,e'⟩=> ?_
    obtain ⟨a,_,_,rfl,_⟩:=id hq
    obtain ⟨a',_,_,rfl,_⟩:=id qi
    have r1:y=Value.ref a:=ru
    have r2:y=Value.ref a' :=ru'
    rw [r1] at r2
    cases r2
    exact c ((yy I hq qi).trans e')
  rw [e] at z
  exact z
 ·rw [abj,decide_eq_true_iff]
  simp only [List.any_toArray,ahP]
  constructor
  ·rintro ⟨y,hy,ey⟩
   obtain ⟨j,hj,ej⟩:=abx.mp hy
   obtain ⟨u,q,eu,eq,ru,hq⟩:=key j y (by rw [gE hj,ej])
   obtain ⟨u',q',ru',qi,e'⟩:= @of_decide_eq_true _ (abv _) ey
   obtain ⟨a,_,_,rfl,_⟩:=id hq
   obtain ⟨a',_,_,rfl,_⟩:=id qi
   have r1:y=Value.ref a:=ru
   have r2:y=Value.ref a' :=ru'
   rw [r1] at r2
   cases r2
   rw [<- e', <- yy I hq qi]
   exact ir eq
  ·intro hm
   obtain ⟨j,hj,ej⟩:=abx.mp hm
   have lu:us.length=ps.length:=Paired.length hp
   have li:us.length=its.length:=rv.length
   have YS :j < its.length:=by omega
   refine ⟨its[j],abu YS,?_⟩
   obtain ⟨u,q,eu,eq,ru,hq⟩:=key j its[j] (gE YS)
   rw [gE hj,ej] at eq
   cases eq
   exact @decide_eq_true _ (abv _) ⟨u,p,ru,hq,rfl⟩
theorem Lx (hu:X.A.units+64 < cLine):jq X (compareOp .In) (S4 X.K false):=by
 intro pins s σ H x y v u Q I rx ry h
 obtain ⟨p,l,us,ps,rfl,hq,hx,hp,q⟩:=h
 cases ry
 obtain ⟨its,rv,pl,hz⟩:=I.list hq
 obtain ⟨e,he,ea⟩:=S5 (A:=X.A.in1) I (by rw [in1_units];omega) hx rx hp rv
 refine SeqAt.in_listAt e pl.isList he ⟨.bl _,H,I,rfl,?_⟩
 rw [ea]
 exact q
end
theorem gK {α:Type}{R:(Str×α)->(Key×V)->Prop}{x:Str}{y:α}:∀{l:List (Str×α)} {kvs:γ},Paired (fun b kv=>kv.1=.inr b.1/\R b kv) l kvs->(l.map (·.1)).Nodup->(x,y)∈l->∃v,bB kvs (.inr x)=some v/\R (x,y) (.inr x,v)
 | _::_,kv::_,.cons h t,nd,m=>by
  rw [aac,aaU] at nd
  rcases aaN.mp m with e | m
  ·subst e
   have h1:kv.1=.inr x:=h.1
   refine ⟨kv.2,bJ h1,?_⟩
   have h2:=h.2
   rw [<- h1]
   exact h2
  ·obtain ⟨v,e,r⟩:=gK t nd.2 m
   refine ⟨v,?_,r⟩
   rw [bC (fun z=> ?_)]
   ·exact e
   ·rw [h.1] at z
    exact nd.1 (aba z▸aab.mpr ⟨_,m,rfl⟩)
def qc (K:Frag)(H:Hp)(pw:List (Str×List (Rat×Rat)))(kW:γ):Prop:=
 Paired (fun (p:Str×List (Rat×Rat)) (kv:Key×V)=>kv.1=.inr p.1/\∃l us,kv.2=.ref l/\H l=some (.lst us)/\g_ K H us p.2) pw kW
theorem qc.same {K:Frag}{H H' :Hp}{pw:List (Str×List (Rat×Rat))}{kW:γ}(h:qc K H pw kW)(s:au H H'):qc K H' pw kW:=
 Paired.bM h fun _ _ z=>⟨z.1,by obtain ⟨l,us,e1,e2,e3⟩:=z.2;exact ⟨l,us,e1,s _ _ e2,e3.same s⟩⟩
theorem qc.dict {K:Frag}{H:Hp}{pw:List (Str×List (Rat×Rat))}{kW kvs:γ}{d:Addr}{o:HO}(h:qc K H pw kW)(e:H d=some (.dK kvs)):qc K (upd H d o) pw kW:=
 Paired.bM h fun _ _ z=>⟨z.1,by
  obtain ⟨l,us,e1,e2,e3⟩:=z.2
  exact ⟨l,us,e1,by rw [ao (fun q=>by rw [q,e] at e2;cases e2)];exact e2,e3.aX (.dict e)⟩⟩
theorem qc.keys {K:Frag}{H:Hp}{pw:List (Str×List (Rat×Rat))}{kW:γ}(h:qc K H pw kW):kW.map (·.1)=(pw.map (·.1)).map (fun b=>(aa6 b:Key)):=by
 rw [eT h,aay]
 rfl
theorem d_.ends {K:Frag}{H:Hp}{C a dx pP pW pB:Addr}{ps:List (Str×Pt)}{bs:List (Str×Str×Str)}{kP kW kB:γ}(R:d_ K H C a dx pP pW pB ps bs kP kW kB)(nd:(bs.map (·.1)).Nodup){x one other:Str}(m:(x,one,other)∈bs):
  ∃p,bB kB (.inr x)=some (.ref p)/\Rd H p (.tup [.str one,.str other]):=by
 obtain ⟨v,e,p,ep,r⟩:=gK R.rb nd m
 have wu :v=.ref p:=ep
 exact ⟨p,by rw [e,wu],r⟩
theorem d_.place {K:Frag}{H:Hp}{C a dx pP pW pB:Addr}{ps:List (Str×Pt)}{bs:List (Str×Str×Str)}{kP kW kB:γ}(R:d_ K H C a dx pP pW pB ps bs kP kW kB)(nd:(ps.map (·.1)).Nodup){x:Str}{p:Pt}(m:(x,p)∈ps):
  ∃v,bB kP (.inr x)=some v/\Spot K H v p:=gK R.rp nd m
end Ty
namespace Ty
open PySem PySem.Spec PyProof.Rows L2
structure aE where
 nm:Str
 sp:Rat×Rat
 ws:List (Rat×Rat)
abbrev _root_.ν:=List aE
structure aU where
 nm:Str
 one:aE
 other:aE
structure EE (K:Frag)(H:Hp)(C a:Addr)(pins:ν)(bars:List aU):Prop where
 ex:∃(dx pP pW pB:Addr) (kP kW kB:γ),d_ K H C a dx pP pW pB (pins.map fun p=>(p.nm,mY p.sp)) (bars.map fun b=>(b.nm,b.one.nm,b.other.nm)) kP kW kB/\qc K H (pins.map fun p=>(p.nm,p.ws)) kW
structure dz (pins:ν)(bars:List aU):Prop where
 np:(pins.map (·.nm)).Nodup
 nb:(bars.map (·.nm)).Nodup
 ends:∀b∈bars,b.one∈pins/\b.other∈pins/\b.one.nm≠b.other.nm
 sz:∀p∈pins,Sz 44 p.sp.1/\Sz 44 p.sp.2/\∀w∈p.ws,Sz 22 w.1/\Sz 22 w.2
 lp:pins.length<=9
 lb:bars.length<=14
 lw:∀p∈pins,p.ws.length<=2
theorem EE.same {K:Frag}{H H' :Hp}{C a:Addr}{pins:ν}{bars:List aU}(h:EE K H C a pins bars)(s:au H H'):EE K H' C a pins bars:=by
 obtain ⟨dx,pP,pW,pB,kP,kW,kB,R,W⟩:=h.ex
 exact ⟨dx,pP,pW,pB,kP,kW,kB,R.same s,W.same s⟩
def Rf (K:Frag)(H:Hp)(kvs:γ)(F:Str->Option (Rat×Rat)):Prop:=
 ∀nm,(bB kvs (.inr nm)=none/\F nm=none)\/∃v p,bB kvs (.inr nm)=some v/\F nm=some p/\ff K H v p
section
variable {K:Frag}{H H' :Hp}{kvs:γ}
theorem Rf.same {F:Str->Option (Rat×Rat)}(h:Rf K H kvs F)(s:au H H'):Rf K H' kvs F:=fun nm=>by
 rcases h nm with h | ⟨v,q,h1,h2,h3⟩
 ·exact .inl h
 ·exact .inr ⟨v,q,h1,h2,h3.same s⟩
theorem Rf.aax {F:Str->Option (Rat×Rat)}(h:Rf K H kvs F){x:Str}{v:V}{q:Rat×Rat}(n:ff K H v q):ff K H ((bB kvs (.inr x)).getD v) ((F x).getD q):=by
 rcases h x with ⟨h1,h2⟩ | ⟨u,q',h1,h2,h3⟩
 ·rw [h1,h2]
  exact n
 ·rw [h1,h2]
  exact h3
end
end Ty
namespace Ty
open PySem PySem.Spec PyProof.Rows L2
end Ty
namespace Ty
open PySem PySem.Spec PyProof.Rows L2
theorem Pq {α:Type}{nm:α->Str}{l:List α}(nd:(l.map nm).Nodup){b b' :α}(h:b∈l)(h' :b' ∈l)(e:nm b=nm b'):b=b' :=by
 obtain ⟨i,hi,ei⟩:=abx.mp h
 obtain ⟨j,hj,ej⟩:=abx.mp h'
 have q1:(l.map nm)[i]? =some (nm b):=by rw [Wp,gE hi,ei];rfl
 have q2:(l.map nm)[j]? =some (nm b):=by rw [Wp,gE hj,ej,e];rfl
 have ij:=(ahH (by rw [aaa];exact hi) nd).mp (q1.trans q2.symm)
 subst ij
 rw [<- ei, <- ej]
theorem gm {α:Type}{nm:α->Str}{l:List α}(nd:(l.map nm).Nodup){i:Nat}{b b' :α}(h:l[i]? =some b)(m:b' ∈l.take i):nm b' ≠nm b:=fun e=>by
 have il:=(be.mp h).1
 obtain ⟨j,hj,ej⟩:=abx.mp m
 rw [aiH] at ej
 rw [aaW] at hj
 have q1:(l.map nm)[j]? =some (nm b):=by rw [Wp,gE (by omega),ej, <- e];rfl
 have q2:(l.map nm)[i]? =some (nm b):=by rw [Wp,h];rfl
 have:=(ahH (by rw [aaa];omega) nd).mp (q1.trans q2.symm)
 omega
theorem take_snoc {α:Type}{l:List α}{i:Nat}{b:α}(h:l[i]? =some b):l.take (i+1)=l.take i++[b]:=by rw [ahI,h];rfl
end Ty
namespace Ty
open PySem PySem.Spec PyProof.Rows L2
theorem AV {xs:List Str}(h:xs.Nodup):(xs.map fun x=>(aa6 x:Key)).Nodup:=by
 unfold apR
 rw [ahJ]
 exact List.Pairwise.imp (fun h e=>h (aba e)) h
theorem kD {H H' :Hp}(s:au H H'){p:Addr}(n:H' p=none):H p=none:=by
 cases e:H p with
 | none=>rfl
 | some o=>rw [s _ _ e] at n;cases n
end Ty
namespace Ty
open PySem PySem.Spec PyProof.Rows L2
section
variable {X:Cx}
end
section
variable {D:Addr}{te:TE}{cap:L2.St}{H1:Hp}{Q:VK}
end
abbrev fH (h:Heap)(z TI TO:Addr)(f0:Value)(fb:Bool):Prop:=
 h.get? z=some {cls:=.type "zip",dict:=none,data:=.fields #[f0,.bool fb,.bool false,.ref TI,.ref TO],slots:= #[]}
section
variable {prog:Program}{w:World}{A:Around}{E:δ}{s:Shared}
theorem vp {a:Addr}{o:Obj}{Q:Option Obj->Shared->Prop}(h:s.heap.get? a=some o)(q:Q (some o) s):wpAny (model prog w) A (loadIfAlive a) Q E s:=fun Γ p _=>by
 show Sem.wp _ _ (.loadIfAlive a .pure) _ _ _ _
 rw [Sem.wp_loadIfAlive,h]
 exact q
theorem vq {z TI TO T:Addr}{fb:Bool}{o:Obj}{Q:Bool->Shared->Prop}(hz:fH s.heap z TI TO (rawInt T) fb)(hT:s.heap.get? T=some o)
  (hQ:∀h',fH h' z TI TO (rawInt T) true->Heap.SameBut z s.heap h' ->Q false {s with heap:=h' }):wpAny (model prog w) A (Builtin.SmallTypes.ownedTupleIsFree (.ref z)) Q E s:=by
 unfold Builtin.SmallTypes.ownedTupleIsFree
 refine wpAny_bind (wpAny_field hz rfl (x:=rawInt T) rfl ?_)
 show wpAny _ _ (loadIfAlive ((T:Int)).toNat >>=_) _ _ _
 refine wpAny_bind (vp (o:=o) (by simpa using hT) ?_)
 simp only [Option.isNone_some,ahA,if_false]
 refine wpAny_bind (wpAny_field hz rfl (x:=.bool fb) rfl ?_)
 cases fb with
 | true=>
  show wpAny _ _ (if (Value.bool true !=Value.bool true)=true then _ else _) _ _ _
  rw [if_neg (by decide)]
  exact wpAny_pure (hQ s.heap hz ⟨rfl,fun _ _=>rfl⟩)
 | false=>
  show wpAny _ _ (if (Value.bool false !=Value.bool true)=true then _ else _) _ _ _
  rw [if_pos (by decide)]
  refine wpAny_bind (wpAny_setField_rec hz (by simp) fun h' hz' Kc =>wpAny_pure (hQ h' hz' Kc))
theorem AW {z TI TO T i1 i2 l1 l2:Addr}{fb:Bool}{o:Obj}{k1 k2:Nat}{xs ys:Array Value}{x y:Value}{Q:δ}(D:ZipApart z TI TO i1 i2 l1 l2)
  (hz:fH s.heap z TI TO (rawInt T) fb) (hT:s.heap.get? T=some o) (jf:IsPair s.heap TI (.ref i1) (.ref i2))
  (h1:s.heap.IsListIter i1 l1 k1) (h2:s.heap.IsListIter i2 l2 k2) (yz:s.heap.IsList l1 xs) (w6:s.heap.IsList l2 ys) (hx:xs[k1]? =some x) (hy:ys[k2]? =some y)
  (hQ:∀h',fH h' z TI TO (rawInt T) true->h'.IsListIter i1 l1 (k1+1)->h'.IsListIter i2 l2 (k2+1)->IsPair h' s.heap.objs.size x y->h'.objs.size=s.heap.objs.size+1->
   (∀c o,c≠z->c≠i1->c≠i2->s.heap.get? c=some o->h'.get? c=some o)->Q (.ref s.heap.objs.size) {s with heap:=h' }):
  wpAny (model prog w) A (Builtin.«zip.__next__» ⟨[.ref z],[]⟩) (fun fin s' =>∃v,fin=.done (.ret v)/\Q v s') E s:=by
 show wpAny _ _ (field (.ref z) 2 >>=_) _ _ _
 refine wpAny_bind (wpAny_field hz rfl (x:=.bool false) rfl ?_)
 show wpAny _ _ (field (.ref z) 3 >>=_) _ _ _
 refine wpAny_bind (wpAny_field hz rfl (x:=.ref TI) rfl ?_)
 refine wpAny_bind (wpAny_seqItems jf rfl ?_)
 show wpAny _ _ (Builtin.SmallTypes.ownedTupleIsFree (.ref z) >>=_) _ _ _
 refine wpAny_bind (vq hz hT fun h₁ hz₁ xk=> ?_)
 simp only [ahA,if_false]
 refine wpAny_bind ?_
 show wpAny _ _ (forIn [Value.ref i1,Value.ref i2].toArray _ _) _ _ _
 rw [aiy]
 simp only [apG,aio]
 refine wpAny_bind (wpAny_bind (wpAny_holding ?_))
 show wpAny _ _ (Builtin.SmallTypes.nextOf (.ref i1) >>=_) _ _ _
 refine wpAny_bind (wpAny_nextOf_list_item (h1.extBut xk.extBut D.i1z) (yz.extBut xk.extBut D.l1z) hx fun h₂ h1₂ HQ=>wpAny_pure ?_)
 refine wpAny_pure ?_
 refine wpAny_bind (wpAny_bind (wpAny_holding ?_))
 show wpAny _ _ (Builtin.SmallTypes.nextOf (.ref i2) >>=_) _ _ _
 refine wpAny_bind (wpAny_nextOf_list_item ((h2.extBut xk.extBut D.i2z).extBut HQ.extBut D.i12.symm) ((w6.extBut xk.extBut D.l2z).extBut HQ.extBut D.l2i1) hy fun h₄ h2₄ Rg=>wpAny_pure ?_)
 refine wpAny_pure (wpAny_pure ?_)
 refine wpAny_bind (wpAny_newTuple (hsz:=(by show 2<=sizeLine;decide)) ?_)
 have hsz:h₄.objs.size=s.heap.objs.size:=by rw [Rg.1,HQ.1,xk.1]
 refine wpAny_pure ⟨_,rfl,?_⟩
 have hz₄:fH h₄ z TI TO (rawInt T) true:=Rg.extBut _ _ D.i2z.symm (HQ.extBut _ _ D.i1z.symm hz₁)
 show Q (.ref h₄.objs.size) _
 rw [hsz]
 refine hQ _ (Heap.get?_push_of_some _ hz₄) ((h1₂.extBut Rg.extBut D.i12).at fun o e=>Heap.get?_push_of_some _ e) (h2₄.at fun o e=>Heap.get?_push_of_some _ e) ?_ (by rw [Heap.size_push,hsz]) fun c o c1 c3 c4 e=>Heap.get?_push_of_some _ (Rg.extBut _ _ c4 (HQ.extBut _ _ c3 (xk.extBut _ _ c1 e)))
 show (h₄.push _).get? _=_
 rw [<- hsz]
 exact Heap.get?_push_size _ rfl
theorem HR {z TI TO T i1 i2 l1 l2:Addr}{fb:Bool}{o:Obj}{k1 k2:Nat}{xs ys:Array Value}{Q:Fin->Shared->Prop}(hh:A.handled=none)(D:ZipApart z TI TO i1 i2 l1 l2)
  (hz:fH s.heap z TI TO (rawInt T) fb) (hT:s.heap.get? T=some o) (jf:IsPair s.heap TI (.ref i1) (.ref i2))
  (h1:s.heap.IsListIter i1 l1 k1) (h2:s.heap.IsListIter i2 l2 k2) (yz:s.heap.IsList l1 xs) (w6:s.heap.IsList l2 ys) (AX:xs[k1]? =none\/ys[k2]? =none)
  (hE:∀h' e,(∀c o,c≠z->c≠i1->c≠i2->s.heap.get? c=some o->h'.get? c=some o)->(∃o,h'.get? e=some o/\o.cls=.type "StopIteration")->E (.ref e) {s with heap:=h' }):
  wpAny (model prog w) A (Builtin.«zip.__next__» ⟨[.ref z],[]⟩) Q E s:=by
 show wpAny _ _ (field (.ref z) 2 >>=_) _ _ _
 refine wpAny_bind (wpAny_field hz rfl (x:=.bool false) rfl ?_)
 show wpAny _ _ (field (.ref z) 3 >>=_) _ _ _
 refine wpAny_bind (wpAny_field hz rfl (x:=.ref TI) rfl ?_)
 refine wpAny_bind (wpAny_seqItems jf rfl ?_)
 show wpAny _ _ (Builtin.SmallTypes.ownedTupleIsFree (.ref z) >>=_) _ _ _
 refine wpAny_bind (vq hz hT fun h₁ hz₁ xk=> ?_)
 simp only [ahA,if_false]
 refine wpAny_bind ?_
 show wpAny _ _ (forIn [Value.ref i1,Value.ref i2].toArray _ _) _ _ _
 rw [aiy]
 simp only [apG,aio]
 refine wpAny_bind (wpAny_bind (wpAny_holding ?_))
 show wpAny _ _ (Builtin.SmallTypes.nextOf (.ref i1) >>=_) _ _ _
 cases hx:xs[k1]? with
 | none=>
  refine wpAny_bind (wpAny_nextOf_list_end hh (h1.extBut xk.extBut D.i1z) (yz.extBut xk.extBut D.l1z) hx fun h₂ e HQ he=> ?_)
  exact hE h₂ e (fun c o c1 c3 _ x=>HQ _ _ c3 (xk.extBut _ _ c1 x)) he
 | some x=>
  have hy:ys[k2]? =none:=by rcases AX with h | h;rw [hx] at h;cases h;exact h
  refine wpAny_bind (wpAny_nextOf_list_item (h1.extBut xk.extBut D.i1z) (yz.extBut xk.extBut D.l1z) hx fun h₂ h1₂ HQ=>wpAny_pure ?_)
  refine wpAny_pure ?_
  refine wpAny_bind (wpAny_bind (wpAny_holding ?_))
  show wpAny _ _ (Builtin.SmallTypes.nextOf (.ref i2) >>=_) _ _ _
  refine wpAny_bind (wpAny_nextOf_list_end hh ((h2.extBut xk.extBut D.i2z).extBut HQ.extBut D.i12.symm) ((w6.extBut xk.extBut D.l2z).extBut HQ.extBut D.l2i1) hy fun h₄ e Rg he=> ?_)
  exact hE h₄ e (fun c o c1 c3 c4 x=>Rg _ _ c4 (HQ.extBut _ _ c3 (xk.extBut _ _ c1 x))) he
theorem xm {z TI TO T i1 i2 l1 l2:Addr}{fb:Bool}{o:Obj}{k1 k2:Nat}{xs ys:Array Value}{x y:Value}{Q:Option Value->Shared->Prop}(D:ZipApart z TI TO i1 i2 l1 l2)
  (hz:fH s.heap z TI TO (rawInt T) fb) (hT:s.heap.get? T=some o) (jf:IsPair s.heap TI (.ref i1) (.ref i2))
  (h1:s.heap.IsListIter i1 l1 k1) (h2:s.heap.IsListIter i2 l2 k2) (yz:s.heap.IsList l1 xs) (w6:s.heap.IsList l2 ys) (hx:xs[k1]? =some x) (hy:ys[k2]? =some y)
  (hQ:∀h',fH h' z TI TO (rawInt T) true->h'.IsListIter i1 l1 (k1+1)->h'.IsListIter i2 l2 (k2+1)->IsPair h' s.heap.objs.size x y->h'.objs.size=s.heap.objs.size+1->
   (∀c o,c≠z->c≠i1->c≠i2->s.heap.get? c=some o->h'.get? c=some o)->Q (some (.ref s.heap.objs.size)) {s with heap:=h' }):
  wpAny (model prog w) A (pyNext (.ref z)) Q E s:=by
 have S6 :s.TypeIs (.ref z) "zip":=⟨_,hz,rfl⟩
 unfold pyNext
 exact wpAny_bind (wpAny_attempt (wpAny_callSpecial?_slot (name:=Str.ofString "__next__") S6 F.slot_zip_next
  (wpAny_call_entry F.slot_zip_next S6 F.entry_zip_next
   (AW D hz hT jf h1 h2 yz w6 hx hy fun h' a1 a3 a4 a5 a6 a7=>wpAny_pure (hQ h' a1 a3 a4 a5 a6 a7)) (F.args_zip_next_1 _))))
theorem AY {z TI TO T i1 i2 l1 l2:Addr}{fb:Bool}{o:Obj}{k1 k2:Nat}{xs ys:Array Value}{Q:Option Value->Shared->Prop}(hh:A.handled=none)(D:ZipApart z TI TO i1 i2 l1 l2)
  (hz:fH s.heap z TI TO (rawInt T) fb) (hT:s.heap.get? T=some o) (jf:IsPair s.heap TI (.ref i1) (.ref i2))
  (h1:s.heap.IsListIter i1 l1 k1) (h2:s.heap.IsListIter i2 l2 k2) (yz:s.heap.IsList l1 xs) (w6:s.heap.IsList l2 ys) (AX:xs[k1]? =none\/ys[k2]? =none)
  (hQ:∀h',(∀c o,c≠z->c≠i1->c≠i2->s.heap.get? c=some o->h'.get? c=some o)->Q none {s with heap:=h' }):wpAny (model prog w) A (pyNext (.ref z)) Q E s:=by
 have S6 :s.TypeIs (.ref z) "zip":=⟨_,hz,rfl⟩
 unfold pyNext
 refine wpAny_bind (wpAny_attempt (wpAny_callSpecial?_slot (name:=Str.ofString "__next__") S6 F.slot_zip_next
  (wpAny_call_entry F.slot_zip_next S6 F.entry_zip_next (HR hh D hz hT jf h1 h2 yz w6 AX fun h' e hk he=> ?_) (F.args_zip_next_1 _))))
 obtain ⟨o,ho,hc⟩:=he
 refine wpAny_bind (wpAny_isInstance (T:="StopIteration") (b:=true) ⟨o,ho,hc⟩ isSubtype_stop ?_)
 exact wpAny_pure (hQ _ hk)
end
def Ke (h:Heap)(z TI TO i1 i2 a b S:Addr)(i:Nat):Prop:=(fH h z TI TO .none false\/∃(T:Addr) (o:Obj) (fb:Bool),fH h z TI TO (rawInt T) fb/\h.get? T=some o/\T≠z/\T≠TO/\T≠i1/\T≠i2/\T≠S)/\IsPair h TI (.ref i1) (.ref i2)/\(∃x y,IsPair h TO x y)/\h.IsListIter i1 a i/\h.IsListIter i2 b i
section
variable {prog:Program}{w:World}{A:Around}{E:δ}{s:Shared}{z TI TO i1 i2 a b S:Addr}{i:Nat}
theorem Ke.frame {h h' :Heap}(st:Ke h z TI TO i1 i2 a b S i)(k:∀c o,c≠S->h.get? c=some o->h'.get? c=some o)(nz:z≠S)(n1:TI≠S)(n2:TO≠S)(n3:i1≠S)(n4:i2≠S):Ke h' z TI TO i1 i2 a b S i:=by
 obtain ⟨hz,jf,⟨x,y,rf⟩,h1,h2⟩:=st
 refine ⟨?_,k _ _ n1 jf,⟨x,y,k _ _ n2 rf⟩,h1.at fun o e=>k _ o n3 e,h2.at fun o e=>k _ o n4 e⟩
 rcases hz with hz | ⟨T,o,fb,hz,hT,t1,t2,t3,t4,t5⟩
 ·exact .inl (k _ _ nz hz)
 ·exact .inr ⟨T,o,fb,k _ _ nz hz,k _ _ t5 hT,t1,t2,t3,t4,t5⟩
theorem Ke.item {oS:Obj}{xs ys:Array Value}{x y:Value}{Q:Option Value->Shared->Prop}(D:ZipApart z TI TO i1 i2 a b)(st:Ke s.heap z TI TO i1 i2 a b S i)(hS:s.heap.get? S=some oS)
  (yz:s.heap.IsList a xs) (w6:s.heap.IsList b ys) (hx:xs[i]? =some x) (hy:ys[i]? =some y)
  (hQ:∀h',Ke h' z TI TO i1 i2 a b S (i+1)->IsPair h' s.heap.objs.size x y->(∀c o,c∉[z,TI,TO,i1,i2]->s.heap.get? c=some o->h'.get? c=some o)->Q (some (.ref s.heap.objs.size)) {s with heap:=h' }):
  wpAny (model prog w) A (pyNext (.ref z)) Q E s:=by
 obtain ⟨hz,jf,⟨x0,y0,rf⟩,h1,h2⟩:=st
 have lt:∀{c o},s.heap.get? c=some o->s.heap.objs.size≠c:=fun e=>ahX (Heap.lt_size e)
 have e1:∃o,s.heap.get? i1=some o:=by obtain ⟨o,e,_⟩:=h1;exact ⟨o,e⟩
 have e2:∃o,s.heap.get? i2=some o:=by obtain ⟨o,e,_⟩:=h2;exact ⟨o,e⟩
 obtain ⟨o1,e1⟩:=e1
 obtain ⟨o2,e2⟩:=e2
 have S7:∀{c:Addr},c∉[z,TI,TO,i1,i2]->c≠z/\c≠TI/\c≠TO/\c≠i1/\c≠i2:=fun h=>by simpa using h
 rcases hz with hz | ⟨T,o,fb,hz,hT,t1,t2,t3,t4,t5⟩
 ·refine wpAny_pyNext_zip_item D hz jf rf h1 h2 yz w6 hx hy fun h' a1 a2 a3 a4 a5 a6 a7=> ?_
  refine hQ h' ⟨.inr ⟨_,_,false,a1,a5,lt hz,lt rf,lt e1,lt e2,lt hS⟩,a7 _ _ D.TIz D.TITO D.TIi1 D.TIi2 jf,⟨_,_,a2⟩,a3,a4⟩ a5 fun c o hc e=> ?_
  obtain ⟨c1,c2,c3,c4,c5⟩:=S7 hc
  exact a7 c o c1 c3 c4 c5 e
 ·refine xm D hz hT jf h1 h2 yz w6 hx hy fun h' a1 a3 a4 a5 a6 a7=> ?_
  refine hQ h' ⟨.inr ⟨T,o,true,a1,a7 _ _ t1 t3 t4 hT,t1,t2,t3,t4,t5⟩,a7 _ _ D.TIz D.TIi1 D.TIi2 jf,⟨_,_,a7 _ _ D.TOz D.TOi1 D.TOi2 rf⟩,a3,a4⟩ a5 fun c o hc e=> ?_
  obtain ⟨c1,c2,c3,c4,c5⟩:=S7 hc
  exact a7 c o c1 c4 c5 e
theorem Ke.fin {xs ys:Array Value}{Q:Option Value->Shared->Prop}(hh:A.handled=none)(D:ZipApart z TI TO i1 i2 a b)(st:Ke s.heap z TI TO i1 i2 a b S i)
  (yz:s.heap.IsList a xs) (w6:s.heap.IsList b ys) (AX:xs[i]? =none\/ys[i]? =none)
  (hQ:∀h',(∀c o,c∉[z,TI,TO,i1,i2]->s.heap.get? c=some o->h'.get? c=some o)->Q none {s with heap:=h' }):wpAny (model prog w) A (pyNext (.ref z)) Q E s:=by
 obtain ⟨hz,jf,⟨x0,y0,rf⟩,h1,h2⟩:=st
 have S7:∀{c:Addr},c∉[z,TI,TO,i1,i2]->c≠z/\c≠TI/\c≠TO/\c≠i1/\c≠i2:=fun h=>by simpa using h
 rcases hz with hz | ⟨T,o,fb,hz,hT,t1,t2,t3,t4,t5⟩
 ·refine wpAny_pyNext_zip_end hh D hz jf rf h1 h2 yz w6 AX fun h' kk=>hQ h' fun c o hc e=> ?_
  obtain ⟨c1,c2,c3,c4,c5⟩:=S7 hc
  exact kk c o c1 c3 c4 c5 e
 ·refine AY hh D hz hT jf h1 h2 yz w6 AX fun h' kk=>hQ h' fun c o hc e=> ?_
  obtain ⟨c1,c2,c3,c4,c5⟩:=S7 hc
  exact kk c o c1 c4 c5 e
end
end Ty
namespace Ty
open PySem PySem.Spec PyProof.Rows L2
section
variable {X:Cx}{pins:ζ}{σ:L2.St}
theorem AZ {H:Hp}{p:Addr}(h:H p=none)(o:HO):au H (upd H p o):=fun b u q=>by rw [ao (aq q h)];exact q
theorem boot_list:bootBuiltins "list"=some (.type "list"):=by decide+kernel
end
section
variable {X:Cx}
section
variable {k:Nat}{m:Str}{pos apos:Pos}{e o:Expr}{es:List Expr}{ta:TE}{t:TA}
end
end
section
variable {P:Program}{w:World}{K:Frag}{mg:ι}{base:Heap}
end
theorem Ly (l:Addr)(its:Array Value)(n:Nat)(b:Addr)(dZ:Array Value)(n2:Nat)(d:Option Addr)(sl:Array (Option Value))(hs0:¬(!its.isEmpty && Builtin.List.listTooLong (its.size+dZ.size))=true)(hs1:its.size<=sizeLine)(J':its.size+dZ.size<=sizeLine+1):
  Meets (Builtin.«list.extend» ⟨[.ref l,.ref b],[]⟩) (fun _ R s=>s.heap.get? l=some {cls:=.type "list",dict:=none,data:=.seq its n,slots:= #[]}/\s.heap.get? b=some {cls:=.type "tuple",dict:=d,data:=.seq dZ n2,slots:=sl}/\
   R (.ok (.ret Value.none)) {s with heap:=s.heap.update l (Obj.mapSeq fun x=>x++dZ),toks:=s.toks}):=
 .of_wp fun prog w A R s h=>by
  obtain ⟨hp,g,dd,tk,os⟩:=s
  obtain ⟨hl,hb,h⟩:=h
  have f1:=AutoSeq1.idx_int
  have f2:=AutoSeq1.sub_tuple_tuple
  have f3:=AutoSeq1.sub_list_list
  have f4:=AutoSeq1.sub_tuple_list
  have f5:=AutoSeq1.sub_list_tuple
  have hz' :(its++dZ).size<=sizeLine+1:=by rw [Array.size_append];exact J'
  wp_walk using (wpAny_updateSeq hl rfl (hz:=hs1) (_hz' :=hz')),wpAny_loadPart' hl,wpAny_loadPart' hb
  exact ⟨_,rfl,h⟩
section
variable {X:Cx}
def S8 (K:Frag):V->List V->Hp->VK->Prop:=fun x vs H Q=>∃l b xs zs,x=.ref l/\vs=[.ref b]/\H l=some (.lst xs)/\bN K H b zs/\xs.length+zs.length<=1000/\Q .cv (upd H l (.lst (xs++zs)))
theorem Lz:MtR X "list.extend" (S8 X.K):=by
 intro pins s σ H x vs v us Q I rx rv h
 obtain ⟨l,b,xs,zs,rfl,rfl,hH,hB,hz,q⟩:=h
 cases rx
 obtain ⟨u,rfl,ru⟩:=rv.one
 cases ru
 obtain ⟨z,its,n,r,hl,e⟩:=I.ma hH
 obtain ⟨dZ,r2,tp,z2⟩:=I.tuple hB
 have w6:=r2.length
 have big:(1000:Nat)<=sizeLine:=by decide
 have hsz:its.toArray.size+dZ.toArray.size<=sizeLine:=by rw [aaE,aaE];omega
 have FT:¬ (!its.toArray.isEmpty && Builtin.List.listTooLong (its.toArray.size+dZ.toArray.size))=true:=by
  rw [uU hsz,ah2]
  exact aaz
 obtain ⟨⟨c,d,dt,sl⟩,e2,hc,n2,hd⟩:=tp
 obtain rfl:c=Value.type "tuple":=hc
 obtain rfl:dt=_:=hd
 refine call_meets F.slot_list_extend ⟨_,e,rfl⟩ F.entry_list_extend (F.args_list_extend_2 _ _)
  (Ly l its.toArray n b dZ.toArray n2 d sl FT (by rw [aaE];omega) (by omega)) ⟨e,e2,?_⟩
 refine ⟨.cv,_,I.OW (its' :=its++dZ) hH e (by simp) (r.append r2) ?_,rfl,q⟩
 rw [aas]
 omega
end
theorem sJ:typeLookup (.type "zip") "__getattr__"=pure none:=by rw [typeLookup_type,builtinLookup_eq_fast];kernel_rfl
theorem A_:typeLookup (.type "zip") "keys"=pure none:=by rw [typeLookup_type,builtinLookup_eq_fast];kernel_rfl
theorem xn:entryFor table "zip.__getattribute__"=some Builtin.«object.__getattribute__»:=
 entryFor_alias (id' :="object.__getattribute__") (by kernel_rfl) (by decide+kernel) (by decide+kernel) (by kernel_rfl)
theorem lQ:entryFor table "dict.update.loop"=some Builtin.«dict.update.loop»:=entryFor_of_tree (by kernel_rfl)
theorem fU:plainId "dict.update.loop"=true:=by decide+kernel
theorem HS (a:Addr)(vs:Array Value)(u:Tok):
  Meets (Builtin.«object.__getattribute__» ⟨[.ref a,.str "keys" u],[]⟩) (fun A R s=>s.heap.get? a=some {cls:=.type "zip",dict:=none,data:=.fields vs,slots:= #[]}/\raisesAttr (.ref a) "keys" A R s):=
 Meets.of_wp fun prog w A R s hs=>by
  obtain ⟨hp,g,d,tk,os⟩:=s
  obtain ⟨hx,hs⟩:=hs
  have hT:(⟨hp,g,d,tk,os⟩:Shared).TypeIs (.ref a) "zip":=⟨_,hx,rfl⟩
  have hm:=A_
  unfold Builtin.«object.__getattribute__»
  repeat (any_goals (first | (assumption) | wp_step))
  exact wpAny_raiseAttrError hs.1 hs.2 (attrMsg_fits (by decide+kernel) (by decide+kernel))
section
variable {prog:Program}{w:World}{A:Around}{E:δ}{s:Shared}
theorem vt {z:Addr}{vs:Array Value}{Q:Option Value->Shared->Prop}(hx:s.heap.get? z=some {cls:=.type "zip",dict:=none,data:=.fields vs,slots:= #[]})(hA:A.handled=none)
  (h:∀h' tk,(∀b o,s.heap.get? b=some o->h'.get? b=some o)->Q none {s with heap:=h',toks:=tk}):wpAny (model prog w) A (getAttr? (.ref z) "keys") Q E s:=by
 obtain ⟨hp,g,d,tk,os⟩:=s
 have hT:∀tk',(⟨hp,g,d,tk',os⟩:Shared).TypeIs (.ref z) "zip":=fun _=>⟨_,hx,rfl⟩
 have f1:=sub_AttributeError
 have f3:=F.slot_zip_getattribute.lookup
 have f4:=F.slot_zip_getattribute.bind (.ref z)
 have f5:=sJ
 unfold getAttr? getAttrBy? getAttrBy
 repeat (any_goals (first | (assumption) | exact hT _ | ((with_reducible show wpAny _ _ (call (Value.builtin "zip.__getattribute__") _ _) _ _ _);refine call_meets F.slot_zip_getattribute (hT _) xn (F.args_zip_getattribute_2 _ _) (HS z vs _) ⟨hx,hA,fun h' tk' e uE => ?_⟩) | wp_step))
 obtain ⟨t',u',he⟩:=uE.there
 show wpAny _ _ (getattributeRaised _ _ _ _ _ _ _) _ _ _
 unfold getattributeRaised
 repeat (any_goals (first | (assumption) | wp_step))
 exact h _ _ uE.keeps
theorem qt {z TI TO:Addr}{f0:Value}{Q:δ}(hA:A.in1.in1.handled=none)(hz:IsZip s.heap z TI TO f0)
  (hL:∀(h' :Heap) (tk:Nat) (R:Result->Shared->Prop),(∀b o,s.heap.get? b=some o->h'.get? b=some o)->h'.get? s.heap.objs.size=some {cls:=.type "dict",data:=.dict #[]}->
   (∀s',Q (.ref s.heap.objs.size) s' ->R (.ok (.ret .none)) s')->codeAny (model prog w) A.in1 (.builtin "dict.update.loop" ⟨[.ref s.heap.objs.size,.ref z,rawInt 0,.none],[]⟩) R {s with heap:=h',toks:=tk}):
  wpAny (model prog w) A (call (.type "dict") [.ref z]) Q E s:=by
 refine callType_codes (Q₁:=fun obj s₁=>obj=.ref s.heap.objs.size/\s₁={s with heap:=s.heap.push {cls:=.type "dict",data:=.dict #[]}}) F.kt_called_dict (F.kt_typeCall_dict_1 _) F.entry_dict_init (kt_code_dict_new _ ⟨rfl,rfl⟩) ?_
 rintro obj s₁ ⟨rfl,rfl⟩
 have hS:(s.heap.push {cls:=.type "dict",data:=.dict #[]}).get? s.heap.objs.size=some {cls:=.type "dict",data:=.dict #[]}:=Heap.get?_push_size _ rfl
 have k0:∀b o,s.heap.get? b=some o->(s.heap.push {cls:=.type "dict",data:=.dict #[]}).get? b=some o:=fun b o e=>Heap.get?_push_of_some _ e
 generalize hN:s.heap.objs.size=S at hS hL ⊢
 generalize s.heap.push {cls:=.type "dict",data:=.dict #[]}=hp at hS k0 ⊢
 have Pu:hp.get? z=_:=k0 _ _ hz
 have hTS:Shared.TypeIs {s with heap:=hp} (.ref S) "dict":=⟨_,hS,rfl⟩
 have hT:Shared.TypeIs {s with heap:=hp} (.ref z) "zip":=⟨_,Pu,rfl⟩
 refine ⟨hTS,F.args_dict_init_2 _ _,?_⟩
 unfold Builtin.«dict.__init__»
 refine wpAny_bind ?_
 unfold Builtin.Dict.selfAndRest
 refine wpAny_bind (wpAny_notOrdered_dict hTS ?_)
 refine wpAny_pure ?_
 show wpAny _ _ (Builtin.Dict.updateFrom "dict.__init__" S (.ref z) [] .none) _ _ _
 unfold Builtin.Dict.updateFrom
 refine wpAny_bind (wpAny_typeOf hT ?_)
 rw [if_pos (by decide)]
 refine wpAny_bind (vt (s:={s with heap:=hp}) Pu hA fun h' tk k1=> ?_)
 rw [if_pos (by rfl)]
 refine wpAny_bind (wpAny_rule ?_)
 have hz3:IsZip h' z TI TO f0:=k1 _ _ Pu
 refine wpAny_bind (wpAny_pyIter_zip (s:={s with heap:=h',toks:=tk}) hz3 ?_)
 exact wpAny_pure ⟨plainId_quiet fU _,hL _ _ _ (fun b o e=>k1 _ _ (k0 _ _ e)) (k1 _ _ hS) fun s' hq=>⟨rfl,hq⟩⟩
end
section
variable {X:Cx}{pins:ζ}{σ:L2.St}
theorem vv (kvs more:γ)(kv:Key×V):bX kvs (more++[kv])=putK (bX kvs more) kv.1 kv.2:=by
 unfold bX
 rw [List.foldl_append]
 rfl
theorem Pw {z TI TO i1 i2 a b S:Addr}{A' :Around}{R:Result->Shared->Prop}{ks:List Key}{ys:η}{H0:Hp}(hh:A'.in1.handled=none)(D:ZipApart z TI TO i1 i2 a b)(na:a≠S)(nb:b≠S)(hk1:ks.length<=1000):
  ∀(k i:Nat) (s:Shared) (H:Hp),min ks.length ys.length - i=k->i<=min ks.length ys.length->Inv X pins σ H s->(∀c∈[z,TI,TO,i1,i2],h7 X pins H c)->Ke s.heap z TI TO i1 i2 a b S i->
  H a=some (.lst (ks.map kV))->H b=some (.lst ys)->H S=some (.dK (bX [] ((ks.zip ys).take i)))->aV S H0 H->
  (∀s' H',Inv X pins σ H' s' ->aV S H0 H' ->H' S=some (.dK (bX [] (ks.zip ys)))->R (.ok (.ret .none)) s')->
  codeAny (model X.prog X.w) A' (.builtin "dict.update.loop" ⟨[.ref S,.ref z,rawInt (i:Int),.none],[]⟩) R s:=by
 have aqB:(ks.zip ys).length=min ks.length ys.length:=List.length_zip
 intro k
 induction k with
 | zero=>
  intro i s H hk hi I hf st ha hb hS Px hR
  refine codeAny_builtin lQ ?_
  rw [Around.under_plainId fU _]
  show wpAny _ A'.in1 (pyNext (.ref z) >>=_) _ _ s
  obtain ⟨z1,its,n1,r1,l1,e1⟩:=I.ma ha
  obtain ⟨z2,SD,n2,r2,l2,e2⟩:=I.ma hb
  rw [aaa] at l1
  refine wpAny_bind (st.fin hh D ⟨_,e1,rfl,_,rfl⟩ ⟨_,e2,rfl,_,rfl⟩ ?_ fun h' kk=> ?_)
  ·by_cases c:ks.length<=i
   ·exact .inl (by simp;omega)
   ·exact .inr (by simp;omega)
  ·rw [ahK (by omega)] at hS
   exact wpAny_bind (wpAny_pure (wpAny_pure (hR _ H (Inv.mT (t' :=s.toks) I kk hf) Px hS)))
 | succ k ih=>
  intro i s H hk hi I hf st ha hb hS Px hR
  refine codeAny_builtin lQ ?_
  rw [Around.under_plainId fU _]
  show wpAny _ A'.in1 (pyNext (.ref z) >>=_) _ _ s
  obtain ⟨z1,its,n1,r1,l1,e1⟩:=I.ma ha
  obtain ⟨z2,SD,n2,r2,l2,e2⟩:=I.ma hb
  have lx:i < ks.length:=by omega
  have ly:i < ys.length:=by omega
  obtain ⟨u,hu,ru⟩:=r1.get (i:=i) (x:=kV ks[i]) (by rw [Wp,gE lx];rfl)
  obtain ⟨v,hv,rv⟩:=r2.get (i:=i) (x:=ys[i]) (gE ly)
  obtain ⟨zS0,aqC,vs0,aqD,dd0⟩:=lK I.bH hS
  obtain ⟨oS,_,_,eS,_⟩:=id dd0
  refine wpAny_bind (st.item D eS ⟨_,e1,rfl,_,rfl⟩ ⟨_,e2,rfl,_,rfl⟩ (x:=u) (y:=v) (by simpa using hu) (by simpa using hv) fun h' JZ ht kk=> ?_)
  have Rh:∀c∈[z,TI,TO,i1,i2],c≠S:=fun c hc e=>by
   have:=(hf c hc).1
   rw [e,hS] at this
   cases this
  have I2:Inv X pins σ H {s with heap:=h',toks:=s.toks}:=Inv.mT (t' :=s.toks) I kk hf
  obtain ⟨zS,hdS,vs,rel,dd⟩:=lK I2.bH hS
  have hT:Shared.TypeIs {s with heap:=h',toks:=s.toks} (.ref s.heap.objs.size) "tuple":=⟨_,ht,rfl⟩
  refine wpAny_bind (wpAny_holding ?_)
  refine wpAny_bind (wpAny_tryCatch ?_)
  unfold Builtin.Dict.pairItems
  refine wpAny_bind (wpAny_typeOf hT ?_)
  rw [if_pos (by decide)]
  refine wpAny_bind (wpAny_seqItems ht rfl (wpAny_pure ?_))
  show wpAny _ A'.in1 (holding [u,v] (dictSet S u v)) _ _ _
  refine wpAny_holding ?_
  have hlen:vs.length<=sizeLine:=by rw [<- rel.length];exact zS
  refine wpAny_dictSet_pairs (hsz:=hlen) (jG ru) dd fun h2 R_ sb=> ?_
  have he:∃q,h2.get? S=some q:=let ⟨q,_,_,hq,_⟩:=R_;⟨q,hq⟩
  have etk:(ks.zip ys).take (i+1)=(ks.zip ys).take i++[(ks[i],ys[i])]:=by
   rw [ahI]
   have:(ks.zip ys)[i]? =some (ks[i],ys[i]):=by rw [List.getElem?_zip_eq_some];exact ⟨gE lx,gE ly⟩
   rw [this]
   rfl
  have S9:bX [] ((ks.zip ys).take (i+1))=putK (bX [] ((ks.zip ys).take i)) ks[i] ys[i]:=by rw [etk,vv]
  have hl:(putK (bX [] ((ks.zip ys).take i)) ks[i] ys[i]).length<=sizeLine:=by
   rw [<- S9]
   have h1:=fZ ((ks.zip ys).take (i+1)) []
   rw [aaW,aij] at h1
   exact aaf (show (bX [] ((ks.zip ys).take (i+1))).length<=1000 by omega) (by decide)
  have I3:Inv X pins σ (upd H S (.dK (putK (bX [] ((ks.zip ys).take i)) ks[i] ys[i]))) {s with heap:=h2,toks:=s.toks+1}:=iD (s:={s with heap:=h',toks:=s.toks}) (t' :=s.toks+1) I2 (by rw [hS];exact True.intro) sb he (oi hl hdS (rel.put ks[i] rv) R_)
  have kS:∀c o,c≠S->h'.get? c=some o->h2.get? c=some o:=fun c o n e=>(sb.2 c n).trans e
  refine wpAny_pure ⟨plainId_quiet fU _,?_⟩
  have nn:∀{c:Addr} {o:HO},H c=some o->c≠S->(upd H S (.dK (putK (bX [] ((ks.zip ys).take i)) ks[i] ys[i]))) c=some o:=fun {c o} e n=>by rw [ao n];exact e
  refine ih (i+1) _ _ (by omega) (by omega) I3 (fun c hc=> ?_) (JZ.frame kS (Rh z (by simp)) (Rh TI (by simp)) (Rh TO (by simp)) (Rh i1 (by simp)) (Rh i2 (by simp))) (nn ha na) (nn hb nb) (by rw [S9,ah]) (fun c o n e=>nn (Px c o n e) n) hR
  obtain ⟨f0,f1,f2,f3,f4,f5⟩:=hf c hc
  exact ⟨by rw [ao (Rh c hc)];exact f0,f1,f2,f3,f4,f5⟩
def Py (ta:TA):TE:=fun σ H Q=>ta σ H fun vs H1=>∃(a b:Addr) (ks:List Key) (ys:η),vs=[.ref a,.ref b]/\H1 a=some (.lst (ks.map kV))/\H1 b=some (.lst ys)/\ks.length<=1000/\
 ∀(l:Addr) (H' :Hp),au H1 H' ->H1 l=none->H' l=some (.dK (bX [] (ks.zip ys)))->Q (.ref l) H'
theorem boot_dict:bootBuiltins "dict"=some (.type "dict"):=by decide+kernel
theorem HU {e1 e2:Expr}{ta:TA}{p pos p' pos' :Pos}(hc:X.calm=true)(hgl:Gl X "dict")(hml:X.mg "dict"=none)(hg:Gl X "zip")(hm:X.mg "zip"=none)(ha:PA X [e1,e2] ta)(hs:starEach [e1,e2] X.env=[(false,eval e1 X.env),(false,eval e2 X.env)]:=by rfl)(J':starEach [e2] X.env=[(false,eval e2 X.env)]:=by rfl)
  (Q8:starEach [(.Call (.Name "zip" p) [e1,e2] [] pos:Expr)] X.env=[(false,eval (.Call (.Name "zip" p) [e1,e2] [] pos) X.env)]:=by rfl):
  PE X (.Call (.Name "dict" p') [.Call (.Name "zip" p) [e1,e2] [] pos] [] pos') (Py ta):=by
 intro pins s σ H Q I h
 refine Call_ (gG I hgl hml boot_dict (PyProof.Rows.callWith_type1 ?_ Q8 rfl))
 rw [Q8]
 show wpAny _ _ (spliced ((false,eval (.Call (.Name "zip" p) [e1,e2] [] pos) X.env)::[])) _ _ s
 refine Calls.spliced_cons ?_
 refine Call_ (gG I hg hm boot_zip (PyProof.Rows.callWith_type1 (bZ (ha pos pins s σ H _ I h) fun us s1 ⟨vs,H1,I1,r1,q1⟩=> ?_) (by rw [hs,J']) (by rw [J'];rfl)))
 obtain ⟨a,b,ks,ys,e,hx,hy,hkl,q⟩:=q1
 subst e
 cases r1 with
 | cons r rr=>
  cases rr with
  | cons r' rr=>
   cases rr
   cases r
   cases r'
   obtain ⟨z1,its,n1,r1,l1,e1⟩:=I1.ma hx
   obtain ⟨z2,SD,n2,r2,l2,e2⟩:=I1.ma hy
   have lt1:a < s1.heap.objs.size:=Heap.lt_size e1
   have lt2:b < s1.heap.objs.size:=Heap.lt_size e2
   refine call_zip_2 ⟨_,e1,rfl,_,rfl⟩ ⟨_,e2,rfl,_,rfl⟩ fun h' hz jf rf SE hi2 hsz hk=>Calls.spliced_nil ?_
   have I2:Inv X pins σ H1 {s1 with heap:=h',toks:=s1.toks}:=I1.kept (t' :=s1.toks) hk
   have hS:=I2.bH.fresh (aah h'.objs.size)
   refine qt (s:={s1 with heap:=h' }) (I1.ok.hd hc) hz fun h2 tk R k2 S_ hR=> ?_
   have lt' :mainGlobals < h'.objs.size:=(I2.mod.glob.keeps I2.bk).lt
   have ns:(h'.objs.size==sysModules)=false:=beq_eq_false_iff_ne.mpr (aaO (aaQ (aiE (by decide) lt')))
   have I3:Inv X pins σ (upd H1 h'.objs.size (.dK [])) {s1 with heap:=h2,toks:=tk}:=I2.laid (t' :=tk) k2 (aah _) ⟨aaX _,ns,[],.nil,_,_,_,S_,⟨rfl,rfl,rfl⟩,rfl,fun _ he=>by simp at he,Pairs.nil,List.nodup_nil⟩
   have st:Ke h2 (s1.heap.objs.size+4) (s1.heap.objs.size+2) (s1.heap.objs.size+3) s1.heap.objs.size (s1.heap.objs.size+1) a b h'.objs.size 0:=
    ⟨.inl (k2 _ _ hz),k2 _ _ jf,⟨_,_,k2 _ _ rf⟩,SE.at fun o e=>k2 _ o e,hi2.at fun o e=>k2 _ o e⟩
   have na:a≠h'.objs.size:=aq hx hS
   have nb:b≠h'.objs.size:=aq hy hS
   have sL:=AZ hS (.dK [])
   refine Pw (A' :=X.A.in1) (H0:=H1) (ks:=ks) (ys:=ys) (I1.ok.hd hc) ?_ na nb hkl (min ks.length ys.length) 0 _ _ (by omega) (aaX _) I3 (fun c' uD => ?_) st (sL _ _ hx) (sL _ _ hy) ah (fun b' o n e=>sL _ _ e) fun s' H' I' ks' Pg =>hR s' ⟨.ref h'.objs.size,H',I',rfl,q _ H' (fun b' o e=>ks' b' o (aq e hS) e) hS Pg⟩
   ·constructor <;> (intro z;simp only [Addr] at*;omega)
   ·have ZT:c' =s1.heap.objs.size+4\/c' =s1.heap.objs.size+2\/c' =s1.heap.objs.size+3\/c' =s1.heap.objs.size\/c' =s1.heap.objs.size+1:=by simpa using uD
    have hb:s1.heap.objs.size<=c' :=by
     simp only [Addr] at*
     omega
    have hb2:c' ≠h'.objs.size:=by
     rw [hsz]
     simp only [Addr] at*
     omega
    refine I1.nG hb ?_
    rw [ao hb2]
    exact I1.bH.fresh hb
end
theorem c_.snoc {K:Frag}{H:Hp}{us:η}{qs:π}{v:V}{q:Int×Int}(h:c_ K H us qs)(n:lM K H v q):c_ K H (us++[v]) (qs++[q]):=by
 refine ⟨by simp [h.1],fun i u q' e1 e2=> ?_⟩
 have l:=h.1
 by_cases c:i < us.length
 ·rw [aat c] at e1
  rw [aat (by omega)] at e2
  exact h.2 i u q' e1 e2
 ·rw [aaJ (by omega)] at e1 e2
  by_cases z:i - us.length=0
  ·rw [z] at e1
   rw [show i - qs.length=0 by omega] at e2
   cases e1
   cases e2
   exact n
  ·rw [aae (by simp;omega)] at e1
   cases e1
theorem c_.aX {K:Frag}{H H' :Hp}{us:η}{qs:π}(h:c_ K H us qs)(s:bg H H'):c_ K H' us qs:=⟨h.1,fun i u q e1 e2=>(h.2 i u q e1 e2).aX s⟩
variable {X:Cx}
section
variable {X:Cx}{pins:ζ}{σ:L2.St}{H:Hp}{s:Shared}
theorem xo {K:Frag}(h:X.K=K):jq X (compareOp .In) (ZU K false):=by subst h;exact qX
end
theorem xp {K:Frag}{D:Addr}{te:TE}{tt:TT}{cap:L2.St}{H1:Hp}{Q:VK}{a:Addr}{α:Type}{xs:η}{zs:List α}{Rl:V->α->Prop}(p:α->Bool)(hp:Paired Rl xs zs)(nD:H1 D=none)(hn:xs.length < sizeLine)(hS:∀H,au H1 H->a8 K H a xs)
  (ht:∀x z H (R:Bool->Hp->Prop),Rl x z->z∈zs->au H1 H->(∀H',au H H' ->R (p z) H')->tt (some x::cap) H R)
  (he:∀x z H (R:VK),Rl x z->au H1 H->R x H->te (some x::cap) H R)
  (hd:∀ys H,Paired Rl ys (zs.filter p)->au H1 H->H D=some (.lst ys)->Q (.ref D) H):
  jE D (cI 0) tt te (K1 K a) (none::cap) H1 Q:=by
 have lz:xs.length=zs.length:=Paired.length hp
 have ps:∀{l₁:η} {l₂:List α} {a:V} {b:α},Paired Rl l₁ l₂->Rl a b->Paired Rl (l₁++[a]) (l₂++[b]):=fun {l₁ l₂ a b} h h' =>by
  induction h with
  | nil=>exact .cons h' .nil
  | cons x _ ih=>exact .cons x ih
 refine ⟨fun i m σ ys H=>m=xs.length - i/\i<=xs.length/\(∃o,σ=o::cap)/\au H1 H/\H D=some (.lst ys)/\Paired Rl ys ((zs.take i).filter p)/\ys.length<=i,⟨xs.length,by simp,aaX _,⟨none,rfl⟩,fun b o e=>by rw [ao (aq e nD)];exact e,ah,by simpa using Paired.nil,aah _⟩,?_⟩
 rintro i m σ ys H ⟨rfl,hi,⟨o,rfl⟩,s,hD,ey,ly⟩
 by_cases kc:i < xs.length
 ·refine .inr ⟨⟨xs,xs[i],hS H s,gE kc⟩,fun v H' y=> ?_⟩
  obtain ⟨rfl,y2⟩:=y
  have q1:=y2 xs (hS _ s)
  obtain ⟨z,ez,hz⟩:=aH hp q1
  have er:(zs.take (i+1)).filter p=(zs.take i).filter p++(if p z=true then [z] else []):=by
   rw [take_snoc ez,abI]
   by_cases c:p z=true
   ·rw [if_pos c,abR c]
    rfl
   ·rw [if_neg c,abS c]
    rfl
  unfold cI
  refine ht v z _ _ hz (ir ez) s fun H2 s2=> ?_
  have BA:au H1 H2:=fun b o e=>s2 _ _ (s _ _ e)
  have LA:=s2 _ _ hD
  by_cases c:p z=true
  ·rw [if_pos c]
   rw [if_pos c] at er
   refine he v z _ _ hz BA ⟨LA,by omega,xs.length - (i+1),by omega,rfl,by omega,⟨_,rfl⟩,?_,ah,?_,by simp;omega⟩
   ·exact fun b o e=>by
     rw [ao (aq e nD)]
     exact BA _ _ e
   ·rw [er]
    exact ps ey hz
  ·rw [if_neg c]
   rw [if_neg c,ace] at er
   exact ⟨xs.length - (i+1),by omega,rfl,by omega,⟨_,rfl⟩,BA,LA,by rw [er];exact ey,by omega⟩
 ·have e:i=xs.length:=by omega
  subst e
  refine .inl ⟨⟨xs,hS _ s,aah _⟩,hd ys H ?_ s hD⟩
  rw [lz,aa5] at ey
  exact ey
section
variable {X:Cx}
end
section
variable {D:Addr}{te:TE}{cap:L2.St}{H1:Hp}{Q:VK}
end
section
variable {X:Cx}{o e:Expr}{es:List Expr}{to:TE}{t:TA}{name:Str}{apos cJ:Pos}{T id:String}{r:V->List V->Hp->VK->Prop}
end
theorem bg.ks {H H' :Hp}{D:Addr}{ys:η}(h0:H D=some (.lst ys))(ks:aV D H H'):bg H H' :=fun b xs r=>by
 rcases r with r | ⟨o',r⟩
 ·exact .inl (ks _ _ (fun e=>by rw [e,h0] at r;cases r) r)
 ·exact .inr ⟨o',ks _ _ (fun e=>by rw [e,h0] at r;cases r) r⟩
section
variable {X:Cx}{K:Frag}
inductive S' (K:Frag)(x:V)(y:V)(H:Hp)(Q:VK):Prop where
 | mk (p xs i v:_) (_:x=.ref p) (_:y=.int i) (_:a8 K H p xs\/bN K H p xs) (_:jr xs i=some v) (_:Q v H):S' K x y H Q
theorem yA:OS X (S' X.K):=by
 intro value slice pins s σ H x y v u Q I rx ry h hs
 obtain ⟨p,xs,i,z,e1,e2,hq,he,q⟩:=h
 rcases hq with hq | hq
 ·exact bt value slice pins s σ H x y v u Q I rx ry ⟨p,xs,i,z,e1,e2,hq,he,q⟩ hs
 ·exact nJ value slice pins s σ H x y v u Q I rx ry ⟨p,xs,i,z,e1,e2,hq,he,q⟩ hs
inductive vw (Q:VK)(x:V)(H1:Hp):Prop where
 | mk (d kvs:_) (_:x=.ref d) (_:H1 d=some (.dK kvs)) (_:Q .cv (upd H1 d (.dK []))):vw Q x H1
def LB (te:TE):TE:=fun σ H Q=>te σ H fun x H1=>vw Q x H1
theorem rB {e:Expr}{te:TE}{apos cJ:Pos}(ho:PE X e te)(jz:attributeBase e "clear" X.env (eval e X.env)=eval e X.env:=by rfl)(jA:(apos.endLine==cJ.line)=true:=by rfl):
  PE X (.Call (.Attribute e "clear" apos) [] [] cJ) (LB te):=by
 intro pins s σ H Q I h
 refine wpAny_Call_method0_late jz jA (bZ (ho pins s σ H _ I h) fun v s1 ⟨x,H1,I1,r1,q1⟩=> ?_)
 obtain ⟨d,kvs,rfl,e,q⟩:=q1
 cases r1
 obtain ⟨h1,h2,hd⟩:=sC I1 (.inl ⟨kvs,.inl e⟩)
 refine ⟨"dict","dict.clear",F.plainAttrs_dict,F.slot_dict_clear,F.type_dict_clear,h1,h2,Calls.callWith_builtin rfl (PySem.evalArgs_none ?_)⟩
 exact Lo I1 e fun s' I3=>⟨.cv,_,I3,rfl,q⟩
end
section
variable {D:Addr}{te:TE}{cap:L2.St}{H1:Hp}{Q:VK}
end
end Ty
set_option maxHeartbeats 4000000
namespace Ty
theorem rC {α:Type}[DecidableEq α]:∀{l m:List α},l.Nodup->(∀x∈l,x∈m)->l.length<=m.length
 | [],_,_,_=>aaX _
 | x::l,m,h,k=>by
  obtain ⟨h1,h2⟩:=aaU.mp h
  have hx:=k x aaq
  have:=rC (l:=l) (m:=m.erase x) h2 fun y hy=>(List.mem_erase_of_ne (fun z:y=x=>h1 (by rw [<- z];exact hy))).mpr (k y (aag _ hy))
  rw [List.length_erase_of_mem hx] at this
  have p:=List.length_pos_of_mem hx
  show l.length+1<=m.length
  omega
def box (B:Nat):Nat->List (List Int)
 | 0=>[[]]
 | n+1=>(box B n).flatMap fun y=>(aa_ (B+1)).map fun (a:Nat)=>(a:Int)::y
theorem yB {α:Type}(c:Nat):∀l:List α,(l.map fun _=>c).sum=l.length*c
 | []=>by simp
 | _::l=>by
  rw [aac,ab9,yB c l,aaY,ah8]
  omega
theorem sM (B:Nat):∀n,(box B n).length=(B+1)^n
 | 0=>rfl
 | n+1=>by
  have ih:=sM B n
  unfold box
  rw [List.length_flatMap]
  have:((box B n).map fun y=>((aa_ (B+1)).map fun (a:Nat)=>(a:Int)::y).length)=(box B n).map fun _=>B+1:=aa9 fun y _=>by rw [aaa,ahp]
  rw [this,yB,ih,ahG]
theorem rD (B:Nat):∀n,(box B n).Nodup
 | 0=>by simp [box]
 | n+1=>by
  have ih:=rD B n
  unfold box
  unfold apR at ih ⊢
  rw [List.pairwise_flatMap]
  refine ⟨fun y _=> ?_,ih.imp fun {y1 y2} ne x hx z hz e=> ?_⟩
  ·rw [ahJ]
   exact List.nodup_range.imp fun {a b} ne e=>ne (by injection e with e _;exact Int.ofNat.inj e)
  ·obtain ⟨a,_,rfl⟩:=aab.mp hx
   obtain ⟨b,_,rfl⟩:=aab.mp hz
   injection e with _ e
   exact ne e
theorem iG {B:Nat}:∀{n:Nat} {y:ξ},y∈box B n ↔ y.length=n/\∀a∈y,0<=a/\a<=(B:Int)
 | 0,y=>by
  unfold box
  rw [aaw]
  constructor
  ·intro e
   rw [e]
   exact ⟨rfl,fun a h=>nomatch h⟩
  ·intro h
   exact abT.mp h.1
 | n+1,y=>by
  unfold box
  rw [ab_]
  constructor
  ·rintro ⟨z,hz,hy⟩
   obtain ⟨a,ha,rfl⟩:=aab.mp hy
   obtain ⟨h1,h2⟩:=(iG (n:=n)).mp hz
   have:=abb.mp ha
   refine ⟨by simp [h1],fun b hb=> ?_⟩
   rcases aaN.mp hb with e | e
   ·rw [e]
    omega
   ·exact h2 b e
  ·rintro ⟨h1,h2⟩
   match y,h1 with
   | a::z,h1=>
    have ha:=h2 a aaq
    refine ⟨z,(iG (n:=n)).mpr ⟨by simpa using h1,fun b hb=>h2 b (aag _ hb)⟩,aab.mpr ⟨a.toNat,abb.mpr (show a.toNat < B+1 by omega),?_⟩⟩
    rw [show ((a.toNat:Nat):Int)=a by omega]
def gs:List Int->List Int->Int
 | a::e,b::y=>a*b+gs e y
 | _,_=>0
theorem vx:∀(e:ξ) {y z:ξ},y.length=z.length->gs e (abJ (fun a b=>a - b) y z)=gs e y - gs e z
 | [],y,z,h=>by simp [gs]
 | a::e,[],[],h=>by simp [gs]
 | a::e,b::y,c::z,h=>by
  have ih:=vx e (y:=y) (z:=z) (by simpa using h)
  rw [aif]
  simp only [gs]
  rw [ih,Int.mul_sub]
  omega
theorem yC {A B:Nat}:∀{e y:ξ},(∀a∈e,a.natAbs<=A)->(∀b∈y,b.natAbs<=B)->(gs e y).natAbs<=e.length*(A*B)
 | [],y,_,_=>by simp [gs]
 | a::e,[],_,_=>by simp [gs]
 | a::e,b::y,h1,h2=>by
  have ih:=yC (e:=e) (y:=y) (fun x hx=>h1 x (aag _ hx)) fun x hx=>h2 x (aag _ hx)
  simp only [gs]
  have m:(a*b).natAbs<=A*B:=by
   rw [aby]
   exact abl (h1 a aaq) (h2 b aaq)
  have t:=aho (a*b) (gs e y)
  rw [aaY,ah8,aip]
  omega
theorem HV {n A:Nat}{eqs:ε}(hn:eqs.length < n)(hA:1<=A)(he:∀e∈eqs,e.length=n/\∀a∈e,a.natAbs<=A):∃z:List Int,z.length=n/\(∃a∈z,a≠0)/\(∀a∈z,a.natAbs<=(2*n*A)^eqs.length)/\∀e∈eqs,gs e z=0:=by
 generalize hC:2*n*A=C
 generalize hB:C^eqs.length=B
 have c1:1<=C:=by
  rw [<- hC]
  exact abl (show 1<=2*n by omega) hA
 generalize hM:n*(A*B)=M
 have key:¬ ∀y∈box B n,∀z∈box B n,(eqs.map fun e=>gs e y+(M:Int))=(eqs.map fun e=>gs e z+(M:Int))->y=z:=by
  intro inj
  have nd:((box B n).map fun y=>eqs.map fun e=>gs e y+(M:Int)).Nodup:=by
   unfold apR
   rw [ahJ]
   refine List.Pairwise.imp_of_mem (fun {y z} hy hz ne e=>ne (inj y hy z hz e)) (rD B n)
  have le:=rC nd (m:=box (2*M) eqs.length) fun x hx=>by
   obtain ⟨y,hy,rfl⟩:=aab.mp hx
   obtain ⟨ly,by'⟩:=iG.mp hy
   refine iG.mpr ⟨by simp,fun a ha=> ?_⟩
   obtain ⟨e,YT,rfl⟩:=aab.mp ha
   have b1:=yC (A:=A) (B:=B) (he e YT).2 (y:=y) fun b hb=>by
    have:=by' b hb
    omega
   rw [(he e YT).1,hM] at b1
   omega
  rw [aaa,sM,sM] at le
  have e1:2*M+1<=C*(B+1):=by
   have e3:2*M=C*B:=by rw [<- hM, <- hC, <- Nat.mul_assoc, <- Nat.mul_assoc]
   rw [e3,Nat.mul_add]
   omega
  have e2:(2*M+1)^eqs.length<=B*(B+1)^eqs.length:=by
   have:=ahV e1 eqs.length
   rw [Nat.mul_pow,hB] at this
   exact this
  have e4:(B+1)^(eqs.length+1)<=(B+1)^n:=aaP (by omega) hn
  have e5:B*(B+1)^eqs.length < (B+1)^(eqs.length+1):=by
   rw [ahG,ahY ((B+1)^eqs.length)]
   exact Nat.mul_lt_mul_of_pos_right (abc B) (Nat.pow_pos (by omega))
  omega
 obtain ⟨y,k1⟩:=aiq.mp key
 obtain ⟨hy,k2⟩:=ah9.mp k1
 obtain ⟨z,k3⟩:=aiq.mp k2
 obtain ⟨hz,k4⟩:=ah9.mp k3
 obtain ⟨ee,ne⟩:=ah9.mp k4
 obtain ⟨ly,by'⟩:=iG.mp hy
 obtain ⟨lz,bz⟩:=iG.mp hz
 have hl:y.length=z.length:=by omega
 refine ⟨abJ (fun a b=>a - b) y z,by rw [ahw];omega,?_,?_,fun e YT=> ?_⟩
 ·apply aa3
  intro h
  refine ne (List.ext_getElem hl fun i h1 h2=> ?_)
  have h' :∀a∈abJ (fun a b=>a - b) y z,a=0:=fun a ha=>aa3 fun q=>h ⟨a,ha,q⟩
  have m:y[i] - z[i]∈abJ (fun a b=>a - b) y z:=by
   refine ir (i:=i) ?_
   rw [abk,gE h1,gE h2]
  have:=h' _ m
  omega
 ·intro a ha
  obtain ⟨i,ei⟩:=aad ha
  rw [abk] at ei
  have hi:i < y.length:=by
   apply aa3
   intro q
   rw [aae (by omega)] at ei
   cases ei
  rw [gE hi,gE (show i < z.length by omega)] at ei
  have ea:y[i] - z[i]=a:=aaM ei
  have q1:=by' _ (abu hi)
  have q2:=bz _ (abu (show i < z.length by omega))
  omega
 ·rw [vx e hl]
  obtain ⟨i,ei⟩:=aad YT
  have e1:=congrArg (fun l:List Int=>l[i]?) ee
  simp only [Wp,ei,abZ,Option.some.injEq] at e1
  omega
def col (l:ξ)(j:Nat):Rat:=((l.getD j 0:Int):Rat)
inductive cD (A:ε):(Nat->Rat)->Prop
 | zero:cD A (fun _=>0)
 | put {f:Nat->Rat} (c:Rat) {a:ξ} (h:a∈A) (hf:cD A f):cD A (fun j=>f j+c*col a j)
theorem cD.congr {A:ε}{f g:Nat->Rat}(h:cD A f)(e:∀j,f j=g j):cD A g:=(funext e:f=g)▸h
theorem cD.add {A:ε}{f g:Nat->Rat}(hf:cD A f)(hg:cD A g):cD A (fun j=>f j+g j):=by
 induction hg with
 | zero=>exact hf.congr fun j=>by grind
 | put c h _ ih=>exact (cD.put c h ih).congr fun j=>by grind
theorem cD.mul {A:ε}{f:Nat->Rat}(k:Rat)(hf:cD A f):cD A (fun j=>k*f j):=by
 induction hf with
 | zero=>exact cD.zero.congr fun j=>by grind
 | put c h _ ih=>exact (cD.put (k*c) h ih).congr fun j=>by grind
theorem cD.mem {A:ε}{a:ξ}(h:a∈A):cD A (col a):=(cD.put 1 h cD.zero).congr fun j=>by grind
theorem cD.trans {A B:ε}{f:Nat->Rat}(hf:cD A f)(h:∀a∈A,cD B (col a)):cD B f:=by
 induction hf with
 | zero=>exact cD.zero
 | put c ha _ ih=>exact ih.add ((h _ ha).mul c)
theorem cD.mono {A B:ε}{f:Nat->Rat}(hf:cD A f)(h:∀a∈A,a∈B):cD B f:=hf.trans fun a ha=>cD.mem (h a ha)
theorem cD.first {l:ξ}{A:ε}{f:Nat->Rat}(hf:cD (l::A) f):∃a:Rat,cD A (fun j=>f j - a*col l j):=by
 induction hf with
 | zero=>exact ⟨0,cD.zero.congr fun j=>by grind⟩
 | put c h _ ih=>
  obtain ⟨a,ha⟩:=ih
  rcases aaN.mp h with e | e
  ·subst e
   exact ⟨a+c,ha.congr fun j=>by grind⟩
  ·exact ⟨a,(cD.put c e ha).congr fun j=>by grind⟩
theorem cD.last {l:ξ}{A:ε}{f:Nat->Rat}(hf:cD (A++[l]) f):∃a:Rat,cD A (fun j=>f j - a*col l j):=cD.first (hf.mono fun a ha=>by
 rcases aaF.mp ha with z | z
 ·exact aag _ z
 ·rw [aaw.mp z]
  exact aaq)
theorem cD.van {A:ε}{f:Nat->Rat}{c:Nat}(hf:cD A f)(h:∀a∈A,col a c=0):f c=0:=by
 induction hf with
 | zero=>rfl
 | put k ha _ ih=>
  dsimp only
  rw [ih,h _ ha]
  grind
structure EF (nd:θ):Prop where
 nn:(nd.map (·.1)).Nodup
 here:∀x∈nd,x.2.getD x.1 0≠0
 off:∀x∈nd,∀y∈nd,x.1≠y.1->x.2.getD y.1 0=0
theorem EF.zero:∀{nd:θ} {f:Nat->Rat},EF nd->cD (nd.map (·.2)) f->(∀x∈nd,f x.1=0)->∀j,f j=0
 | [],f,_,hf,_=>fun j=>by
  have:∀{g:Nat->Rat},cD [] g->g j=0:=fun {g} h=>h.van fun a ha=>nomatch ha
  exact this hf
 | x::r,f,P,hf,hz=>by
  obtain ⟨a,ha⟩:=cD.first hf
  have nn:=aaU.mp P.nn
  have v:f x.1 - a*col x.2 x.1=0:=ha.van (c:=x.1) fun b hb=>by
   obtain ⟨y,hy,rfl⟩:=aab.mp hb
   unfold col
   rw [P.off y (aag _ hy) x aaq (fun z=>nn.1 (by show x.1∈_;rw [<- z];exact aab.mpr ⟨y,hy,rfl⟩))]
   rfl
  rw [hz x aaq] at v
  have ED:col x.2 x.1≠0:=cq (P.here x aaq)
  have a0:a=0:=by grind
  subst a0
  have P' :EF r:=⟨nn.2,fun y hy=>P.here y (aag _ hy),fun y hy z hz=>P.off y (aag _ hy) z (aag _ hz)⟩
  exact EF.zero P' (ha.congr (g:=f) fun j=>by grind) fun y hy=>hz y (aag _ hy)
theorem EF.one {nd:θ}{f:Nat->Rat}(P:EF nd)(hf:cD (nd.map (·.2)) f){x:Nat×List Int}(hx:x∈nd)(hz:∀y∈nd,y.1≠x.1->f y.1=0):∃a:Rat,∀j,f j=a*col x.2 j:=by
 have ED:col x.2 x.1≠0:=cq (P.here x hx)
 refine ⟨f x.1 / col x.2 x.1,fun j=> ?_⟩
 have g:cD (nd.map (·.2)) fun j=>f j+ -(f x.1 / col x.2 x.1)*col x.2 j:=cD.put _ (aab.mpr ⟨x,hx,rfl⟩) hf
 have:=P.zero g (fun y hy=>by
  by_cases c:y.1=x.1
  ·rw [c]
   grind
  ·rw [hz y hy c]
   have:col x.2 y.1=0:=by
    unfold col
    rw [P.off x hx y hy (aaO c)]
    rfl
   rw [this]
   grind) j
 grind
def i6:List Int->List (List Int)->Nat->Int
 | z::zs,a::A,j=>z*a.getD j 0+i6 zs A j
 | _,_,_=>0
theorem jI:∀(zs:ξ) (A:ε),cD A (fun j=>((i6 zs A j:Int):Rat))
 | [],A=>cD.zero.congr fun j=>by simp [i6]
 | _::_,[]=>cD.zero.congr fun j=>by simp [i6]
 | z::zs,a::A=>by
  have ih:=(jI zs A).mono (B:=a::A) fun b hb=>aag _ hb
  refine (cD.put (z:Rat) (aaq) ih).congr fun j=> ?_
  simp only [i6,col]
  push_cast
  grind
theorem sN (c:Nat):∀(zs:ξ) (A:ε),gs (A.map fun a=>a.getD c 0) zs=i6 zs A c
 | [],A=>by cases A <;> simp [i6,gs]
 | _::_,[]=>by simp [i6,gs]
 | z::zs,a::A=>by
  simp only [aac,gs,i6]
  rw [sN c zs A,acj]
theorem xq {Z E:Nat}(j:Nat):∀{zs:ξ} {A:ε},(∀z∈zs,z.natAbs<=Z)->(∀a∈A,(a.getD j 0).natAbs<=E)->(i6 zs A j).natAbs<=A.length*(Z*E)
 | [],A,_,_=>by simp [i6]
 | _::_,[],_,_=>by simp [i6]
 | z::zs,a::A,h1,h2=>by
  have ih:=xq j (zs:=zs) (A:=A) (fun x hx=>h1 x (aag _ hx)) fun x hx=>h2 x (aag _ hx)
  simp only [i6]
  have m:(z*a.getD j 0).natAbs<=Z*E:=by
   rw [aby]
   exact abl (h1 z aaq) (h2 a aaq)
  have t:=aho (z*a.getD j 0) (i6 zs A j)
  rw [aaY,ah8,aip]
  omega
theorem oI (j:Nat):∀{zs:ξ} {A:ε} (z:Int) (a:ξ),zs.length=A.length->i6 (zs++[z]) (A++[a]) j=i6 zs A j+z*a.getD j 0
 | [],[],z,a,_=>by simp [i6]
 | y::zs,b::A,z,a,h=>by
  have ih:=oI j (zs:=zs) (A:=A) z a (by simpa using h)
  simp only [aht,i6]
  rw [ih]
  omega
def Ta (l:ξ):Prop:=∀d:Int,(∀j,d ∣ l.getD j 0)->d.natAbs=1
theorem HW {l:ξ}(p:Ta l){v:Nat->Int}{a:Rat}(ha:a≠0)(h:∀j,((v j:Int):Rat)=a*col l j)(j:Nat):(l.getD j 0).natAbs<=(v j).natAbs:=by
 have e:∀j,v j*(a.den:Int)=a.num*l.getD j 0:=fun j=>by
  have h1:=h j
  have h2:a=(a.num:Rat) / ((a.den:Int):Rat):=by
   rw [<- aiF]
   exact (aix a).symm
  have hd:((a.den:Int):Rat)≠0:=cq (by have:=a.den_pos;omega)
  rw [h2] at h1
  unfold col at h1
  have h3:((v j*(a.den:Int):Int):Rat)=((a.num*l.getD j 0:Int):Rat):=by
   rw [abn,abn]
   generalize ((a.den:Int):Rat)=D at hd h1
   grind
  exact ahy.mp h3
 have dv:∀j,(a.den:Int) ∣ l.getD j 0:=fun j=>by
  have h1:a.den ∣ a.num.natAbs*(l.getD j 0).natAbs:=by
   rw [<- aby, <- e j,aby]
   exact ⟨(v j).natAbs,by rw [ahY];rfl⟩
  have h2:=Nat.Coprime.dvd_of_dvd_mul_left (Nat.Coprime.symm a.reduced) h1
  exact ahl.mp (by simpa using h2)
 have d1:a.den=1:=by simpa using p _ dv
 have ej:=e j
 rw [d1] at ej
 have n0:a.num≠0:=fun z=>ha (Rat.num_eq_zero.mp z)
 have:v j=a.num*l.getD j 0:=by simpa using ej
 rw [this,aby]
 exact Nat.le_mul_of_pos_left _ (by omega)
theorem HX {l:ξ}(p:Ta l):¬ ∀j,l.getD j 0=0:=fun h=>by
 have:=p 0 fun j=>by rw [h j];exact Int.dvd_refl 0
 simp at this
structure EG (os:ε)(nd:θ)(lv ps qs:ε):Prop where
 po:∀p∈ps,p∈os
 qo:∀q∈qs,q∈os
 lp:ps.length=nd.length
 lq:qs.length=lv.length
 s1:∀x∈nd,cD ps (col x.2)
 s2:∀p∈ps,cD (nd.map (·.2)) (col p)
 s3:∀(i:Nat) (l q:ξ),lv[i]? =some l->qs[i]? =some q->cD (ps++[q]) (col l)/\cD (nd.map (·.2)++[l]) (col q)
 ind:∀zs:List Int,zs.length=ps.length->(∀j,i6 zs ps j=0)->∀a∈zs,a=0
theorem EG.start (os:ε):EG os [] os [] os:=by
 refine ⟨by simp,fun q hq=>hq,rfl,rfl,by simp,by simp,fun i l q e1 e2=> ?_,fun zs h _ a ha=> ?_⟩
 ·rw [e1] at e2
  cases e2
  exact ⟨cD.mem (by simp),cD.mem (by simp)⟩
 ·rw [abT.mp h] at ha
  cases ha
theorem EF.cols {nd:θ}(P:EF nd){l:ξ}(hl:cD (nd.map (·.2)) (col l))(hz:∀x∈nd,l.getD x.1 0=0):∀j,l.getD j 0=0:=fun j=>by
 have:=P.zero hl (fun x hx=>by unfold col;rw [hz x hx];rfl) j
 unfold col at this
 exact ahy.mp (this.trans (by rfl))
theorem vy {A:ε}{b c:Nat}(hA:∀a∈A,∀j,(a.getD j 0).natAbs<=2^b):(A.map fun a=>a.getD c 0).length=A.length/\∀x∈A.map (fun a=>a.getD c 0),x.natAbs<=2^b:=by
 refine ⟨by simp,fun x hx=> ?_⟩
 obtain ⟨a,ha,rfl⟩:=aab.mp hx
 exact hA a ha c
theorem EG.left {os:ε}{nd:θ}{lv ps qs:ε}(O:EG os nd lv ps qs)(P:EF nd){i b:Nat}{l:ξ}(e:lv[i]? =some l)(hz:∀x∈nd,l.getD x.1 0=0)(hb:∀o∈os,∀j,(o.getD j 0).natAbs<=2^b)(pr:Ta l)(j:Nat):(l.getD j 0).natAbs<=(nd.length+1)*((2*(nd.length+1)*2^b)^nd.length*2^b):=by
 have hi:i < qs.length:=by
  rw [O.lq]
  exact (be.mp e).1
 obtain ⟨q,eq⟩:∃q,qs[i]? =some q:=⟨_,gE hi⟩
 obtain ⟨t1,t2⟩:=O.s3 i l q e eq
 have hA:∀a∈ps++[q],∀j,(a.getD j 0).natAbs<=2^b:=fun a ha=>by
  rcases aaF.mp ha with z | z
  ·exact hb a (O.po a z)
  ·rw [aaw.mp z]
   exact hb q (O.qo q (ir eq))
 have lA:(ps++[q]).length=nd.length+1:=by simp [O.lp]
 obtain ⟨zs,lz,nz,bz,sz⟩:=HV (n:=nd.length+1) (A:=2^b) (eqs:=nd.map fun x=>(ps++[q]).map fun a=>a.getD x.1 0) (by simp) (aca) fun y hy=>by
  obtain ⟨x,hx,rfl⟩:=aab.mp hy
  rw [<- lA]
  exact vy hA
 rw [aaa] at bz
 have v0:∀x∈nd,i6 zs (ps++[q]) x.1=0:=fun x hx=>by
  rw [<- sN]
  exact sz _ (aab.mpr ⟨x,hx,rfl⟩)
 have hv:cD (nd.map (·.2)++[l]) fun j=>((i6 zs (ps++[q]) j:Int):Rat):=(jI zs (ps++[q])).trans fun a ha=>by
  rcases aaF.mp ha with z | z
  ·exact (O.s2 a z).mono fun y hy=>aaZ _ hy
  ·rw [aaw.mp z]
   exact t2
 obtain ⟨a,ha⟩:=cD.last hv
 have ez:=P.zero ha fun x hx=>by
  rw [v0 x hx]
  unfold col
  rw [hz x hx]
  show ((0:Int):Rat) - a*((0:Int):Rat)=0
  grind
 by_cases c:a=0
 ·exfalso
  subst c
  have vz:∀j,i6 zs (ps++[q]) j=0:=fun j=>by
   have:=ez j
   have h:((i6 zs (ps++[q]) j:Int):Rat)=((0:Int):Rat):=by grind
   exact ahy.mp h
  obtain ⟨sO,z,rfl⟩:∃sO z,zs=sO ++[z]:=by
   rcases aim zs with h | ⟨sO,z,h⟩
   ·rw [h] at lz
    simp at lz
   ·exact ⟨sO,z,by rw [h,ain]⟩
  have Tb :sO.length=ps.length:=by
   rw [O.lp]
   simpa using lz
  have sp:∀j,i6 sO ps j+z*q.getD j 0=0:=fun j=>by
   rw [<- oI j z q Tb]
   exact vz j
  by_cases z0:z=0
  ·subst z0
   obtain ⟨x,hx,nx⟩:=nz
   have all:=O.ind sO Tb fun j=>by simpa using sp j
   rcases aaF.mp hx with h | h
   ·exact nx (all x h)
   ·exact nx (aaw.mp h)
  ·have hq:cD ps (col q):=((jI sO ps).mul (-1 / (z:Rat))).congr fun j=>by
    have s' :((i6 sO ps j+z*q.getD j 0:Int):Rat)=((0:Int):Rat):=by rw [sp j]
    rw [apH,abn] at s'
    have zr:(z:Rat)≠0:=cq z0
    unfold col
    grind
   have hl:cD ps (col l):=t1.trans fun a ha=>by
    rcases aaF.mp ha with h | h
    ·exact cD.mem h
    ·rw [aaw.mp h]
     exact hq
   exact HX pr (P.cols (hl.trans O.s2) hz)
 ·have le:=HW pr c (v:=fun j=>i6 zs (ps++[q]) j) (fun j=>by have:=ez j;grind) j
  refine aaf le ?_
  have:=xq j (zs:=zs) (A:=ps++[q]) bz fun a ha=>hA a ha j
  rw [lA] at this
  exact this
theorem EG.need {os:ε}{nd:θ}{lv ps qs:ε}(O:EG os nd lv ps qs)(P:EF nd){b:Nat}{x:Nat×List Int}(hx:x∈nd)(hb:∀o∈os,∀j,(o.getD j 0).natAbs<=2^b)(pr:Ta x.2)(j:Nat):(x.2.getD j 0).natAbs<=(nd.length+1)*((2*(nd.length+1)*2^b)^nd.length*2^b):=by
 have hA:∀a∈ps,∀j,(a.getD j 0).natAbs<=2^b:=fun a ha=>hb a (O.po a ha)
 have lf:(nd.filter fun y=>decide (y.1≠x.1)).length < nd.length:=by
  have h1:(nd.filter fun y=>decide (y.1≠x.1)).length<=nd.length:=abi ..
  rcases Nat.lt_or_eq_of_le h1 with h | h
  ·exact h
  ·have:=List.length_filter_eq_length_iff.mp h x hx
   simp at this
 obtain ⟨zs,lz,nz,bz,sz⟩:=HV (n:=nd.length) (A:=2^b) (eqs:=(nd.filter fun y=>decide (y.1≠x.1)).map fun y=>ps.map fun a=>a.getD y.1 0) (by rw [aaa];exact lf) (aca) fun y hy=>by
  obtain ⟨z,hz,rfl⟩:=aab.mp hy
  rw [<- O.lp]
  exact vy hA
 rw [aaa] at bz
 have v0:∀y∈nd,y.1≠x.1->i6 zs ps y.1=0:=fun y hy ne=>by
  rw [<- sN]
  exact sz _ (aab.mpr ⟨y,aa4.mpr ⟨hy,by simpa using ne⟩,rfl⟩)
 have hv:cD (nd.map (·.2)) fun j=>((i6 zs ps j:Int):Rat):=(jI zs ps).trans O.s2
 obtain ⟨a,ha⟩:=P.one hv hx fun y hy ne=>by
  rw [v0 y hy ne]
  rfl
 have c:a≠0:=fun z=>by
  subst z
  obtain ⟨y,hy,ny⟩:=nz
  refine ny (O.ind zs (by rw [lz,O.lp]) (fun j=> ?_) y hy)
  have h:((i6 zs ps j:Int):Rat)=((0:Int):Rat):=by
   rw [ha j]
   show 0*col x.2 j=0
   grind
  exact ahy.mp h
 have le:=HW pr c (v:=fun j=>i6 zs ps j) ha j
 refine aaf le ?_
 have:=xq j (zs:=zs) (A:=ps) bz fun a ha=>hA a ha j
 rw [O.lp] at this
 refine aaf this (abl (by omega) (abl ?_ (aah _)))
 refine aaf (ahV (abK _ (show 2*nd.length<=2*(nd.length+1) by omega)) _) ?_
 exact aaP (Nat.mul_pos (by omega) (apI _)) (by omega)
theorem Pz {s b:Nat}(hs:s+1<=1024):(s+1)*((2*(s+1)*2^b)^s*2^b)<=2^((s+1)*(b+11)):=by
 have h1:2*(s+1)*2^b<=2^(b+11):=by
  have:2*(s+1)<=2^11:=by
   show 2*(s+1)<=2048
   omega
  rw [ahC,ahY (2^b)]
  exact abK _ this
 have h2:(2*(s+1)*2^b)^s<=2^((b+11)*s):=by
  rw [Nat.pow_mul]
  exact ahV h1 s
 have h3:s+1<=2^11:=by
  show s+1<=2048
  omega
 have e:(s+1)*(b+11)=11+((b+11)*s+b):=by
  rw [ah8,aip,ahY s]
  omega
 rw [e,ahC,ahC]
 exact abl h3 (abK _ h2)
theorem yD {B:ε}{line lead new:ξ}{c:Nat}(k:qa line lead new c)(h1:cD B (col line))(h2:cD B (col lead)):cD B (col new):=by
 obtain ⟨s,t,u,hs,ht,e⟩:=k.gD
 have zs:=cq hs
 refine ((h1.mul ((t:Rat) / s)).add (h2.mul (-(u:Rat) / s))).congr fun j=> ?_
 have ej:((s*new.getD j 0:Int):Rat)=((t*line.getD j 0 - u*lead.getD j 0:Int):Rat):=by rw [e j]
 rw [abn,apJ,abn,abn] at ej
 unfold col
 grind
theorem yE {B:ε}{line lead new:ξ}{c:Nat}(k:qa line lead new c)(h1:cD B (col new))(h2:cD B (col lead)):cD B (col line):=by
 obtain ⟨s,t,u,hs,ht,e⟩:=k.gD
 have zt:=cq ht
 refine ((h1.mul ((s:Rat) / t)).add (h2.mul ((u:Rat) / t))).congr fun j=> ?_
 have ej:((s*new.getD j 0:Int):Rat)=((t*line.getD j 0 - u*lead.getD j 0:Int):Rat):=by rw [e j]
 rw [abn,apJ,abn,abn] at ej
 unfold col
 grind
theorem EG.step {os:ε}{nd iU :θ}{lv xr ps qs:ε}{lead:ξ}{j c:Nat}(O:EG os nd lv ps qs)(P:EF nd)(ej:lv[j]? =some lead)(hz:∀x∈nd,lead.getD x.1 0=0)(hc:lead.getD c 0≠0)
  (lL:xr.length=(lv.eraseIdx j).length) (ML:∀(i:Nat) (x:ξ),(lv.eraseIdx j)[i]? =some x->∃y,xr[i]? =some y/\qa x lead y c) (lN:iU.length=nd.length) (MN:∀(i:Nat) (x:ξ),(nd.map (·.2))[i]? =some x->∃y,(iU.map (·.2))[i]? =some y/\qa x lead y c):∃ps' LC,EG os (iU ++[(c,lead)]) xr ps' LC :=by
 have hj:j < lv.length:=(be.mp ej).1
 obtain ⟨q,eq⟩:∃q,qs[j]? =some q:=⟨_,gE (by rw [O.lq];exact hj)⟩
 obtain ⟨t1,t2⟩:=O.s3 j lead q ej eq
 have ml:lead∈(iU ++[(c,lead)]).map (·.2):=by simp
 have old:∀x∈nd.map (·.2),cD ((iU ++[(c,lead)]).map (·.2)) (col x):=fun x hx=>by
  obtain ⟨i,ei⟩:=aad hx
  obtain ⟨y,ey,k⟩:=MN i x ei
  refine yE k (cD.mem ?_) (cD.mem ml)
  rw [aaK]
  exact aaZ _ (ir ey)
 have aaB:∀y∈iU.map (·.2),∃x∈nd.map (·.2),qa x lead y c:=fun y hy=>by
  obtain ⟨i,ei⟩:=aad hy
  have hi:=(be.mp ei).1
  rw [aaa] at hi
  obtain ⟨x,ex⟩:∃x,(nd.map (·.2))[i]? =some x:=⟨_,gE (by rw [aaa];omega)⟩
  obtain ⟨y',yF,k⟩:=MN i x ex
  rw [ei] at yF
  cases yF
  exact ⟨x,ir ex,k⟩
 have up:∀{f:Nat->Rat},cD ps f->cD (ps++[q]) f:=fun h=>h.mono fun a ha=>aaZ _ ha
 refine ⟨ps++[q],qs.eraseIdx j,fun p hp=> ?_,fun p hp=>O.qo p (ad_ hp),by simp [O.lp,lN],?_,fun x hx=> ?_,fun p hp=> ?_,fun i l' q' e1 e2=> ?_,fun zs lz hzs a ha=> ?_⟩
 ·rcases aaF.mp hp with z | z
  ·exact O.po p z
  ·rw [aaw.mp z]
   exact O.qo q (ir eq)
 ·rw [lL,abO,abO,O.lq]
 ·rcases aaF.mp hx with z | z
  ·obtain ⟨y,hy,k⟩:=aaB x.2 (aab.mpr ⟨x,z,rfl⟩)
   obtain ⟨x0,YU,rfl⟩:=aab.mp hy
   exact yD k (up (O.s1 x0 YU)) t1
  ·rw [aaw.mp z]
   exact t1
 ·rcases aaF.mp hp with z | z
  ·exact (O.s2 p z).trans old
  ·rw [aaw.mp z]
   refine t2.trans fun a ha=> ?_
   rcases aaF.mp ha with h | h
   ·exact old a h
   ·rw [aaw.mp h]
    exact cD.mem ml
 ·have hi:=(be.mp e1).1
  obtain ⟨x,ex⟩:∃x,(lv.eraseIdx j)[i]? =some x:=⟨_,gE (by omega)⟩
  obtain ⟨y',yF,k⟩:=ML i x ex
  rw [e1] at yF
  cases yF
  obtain ⟨i',f1,f2⟩:∃i',lv[i']? =some x/\qs[i']? =some q' :=by
   rw [abB] at ex e2
   by_cases h:i < j
   ·rw [if_pos h] at ex e2
    exact ⟨_,ex,e2⟩
   ·rw [if_neg h] at ex e2
    exact ⟨_,ex,e2⟩
  obtain ⟨u1,u2⟩:=O.s3 i' x q' f1 f2
  constructor
  ·refine yD k (u1.mono fun a ha=> ?_) (t1.mono fun a ha=>aaZ _ ha)
   rcases aaF.mp ha with h | h
   ·exact aaZ _ (aaZ _ h)
   ·exact aaV _ h
  ·refine u2.trans fun a ha=> ?_
   rcases aaF.mp ha with h | h
   ·exact (old a h).mono fun b hb=>aaZ _ hb
   ·rw [aaw.mp h]
    exact yE k (cD.mem (by simp)) (cD.mem (aaZ _ ml))
 ·obtain ⟨sO,z,rfl⟩:∃sO z,zs=sO ++[z]:=by
   rcases aim zs with h | ⟨sO,z,h⟩
   ·rw [h] at lz
    simp at lz
   ·exact ⟨sO,z,by rw [h,ain]⟩
  have Tb :sO.length=ps.length:=by simpa using lz
  have sp:∀j,i6 sO ps j+z*q.getD j 0=0:=fun j=>by
   rw [<- oI j z q Tb]
   exact hzs j
  have z0:z=0:=by
   apply aa3
   intro z0
   have hq:cD ps (col q):=((jI sO ps).mul (-1 / (z:Rat))).congr fun j=>by
    have s' :((i6 sO ps j+z*q.getD j 0:Int):Rat)=((0:Int):Rat):=by rw [sp j]
    rw [apH,abn] at s'
    have zr:(z:Rat)≠0:=cq z0
    unfold col
    grind
   have hl:cD ps (col lead):=t1.trans fun a ha=>by
    rcases aaF.mp ha with h | h
    ·exact cD.mem h
    ·rw [aaw.mp h]
     exact hq
   exact hc (P.cols (hl.trans O.s2) hz c)
  rcases aaF.mp ha with h | h
  ·exact O.ind sO Tb (fun j=>by have:=sp j;rw [z0] at this;simpa using this) a h
  ·rw [aaw.mp h]
   exact z0
end Ty
set_option maxHeartbeats 4000000
namespace Ty
open PySem PySem.Spec PyProof.Rows L2
section
variable {prog:Program}{w:World}{A:Around}{E:δ}{s:Shared}
end
section
variable {X:Cx}
end
section
variable {prog:Program}{w:World}{A:Around}{E:δ}{s:Shared}
theorem vA (d:Addr)(hd:(d==sysModules)=false):
  MeetsIn prog w (Builtin.«dict.values» ⟨[.ref d],[]⟩) (fun _ R s=>s.TypeIs (.ref d) "dict"/\
   R (.ok (.ret (.ref s.heap.objs.size))) {s with heap:=s.heap.push {cls:=.type "dict_values",data:=.fields #[.ref d]}}):=
 .of_wp fun A R s ⟨hT,h⟩=>by
  refine wpAny_bind ?_
  unfold Builtin.Dict.noArgs
  refine wpAny_bind (wpAny_notOrdered_dict hT ?_)
  show wpAny _ _ (pure d) _ _ s
  refine wpAny_pure ?_
  show wpAny _ _ (Builtin.Dict.showsAll d >>=_) _ _ s
  unfold Builtin.Dict.showsAll
  rw [if_neg (by rw [hd];exact aaz)]
  refine wpAny_bind (wpAny_pure ?_)
  exact wpAny_bind (wpAny_newObj_type (wpAny_pure ⟨_,rfl,h⟩))
end
section
variable {X:Cx}
theorem LD {K:Frag}(h:X.K=K):Sd X (OR K):=by subst h;exact wZ
theorem HY {i:Nat}{y yc:Str}{py:Pos}{GL:Pos}{elt target iter:Expr}{ifs:List Expr}{scope:Scope}{pos:Pos}{tn fr:List Str}{caps:List Nat}{wi:TI}{g:TG}{tt:TT}{te:TE}(hN:X.N.Nodup)(hiN:X.N[i]? =some y)(hx:Loc X.env.scope y)
  (hc:X.calm=true) (B:SF X scope yc fr caps) (hi:PI X target iter wi)
  (hg:∀C s H fp,PG (jF X (tn++fr) scope yc (bw X.env fr) C s H fp) target g) (ht:∀C s H fp,PF (jF X (tn++fr) scope yc (bw X.env fr) C s H fp) ifs tt) (he:∀C s H fp,PE (jF X (tn++fr) scope yc (bw X.env fr) C s H fp) elt te)
  (GN:swapsWith (.ListComp elt [⟨target,iter,ifs,0⟩] scope pos) (some (.Name y py)) GL.line X.env=pure true:=by rfl)
  (hs:∀x,foldedSetIterable iter X.env x=pure x:=by intro _;rfl) (hf:X.fn y=true\/X.env.scope.names.lookup y=some .local:=by first | exact .inl rfl | exact .inr rfl | assumption):
  PS X (.Assign [.Name y py] (.ListComp elt [⟨target,iter,ifs,0⟩] scope pos) GL) (K0 (GG tn.length caps wi g tt te) (cI i)):=by
 intro pins s σ H D I h
 rw [exec_Assign_Name_used _ _ _ _ GN]
 refine wpAny_bind (wpAny_standAt (wpAny_bind ?_))
 show wpAny _ X.A (do let _ <- comprehension (.ListComp elt [⟨target,iter,ifs,0⟩] scope pos) scope X.env _ (newList []) false (eval iter X.env) (some (assign (.Name y py) X.env))) _ _ s
 refine wpAny_bind (wpAny_mono (wpAny_comprehension_free (use:=some (assign (.Name y py) X.env)) (Q:=fun _ s' =>SP X pins D .next s') rfl hs B.Li B.kind B.names
  (bZ (hi pins s σ H _ I h) fun v s1 h1=>bZ h1 fun RT s2 h2=> ?_)) (fun _ s' hq=>wpAny_pure (wpAny_pure hq)) fun _ _ e=>e)
 obtain ⟨it,fp,wA,J,H2,rfl,I2,T,iP,f2,q⟩:=h2
 refine vc (Q:=fun v H1=>cI i v σ H1 D.nx) (RR:=fun acc C=>compPost (model X.prog X.w) X.A X.xe (some (assign (.Name y py) X.env)) (fun _ s' =>SP X pins D .next s') acc C) hc B hg ht he I2 T iP f2 q ?_
 intro DD C H' s' m I' hn fc qq
 obtain ⟨g0,g1,g2,g3,g4,g5⟩:=fc
 show wpAny _ X.A (assign (.Name y py) X.env (.ref DD)) _ _ _
 refine wpAny_assign_Name (kg I' hN hiN hx (v:=.ref DD) (u:=.ref DD) rfl (fun OP I'' ⟨a,sb,ha⟩=> ?_) hf)
 have hCa:C≠a:=by
  rcases ha with z | z
  ·rw [z]
   exact g1
  ·exact fun e=>g4 y a z e.symm
 exact ⟨m,hn.sameBut sb hCa,fun h' Kc =>⟨_,H',I''.turned (t' :=OP.toks) (fun b o hb e=>(Kc.2 b hb).trans e) g0 g1 g3 g4 g5,qq⟩⟩
end
theorem vB {D:Addr}{te:TE}{tt:TT}{cap:L2.St}{H1:Hp}{Q:VK}{n:Nat}(p:Nat->Bool)(nD:H1 D=none)(hn:n < sizeLine)
  (ht:∀i H (R:Bool->Hp->Prop),i < n->au H1 H->(∀H',au H H' ->R (p i) H')->tt (some (.int (i:Int))::cap) H R)
  (he:∀i H (R:VK),R (.int (i:Int)) H->te (some (.int (i:Int))::cap) H R)
  (hd:∀H,au H1 H->H D=some (.lst (((aa_ n).filter p).map fun i:Nat=>V.int (i:Int)))->Q (.ref D) H):
  jE D (cI 0) tt te (Ni 0 n) (none::cap) H1 Q:=by
 refine ⟨fun i m σ ys H=>m=n - i/\i<=n/\(∃o,σ=o::cap)/\au H1 H/\H D=some (.lst ys)/\ys=((aa_ i).filter p).map fun i:Nat=>V.int (i:Int),⟨n,by simp,aaX _,⟨none,rfl⟩,fun b o e=>by rw [ao (aq e nD)];exact e,ah,rfl⟩,?_⟩
 rintro i m σ ys H ⟨rfl,hi,⟨o,rfl⟩,s,hD,ey⟩
 by_cases kc:i < n
 ·refine .inr ⟨kc,fun v H' y=> ?_⟩
  obtain ⟨rfl,rfl⟩:=y
  rw [abo]
  unfold cI
  refine ht i _ _ kc s fun H2 s2=> ?_
  have BA:au H1 H2:=fun b o e=>s2 _ _ (s _ _ e)
  have ly:ys.length<=i:=by
   rw [ey,aaa]
   have:=abi p (aa_ i)
   rw [ahp] at this
   exact this
  by_cases c:p i=true
  ·rw [if_pos c]
   refine he i _ _ ⟨s2 _ _ hD,by omega,n - (i+1),by omega,rfl,by omega,⟨_,rfl⟩,?_,ah,?_⟩
   ·exact fun b o e=>by
     rw [ao (aq e nD)]
     exact BA _ _ e
   ·rw [ahz,abI,abR c,ey,aaK]
    rfl
  ·rw [if_neg c]
   refine ⟨n - (i+1),by omega,rfl,by omega,⟨_,rfl⟩,BA,s2 _ _ hD,?_⟩
   rw [ahz,abI,abS c,ey,List.filter_nil,ace]
 ·have e:i=n:=by omega
  subst e
  rw [ey] at hD
  exact .inl ⟨aah _,hd H s hD⟩
section
variable {X:Cx}
inductive vC (Q:VK)(x:V)(H1:Hp):Prop where
 | mk (d kvs:_) (_:x=.ref d) (_:H1 d=some (.dK kvs)) (_:∀l,H1 l=none->Q (.ref l) (upd H1 l (.lst (kvs.map fun kv=>kv.2)))):vC Q x H1
def LF (te:TE):TE:=fun σ H Q=>te σ H fun x H1=>vC Q x H1
theorem BB {e:Expr}{te:TE}{apos cJ p pos:Pos}(hc:X.calm=true)(hg:Gl X "list")(hm:X.mg "list"=none)(ho:PE X e te)(jz:attributeBase e "values" X.env (eval e X.env)=eval e X.env:=by rfl)(jA:(apos.endLine==cJ.line)=true:=by rfl)
  (hs:starEach [(.Call (.Attribute e "values" apos) [] [] cJ:Expr)] X.env=[(false,eval (.Call (.Attribute e "values" apos) [] [] cJ) X.env)]:=by rfl):
  PE X (.Call (.Name "list" p) [.Call (.Attribute e "values" apos) [] [] cJ] [] pos) (LF te):=by
 intro pins s σ H Q I h
 refine Call_ (gG I hg hm boot_list (PyProof.Rows.callWith_type1 ?_ hs rfl))
 rw [hs]
 show wpAny _ _ (spliced ((false,eval (.Call (.Attribute e "values" apos) [] [] cJ) X.env)::[])) _ _ s
 refine Calls.spliced_cons ?_
 refine wpAny_Call_method0_late jz jA (bZ (ho pins s σ H _ I h) fun v s1 ⟨x,H1,I1,r1,q1⟩=> ?_)
 obtain ⟨d,kvs,rfl,e,q⟩:=q1
 cases r1
 obtain ⟨h1,h2,hd⟩:=sC I1 (.inl ⟨kvs,.inl e⟩)
 obtain ⟨z,EN,vs,rel,o,SV,ep,HD,hx,iS,hk,hp,hn⟩:=lK I1.bH e
 have da:s1.heap.DictAt (bj X.prog X.w) d vs ep:=⟨o,SV,HD,hx,iS,hk,hp,hn⟩
 have lv:=rel.length
 refine ⟨"dict","dict.values",F.plainAttrs_dict,F.slot_dict_values,F.type_dict_values,h1,h2,Calls.callWith_builtin rfl (PySem.evalArgs_none ?_)⟩
 refine call_meetsIn F.slot_dict_values h1 F.entry_dict_values (F.args_dict_values_1 _) (vA d hd) ⟨h1,Calls.spliced_nil ?_⟩
 have SW:(s1.heap.push {cls:=.type "dict_values",data:=.fields #[.ref d]}).DictAt (bj X.prog X.w) d vs ep:=da.at' fun o e=>Heap.get?_push_of_some _ e
 have I2:Inv X pins σ H1 {s1 with heap:=s1.heap.push {cls:=.type "dict_values",data:=.fields #[.ref d]},toks:=s1.toks}:=I1.kept (t' :=s1.toks) fun b o e=>Heap.get?_push_of_some _ e
 refine PySem.W.kdl_call (s:={s1 with heap:=s1.heap.push {cls:=.type "dict_values",data:=.fields #[.ref d]}}) (PySem.W.kdl_values (knd:=bj X.prog X.w) (r:=s1.heap.objs.size) (kvs:=vs) (ep:=ep)) (I1.ok.hd hc) ⟨⟨_,Heap.get?_push_size _ rfl,rfl,rfl⟩,SW⟩ (by omega) fun h' tk gj c' kk hS ow=> ?_
 have EO :=I2.bH.fresh (aah (s1.heap.push {cls:=.type "dict_values",data:=.fields #[.ref d]}).objs.size)
 have rv:Vals (kvs.map fun kv=>kv.2) gj.toList:=eG (by have:=ow.1;simp;omega) fun i a b e1 e2=>by
  rw [Wp] at e1
  obtain ⟨kv,ek,rfl⟩:=aal.mp e1
  obtain ⟨q',eq,e3,ru⟩:=aH rel ek
  obtain ⟨k,e4⟩:=ow.2 i b (by simpa using e2)
  rw [eq] at e4
  cases e4
  exact ru
 have I3:=I2.laid (t' :=tk) (o:=.lst (kvs.map fun kv=>kv.2)) kk (aah _) ⟨by rw [aaa];exact z,gj.toList,c',rv,by simpa using hS⟩
 exact ⟨.ref _,_,I3,rfl,q _ EO⟩
end
end Ty
set_option maxHeartbeats 4000000
namespace T_k42
open PySem PySem.Spec PyProof.Rows L2 Ty
open Builtin.Int (intBits)
seal L2.PE L2.PS L2.PSs L2.PA
theorem sq {N P:List Str}{sc:Scope}(a:sc.kind=.function:=by exact rfl)(b:sc.isCoroutine=false:=by exact rfl)(c:sc.isGenerator=false:=by exact rfl)(d:N.Nodup:=by decide+kernel)(e:N.take P.length=P:=by exact rfl)(f:∀x∈P,sc.names.lookup x=some .local\/sc.names.lookup x=some .cell:=by decide+kernel)(g:∀y∈sc.names,y.2≠.free:=by decide+kernel):aD N P sc:=⟨a,b,c,d,e,f,g⟩
theorem pY (P:Program)(w:World){X:Cx}:Passes (aY P w) X.yd E0:=u5 aY.nX
theorem pX {P:Program}{w:World}{X:Cx}:Passes (aY P w) X.yd E0:=u5 aY.nX
theorem _root_.L2.cp.mo {j k:Nat}{A:Around}(r:L2.cp k A)(h:j<=k:=by decide):L2.cp j A:=r.mono h
theorem aL {X:Cx}{a:Expr}{ta:TE}{i j p1 p2}(h:PE X a ta):PE X (.Subscript a (.Constant (.int i) j p1) p2) (OK (FL X.K) ta (tC (.int i))):=bq nJ h ak (fun _ _=>rfl)
theorem yG {X:Cx}{a:Expr}{ta:TE}{i j p1 p2}(h:PE X a ta):PE X (.Subscript a (.Constant (.int i) j p1) p2) (OK (Lc X.K) ta (tC (.int i))):=bq bt h ak (fun _ _=>rfl)
theorem _root_.L2.mN.xt {K:Frag}{x qual:Str}{st:Stmt}{f:Addr}{fd:FuncData}{ps:List Str}(F:L2.mN K x qual st f fd)
 (h:∀(kV doc pm:Value) (an:Option Addr) (bE ct:Value) (us:ο),us.length=ps.length->bindArgs (fnOf x qual (ay st) (aw st) (ag st) .none kV doc pm an bE ct) ⟨us,[]⟩=pure (ps.zip us):=by first | exact (fun _ _ _ _ _ _ us hl=>match us,hl with | [_],_=>rfl) | exact (fun _ _ _ _ _ _ us hl=>match us,hl with | [_,_],_=>rfl) | exact (fun _ _ _ _ _ _ us hl=>match us,hl with | [_,_,_],_=>rfl) | exact (fun _ _ _ _ _ _ us hl=>match us,hl with | [_,_,_,_],_=>rfl) | exact (fun _ _ _ _ _ _ us hl=>match us,hl with | [_,_,_,_,_],_=>rfl)):Binds K fd ps []:=F.binds h
theorem fM {K:Frag}{mg:ι}{h:Heap}{x:Str}{st:Stmt}{ps:List Str}{f:Addr}{oc:Value}{od an:Option Addr}{pZ:Array (Option Value)}{kV doc pm bE ct:Value}(X:K.In h)(G:h.Ns mainGlobals mg)(l:K.lookup f=some ⟨oc,od,.func (fnOf x x (ay st) (aw st) (ag st) .none kV doc pm an bE ct),pZ⟩)(c:codeIn K bE x=true)(k:keepIn K (.ref f)=true)(a:nsIn K mainGlobals x=some (some (.ref f)))
 (b:∀(kV doc pm:Value) (an:Option Addr) (bE ct:Value) (us:ο),us.length=ps.length->bindArgs (fnOf x x (ay st) (aw st) (ag st) .none kV doc pm an bE ct) ⟨us,[]⟩=pure (ps.zip us):=by first | exact (fun _ _ _ _ _ _ us hl=>match us,hl with | [_],_=>rfl) | exact (fun _ _ _ _ _ _ us hl=>match us,hl with | [_,_],_=>rfl) | exact (fun _ _ _ _ _ _ us hl=>match us,hl with | [_,_,_],_=>rfl) | exact (fun _ _ _ _ _ _ us hl=>match us,hl with | [_,_,_,_],_=>rfl) | exact (fun _ _ _ _ _ _ us hl=>match us,hl with | [_,_,_,_,_],_=>rfl) | exact (fun _ _ _ _ _ _ us hl=>match us,hl with | [_,_,_,_,_,_],_=>rfl) | exact (fun _ _ _ _ _ _ us hl=>match us,hl with | [_,_,_,_,_,_,_],_=>rfl)):Def K mg x st ps:=Def.of (cQ l c k) ((cQ l c k).binds b) (mg_of X G a)
def top (i:Nat):Stmt:=PySem.Challenge.pw_trussyard_k42_needed_bars.main.body.getD i (.Pass ⟨0,0,0,0⟩)
abbrev xu:Stmt:=top 14
abbrev vD:Stmt:=top 15
abbrev BC:Stmt:=top 16
abbrev BD:Stmt:=top 19
abbrev xv:Stmt:=top 20
abbrev BE:Stmt:=top 22
abbrev BF:Stmt:=top 23
abbrev BG:Stmt:=top 24
abbrev BH:Stmt:=top 25
abbrev BI:Stmt:=top 26
abbrev BJ:Stmt:=top 27
abbrev b9:Stmt:=top 29
abbrev dc:Stmt:=top 30
abbrev bV:Stmt:=top 31
abbrev BK:Stmt:=top 32
abbrev BL:Stmt:=top 33
abbrev dP:Stmt:=top 34
abbrev BM:Stmt:=top 35
abbrev BN:Stmt:=top 36
abbrev BO:Stmt:=top 37
abbrev BP:Stmt:=top 38
abbrev dQ:Stmt:=top 40
abbrev eJ:Stmt:=top 41
abbrev BQ:Stmt:=top 51
abbrev BR:Stmt:=top 52
abbrev BS:Stmt:=top 53
abbrev BU:Stmt:=top 54
abbrev BV:Stmt:=top 55
abbrev BW:Stmt:=top 56
abbrev xw:Stmt:=top 57
abbrev BX:Stmt:=top 58
abbrev BY:Stmt:=top 59
abbrev BZ:Stmt:=top 60
abbrev B_:Stmt:=top 61
abbrev B':Stmt:=top 62
abbrev CA:Stmt:=top 63
abbrev CB:Stmt:=top 64
abbrev CC:Stmt:=top 65
abbrev CD:Stmt:=top 66
abbrev CG:Stmt:=top 67
abbrev CH:Stmt:=top 68
abbrev CI:Stmt:=top 69
abbrev de:Stmt:=top 70
abbrev cM:Stmt:=top 71
abbrev cN:Stmt:=top 72
abbrev df:Stmt:=top 73
abbrev jJ:Stmt:=top 74
abbrev CJ:Stmt:=inClass (top 45) 0
abbrev mh:Stmt:=inClass (top 45) 1
abbrev CK:Stmt:=inClass (top 45) 2
abbrev CL:Stmt:=inClass (top 45) 3
abbrev CM:Stmt:=inClass (top 45) 4
abbrev CN:Stmt:=inClass (top 45) 5
abbrev bW:Stmt:=inClass (top 45) 6
abbrev CO:Stmt:=inClass (top 45) 7
abbrev CP:Stmt:=inClass (top 45) 8
abbrev CQ:Stmt:=inClass (top 45) 9
abbrev CS:Stmt:=inClass (top 45) 10
abbrev CT:Stmt:=inClass (top 45) 11
abbrev LG:Stmt:=inClass (top 47) 0
abbrev CU:Stmt:=inClass (top 48) 0
abbrev CV:Stmt:=inClass (top 48) 1
abbrev CW:Stmt:=inClass (top 49) 0
section
variable {P:Program}{w:World}{K:Frag}{mg:ι}{base:Heap}{CX:kd}
def Nm (H:Hp)(v:V)(q:Int×Int):Prop:=∃p,v=.ref p/\H p=some (.tup [.int q.1,.int q.2])
structure Tc (k:Nat)(q:Int×Int):Prop where
 pos:0 < q.2
 top:intBits q.1<=k
 bot:intBits q.2<=k
theorem aG {H:Hp}{p:Addr}(h:H p=none)(o:HO):au H (upd H p o):=fun b u q=>by rw [ao (aq q h)];exact q
theorem nw {H H' :Hp}{l:Addr}{o:HO}(n:H l=none)(e:upd H l o=H'):au H H' /\H' l=some o:=by subst e;exact ⟨aG n o,ah⟩
def gives (H:Hp)(Q:VK)(q:Int×Int):Prop:=∀(p:Addr) (H' :Hp),au H H' ->H' p=some (.tup [.int q.1,.int q.2])->Q (.ref p) H'
inductive gu (vs:η)(H:Hp)(Q:VK)(E_:XK):Prop where
 | mk (a b:Int) (_:vs=[.int a,.int b]) (_:Q (.int (gz a b)) H):gu vs H Q E_
def subQ (x y:Int×Int):Int×Int:=low (x.1*y.2 - y.1*x.2) (x.2*y.2)
theorem LH {x y:Int×Int}{k l:Nat}(hx:Tc k x)(hy:Tc l y):x.2*y.2≠0:=abz (ahr hx.pos hy.pos)
theorem ib {a b:V}:jr [a,b] 0=some a:=rfl
theorem iV {a b:V}:jr [a,b] 1=some b:=rfl
theorem Nm.kept {H H' :Hp}{D:Addr}{ys:η}{v:V}{q:Int×Int}(h:Nm H v q)(hD:H D=some (.lst ys))(k:aV D H H'):Nm H' v q:=by
 obtain ⟨p,e,z⟩:=h
 exact ⟨p,e,k p _ (fun e=>by rw [e,hD] at z;cases z) z⟩
inductive Ln (H:Hp)(v:V)(l:ξ):Prop where
 | mk (p:_) (_:v=.ref p) (_:H p=some (.lst (l.map V.int))):Ln H v l
theorem Ln.same {H H' :Hp}{v:V}{l:ξ}(h:Ln H v l)(s:au H H'):Ln H' v l:=by
 obtain ⟨p,e,k⟩:=h
 exact ⟨p,e,s _ _ k⟩
def qu (H:Hp)(us:η)(ls:ε):Prop:=us.length=ls.length/\∀(i:Nat) (u:V) (l:ξ),us[i]? =some u->ls[i]? =some l->Ln H u l
theorem qu.same {H H' :Hp}{us:η}{ls:ε}(h:qu H us ls)(s:au H H'):qu H' us ls:=⟨h.1,fun i u l e1 e2=>(h.2 i u l e1 e2).same s⟩
theorem rE {l:ξ}{j:Nat}(h:j < l.length):jr (l.map V.int) (j:Int)=some (.int (l.getD j 0)):=cE (by rw [Wp,gE h,aaj,gE h];rfl)
theorem getD_mem {l:ξ}{j:Nat}{x:Int}(e:l[j]? =some x):l.getD j 0=x:=by rw [aaj,e];rfl
def Bd (b:Nat)(l:ξ):Prop:=∀j,(l.getD j 0).natAbs<=2^b
theorem Bd.mem {b:Nat}{l:ξ}(h:Bd b l){x:Int}(hx:x∈l):x.natAbs<=2^b:=by
 obtain ⟨i,hi⟩:=aad hx
 rw [<- getD_mem hi]
 exact h i
theorem Bd.up {b c:Nat}{l:ξ}(h:Bd b l)(hc:b<=c):Bd c l:=fun j=>NH (h j) hc
theorem yH:aD ["one","other","left"] ["one","other"] (ag BC):=sq
theorem Td (D:Def K mg "greatest_shared" BC ["one","other"])(rF:mg "abs"=none):Fn P w K mg base CX 1 "greatest_shared" ["one","other"] gu:=by
 refine D.ok yH (fun vs H Q E h=> ?_) (fun f bE A outer s H vs Q E hr h=> ?_)
 ·obtain ⟨a,b,rfl,_⟩:=h
  rfl
 obtain ⟨a,b,rfl,q⟩:=h
 refine ⟨_,(ae (nE PassesOwn.never (aR lE (pv 1) ak (aZ _)) (ae (aF (i:=2) yH.nd rfl (aai rfl) (aK fQ (pv 0) (pv 1)))
   (ae (aF (i:=0) yH.nd rfl (aai rfl) (pv 1))
   (aj (aF (i:=1) yH.nd rfl (aai rfl) (pv 2))))))
  (aj (aI (aT uP rfl rF NA (ar (pv 0) aa))))),?_⟩
 refine uM (fun σ H' =>∃(x y:Int) (l:Option V),σ=[some (.int x),some (.int y),l]/\H' =H/\aa' x y=aa' a b) (fun σ _=>match σ with | [_,some (.int y),_]=>y.natAbs | _=>0) ⟨a,b,none,rfl,rfl,rfl⟩ ?_ ?_
 ·rintro σ H' ⟨x,y,l,rfl,rfl,g⟩
  refine ⟨_,rfl,rfl,_,rfl,?_⟩
  refine bc (fun c=> ?_) (fun c=> ?_)
  ·have hy:y≠0:=by
    intro z
    subst z
    simp at c
   refine ⟨_,rfl,_,rfl,_,_,rfl,rfl,hy,?_⟩
   refine ⟨_,rfl,_,rfl,?_⟩
   exact ⟨⟨_,_,_,rfl,rfl,by rw [uW];exact g⟩,q4 hy⟩
  ·have hy:y=0:=by
    have:=ahL.mpr c
    simp at this
    exact this
   subst hy
   refine ⟨_,rfl,x,rfl,?_⟩
   have e:(if x < 0 then -x else x)=gz a b:=by
    rw [aiz] at g
    unfold gz
    rw [<- g]
    split <;> omega
   rw [e]
   exact q
 ·rintro σ H' Q1 Q2 h ⟨v,e1,e2,k,ek,z⟩
  exact ⟨v,e1,e2,k,ek,h _ _ z⟩
inductive gv (vs:η)(H:Hp)(Q:VK)(E_:XK):Prop where
 | mk (t b:Int) (_:vs=[.int t,.int b]) (_:b≠0) (_:gives H Q (low t b)):gv vs H Q E_
theorem HZ:aD ["top","bottom","shared"] ["top","bottom"] (ag vD):=sq
theorem Te (ht:P.given.tree=none)(D:Def K mg "lowest_terms" vD ["top","bottom"])(xx:Fn P w K mg base (aY P w) 1 "greatest_shared" ["one","other"] gu):Fn P w K mg base (aY P w) 33 "lowest_terms" ["top","bottom"] gv:=by
 refine D.ok HZ (fun vs H Q E h=> ?_) (fun f bE A outer s H vs Q E hr h=> ?_)
 ·obtain ⟨t,b,rfl,_⟩:=h
  rfl
 obtain ⟨t,b,rfl,hb,q⟩:=h
 have Tf:∃tt,PSs (l_ (aY P w) P w K mg base ["top","bottom","shared"] "lowest_terms" (ag vD) f bE A outer s H E).yd ((aw vD).drop 2) tt/\∀g:Int,g=sg t b->tt {nx:=fun _ H' =>Q .cv H',rt:=Q} [some (.int t),some (.int b),some (.int g)] H:=by
  refine ⟨_,(aj (aI (a9 (ar (aK (fF ht (Ty.cp.py hr (by decide)) rfl rfl rfl rfl rfl) (pv 0) (pv 2)) (ar (aK (fF ht (Ty.cp.py hr (by decide)) rfl rfl rfl rfl rfl) (pv 1) (pv 2)) aa))))),?_⟩
  rintro g rfl
  have c:=nL (t:=t) hb
  refine ⟨_,rfl,_,rfl,_,_,rfl,rfl,c,_,rfl,_,rfl,_,_,rfl,rfl,c,(by show 2<=sizeLine;decide),fun p hp=> ?_⟩
  exact q p _ (aG hp _) ah
 obtain ⟨t2,p2,q2⟩:=Tf
 refine ⟨_,(ae (aF (i:=2) HZ.nd rfl (aai rfl) (aA xx hr.mo pX (ar (pv 0) (ar (pv 1) aa)))) (ae (bo (aR uN (pv 1) ak (aZ _)) (aj (aF (i:=2) HZ.nd rfl (aai rfl) (FC wL (pv 2)))) aQ) p2)),?_⟩
 refine ⟨_,rfl,_,rfl,t,b,rfl,?_⟩
 refine ⟨_,rfl,_,_,rfl,rfl,_,rfl,?_⟩
 refine bc (fun c=> ?_) (fun c=> ?_)
 ·refine ⟨_,rfl,_,rfl,q2 _ ?_⟩
  have c' :b < 0:=of_decide_eq_true c
  unfold sg
  rw [if_pos c']
 ·refine q2 _ ?_
  have c' :¬ b < 0:=of_decide_eq_false (ahL.mpr c)
  unfold sg
  rw [if_neg c']
inductive LI (K:Frag)(vs:η)(H:Hp)(Q:VK)(E_:XK):Prop where
 | mk (a:Addr) (qs:π) (T B:Nat) (_:vs=[.ref a]) (_:aav K H a qs) (_:(∀q∈qs,Sm T B q)) (_:T<=20000) (_:B*qs.length<=100000) (_:B<=8000) (_:qs.length<=1000) (_:∀(p l:Addr) (ts:ξ) (b:Int) (H' :Hp),au H H' ->H l=none->H' p=some (.tup [.ref l,.int b])->H' l=some (.lst (ts.map V.int))->0 < b->b.natAbs<=2^(B*qs.length)->rg ts qs b->(∀t∈ts,t.natAbs<=2^(T+B*qs.length))->Q (.ref p) H'):LI K vs H Q E_
theorem yI:aD ["row","bottom","number"] ["row"] (ag BL):=sq
theorem Tg (D:Def K mg "whole_row" BL ["row"])(xx:Fn P w K mg base (aY P w) 1 "greatest_shared" ["one","other"] gu):Fn P w K mg base (aY P w) 2 "whole_row" ["row"] (LI K):=by
 refine D.ok yI (fun vs H Q E h=> ?_) (fun f bE A outer s H vs Q E hr h=> ?_)
 ·obtain ⟨a,qs,T,B,rfl,_⟩:=h
  rfl
 obtain ⟨a,qs,T,B,rfl,⟨us,hS,hN⟩,sm,hT,hB,YV,hl,q⟩:=h
 refine ⟨_,(ae (aF (i:=1) yI.nd rfl (aa2 rfl) ak)
  (ae (bD PassesOwn.never rfl (bu (pv 0)) (aC (i:=2) yI.nd rfl (aai rfl)) (aj (aF (i:=1) yI.nd rfl (aa2 rfl) (aK cu (aK uY (pv 1) (aA xx hr.mo pX (ar (pv 1) (ar (aL (pv 2)) aa)))) (aL (pv 2))))))
  (aj (aI (a9 (ar (dC (tn:=["number"]) (fr:=["bottom"]) (caps:=[1]) rfl ⟨rfl,by decide+kernel,rfl,by decide+kernel,by decide+kernel,rfl,⟨(by first | exact aai rfl | exact aa2 rfl),trivial⟩,⟨(by first | exact aai rfl | exact aa2 rfl),trivial⟩⟩ (bu (pv 0)) (fun _ _ _ _=>(aC (i:=0) (show (["number","bottom"]:List Str).Nodup from by decide+kernel) rfl (aai rfl))) (fun _ _ _ _=>dG) (fun _ _ _ _=>(aK cu (bq (c9 (K:=K) rfl) (pv 0) ak (fun _ _=>rfl)) (aK uY (pv 1) (bq (c9 (K:=K) rfl) (pv 0) ak (fun _ _=>rfl)))))) (ar (pv 1) aa))))))),?_⟩
 have hlu:=hN.1
 have qat:∀{i:Nat} {u:V},us[i]? =some u->∃q,qs[i]? =some q/\lM K H u q/\Sm T B q:=fun {i u} e=>by
  have hi:i < us.length:=(be.mp e).1
  have e2:qs[i]? =some (qs[i]'(by omega)):=gE (by omega)
  exact ⟨_,e2,hN.2 i u _ e e2,sm _ (abu _)⟩
 refine ⟨_,rfl,a,rfl,⟨_,hS⟩,bO (K:=K) (a:=a) (xs:=us) (fun i σ H' =>∃(b:Int) (o:Option V),σ=[some (.ref a),some (.int b),o]/\H' =H/\0 < b/\b.natAbs<=2^(B*i)/\∀j,j < i->∀q,qs[j]? =some q->q.2 ∣ b) ⟨1,none,rfl,rfl,by decide,by simp,fun j h=>absurd h (abG _)⟩ (fun i σ H' _ ⟨b,o,_,e,_⟩=>by rw [e];exact hS) ?_ ?_⟩
 ·rintro i u σ H' hu ⟨b,o,rfl,rfl,hb,hs,hd⟩
  obtain ⟨n,en,⟨p,rfl,hp⟩,sn⟩:=qat hu
  have hi:i < qs.length:=(be.mp en).1
  have nb:n.2.natAbs<=2^B:=sn.bot
  obtain ⟨l1,l2,l3,l4⟩:=GV hb sn.pos
  have gp:=sj (t:=b) (b:=n.2) (by have:=sn.pos;omega)
  have gl:=Sk (t:=b) (b:=n.2) (by have:=sn.pos;omega)
  have sz:(b.fdiv (gz b n.2)*n.2).natAbs<=2^(B*(i+1)):=by
   refine aaf l4 ?_
   rw [Nat.mul_succ,ahC]
   exact abl hs nb
  have bi:B*i<=100000:=aaf (Nat.mul_le_mul_left B (by omega)) hB
  have g1:gz b n.2 ∣ b:=ae_ ..
  refine ⟨_,rfl,_,rfl,_,rfl,p,_,_,_,rfl,rfl,hp,iV,b,n.2,rfl,?_⟩
  refine ⟨_,_,rfl,rfl,⟨by omega,aaf (iC (aaf gl nb) (abc B)) (by omega)⟩,?_⟩
  refine ⟨_,rfl,p,_,_,_,rfl,rfl,hp,iV,_,_,rfl,rfl,mU (aaf (gf (by omega) g1) hs) nb (by omega) (by omega),?_⟩
  refine ⟨_,_,rfl,rfl,l1,sz,fun j hj q' e' => ?_⟩
  rcases abm.mp hj with z | z
  ·exact Int.dvd_trans (hd j z q' e') l2
  ·subst z
   rw [en] at e'
   cases e'
   exact l3
 ·rintro σ H' ⟨b,o,rfl,rfl,hb,hs,hd⟩
  rw [hlu] at hs hd
  refine ⟨_,rfl,a,rfl,⟨_,hS⟩,fun D nD=> ?_⟩
  refine dN (cap:=[some (.int b)]) (K:=K) (a:=a) (xs:=us) (fun i v _=>∃q,qs[i]? =some q/\v=.int (q.1*b.fdiv q.2)) nD (by rw [hlu];exact aar hl (by decide)) (fun H2 s2=>s2.seq hS) (fun _ _ _ _ _ _ _ h=>h) ?_ ?_
  ·intro i u H2 R hu s2 k
   obtain ⟨n,en,⟨p,rfl,hp⟩,sn⟩:=qat hu
   have SJ:=Ty.au.cG s2 hp
   have dv:=hd i (be.mp en).1 n en
   have n0:n.2≠0:=by have:=sn.pos;omega
   refine ⟨_,rfl,p,_,_,_,rfl,rfl,SJ,ib,?_⟩
   refine ⟨_,rfl,_,rfl,p,_,_,_,rfl,rfl,SJ,iV,_,_,rfl,rfl,⟨n0,aaf (iC sn.bot (abc B)) (by omega)⟩,?_⟩
   exact ⟨_,_,rfl,rfl,mU sn.top (aaf (gf n0 dv) hs) (by omega) (by omega),k _ _ (au.refl _) ⟨n,en,rfl⟩⟩
  ·intro ys H2 hy ie s2 hD
   have ey:ys=(qs.map fun n=>n.1*b.fdiv n.2).map V.int:=by
    refine aa8 fun i=> ?_
    by_cases hi:i < ys.length
    ·have e1:ys[i]? =some ys[i]:=gE hi
     obtain ⟨n,en,ev⟩:=ie i _ e1
     rw [e1,ev,Wp,Wp,en]
     rfl
    ·rw [aae (by omega),aae (by simp;omega)]
   refine ⟨_,rfl,(by show 2<=sizeLine;decide),fun p np=> ?_⟩
   have s3:=aG np (.tup [.ref D,.int b])
   refine q p D (qs.map fun n=>n.1*b.fdiv n.2) b _ (s2.trans s3) nD ah (s3 _ _ (by rw [hD,ey])) hb hs ⟨by simp,fun i t n e1 e2=> ?_⟩ (fun t ht=> ?_)
   ·rw [Wp,e2] at e1
    have wB :n.1*b.fdiv n.2=t:=aaM e1
    rw [<- wB]
    exact AG (sm n (ir e2)).pos (hd i (be.mp e2).1 n e2)
   ·obtain ⟨n,hn,rfl⟩:=aab.mp ht
    obtain ⟨i,hi⟩:=aad hn
    have n0:n.2≠0:=by have:=(sm n hn).pos;omega
    exact xa (sm n hn).top (aaf (gf n0 (hd i (be.mp hi).1 n hi)) hs)
structure Dv (l l' :ξ):Prop where
 len:l'.length=l.length
 YW:∃g:Int,g≠0/\∀j,g*l'.getD j 0=l.getD j 0
def PD (l:ξ):Prop:=Ta l\/∀j,l.getD j 0=0
theorem vE {l:ξ}{d:Int}(h:∀j,d ∣ l.getD j 0){i:Nat}{x:Int}(e:l[i]? =some x):d ∣ x:=by
 rw [<- getD_mem e]
 exact h i
inductive kE (vs:η)(H:Hp)(Q:VK)(E_:XK):Prop where
 | mk (v:V) (l:ξ) (_:vs=[v]) (_:Ln H v l) (_:l.length<=1000) (_:∀v' l' H',au H H' ->Ln H' v' l' ->Dv l l' ->PD l' ->(v' =v\/∃p,v' =.ref p/\H p=none)->Q v' H'):kE vs H Q E_
theorem LJ (l:ξ):Dv l l:=⟨rfl,1,by decide,fun j=>Int.one_mul _⟩
theorem yJ:aD ["line","shared","whole"] ["line"] (ag BP):=sq
theorem Th (ht:P.given.tree=none)(D:Def K mg "divided" BP ["line"])(xx:Fn P w K mg base (aY P w) 1 "greatest_shared" ["one","other"] gu):Fn P w K mg base (aY P w) 33 "divided" ["line"] kE:=by
 refine D.ok yJ (fun vs H Q E h=> ?_) (fun f bE A outer s H vs Q E hr h=> ?_)
 ·obtain ⟨v,l,rfl,_⟩:=h
  rfl
 obtain ⟨v,l,rfl,⟨a,rfl,ha⟩,hn,q⟩:=h
 have same:PD l->Q (.ref a) H:=fun pz=>q _ l H (au.refl H) ⟨a,rfl,ha⟩ (LJ l) pz (.inl rfl)
 refine ⟨_,(ae (aF (i:=1) yJ.nd rfl (aa2 rfl) ak)
  (ae (bD PassesOwn.never rfl (bu (pv 0)) (aC (i:=2) yJ.nd rfl (aai rfl)) (ae (aF (i:=1) yJ.nd rfl (aa2 rfl) (aA xx hr.mo pX (ar (pv 2) (ar (pv 1) aa))))
   (aj (bo (aR eC (pv 1) ak (aZ _)) (aj (aI (pv 0))) aQ))))
  (aj (aI (uJ (aR uO (pv 1) ak (aZ _)) (dC (tn:=["whole"]) (fr:=["shared"]) (caps:=[1]) rfl ⟨rfl,by decide+kernel,rfl,by decide+kernel,by decide+kernel,rfl,⟨(by first | exact aai rfl | exact aa2 rfl),trivial⟩,⟨(by first | exact aai rfl | exact aa2 rfl),trivial⟩⟩ (bu (pv 0)) (fun _ _ _ _=>(aC (i:=0) (show (["whole","shared"]:List Str).Nodup from by decide+kernel) rfl (aai rfl))) (fun _ _ _ _=>dG) (fun _ _ _ _=>(aK (fF ht (Ty.cp.py hr (by decide)) rfl rfl rfl rfl rfl) (pv 0) (pv 1)))) (pv 0)))))),?_⟩
 refine ⟨_,rfl,a,rfl,⟨_,a8.of ha⟩,bO (K:=K) (a:=a) (xs:=l.map V.int) (fun i σ H' =>∃(g:Int) (o:Option V),σ=[some (.ref a),some (.int g),o]/\H' =H/\0<=g/\(∀j,j < i->∀x,l[j]? =some x->g ∣ x)/\(∀d:Int,(∀j,j < i->∀x,l[j]? =some x->d ∣ x)->d ∣ g)/\(0 < i->g≠1)) ⟨0,none,rfl,rfl,by decide,(fun j h=>absurd h (abG _)),(fun d _=>Int.dvd_zero d),fun h=>absurd h (ab5 _)⟩ (fun i σ H' _ ⟨g,o,_,e,_⟩=>by rw [e];exact a8.of ha) ?_ ?_⟩
 ·rintro i u σ H' hu ⟨g,o,rfl,rfl,g0,hg,hd,_⟩
  rw [Wp] at hu
  obtain ⟨x,ex,rfl⟩:=aal.mp hu
  have d1:gz x g ∣ x:=ae_ ..
  have d2:gz x g ∣ g:=aci ..
  have p0:0<=gz x g:=Int.natCast_nonneg _
  refine ⟨_,rfl,_,rfl,x,g,rfl,?_⟩
  refine ⟨_,rfl,rfl,_,rfl,?_⟩
  refine bc (fun z=>⟨_,rfl,same (.inl fun d EN => ?_)⟩) (fun z=> ?_)
  ·have z' :gz x g=1:=by simpa using of_decide_eq_true z
   have h1:d ∣ gz x g:=apK (vE EN ex) (hd d fun j _ y ey=>vE EN ey)
   rw [z'] at h1
   have:=ahl.mpr h1
   simpa using this
  refine ⟨_,_,rfl,rfl,p0,fun j hj y ey=> ?_,fun d h=> ?_,fun _ e=>z (by rw [e];rfl)⟩
  ·rcases abm.mp hj with z | z
   ·exact Int.dvd_trans d2 (hg j z y ey)
   ·subst z
    rw [ex] at ey
    cases ey
    exact d1
  ·exact apK (h i (abc _) x ex) (hd d fun j hj y ey=>h j (abQ hj) y ey)
 ·rintro σ H' ⟨g,o,rfl,rfl,g0,hg,hd,hg1⟩
  rw [aaa] at hg hd hg1
  refine ⟨_,rfl,_,_,rfl,rfl,_,rfl,?_⟩
  refine bc (fun c=> ?_) (fun c=>⟨_,rfl,same (.inr fun j=> ?_)⟩)
  rotate_left
  ·have c' :¬ (1:Int) < g:=fun z=>c (decide_eq_true z)
   by_cases hj:j < l.length
   ·have gz:g=0:=by
     have:=hg1 (by omega)
     omega
    have ej:l[j]? =some l[j]:=gE hj
    have:=hg j hj _ ej
    rw [gz] at this
    rw [getD_mem ej]
    exact Int.zero_dvd.mp this
   ·rw [aaj,aae (by omega)]
    rfl
  have g1:(1:Int) < g:=of_decide_eq_true c
  have gn:g≠0:=by omega
  refine ⟨_,rfl,a,rfl,⟨_,a8.of ha⟩,fun D nD=> ?_⟩
  refine dN (cap:=[some (.int g)]) (K:=K) (a:=a) (xs:=l.map V.int) (fun i v _=>∃x,l[i]? =some x/\v=.int (x.fdiv g)) nD (by rw [aaa];exact aar hn (by decide)) (fun H2 s2=>a8.of (s2 _ _ ha)) (fun _ _ _ _ _ _ _ h=>h) ?_ ?_
  ·intro i u H2 R hu s2 k
   rw [Wp] at hu
   obtain ⟨x,ex,rfl⟩:=aal.mp hu
   exact ⟨_,rfl,_,rfl,_,_,rfl,rfl,gn,k _ _ (au.refl _) ⟨x,ex,rfl⟩⟩
  ·intro ys H2 hy ie s2 hD
   rw [aaa] at hy
   have ey:ys=(l.map fun x=>x.fdiv g).map V.int:=by
    refine aa8 fun i=> ?_
    by_cases hi:i < ys.length
    ·have e1:ys[i]? =some ys[i]:=gE hi
     obtain ⟨x,ex,ev⟩:=ie i _ e1
     rw [e1,ev,Wp,Wp,ex]
     rfl
    ·rw [aae (by omega),aae (by simp;omega)]
   have YW:∀j,g*(l.map fun x=>x.fdiv g).getD j 0=l.getD j 0:=fun j=>by
    by_cases hj:j < l.length
    ·have ej:l[j]? =some l[j]:=gE hj
     rw [getD_mem (l:=l.map fun x=>x.fdiv g) (x:=l[j].fdiv g) (by rw [Wp,ej];rfl),getD_mem ej]
     exact (cb gn (hg j hj _ ej)).symm
    ·rw [aaj,aaj,aae (by simp;omega),aae (by omega)]
     simp
   refine q _ (l.map fun x=>x.fdiv g) H2 s2 ⟨D,rfl,by rw [hD,ey]⟩ ⟨by simp,g,gn,YW⟩ (.inl fun d EN => ?_) (.inr ⟨D,rfl,nD⟩)
   have h1:d*g ∣ g:=hd (d*g) fun j hj x ex=>by
    rw [<- getD_mem ex, <- YW j,acj]
    exact Int.mul_dvd_mul_left g (EN j)
   obtain ⟨k,hk⟩:=h1
   have h2:g*(d*k)=g*1:=by
    rw [Int.mul_one]
    rw [<- ahQ,acj g d]
    exact hk.symm
   have h3:=Int.eq_of_mul_eq_mul_left gn h2
   have h4:d ∣ 1:=⟨k,h3.symm⟩
   simpa using ahl.mpr h4
inductive kF (vs:η)(H:Hp)(Q:VK)(E_:XK):Prop where
 | mk (u v:V) (l m:ξ) (c b1 b2:Nat) (_:vs=[u,v,.int (c:Int)]) (_:Ln H u l) (_:Ln H v m) (_:m.length=l.length) (_:c < l.length) (_:l.length<=1000) (_:m.getD c 0≠0) (_:Bd b1 l) (_:Bd b2 m) (_:b1<=29000000) (_:b2<=29000000) (_:∀v' l' H',au H H' ->Ln H' v' l' ->qa l m l' c->Bd (b1+b2+1) l' ->(l' =l\/PD l')->(v' =u\/∃p,v' =.ref p/\H p=none)->Q v' H'):kF vs H Q E_
theorem LK {a b:Int}(ha:a≠0):a=gz a b*a.fdiv (gz a b)/\b=gz a b*b.fdiv (gz a b)/\gz a b≠0/\a.fdiv (gz a b)≠0/\(a.fdiv (gz a b)).natAbs<=a.natAbs/\(b.fdiv (gz a b)).natAbs<=b.natAbs:=by
 have gn:gz a b≠0:=by
  intro z
  have z' :((aa' a b:Nat):Int)=0:=z
  have:aa' a b=0:=by omega
  exact ha (Int.gcd_eq_zero_iff.mp this).1
 have d1:gz a b ∣ a:=ae_ ..
 have d2:gz a b ∣ b:=aci ..
 have e1:=cb gn d1
 refine ⟨e1,cb gn d2,gn,fun z=> ?_,gf gn d1,gf gn d2⟩
 rw [z,ahF] at e1
 exact ha e1
theorem LL {l m:ξ}{t u:Int}{ys:η}(hl:m.length=l.length)(hy:ys.length=l.length)(h:∀(i:Nat) (v:V),ys[i]? =some v->∃x y,l[i]? =some x/\m[i]? =some y/\v=.int (t*x - u*y)):ys=(abJ (fun x y=>t*x - u*y) l m).map V.int:=by
 refine aa8 fun i=> ?_
 by_cases hi:i < ys.length
 ·have e1:ys[i]? =some ys[i]:=gE hi
  obtain ⟨x,y,ex,ey,ev⟩:=h i _ e1
  rw [e1,ev,Wp,abk,ex,ey]
  rfl
 ·rw [aae (by omega),aae (by simp;omega)]
theorem H_ {l m:ξ}{t u:Int}(hl:m.length=l.length)(j:Nat):(abJ (fun x y=>t*x - u*y) l m).getD j 0=t*l.getD j 0 - u*m.getD j 0:=by
 by_cases hj:j < l.length
 ·have e1:l[j]? =some l[j]:=gE hj
  have e2:m[j]? =some (m[j]'(by omega)):=gE (by omega)
  rw [getD_mem e1,getD_mem e2]
  exact getD_mem (by rw [abk,e1,e2])
 ·rw [aaj,aaj,aaj,aae (by simp;omega),aae (by omega),aae (by omega)]
  simp
theorem yK:aD ["line","lead","column","shared","times","less"] ["line","lead","column"] (ag BO):=sq
theorem Ti (ht:P.given.tree=none)(D:Def K mg "cleared" BO ["line","lead","column"])(jK:mg "zip"=none)(xx:Fn P w K mg base (aY P w) 1 "greatest_shared" ["one","other"] gu)(aaC:Fn P w K mg base (aY P w) 33 "divided" ["line"] kE):Fn P w K mg base (aY P w) 34 "cleared" ["line","lead","column"] kF:=by
 refine D.ok yK (fun vs H Q E h=> ?_) (fun f bE A outer s H vs Q E hr h=> ?_)
 ·obtain ⟨u,v,l,m,c,b1,b2,rfl,_⟩:=h
  rfl
 obtain ⟨u,v,l,m,c,b1,b2,rfl,⟨a,rfl,ha⟩,⟨a',rfl,YX⟩,hl,hc,hn,hm,B1,B2,Tj,hb2,q⟩:=h
 refine ⟨_,(ae (bo (aR eC (bq bt (pv 0) (pv 2) (fun _ _=>rfl)) ak (aZ _)) (aj (aI (pv 0))) aQ)
  (ae (aF (i:=3) yK.nd rfl (aai rfl) (aA xx hr.mo pX (ar (bq bt (pv 1) (pv 2) (fun _ _=>rfl)) (ar (bq bt (pv 0) (pv 2) (fun _ _=>rfl)) aa))))
  (ae (aF (i:=4) yK.nd rfl (aa2 rfl) (aK (fF ht (Ty.cp.py hr (by decide)) rfl rfl rfl rfl rfl) (bq bt (pv 1) (pv 2) (fun _ _=>rfl)) (pv 3)))
  (ae (aF (i:=5) yK.nd rfl (aa2 rfl) (aK (fF ht (Ty.cp.py hr (by decide)) rfl rfl rfl rfl rfl) (bq bt (pv 0) (pv 2) (fun _ _=>rfl)) (pv 3)))
  (aj (aI (aA aaC hr.mo pX (ar (dC (tn:=["whole","other"]) (fr:=["times","less"]) (caps:=[4,5]) rfl ⟨rfl,by decide+kernel,rfl,by decide+kernel,by decide+kernel,rfl,⟨(by first | exact aai rfl | exact aa2 rfl),⟨(by first | exact aai rfl | exact aa2 rfl),trivial⟩⟩,⟨(by first | exact aai rfl | exact aa2 rfl),⟨(by first | exact aai rfl | exact aa2 rfl),trivial⟩⟩⟩ (GS rfl jK (ar (pv 0) (ar (pv 1) aa))) (fun _ _ _ _=>(sy (K:=K) (n:=2) rfl rfl (aS (aC (i:=0) (show (["whole","other","times","less"]:List Str).Nodup from by decide+kernel) rfl (aai rfl)) (aS (aC (i:=1) (show (["whole","other","times","less"]:List Str).Nodup from by decide+kernel) rfl (aai rfl)) b_)))) (fun _ _ _ _=>dG) (fun _ _ _ _=>(aK cU (aK cu (pv 2) (pv 0)) (aK cu (pv 3) (pv 1))))) aa)))))))),?_⟩
 have ea:=rE (l:=l) hc
 have em:=rE (l:=m) (j:=c) (by omega)
 refine ⟨_,rfl,_,rfl,a,_,_,_,rfl,rfl,a8.of ha,ea,rfl,_,rfl,?_⟩
 refine bc (fun z=> ?_) (fun z=> ?_)
 ·have z' :l.getD c 0=0:=by simpa using of_decide_eq_true z
  exact ⟨_,rfl,q _ l H (au.refl H) ⟨a,rfl,ha⟩ ⟨rfl,z',1,1,0,by decide,by decide,fun j=>by omega⟩ (B1.up (by omega)) (.inl rfl) (.inl rfl)⟩
 ·obtain ⟨f1,f2,f3,f4,f5,f6⟩:=LK (a:=m.getD c 0) (b:=l.getD c 0) hm
  refine ⟨_,rfl,_,rfl,a',_,_,_,rfl,rfl,a8.of YX,em,_,rfl,_,rfl,a,_,_,_,rfl,rfl,a8.of ha,ea,_,_,rfl,?_⟩
  refine ⟨_,rfl,_,rfl,a',_,_,_,rfl,rfl,a8.of YX,em,_,rfl,_,_,rfl,rfl,f3,?_⟩
  refine ⟨_,rfl,_,rfl,a,_,_,_,rfl,rfl,a8.of ha,ea,_,rfl,_,_,rfl,rfl,f3,?_⟩
  refine ⟨_,rfl,_,rfl,a,a',rfl,⟨_,a8.of ha⟩,⟨_,a8.of YX⟩,fun D1 n1=> ?_⟩
  have st:((m.getD c 0).fdiv (gz (m.getD c 0) (l.getD c 0))).natAbs<=2^b2:=aaf f5 (B2 c)
  have su:((l.getD c 0).fdiv (gz (m.getD c 0) (l.getD c 0))).natAbs<=2^b1:=aaf f6 (B1 c)
  refine va (cap:=[some (.int ((m.getD c 0).fdiv (gz (m.getD c 0) (l.getD c 0)))),some (.int ((l.getD c 0).fdiv (gz (m.getD c 0) (l.getD c 0))))]) (K:=K) (xs:=l.map V.int) (ys:=m.map V.int) (fun i v _=>∃x y,l[i]? =some x/\m[i]? =some y/\v=.int ((m.getD c 0).fdiv (gz (m.getD c 0) (l.getD c 0))*x - (l.getD c 0).fdiv (gz (m.getD c 0) (l.getD c 0))*y)) n1 (by rw [aaa];exact aar hn (by decide)) (by simpa using hl) (fun H2 s2=>a8.of (s2 _ _ ha)) (fun H2 s2=>a8.of (s2 _ _ YX)) (fun _ _ _ _ _ _ _ h=>h) ?_ ?_
  ·intro i x y H2 R ex ey s2 k
   rw [Wp] at ex ey
   obtain ⟨x',Zx,rfl⟩:=aal.mp ex
   obtain ⟨y',yF,rfl⟩:=aal.mp ey
   refine ⟨_,rfl,_,rfl,_,_,rfl,rfl,mU st (B1.mem (ir Zx)) (by omega) (by omega),?_⟩
   exact ⟨_,rfl,_,rfl,_,_,rfl,rfl,mU su (B2.mem (ir yF)) (by omega) (by omega),_,_,rfl,rfl,k _ _ (au.refl _) ⟨x',y',Zx,yF,rfl⟩⟩
  ·intro ys H2 hy ie s2 hD
   rw [aaa] at hy
   have ey:=LL hl hy ie
   refine ⟨_,_,rfl,⟨D1,rfl,by rw [hD,ey]⟩,by simp;omega,fun v' l' H3 s3 L3 dv pz fr=> ?_⟩
   obtain ⟨g,gn,hg⟩:=dv.YW
   have gD:∀j,g*l'.getD j 0=(m.getD c 0).fdiv (gz (m.getD c 0) (l.getD c 0))*l.getD j 0 - (l.getD c 0).fdiv (gz (m.getD c 0) (l.getD c 0))*m.getD j 0:=fun j=>by rw [hg j,H_ hl]
   refine q v' l' H3 (s2.trans s3) L3 ⟨by rw [dv.len];simp [hl],?_,g,_,_,gn,f4,gD⟩ (fun j=> ?_) (.inr pz) ?_
   ·have e:=gD c
    have z2:(m.getD c 0).fdiv (gz (m.getD c 0) (l.getD c 0))*l.getD c 0 - (l.getD c 0).fdiv (gz (m.getD c 0) (l.getD c 0))*m.getD c 0=0:=by
     generalize gz (m.getD c 0) (l.getD c 0)=G at*
     generalize (m.getD c 0).fdiv G=t at*
     generalize (l.getD c 0).fdiv G=u at*
     rw [f1,f2]
     grind
    rw [z2] at e
    rcases aik.mp e with y | y
    ·exact absurd y gn
    ·exact y
   ·have b:(g*l'.getD j 0).natAbs<=2^(b1+b2+1):=by
     rw [gD j,Int.sub_eq_add_neg]
     refine O_ (NH (xa st (B1 j)) (by omega)) ?_
     rw [ah1]
     exact xa su (B2 j)
    exact aaf (dw gn) b
   ·rcases fr with z | ⟨p,e,n⟩
    ·exact .inr ⟨D1,z,n1⟩
    ·exact .inr ⟨p,e,s2.free n⟩
inductive sQ (K:Frag)(vs:η)(H:Hp)(Q:VK)(E_:XK):Prop where
 | mk (a:Addr) (us:η) (ls:List (List Int:_)) (c:Nat) (_:vs=[.ref a,.int (c:Int)]) (_:a8 K H a us) (_:qu H us ls) (_:(∀l∈ls,c < l.length)) (_:(∀(i:Nat) (l:ξ) (H' :Hp),au H H' ->ls[i]? =some l->l.getD c 0≠0->Q (.int (i:Int)) H')) (_:((∀l∈ls,l.getD c 0=0)->∀H',au H H' ->Q .cv H')):sQ K vs H Q E_
theorem qu.at {H:Hp}{us:η}{ls:ε}(h:qu H us ls){i:Nat}{u:V}(e:us[i]? =some u):∃l,ls[i]? =some l/\Ln H u l:=by
 have hi:i < us.length:=(be.mp e).1
 have hl:=h.1
 have e2:ls[i]? =some (ls[i]'(by omega)):=gE (by omega)
 exact ⟨_,e2,h.2 i u _ e e2⟩
theorem qu.at' {H:Hp}{us:η}{ls:ε}(h:qu H us ls){i:Nat}{l:ξ}(e:ls[i]? =some l):∃u,us[i]? =some u/\Ln H u l:=by
 have hi:i < ls.length:=(be.mp e).1
 have hl:=h.1
 have e2:us[i]? =some (us[i]'(by omega)):=gE (by omega)
 exact ⟨_,e2,h.2 i _ l e2 e⟩
theorem IA:aD ["lines","column","at","line"] ["lines","column"] (ag BN):=sq
theorem Tn (D:Def K mg "first_not_nought" BN ["lines","column"])(cg:mg "enumerate"=none):Fn P w K mg base (aY P w) 1 "first_not_nought" ["lines","column"] (sQ K):=by
 refine D.ok IA (fun vs H Q E h=> ?_) (fun f bE A outer s H vs Q E hr h=> ?_)
 ·obtain ⟨a,us,ls,c,rfl,_⟩:=h
  rfl
 obtain ⟨a,us,ls,c,rfl,hS,L,hc,q1,q2⟩:=h
 have lu:=L.1
 refine ⟨_,(ae (bD PassesOwn.never rfl (sG rfl cg (ar (pv 0) aa)) (dF rfl (aS (aC (i:=2) IA.nd rfl (aai rfl)) (aS (aC (i:=3) IA.nd rfl (aai rfl)) b_))) (aj (bo (aR lE (bq bt (pv 3) (pv 1) (fun _ _=>rfl)) ak (aZ _)) (aj (aI (pv 2))) aQ)))
  (aj (aI nA))),?_⟩
 refine ⟨_,rfl,a,rfl,⟨_,hS⟩,vk (K:=K) (a:=a) (xs:=us) (fun i σ H' =>∃o1 o2:Option V,σ=[some (.ref a),some (.int (c:Int)),o1,o2]/\au H H' /\∀j,j < i->∀l,ls[j]? =some l->l.getD c 0=0) ⟨none,none,rfl,au.refl H,fun j h=>absurd h (abG _)⟩ (fun i σ H' _ ⟨o1,o2,_,s1,_⟩=>s1.seq hS) ?_ ?_⟩
 ·rintro i u σ H' p hu ⟨o1,o2,rfl,s1,z⟩ np
  obtain ⟨l,el,b,rfl,hb⟩:=L.at hu
  have s2:=s1.trans (aG np (.tup [.int (i:Int),.ref b]))
  have hcl:=hc l (ir el)
  refine ⟨p,_,rfl,bN.of ah,rfl,_,_,rfl,_,_,rfl,rfl,?_⟩
  refine ⟨_,rfl,_,rfl,b,_,_,_,rfl,rfl,a8.of (s2 _ _ hb),rE hcl,rfl,_,rfl,?_⟩
  refine bc (fun y=> ?_) (fun y=> ?_)
  ·have y' :l.getD c 0≠0:=by simpa using y
   exact ⟨_,rfl,q1 i l _ s2 el y'⟩
  ·have y' :l.getD c 0=0:=by simpa using y
   refine ⟨_,_,rfl,s2,fun j hj l' e' => ?_⟩
   rcases abm.mp hj with w | w
   ·exact z j w l' e'
   ·subst w
    rw [el] at e'
    cases e'
    exact y'
 ·rintro σ H' ⟨o1,o2,rfl,s1,z⟩
  refine q2 (fun l hl=> ?_) H' s1
  obtain ⟨j,hj⟩:=aad hl
  exact z j (by have:=(be.mp hj).1;omega) l hj
structure Red (os:ε)(L c b:Nat)(nd:θ)(lv:ε):Prop where
 mi:∀x∈nd,x.2.length=L
 mj:∀l∈lv,l.length=L
 cols:∀x∈nd,x.1 < c
 asc:(nd.map (·.1)).Pairwise (· < ·)
 here:∀x∈nd,x.2.getD x.1 0≠0
 off:∀x∈nd,∀y∈nd,x.1≠y.1->x.2.getD y.1 0=0
 low:∀x∈nd,∀j,j < x.1->x.2.getD j 0=0
 zero:∀l∈lv,∀j,j < c->l.getD j 0=0
 rG:∀x∈nd,sE os x.2
 lR:∀l∈lv,sE os l
 sol:∀z,((∀x∈nd,ev x.2 z=0)/\(∀l∈lv,ev l z=0)) ↔ ∀o∈os,ev o z=0
 CY:∀x∈nd,Bd b x.2
 IC:∀l∈lv,Bd b l
 cnt:nd.length+lv.length=os.length
theorem Red.start {os:ε}{L b:Nat}(hL:∀o∈os,o.length=L)(hb:∀o∈os,Bd b o):Red os L 0 b [] os where
 mi:=by simp
 mj:=hL
 cols:=by simp
 asc:=by simp
 here:=by simp
 off:=by simp
 low:=by simp
 zero:=fun _ _ j h=>absurd h (abG _)
 rG:=by simp
 lR:=fun l h=>vj h
 sol:=fun z=>by simp
 CY:=by simp
 IC:=hb
 cnt:=by simp
theorem Red.skip {os:ε}{L c b:Nat}{nd:θ}{lv:ε}(h:Red os L c b nd lv)(hz:∀l∈lv,l.getD c 0=0):Red os L (c+1) b nd lv where
 mi:=h.mi
 mj:=h.mj
 cols:=fun x hx=>abQ (h.cols x hx)
 asc:=h.asc
 here:=h.here
 off:=h.off
 low:=h.low
 zero:=fun l hl j hj=>by
  rcases abm.mp hj with z | z
  ·exact h.zero l hl j z
  ·subst z
   exact hz l hl
 rG:=h.rG
 lR:=h.lR
 sol:=h.sol
 CY:=h.CY
 IC:=h.IC
 cnt:=h.cnt
structure Made (os:ε)(lead:ξ)(c b:Nat)(xs ys:ε):Prop where
 len:ys.length=xs.length
 to:∀(i:Nat) (x:ξ),xs[i]? =some x->∃y,ys[i]? =some y/\qa x lead y c/\Bd b y
theorem Made.ex {os:ε}{lead:ξ}{c b:Nat}{xs ys:ε}(h:Made os lead c b xs ys){y:ξ}(hy:y∈ys):∃x∈xs,qa x lead y c/\Bd b y:=by
 obtain ⟨i,hi⟩:=aad hy
 have hl:=h.len
 have kc:i < ys.length:=(be.mp hi).1
 have e:xs[i]? =some (xs[i]'(by omega)):=gE (by omega)
 obtain ⟨y',e',r⟩:=h.to i _ e
 rw [hi] at e'
 cases e'
 exact ⟨_,ir e,r⟩
theorem Made.all {os:ε}{lead:ξ}{c b:Nat}{xs ys:ε}(h:Made os lead c b xs ys){x:ξ}(hx:x∈xs):∃y∈ys,qa x lead y c/\Bd b y:=by
 obtain ⟨i,hi⟩:=aad hx
 obtain ⟨y,e,r⟩:=h.to i x hi
 exact ⟨y,ir e,r⟩
theorem Red.step {os:ε}{L c b:Nat}{nd iU :θ}{lv xr rest:ε}{lead:ξ}(h:Red os L c b nd lv)(fJ:lead∈lv)(vF:∀l∈rest,l∈lv)(FU:∀l∈lv,l=lead\/l∈rest)(hlen:rest.length+1=lv.length)
  (hc:lead.getD c 0≠0) (ML:Made os lead c (2*b+1) rest xr) (hk:iU.map (·.1)=nd.map (·.1)) (MN:Made os lead c (2*b+1) (nd.map (·.2)) (iU.map (·.2))):Red os L (c+1) (2*b+1) (iU ++[(c,lead)]) xr :=by
 have ll:=h.mj lead fJ
 have lz:=h.zero lead fJ
 have hl' :iU.length=nd.length:=by simpa using congrArg ab8 hk
 have pairs:∀x' ∈iU,∃x∈nd,x.1=x'.1/\qa x.2 lead x'.2 c/\Bd (2*b+1) x'.2:=by
  intro x' uE
  obtain ⟨i,hi⟩:=aad uE
  have kc:i < iU.length:=(be.mp hi).1
  have e:nd[i]? =some (nd[i]'(by omega)):=gE (by omega)
  have e1:(iU.map (·.1))[i]? =(nd.map (·.1))[i]? :=by rw [hk]
  rw [Wp,Wp,hi,e] at e1
  obtain ⟨y,e2,r⟩:=MN.to i (nd[i]'(by omega)).2 (by rw [Wp,e];rfl)
  rw [Wp,hi] at e2
  simp at e1 e2
  subst e2
  exact ⟨_,ir e,e1.symm,r⟩
 have back:∀x∈nd,∃x' ∈iU,x'.1=x.1/\qa x.2 lead x'.2 c:=by
  intro x hx
  obtain ⟨i,hi⟩:=aad hx
  have kc:i < nd.length:=(be.mp hi).1
  have e:iU[i]? =some (iU[i]'(by omega)):=gE (by omega)
  have e1:(iU.map (·.1))[i]? =(nd.map (·.1))[i]? :=by rw [hk]
  rw [Wp,Wp,hi,e] at e1
  obtain ⟨y,e2,r⟩:=MN.to i x.2 (by rw [Wp,hi];rfl)
  rw [Wp,e] at e2
  simp at e1 e2
  exact ⟨_,ir e,e1,by rw [e2];exact r.1⟩
 have LM:∀x∈iU ++[(c,lead)],x∈iU \/x=(c,lead):=fun x hx=>by simpa using hx
 exact {
  mi:=fun x hx=>by
   rcases LM x hx with z | z
   ·obtain ⟨y,hy,_,k,_⟩:=pairs x z
    rw [k.len]
    exact h.mi y hy
   ·subst z
    exact ll
  mj:=fun l hl=>by
   obtain ⟨x,hx,k,_⟩:=ML.ex hl
   rw [k.len]
   exact h.mj x (vF x hx)
  cols:=fun x hx=>by
   rcases LM x hx with z | z
   ·obtain ⟨y,hy,e,_⟩:=pairs x z
    rw [<- e]
    exact abQ (h.cols y hy)
   ·subst z
    exact abc _
  asc:=by
   rw [aaK,hk,List.pairwise_append]
   refine ⟨h.asc,by simp,fun a ha b' iQ => ?_⟩
   obtain ⟨x,hx,rfl⟩:=aab.mp ha
   have:b' =c:=by simpa using iQ
   subst this
   exact h.cols x hx
  here:=fun x hx=>by
   rcases LM x hx with z | z
   ·obtain ⟨y,hy,e,k,_⟩:=pairs x z
    rw [<- e]
    exact k.at (lz _ (h.cols y hy)) (h.here y hy)
   ·subst z
    exact hc
  off:=fun x hx y hy ne=>by
   rcases LM x hx with z | z <;> rcases LM y hy with u | u
   ·obtain ⟨x0,YU,e0,k0,_⟩:=pairs x z
    obtain ⟨y0,ID,e1,_⟩:=pairs y u
    rw [<- e1]
    exact k0.zero (h.off x0 YU y0 ID (by rw [e0,e1];exact ne)) (lz _ (h.cols y0 ID))
   ·subst u
    obtain ⟨x0,YU,e0,k0,_⟩:=pairs x z
    exact k0.HH
   ·subst z
    obtain ⟨y0,ID,e1,_⟩:=pairs y u
    rw [<- e1]
    exact lz _ (h.cols y0 ID)
   ·subst z
    subst u
    exact absurd rfl ne
  low:=fun x hx j hj=>by
   rcases LM x hx with z | z
   ·obtain ⟨y,hy,e,k,_⟩:=pairs x z
    rw [<- e] at hj
    exact k.zero (h.low y hy j hj) (lz j (aiE hj (h.cols y hy)))
   ·subst z
    exact lz j hj
  zero:=fun l hl j hj=>by
   obtain ⟨x,hx,k,_⟩:=ML.ex hl
   rcases abm.mp hj with z | z
   ·exact k.zero (h.zero x (vF x hx) j z) (lz j z)
   ·subst z
    exact k.HH
  rG:=fun x hx=>by
   rcases LM x hx with z | z
   ·obtain ⟨y,hy,_,k,_⟩:=pairs x z
    exact k.comb (h.rG y hy) (h.lR lead fJ)
   ·subst z
    exact h.lR lead fJ
  lR:=fun l hl=>by
   obtain ⟨x,hx,k,_⟩:=ML.ex hl
   exact k.comb (h.lR x (vF x hx)) (h.lR lead fJ)
  sol:=fun z=>by
   rw [<- h.sol z]
   constructor
   ·rintro ⟨a1,a2⟩
    have az:ev lead z=0:=a1 (c,lead) (by simp)
    refine ⟨fun x hx=> ?_,fun l hl=> ?_⟩
    ·obtain ⟨x',uE,_,k⟩:=back x hx
     exact (k.ev (by rw [ll,h.mi x hx]) az).mp (a1 x' (by simp [uE]))
    ·rcases FU l hl with u | u
     ·rw [u]
      exact az
     ·obtain ⟨y,hy,k,_⟩:=ML.all u
      exact (k.ev (by rw [ll,h.mj l hl]) az).mp (a2 y hy)
   ·rintro ⟨a1,a2⟩
    have az:=a2 lead fJ
    refine ⟨fun x hx=> ?_,fun l hl=> ?_⟩
    ·rcases LM x hx with u | u
     ·obtain ⟨y,hy,_,k,_⟩:=pairs x u
      exact (k.ev (by rw [ll,h.mi y hy]) az).mpr (a1 y hy)
     ·subst u
      exact az
    ·obtain ⟨x,hx,k,_⟩:=ML.ex hl
     exact (k.ev (by rw [ll,h.mj x (vF x hx)]) az).mpr (a2 x (vF x hx))
  CY:=fun x hx=>by
   rcases LM x hx with z | z
   ·obtain ⟨y,hy,_,_,k⟩:=pairs x z
    exact k
   ·subst z
    exact (h.IC lead fJ).up (by omega)
  IC:=fun l hl=>by
   obtain ⟨x,hx,_,k⟩:=ML.ex hl
   exact k
  cnt:=by
   have a:=ML.len
   have b:=h.cnt
   rw [aas,hl']
   simp
   omega}
def mm (H:Hp)(kvs:γ)(nd:θ):Prop:=kvs.length=nd.length/\∀(i:Nat) (kv:Key×V) (x:Nat×List Int),kvs[i]? =some kv->nd[i]? =some x->kv.1=.inl (x.1:Int)/\Ln H kv.2 x.2
theorem mm.same {H H' :Hp}{kvs:γ}{nd:θ}(h:mm H kvs nd)(s:au H H'):mm H' kvs nd:=⟨h.1,fun i kv x e1 e2=>⟨(h.2 i kv x e1 e2).1,(h.2 i kv x e1 e2).2.same s⟩⟩
theorem Ln.put {H:Hp}{v:V}{l:ξ}{d:Addr}{kvs:γ}{o:HO}(h:Ln H v l)(e:H d=some (.dK kvs)):Ln (upd H d o) v l:=by
 obtain ⟨p,e1,k⟩:=h
 exact ⟨p,e1,by rw [ao (fun z=>by rw [z,e] at k;cases k)];exact k⟩
theorem qu.put {H:Hp}{us:η}{ls:ε}{d:Addr}{kvs:γ}{o:HO}(h:qu H us ls)(e:H d=some (.dK kvs)):qu (upd H d o) us ls:=⟨h.1,fun i u l e1 e2=>(h.2 i u l e1 e2).put e⟩
theorem mm.put {H:Hp}{kvs To:γ}{nd:θ}{d:Addr}{o:HO}(h:mm H kvs nd)(e:H d=some (.dK To)):mm (upd H d o) kvs nd:=⟨h.1,fun i kv x e1 e2=>⟨(h.2 i kv x e1 e2).1,(h.2 i kv x e1 e2).2.put e⟩⟩
theorem fK {H H' :Hp}{d:Addr}{o:HO}(s:au H H')(n:H d=none):au H (upd H' d o):=fun b o' e=>by
 rw [ao (fun z=>by rw [z,n] at e;cases e)]
 exact s _ _ e
theorem mm.at {H:Hp}{kvs:γ}{nd:θ}(h:mm H kvs nd){i:Nat}{x:Nat×List Int}(e:nd[i]? =some x):∃v,kvs[i]? =some (.inl (x.1:Int),v)/\Ln H v x.2:=by
 have hi:i < nd.length:=(be.mp e).1
 have hl:=h.1
 have e2:kvs[i]? =some (kvs[i]'(by omega)):=gE (by omega)
 obtain ⟨a,b⟩:=h.2 i _ x e2 e
 exact ⟨(kvs[i]'(by omega)).2,by rw [e2, <- a],b⟩
theorem mm.keys {H:Hp}{kvs:γ}{nd:θ}(h:mm H kvs nd):kvs.map (·.1)=nd.map (fun x=>(ahW (x.1:Int):Key)):=by
 refine aa8 fun i=> ?_
 have hl:=h.1
 rw [Wp,Wp]
 by_cases hi:i < nd.length
 ·have e:nd[i]? =some nd[i]:=gE hi
  obtain ⟨v,e2,_⟩:=h.at e
  rw [e,e2]
  rfl
 ·rw [aae (by omega),aae (by omega)]
  rfl
theorem mZ {k:Key}{v:V}:∀{kvs:γ} {i:Nat},(kvs.map (·.1)).Nodup->kvs[i]? =some (k,v)->bB kvs k=some v
 | [],_,_,e=>by simp at e
 | p::r,0,_,e=>by
  cases e
  exact bJ (p:=(k,v)) rfl
 | p::r,i+1,n,e=>by
  rw [aac,aaU] at n
  have e' :r[i]? =some (k,v):=by simpa using e
  have ne:¬ p.1=k:=fun z=>n.1 (by rw [z];exact aab.mpr ⟨(k,v),ir e',rfl⟩)
  rw [bC ne]
  exact mZ n.2 e'
theorem iH {k:Key}:∀{kvs:γ},k∉kvs.map (·.1)->bB kvs k=none
 | [],_=>rfl
 | p::r,h=>by
  have h' :k≠p.1/\k∉r.map (·.1):=by simpa using h
  rw [bC (fun z=>h'.1 z.symm)]
  exact iH h'.2
theorem map_put {k:Key}{v v' :V}:∀{kvs:γ} {i:Nat},(kvs.map (·.1)).Nodup->kvs[i]? =some (k,v)->kvs.map (fun kv=>if kv.1=k then (kv.1,v') else kv)=kvs.set i (k,v')
 | [],_,_,e=>by simp at e
 | p::r,0,n,e=>by
  rw [aac,aaU] at n
  cases e
  have hr:r.map (fun kv=>if kv.1=k then (kv.1,v') else kv)=r:=by
   refine (aa9 (fun q hq=> ?_)).trans (List.map_id r)
   have ne:¬ q.1=k:=fun z=>n.1 (by show k∈_;rw [<- z];exact aab.mpr ⟨q,hq,rfl⟩)
   rw [if_neg ne]
   rfl
  rw [aac,hr,if_pos rfl,List.set_cons_zero]
 | p::r,i+1,n,e=>by
  rw [aac,aaU] at n
  have e' :r[i]? =some (k,v):=by simpa using e
  have ne:¬ p.1=k:=fun z=>n.1 (by rw [z];exact aab.mpr ⟨(k,v),ir e',rfl⟩)
  rw [aac,if_neg ne,map_put n.2 e',List.set_cons_succ]
theorem LN {k:Key}{v v' :V}{kvs:γ}{i:Nat}(n:(kvs.map (·.1)).Nodup)(e:kvs[i]? =some (k,v)):putK kvs k v' =kvs.set i (k,v'):=by
 unfold putK
 rw [gh,mZ n e]
 exact map_put n e
theorem mm.set {H:Hp}{kvs:γ}{nd:θ}(h:mm H kvs nd){i c:Nat}{v:V}{l:ξ}(hv:Ln H v l):mm H (kvs.set i (.inl (c:Int),v)) (nd.set i (c,l)):=by
 have hl:=h.1
 refine ⟨by simp [hl],fun j kv x e1 e2=> ?_⟩
 rw [aa7] at e1 e2
 by_cases z:i=j
 ·subst z
  rw [if_pos rfl] at e1 e2
  by_cases hi:i < kvs.length
  ·rw [if_pos hi] at e1
   rw [if_pos (by omega)] at e2
   cases e1
   cases e2
   exact ⟨rfl,hv⟩
  ·rw [if_neg hi] at e1
   cases e1
 ·rw [if_neg z] at e1 e2
  exact h.2 j kv x e1 e2
theorem mm.snoc {H:Hp}{kvs:γ}{nd:θ}(h:mm H kvs nd){c:Nat}{v:V}{l:ξ}(hv:Ln H v l):mm H (kvs++[(.inl (c:Int),v)]) (nd++[(c,l)]):=by
 have hl:=h.1
 refine ⟨by simp [hl],fun j kv x e1 e2=> ?_⟩
 by_cases z:j < kvs.length
 ·rw [aat z] at e1
  rw [aat (by omega)] at e2
  exact h.2 j kv x e1 e2
 ·rw [aaJ (by omega)] at e1 e2
  rw [<- hl] at e2
  by_cases y:j - kvs.length=0
  ·rw [y] at e1 e2
   cases e1
   cases e2
   exact ⟨rfl,hv⟩
  ·rw [aae (by simp;omega)] at e1
   cases e1
theorem keys_nodup:∀{nd:θ},(nd.map (·.1)).Pairwise (· < ·)->(nd.map (fun x=>(ahW (x.1:Int):Key))).Nodup
 | [],_=>by simp
 | x::r,h=>by
  rw [aac,ahB] at h
  rw [aac,aaU]
  refine ⟨fun z=> ?_,keys_nodup h.2⟩
  obtain ⟨y,hy,e⟩:=aab.mp z
  have e' :(y.1:Int)=x.1:=ahR e
  have:=h.1 y.1 (aab.mpr ⟨y,hy,rfl⟩)
  omega
def bb (b k:Nat):Nat:=(k+1)*(b+11)
theorem sR (b k:Nat):b<=bb b k:=by
 unfold bb
 rw [ah8,aip]
 omega
theorem Red.piv {os:ε}{L c b:Nat}{nd:θ}{lv:ε}(R:Red os L c b nd lv):EF nd:=⟨R.asc.imp fun h e=>by omega,R.here,R.off⟩
def Pr (os:ε)(l:ξ):Prop:=l∈os\/PD l
theorem Red.small {os:ε}{L c b b0 k:Nat}{nd:θ}{lv ps qs:ε}(R:Red os L c b nd lv)(O:EG os nd lv ps qs)(hb:∀o∈os,Bd b0 o)(hk:nd.length<=k)(hk2:k<=1000)(pN:∀x∈nd,Pr os x.2)(pL:∀l∈lv,Pr os l):Red os L c (bb b0 k) nd lv:=by
 have le:∀{n:Nat},n<=(nd.length+1)*((2*(nd.length+1)*2^b0)^nd.length*2^b0)->n<=2^bb b0 k:=fun {n} h=>aaf h (aaf (Pz (by omega)) (aaP (by decide) (abK _ (by omega))))
 have z:∀{n:Nat},n=0->n<=2^bb b0 k:=fun {n} h=>by rw [h];exact aaX _
 refine {R with CY:=fun x hx j=> ?_,IC:=fun l hl j=> ?_}
 ·rcases pN x hx with h | h | h
  ·exact aaf (hb _ h j) (aaP (by decide) (sR _ _))
  ·exact le (O.need R.piv hx hb h j)
  ·exact z (by rw [h j];rfl)
 ·rcases pL l hl with h | h | h
  ·exact aaf (hb _ h j) (aaP (by decide) (sR _ _))
  ·obtain ⟨i,ei⟩:=aad hl
   exact le (O.left R.piv ei (fun x hx=>R.zero l hl x.1 (R.cols x hx)) hb h j)
  ·exact z (by rw [h j];rfl)
theorem LO {xs:η}{i:Nat}(h:i<=xs.length):fD xs none (some (i:Int))=xs.take i:=by
 unfold fD
 rw [HT.mM,HT.uT,ahT h]
 rfl
theorem kG {xs:η}{i:Nat}(h:i<=xs.length):fD xs (some (i:Int)) none=xs.drop i:=by
 unfold fD
 rw [HT.mM,HT.uT,ahT h]
 exact ahK (by simp)
theorem Red.up {os:ε}{L c b b' :Nat}{nd:θ}{lv:ε}(h:Red os L c b nd lv)(hb:b<=b'):Red os L c b' nd lv:={h with CY:=fun x hx=>(h.CY x hx).up hb,IC:=fun x hx=>(h.IC x hx).up hb}
theorem qu.erase {H:Hp}{us:η}{ls:ε}(h:qu H us ls)(j:Nat):qu H (us.eraseIdx j) (ls.eraseIdx j):=by
 have hl:=h.1
 refine ⟨by rw [abO,abO,hl],fun i u l e1 e2=> ?_⟩
 rw [abB] at e1 e2
 by_cases z:i < j
 ·rw [if_pos z] at e1 e2
  exact h.2 _ _ _ e1 e2
 ·rw [if_neg z] at e1 e2
  exact h.2 _ _ _ e1 e2
theorem gw {α β:Type}{P:Nat->α->β->Prop}:∀(xs:List α),(∀i x,xs[i]? =some x->∃y,P i x y)->∃ys:List β,ys.length=xs.length/\∀i x y,xs[i]? =some x->ys[i]? =some y->P i x y
 | [],_=>⟨[],rfl,fun i x y e=>by simp at e⟩
 | x::xs,h=>by
  obtain ⟨y,hy⟩:=h 0 x rfl
  obtain ⟨ys,hl,hp⟩:=gw (P:=fun i=>P (i+1)) xs (fun i x e=>h (i+1) x (by simpa using e))
  refine ⟨y::ys,by simp [hl],fun i x' y' e1 e2=> ?_⟩
  cases i with
  | zero=>
   cases e1
   cases e2
   exact hy
  | succ i=>exact hp i x' y' (by simpa using e1) (by simpa using e2)
inductive iI (K:Frag)(vs:η)(H:Hp)(Q:VK)(E_:XK):Prop where
 | mk (a:Addr) (us:η) (os:List (List Int:_)) (L m b:Nat) (_:vs=[.ref a,.int (m:Int)]) (_:a8 K H a us) (_:qu H us os) (_:(∀o∈os,o.length=L)) (_:m<=L) (_:L<=1000) (_:os.length<=1000) (_:(∀o∈os,Bd b o)) (_:bb b (min m os.length)<=29000000) (_:∀(p d a' :Addr) (kvs:γ) (iW :η) (nd:θ) (lv:ε) (H' :Hp),au H H' ->H d=none->H p=none->H' p=some (.tup [.ref d,.ref a'])->H' d=some (.dK kvs)->a8 K H' a' iW ->mm H' kvs nd->qu H' iW lv->Red os L m (bb b (min m os.length)) nd lv->Q (.ref p) H'):iI K vs H Q E_
theorem lS:aD ["lines","many","needed","left","column","at","lead","place"] ["lines","many"] (ag BM):=sq
theorem Tp (D:Def K mg "reduced" BM ["lines","many"])(bL:mg "range"=none)(bP:mg "list"=none)(aaG:Fn P w K mg base (aY P w) 1 "first_not_nought" ["lines","column"] (sQ K))(Tq:Fn P w K mg base (aY P w) 34 "cleared" ["line","lead","column"] kF):Fn P w K mg base (aY P w) 35 "reduced" ["lines","many"] (iI K):=by
 refine D.ok lS (fun vs H Q E h=> ?_) (fun f bE A outer s H vs Q E hr h=> ?_)
 ·obtain ⟨a,us,os,L,m,b,rfl,_⟩:=h
  rfl
 obtain ⟨a,us,os,L,m,b,rfl,hS,hL,hlen,hm,Ri,ho,hB,hb,q⟩:=h
 refine ⟨_,(ae (aF (i:=2) lS.nd rfl (aai rfl) dy)
  (ae (aF (i:=3) lS.nd rfl (aai rfl) (pv 0))
  (ae (bD PassesOwn.never rfl (dJ rfl bL (ar (pv 1) aa)) (aC (i:=4) lS.nd rfl (aa2 rfl)) (ae (aF (i:=5) lS.nd rfl (aai rfl) (aA aaG hr.mo pX (ar (pv 3) (ar (pv 4) aa))))
   (ae (bo (aR wM (pv 5) nA (aZ _)) (aj uK) aQ)
   (ae (aF (i:=6) lS.nd rfl (aa2 rfl) (bq bt (pv 3) (pv 5) (fun _ _=>rfl)))
   (ae (mS (i:=3) lS.nd rfl (aai rfl) (tn:=["line"]) (fr:=["lead","column"]) (caps:=[6,4]) rfl ⟨rfl,by decide+kernel,rfl,by decide+kernel,by decide+kernel,rfl,⟨(by first | exact aai rfl | exact aa2 rfl),⟨(by first | exact aai rfl | exact aa2 rfl),trivial⟩⟩,⟨(by first | exact aai rfl | exact aa2 rfl),⟨(by first | exact aai rfl | exact aa2 rfl),trivial⟩⟩⟩ (bu (aK FQ (dY jy (pv 3) iB (dB (pv 5))) (dY jy (pv 3) (dB (aK cz (pv 5) ak)) iB))) (fun _ _ _ _=>(aC (i:=0) (show (["line","lead","column"]:List Str).Nodup from by decide+kernel) rfl (aai rfl))) (fun _ _ _ _=>dG) (fun _ _ _ _=>(aA Tq hr.mo (n_ (by first | assumption | exact aY.nX) rfl) (ar (pv 0) (ar (pv 1) (ar (pv 2) aa))))))
   (ae (bD PassesOwn.never rfl (bu (b7 (dH rfl) rfl bP gH (ar (pv 2) aa))) (aC (i:=7) lS.nd rfl (aai rfl)) (aj (d6 (bR hr) (pv 2) (pv 7) (aA Tq hr.mo pX (ar (dD (bR hr) (pv 2) (pv 7) (fun _ _=>rfl)) (ar (pv 6) (ar (pv 4) aa)))) rfl)))
   (aj (d6 (bR hr) (pv 2) (pv 4) (pv 6) rfl))))))))
  (aj (aI (a9 (ar (pv 2) (ar (pv 3) aa)))))))),?_⟩
 refine fun d wD=> ?_
 have s0:au H (upd H d (.dK [])):=aG wD _
 refine ⟨_,rfl,_,rfl,_,rfl,by omega,by omega,?_⟩
 refine fo (lo:=0) (n:=m) (fun i σ H' =>∃(al:Addr) (oJ:η) (kvs:γ) (nd:θ) (lv:ε) (o4 o5 o6 o7:Option V),σ=[some (.ref a),some (.int (m:Int)),some (.ref d),some (.ref al),o4,o5,o6,o7]/\au H H' /\H' d=some (.dK kvs)/\a8 K H' al oJ/\qu H' oJ lv/\mm H' kvs nd/\nd.length<=i/\Red os L i (bb b (min m os.length)) nd lv/\(∃ps qs,EG os nd lv ps qs)/\(∀x∈nd,Pr os x.2)/\∀l∈lv,Pr os l)
  ⟨a,us,[],[],os,none,none,none,none,rfl,s0,ah,s0.seq hS,hL.same s0,⟨rfl,by simp⟩,aah _,(Red.start hlen hB).up (sR _ _),⟨[],os,EG.start os⟩,(by simp),fun l hl=>.inl hl⟩ ?_ ?_
 ·rintro i σ H1 hi ⟨al,oJ,kvs,nd,lv,o4,o5,o6,o7,rfl,s1,hd,PH,CZ,hN,hni,R,⟨ps,qs,O⟩,pN,pL⟩
  refine ⟨_,rfl,_,rfl,al,oJ,lv,i,by rw [abo];rfl,PH,CZ,fun l hl=>by rw [R.mj l hl];omega,fun j lead H2 s2 ej hj=> ?_,fun hz H2 s2=> ?_⟩
  ·have hjl:j < lv.length:=(be.mp ej).1
   have hul:=CZ.1
   have cnt:=R.cnt
   have YY:=hb
   have hd2:=s2 _ _ hd
   have S_:=s2.seq PH
   have NO:=CZ.same s2
   have hN2:=hN.same s2
   obtain ⟨u,eu,hu⟩:=NO.at' ej
   have fJ:lead∈lv:=ir ej
   refine ⟨_,rfl,rfl,_,rfl,?_⟩
   refine bc (fun z=>by simp at z) (fun _=> ?_)
   refine ⟨_,rfl,_,rfl,al,_,_,_,rfl,rfl,S_,cE eu,?_⟩
   refine ⟨_,rfl,_,rfl,_,rfl,al,oJ,rfl,S_,fun p1 n1=> ?_⟩
   have t1:=aG n1 (.lst (fD oJ none (some (j:Int))))
   refine ⟨_,rfl,_,rfl,_,_,rfl,rfl,_,rfl,al,oJ,rfl,t1.seq S_,fun p2 n2=> ?_⟩
   have t2:=aG n2 (.lst (fD oJ (some ((j:Int)+1)) none))
   have Tr:fD oJ none (some (j:Int))++fD oJ (some ((j:Int)+1)) none=oJ.eraseIdx j:=by
    rw [LO (by omega),show ((j:Int)+1)=((j+1:Nat):Int) from by omega,kG (by omega),List.eraseIdx_eq_take_drop_succ]
   have aaI:(fD oJ none (some (j:Int))).length+(fD oJ (some ((j:Int)+1)) none).length<=sizeLine:=by
    rw [<- aas,Tr]
    exact aaf (aaf (abU ..) (show oJ.length<=1000 by omega)) (by decide)
   refine ⟨p1,p2,_,_,rfl,rfl,t2 _ _ ah,ah,aaI,fun p3 n3=> ?_⟩
   have t3:=aG n3 (.lst (fD oJ none (some (j:Int))++fD oJ (some ((j:Int)+1)) none))
   refine ⟨p3,rfl,⟨_,a8.of ah⟩,fun D nD=> ?_⟩
   have tt:=(t1.trans t2).trans t3
   have hE:=(NO.same tt).erase j
   have YZ:=hu.same tt
   have er:(oJ.eraseIdx j).length<=1000:=aaf (abU ..) (show oJ.length<=1000 by omega)
   refine jg (cap:=[some u,some (.int ((0:Int)+i))]) (K:=K) (a:=p3) (xs:=oJ.eraseIdx j) (fun k v H=>∃x y p,(lv.eraseIdx j)[k]? =some x/\v=.ref p/\p≠D/\H p=some (.lst (y.map V.int))/\qa x lead y i/\Bd (2*bb b (min m os.length)+1) y/\(y=x\/PD y)) nD (aar er (by decide)) (fun H3 s3=>a8.of (s3 _ _ (by rw [ah,Tr]))) ?_ ?_ ?_
   ·rintro k v H3 H4 ys hD3 ks ⟨x,y,p,e1,e2,e3,e4,e5⟩
    exact ⟨x,y,p,e1,e2,e3,ks _ _ e3 e4,e5⟩
   ·rintro k x H3 RR ex s3 ⟨ys0,aaL⟩ kk
    obtain ⟨l,el,hl⟩:=hE.at ex
    have AM:l∈lv:=ad_ (ir el)
    have hll:=R.mj l AM
    have hld:=R.mj lead fJ
    refine ⟨_,rfl,_,rfl,_,rfl,x,u,l,lead,i,bb b (min m os.length),bb b (min m os.length),by rw [abo];rfl,hl.same s3,YZ.same s3,by rw [hll,hld],by omega,by omega,hj,R.IC l AM,R.IC lead fJ,YY,YY,fun v' l' H4 s4 L4 cl bd pz fr=> ?_⟩
    obtain ⟨p,e1,e2⟩:=L4
    refine kk v' H4 s4 ⟨l,l',p,el,e1,?_,e2,cl,by rw [Nat.two_mul];exact bd,pz⟩
    rcases fr with z | ⟨p',z,n⟩
    ·obtain ⟨px',z1,z2⟩:=hl
     rw [z1,e1] at z
     cases z
     exact aq z2 nD
    ·rw [e1] at z
     cases z
     exact fun y=>by rw [y,aaL] at n;cases n
   ·intro ys H3 hy ie s3 hD
    obtain ⟨xr,hl',hp⟩:=gw (P:=fun k v y=>∃x p,(lv.eraseIdx j)[k]? =some x/\v=.ref p/\p≠D/\H3 p=some (.lst (y.map V.int))/\qa x lead y i/\Bd (2*bb b (min m os.length)+1) y/\(y=x\/PD y)) ys (fun k v e=>by
     obtain ⟨x,y,p,r⟩:=ie k v e
     exact ⟨y,x,p,r⟩)
    have hLn:qu H3 ys xr :=⟨hl'.symm,fun k v y e1 e2=>by
     obtain ⟨x,p,_,e,_,r,_⟩:=hp k v y e1 e2
     exact ⟨p,e,r⟩⟩
    have les:(oJ.eraseIdx j).length=(lv.eraseIdx j).length:=hE.1
    have ML:Made os lead i (2*bb b (min m os.length)+1) (lv.eraseIdx j) xr :=⟨by omega,fun k x e=>by
     have hk:k < (lv.eraseIdx j).length:=(be.mp e).1
     have e1:ys[k]? =some (ys[k]'(by omega)):=gE (by omega)
     have e2:xr[k]? =some (xr[k]'(by omega)):=gE (by omega)
     obtain ⟨x',p,r1,_,_,_,r2,r3,_⟩:=hp k _ _ e1 e2
     rw [e] at r1
     cases r1
     exact ⟨_,e2,r2,r3⟩⟩
    have PL:∀l∈xr,Pr os l:=fun l hl=>by
     obtain ⟨k,ek⟩:=aad hl
     have hk:k < xr.length:=(be.mp ek).1
     have e1:ys[k]? =some (ys[k]'(by omega)):=gE (by omega)
     obtain ⟨x',p,r1,_,_,_,_,_,r4⟩:=hp k _ _ e1 ek
     rcases r4 with z | z
     ·rw [z]
      exact pL x' (ad_ (ir r1))
     ·exact .inr z
    have sL:=tt.trans s3
    have hd3:=sL _ _ hd2
    have hN3:=hN2.same sL
    have hu4:=YZ.same s3
    refine ⟨_,rfl,d,kvs,rfl,Rd.of hd3,fun l3 n3=> ?_⟩
    have t4:=aG n3 (.lst (kvs.map fun kv=>kV kv.1))
    refine ⟨l3,rfl,⟨_,a8.of ah⟩,?_⟩
    have dl:d≠l3:=aq hd3 n3
    refine bO (K:=K) (a:=l3) (xs:=kvs.map fun kv=>kV kv.1) (fun t σ H' =>∃(o7:Option V) (sS :γ) (iU :θ),σ=[some (.ref a),some (.int (m:Int)),some (.ref d),some (.ref D),some (.int ((0:Int)+i)),some (.int (j:Int)),some u,o7]/\au H H' /\H' d=some (.dK sS)/\H' l3=some (.lst (kvs.map fun kv=>kV kv.1))/\H' D=some (.lst ys)/\qu H' ys xr /\Ln H' u lead/\mm H' sS iU /\iU.map (·.1)=nd.map (·.1)/\
      ∀(k:Nat) (x:Nat×List Int),nd[k]? =some x->∃y,iU[k]? =some (x.1,y)/\(t<=k->y=x.2)/\(k < t->(qa x.2 lead y i/\Bd (2*bb b (min m os.length)+1) y)/\(y=x.2\/PD y)))
     ⟨_,kvs,nd,rfl,((s1.trans s2).trans sL).trans t4,t4 _ _ hd3,ah,t4 _ _ hD,hLn.same t4,hu4.same t4,hN3.same t4,rfl,fun k x e=>⟨x.2,e,fun _=>rfl,fun z=>absurd z (abG _)⟩⟩ (fun t σ H' _ h=>by
      obtain ⟨_,_,_,_,_,_,h,_⟩:=h
      exact a8.of h) ?_ ?_
    ·rintro t u7 σ H4 hu7 ⟨o7,sS,iU,rfl,s4,Kf,hl4,Ts,hL4,Y0,NP,PJ,Rj⟩
     rw [Wp] at hu7
     obtain ⟨kv,rH,rfl⟩:=aal.mp hu7
     have htl:t < kvs.length:=(be.mp rH).1
     have hnl:=hN.1
     have ex:nd[t]? =some (nd[t]'(by omega)):=gE (by omega)
     obtain ⟨x,hx⟩:∃x,nd[t]? =some x:=⟨_,ex⟩
     obtain ⟨kx,hxm⟩:kv.1=.inl (x.1:Int)/\x∈nd:=⟨(hN3.2 t kv x rH hx).1,ir hx⟩
     obtain ⟨y,ey,y1,_⟩:=Rj t x hx
     have y2:=y1 (aah _)
     subst y2
     obtain ⟨v,ev,hv⟩:=NP.at ey
     have nk:(sS.map (·.1)).Nodup:=by
      rw [NP.keys]
      exact keys_nodup (by rw [PJ];exact R.asc)
     have vat:=mZ nk ev
     have hxl:=R.mi x hxm
     have hld:=R.mj lead fJ
     have dg:d5 H4 d (kV kv.1) (some v):=by
      rw [kx, <- vat]
      exact d5.k Kf
     refine ⟨_,rfl,_,rfl,d,v,rfl,dg,_,rfl,_,rfl,v,u,x.2,lead,i,bb b (min m os.length),bb b (min m os.length),by rw [abo];rfl,hv,Y0,by rw [hxl,hld],by omega,by omega,hj,R.CY x hxm,R.IC lead fJ,YY,YY,fun v' l' H5 s5 L5 cl bd pz fr=> ?_⟩
     have Y1:=s5 _ _ Kf
     have l4' :=NP.1
     have l5' :iU.length=nd.length:=by simpa using congrArg ab8 PJ
     refine ⟨_,rfl,_,rfl,d,_,rfl,iR.k Y1 (aar (show sS.length<=1000 by omega) (by decide)),?_⟩
     rw [kx,LN nk ev]
     have dn:d≠D:=fun z=>by rw [z,Ts] at Kf;cases Kf
     refine ⟨_,sS.set t (.inl (x.1:Int),v'),iU.set t (x.1,l'),rfl,fK (s4.trans s5) wD,ah,by rw [ao (aaO dl)];exact s5 _ _ hl4,by rw [ao (aaO dn)];exact s5 _ _ Ts,(hL4.same s5).put Y1,(Y0.same s5).put Y1,((NP.same s5).set L5).put Y1,?_,fun k x' ek=> ?_⟩
     ·rw [List.map_set,PJ]
      refine aa8 fun k=> ?_
      rw [aa7]
      by_cases z:t=k
      ·subst z
       rw [if_pos rfl,if_pos (by simp;omega),Wp,hx]
       rfl
      ·rw [if_neg z]
     ·obtain ⟨y',yF,a1,a2⟩:=Rj k x' ek
      by_cases z:t=k
      ·subst z
       rw [hx] at ek
       cases ek
       refine ⟨l',by rw [aa7,if_pos rfl,if_pos (by omega)],fun w=>by omega,fun _=>⟨⟨cl,by rw [Nat.two_mul];exact bd⟩,pz⟩⟩
      ·exact ⟨y',by rw [aa7,if_neg z];exact yF,fun w=>a1 (by omega),fun w=>a2 (by omega)⟩
    ·rintro σ H4 ⟨o7,sS,iU,rfl,s4,Kf,hl4,Ts,hL4,Y0,NP,PJ,Rj⟩
     have l4' :=NP.1
     have l5' :iU.length=nd.length:=by simpa using congrArg ab8 PJ
     have hnl:=hN.1
     rw [aaa] at Rj
     have MN:Made os lead i (2*bb b (min m os.length)+1) (nd.map (·.2)) (iU.map (·.2)):=⟨by simp [l5'],fun k x e=>by
      rw [Wp] at e
      obtain ⟨x0,e0,rfl⟩:=aal.mp e
      have hk:k < nd.length:=(be.mp e0).1
      obtain ⟨y,ey,_,a2⟩:=Rj k x0 e0
      exact ⟨y,by rw [Wp,ey];rfl,(a2 (by omega)).1⟩⟩
     have K_:bB sS (.inl ((0:Int)+i))=none:=iH (fun z=>by
      rw [NP.keys] at z
      obtain ⟨x',uE,e⟩:=aab.mp z
      have e1:(x'.1:Int)=0+i:=ahR e
      have:x'.1∈nd.map (·.1):=by rw [<- PJ];exact aab.mpr ⟨x',uE,rfl⟩
      obtain ⟨x,hx,e2⟩:=aab.mp this
      have:=R.cols x hx
      omega)
     refine ⟨_,rfl,_,rfl,_,rfl,d,_,rfl,iR.k (k:=.inl ((0:Int)+i)) Kf (aar (show sS.length<=1000 by omega) (by decide)),?_⟩
     rw [cK u K_]
     have dn:d≠D:=fun z=>by rw [z,Ts] at Kf;cases Kf
     have aaR:∀l∈lv.eraseIdx j,l∈lv:=fun l h=>ad_ h
     have aaS:∀l∈lv,l=lead\/l∈lv.eraseIdx j:=fun l h=>by
      obtain ⟨k,ek⟩:=aad h
      rcases Nat.lt_trichotomy k j with z | z | z
      ·exact .inr (ir (i:=k) (by rw [abB,if_pos z];exact ek))
      ·subst z
       rw [ej] at ek
       cases ek
       exact .inl rfl
      ·exact .inr (ir (i:=k - 1) (by rw [abB,if_neg (by omega),show k - 1+1=k by omega];exact ek))
     have aaT:(lv.eraseIdx j).length+1=lv.length:=by rw [abO,if_pos hjl];omega
     have R2:=R.step fJ aaR aaS aaT hj ML PJ MN
     obtain ⟨ps',LC,O2⟩:=O.step R.piv ej (fun x hx=>R.zero lead fJ x.1 (R.cols x hx)) hj ML.len (fun k x e=>by
      obtain ⟨y,ey,k1,_⟩:=ML.to k x e
      exact ⟨y,ey,k1⟩) l5' fun k x e=>by
      obtain ⟨y,ey,k1,_⟩:=MN.to k x e
      exact ⟨y,ey,k1⟩
     have PN:∀x∈iU ++[(i,lead)],Pr os x.2:=fun x hx=>by
      rcases aaF.mp hx with z | z
      ·obtain ⟨k,ek⟩:=aad z
       have hk:k < iU.length:=(be.mp ek).1
       obtain ⟨x0,e0⟩:∃x0,nd[k]? =some x0:=⟨_,gE (by omega)⟩
       obtain ⟨y,ey,_,a2⟩:=Rj k x0 e0
       rw [ek] at ey
       cases ey
       rcases (a2 (by omega)).2 with u | u
       ·show Pr os y
        rw [u]
        exact pN x0 (ir e0)
       ·exact .inr u
      ·rw [aaw.mp z]
       exact pL lead fJ
     have Tt:=R2.cnt
     have R3:=R2.small O2 hB (k:=min m os.length) (by rw [aas] at Tt ⊢;simp at Tt ⊢;omega) (by omega) PN PL
     refine ⟨D,ys,_,iU ++[(i,lead)],xr,_,_,_,_,rfl,fK s4 wD,ah,a8.of (by rw [ao (aaO dn)];exact Ts),hL4.put Kf,(by rw [abo];exact (NP.snoc Y0).put Kf),by simp;omega,R3,⟨ps',LC,O2⟩,PN,PL⟩
  ·refine ⟨_,rfl,rfl,_,rfl,?_⟩
   refine bc (fun _=> ?_) (fun z=>by simp at z)
   exact ⟨al,oJ,kvs,nd,lv,_,_,_,_,rfl,s1.trans s2,s2 _ _ hd,s2.seq PH,CZ.same s2,hN.same s2,by omega,R.skip hz,⟨ps,qs,O⟩,pN,pL⟩
 ·rintro σ H1 ⟨al,oJ,kvs,nd,lv,o4,o5,o6,o7,rfl,s1,hd,PH,CZ,hN,hni,R,⟨ps,qs,O⟩,pN,pL⟩
  refine ⟨_,rfl,_,rfl,(by show 2<=sizeLine;decide),fun p np=> ?_⟩
  have sp:=aG np (.tup [.ref d,.ref al])
  have cnt:=R.cnt
  exact q p d al kvs oJ nd lv _ (s1.trans sp) wD (s1.free np) ah (sp _ _ hd) (sp.seq PH) (hN.same sp) (CZ.same sp) R
theorem yL {t b:Int}{T B:Nat}(hb:b≠0)(h1:t.natAbs<=2^T)(h2:b.natAbs<=2^B):Sm T B (low t b):=⟨jC hb,mP hb,aaf (nO hb) h1,aaf (nQ hb) h2⟩
theorem IE {l:ξ}{j:Nat}(h:l.length<=j):l.getD j 0=0:=by
 rw [aaj,aae h]
 rfl
theorem sT {n j:Nat}(h:j < n):Ka n (j:Int)=some j:=by
 unfold Ka
 simp
 omega
theorem bN.putL {K:Frag}{H:Hp}{a d:Addr}{xs ys:η}{o:HO}(h:bN K H a xs)(e:H d=some (.lst ys)):bN K (upd H d o) a xs:=by
 rcases h with (h | ⟨o',h⟩) | h
 ·exact .inl (.inl (by rw [ao (fun z=>by rw [z,e] at h;cases h)];exact h))
 ·exact .inl (.inr ⟨o',by rw [ao (fun z=>by rw [z,e] at h;cases h)];exact h⟩)
 ·exact .inr h
def mq (H:Hp)(r:Addr)(ls:List Addr)(bS:List (List V)):Prop:=H r=some (.lst (ls.map V.ref))/\ls.length=bS.length/\∀(i:Nat) (l:Addr) (vs:η),ls[i]? =some l->bS[i]? =some vs->H l=some (.lst vs)
theorem mq.same {H H' :Hp}{r:Addr}{ls:List Addr}{bS:List (List V)}(h:mq H r ls bS)(s:au H H'):mq H' r ls bS:=⟨s _ _ h.1,h.2.1,fun i l vs e1 e2=>s _ _ (h.2.2 i l vs e1 e2)⟩
def Shape (T B m:Nat)(bQ:List (List (Int×Int))):Prop:=∀qs∈bQ,qs.length=m/\∀q∈qs,Sm T B q
def fg (K:Frag)(H:Hp)(bS:List (List V))(bQ:List (List (Int×Int))):Prop:=bS.length=bQ.length/\∀(i:Nat) (vs:η) (qs:π),bS[i]? =some vs->bQ[i]? =some qs->c_ K H vs qs
theorem fg.same {H H' :Hp}{bS:List (List V)}{bQ:List (List (Int×Int))}(h:fg K H bS bQ)(s:au H H'):fg K H' bS bQ:=⟨h.1,fun i vs qs e1 e2=>(h.2 i vs qs e1 e2).same s⟩
theorem IF {α:Type}{xs:List α}{x y:α}{j:Nat}(e:(xs++[x])[j]? =some y):(j < xs.length/\xs[j]? =some y)\/(j=xs.length/\x=y):=by
 by_cases c:j < xs.length
 ·rw [aat c] at e
  exact .inl ⟨c,e⟩
 ·rw [aaJ (by omega)] at e
  by_cases z:j - xs.length=0
  ·rw [z] at e
   exact .inr ⟨by omega,aaM e⟩
  ·rw [aae (by simp;omega)] at e
   cases e
theorem mq.snoc {H:Hp}{r D:Addr}{ls:List Addr}{bS:List (List V)}{us:η}(h:mq H r ls bS)(nr:r∉ls)(hD:H D=some (.lst us))(nD:D≠r):mq (upd H r (.lst (ls.map V.ref++[.ref D]))) r (ls++[D]) (bS++[us]):=by
 obtain ⟨m1,m2,m3⟩:=h
 refine ⟨by rw [ah,aaK];rfl,by simp [m2],fun j l vs e1 e2=> ?_⟩
 rcases IF e1 with ⟨c1,d1⟩ | ⟨c1,d1⟩ <;> rcases IF e2 with ⟨c2,d2⟩ | ⟨c2,d2⟩
 ·have ne:l≠r:=fun z=>nr (by rw [<- z];exact ir d1)
  rw [ao ne]
  exact m3 j l vs d1 d2
 ·omega
 ·omega
 ·subst d1 d2
  rw [ao nD]
  exact hD
def xy (bS:List (List V))(j:Nat):List V:=bS.map fun vs=>vs.getD j .cv
def jL (bS:List (List V))(m:Nat):List (List V):=(aa_ m).map fun j=>xy bS j
inductive jM (vs:η)(H:Hp)(Q:VK)(E_:XK):Prop where
 | mk (r:Addr) (ls:List Addr) (bS:List (List V:_)) (m:Int) (_:vs=[.ref r,.int m]) (_:mq H r ls bS) (_:0<=m) (_:m<=1000) (_:ls.length<=1000) (_:(∀vs∈bS,m<=(vs.length:Int))) (_:∀c cs H',au H H' ->mq H' c cs (jL bS m.toNat)->Q (.ref c) H'):jM vs H Q E_
theorem IG:aD ["rows","many","columns","column"] ["rows","many"] (ag BK):=sq
theorem Tu (D:Def K mg "turned" BK ["rows","many"])(bL:mg "range"=none):Fn P w K mg base (aY P w) 1 "turned" ["rows","many"] jM:=by
 refine D.ok IG (fun vs H Q E h=> ?_) (fun f bE A outer s H vs Q E hr h=> ?_)
 ·obtain ⟨r,ls,bS,m,rfl,_⟩:=h
  rfl
 obtain ⟨r,ls,bS,m,rfl,M,m0,m1,hn,hv,q⟩:=h
 refine ⟨_,(ae (aF (i:=2) IG.nd rfl (aai rfl) (dk aa))
  (ae (bD PassesOwn.never rfl (dJ rfl bL (ar (pv 1) aa)) (aC (i:=3) IG.nd rfl (aa2 rfl)) (aj (bf (i0 PySem.F.plainAttrs_list PySem.F.slot_list_append PySem.F.type_list_append c7 (pv 2) (ar (dC (tn:=["row"]) (fr:=["column"]) (caps:=[3]) rfl ⟨rfl,by decide+kernel,rfl,by decide+kernel,by decide+kernel,rfl,⟨(by first | exact aai rfl | exact aa2 rfl),trivial⟩,⟨(by first | exact aai rfl | exact aa2 rfl),trivial⟩⟩ (bu (pv 0)) (fun _ _ _ _=>(aC (i:=0) (show (["row","column"]:List Str).Nodup from by decide+kernel) rfl (aai rfl))) (fun _ _ _ _=>dG) (fun _ _ _ _=>(bq (u_ (K:=K) rfl) (pv 0) (pv 1) (fun _ _=>rfl)))) aa)))))
  (aj (aI (pv 2))))),?_⟩
 have l1:=M.2.1
 refine ⟨(by show 0<=sizeLine;decide),fun c nc=> ?_⟩
 refine ⟨_,rfl,_,rfl,by omega,by omega,?_⟩
 refine fo (lo:=0) (n:=m.toNat) (fun i σ H' =>∃(o:Option V) (cs:List Addr),σ=[some (.ref r),some (.int m),some (.ref c),o]/\au H H' /\mq H' c cs (jL bS i)/\c∉cs) ⟨none,[],rfl,aG nc _,⟨ah,rfl,fun i l vs e=>by simp at e⟩,by simp⟩ ?_ ?_
 ·rintro i σ H' hi ⟨o,cs,rfl,s1,C,ncs⟩
  have M' :=M.same s1
  refine ⟨_,rfl,.inl ⟨rfl,_,a8.of C.1⟩,?_⟩
  refine ⟨_,rfl,r,rfl,⟨_,a8.of M'.1⟩,fun D nD=> ?_⟩
  refine dN (cap:=[some (.int ((0:Int)+i))]) (K:=K) (a:=r) (xs:=ls.map V.ref) (fun k v _=>∃vs,bS[k]? =some vs/\v=vs.getD i .cv) nD (by rw [aaa];exact aar hn (by decide)) (fun H2 s2=>a8.of (s2 _ _ M'.1)) (fun _ _ _ _ _ _ _ h=>h) ?_ ?_
  ·intro k u H2 R hu s2 kk
   rw [Wp] at hu
   obtain ⟨l,el,rfl⟩:=aal.mp hu
   have hk:k < ls.length:=(be.mp el).1
   have ev:bS[k]? =some (bS[k]'(by omega)):=gE (by omega)
   have hl:=M'.2.2 k l _ el ev
   have Pj :i < (bS[k]'(by omega)).length:=by
    have:=hv _ (ir ev)
    omega
   have ea:jr (bS[k]'(by omega)) ((0:Int)+(i:Int))=some ((bS[k]'(by omega)).getD i .cv):=by
    rw [abo]
    exact cE (by rw [gE Pj,aaj,gE Pj];rfl)
   exact ⟨_,rfl,_,rfl,l,_,_,_,rfl,rfl,a8.of (s2 _ _ hl),ea,kk _ _ (au.refl _) ⟨_,ev,rfl⟩⟩
  ·intro ys H2 hy ie s2 hD
   rw [aaa] at hy
   have ey:ys=xy bS i:=by
    refine aa8 fun k=> ?_
    unfold xy
    by_cases hk:k < ys.length
    ·have e1:ys[k]? =some ys[k]:=gE hk
     obtain ⟨vs,ev,e2⟩:=ie k _ e1
     rw [e1,e2,Wp,ev]
     rfl
    ·rw [aae (by omega),aae (by simp;omega)]
   subst ey
   have lc:cs.length=i:=by have:=C.2.1;simpa [jL] using this
   have nDc:D≠c:=fun z=>by rw [z,C.1] at nD;cases nD
   have fc:∀b o,H b=some o->b≠c:=fun b o e=>aq e nc
   refine ⟨c,_,_,rfl,rfl,s2 _ _ C.1,by rw [aaa,lc];exact aar (show i<=1000 by omega) (by decide),?_⟩
   refine ⟨_,cs++[D],rfl,fun b o e=> ?_,?_,fun z=> ?_⟩
   ·rw [ao (fc b o e)]
    exact s2 _ _ (s1 _ _ e)
   ·have e:jL bS (i+1)=jL bS i++[xy bS i]:=by simp [jL,ahz]
    rw [e]
    exact (C.same s2).snoc ncs hD nDc
   ·rcases aaF.mp z with y | y
    ·exact ncs y
    ·exact nDc (aaw.mp y).symm
 ·rintro σ H' ⟨o,cs,rfl,s1,C,ncs⟩
  exact ⟨_,rfl,q c cs H' s1 C⟩
def fP (bQ:List (List (Int×Int)))(j:Nat):List (Int×Int):=bQ.map fun qs=>qs.getD j (0,1)
theorem PK {bQ:List (List (Int×Int))}{T B m j:Nat}(sh:Shape T B m bQ)(hj:j < m):∀q∈fP bQ j,Sm T B q:=fun q hq=>by
 unfold fP at hq
 obtain ⟨qs,hqs,rfl⟩:=aab.mp hq
 obtain ⟨hl,hs⟩:=sh qs hqs
 rw [aaj,gE (by omega)]
 exact hs _ (abu _)
theorem Bd.of {b:Nat}{l:ξ}(h:∀t∈l,t.natAbs<=2^b):Bd b l:=fun j=>by
 by_cases hj:j < l.length
 ·have e:l[j]? =some l[j]:=gE hj
  rw [getD_mem e]
  exact h _ (abu hj)
 ·rw [IE (by omega)]
  exact aaX _
abbrev Wl:=List Int×Int×Addr×Addr
theorem vG (j:Nat):∀{ws:List Wl} {ss ys:π} {cs:π},ss.length=ws.length->ys.length=ws.length->cs.length=ws.length->
  (∀(i:Nat) (w:Wl) (s y:Int×Int),ws[i]? =some w->ss[i]? =some s->ys[i]? =some y->vl y=vl s*w.2.1)->(∀(i:Nat) (w:Wl) (c:Int×Int),ws[i]? =some w->cs[i]? =some c->((w.1.getD j 0:Int):Rat)=vl c*w.2.1)->mf ys cs=eI (ss.map vl) (ws.map (·.1)) j
 | [],[],[],[],_,_,_,_,_=>by simp [mf,eI]
 | w::ws,s::ss,y::ys,c::cs,h1,h2,h3,h4,h5=>by
  have ih:=vG j (ws:=ws) (ss:=ss) (ys:=ys) (cs:=cs) (by simpa using h1) (by simpa using h2) (by simpa using h3) (fun i w s y e1 e2 e3=>h4 (i+1) w s y (by simpa using e1) (by simpa using e2) (by simpa using e3)) (fun i w c e1 e2=>h5 (i+1) w c (by simpa using e1) (by simpa using e2))
  have a:=h4 0 w s y rfl rfl rfl
  have b:=h5 0 w c rfl rfl
  have ed:mf (y::ys) (c::cs)=vl y*vl c+mf ys cs:=by simp [mf]
  simp only [aac,eI]
  rw [ed,ih,a,b]
  grind
 | [],_::_,_,_,h,_,_,_,_=>by simp at h
 | [],[],_::_,_,_,h,_,_,_=>by simp at h
 | [],[],[],_::_,_,_,h,_,_=>by simp at h
 | _::_,[],_,_,h,_,_,_,_=>by simp at h
 | _::_,_::_,[],_,_,h,_,_,_=>by simp at h
 | _::_,_::_,_::_,[],_,_,h,_,_=>by simp at h
inductive xA (K:Frag)(f:Int×Int->Int×Int->Int×Int)(vs:η)(H:Hp)(Q:VK)(E_:XK):Prop where
 | mk (u v:V) (x y:Int×Int) (_:vs=[u,v]) (_:lM K H u x) (_:lM K H v y) (_:Tc 100000 x) (_:Tc 100000 y) (_:gives H Q (f x y)):xA K f vs H Q E_
theorem Tv:aD ["one","other"] ["one","other"] (ag xu):=sq
theorem Tw (hM:u4 CX)(D:Def K mg "difference_of" xu ["one","other"])(IH:Fn P w K mg base CX 33 "lowest_terms" ["top","bottom"] gv):Fn P w K mg base CX 34 "difference_of" ["one","other"] (xA K subQ):=by
 refine D.ok Tv (fun vs H Q E h=> ?_) (fun f bE A outer s H vs Q E hr h=> ?_)
 ·obtain ⟨u,v,x,y,rfl,_⟩:=h
  rfl
 obtain ⟨u,v,x,y,rfl,⟨p1,rfl,h1⟩,⟨p2,rfl,h2⟩,k1,k2,q⟩:=h
 have px:=u5 (X:=l_ CX P w K mg base ["one","other"] "difference_of" (ag xu) f bE A outer s H E) hM
 refine ⟨_,(aj (aI (aA IH hr.mo px (ar (aK cU (aK cu (aL (pv 0)) (aL (pv 1))) (aK cu (aL (pv 1)) (aL (pv 0)))) (ar (aK cu (aL (pv 0)) (aL (pv 1))) aa))))),?_⟩
 have b1:=k1.top
 have b2:=k1.bot
 have b3:=k2.top
 have b4:=k2.bot
 have c:∀{i j:Int},intBits i<=100000->intBits j<=100000->q_ i j:=fun a b=>⟨aaf a (by decide),aaf b (by decide)⟩
 refine ⟨_,rfl,p1,_,_,_,rfl,rfl,h1,ib,_,rfl,p2,_,_,_,rfl,rfl,h2,iV,_,_,rfl,rfl,c b1 b4,?_⟩
 refine ⟨_,rfl,p2,_,_,_,rfl,rfl,h2,ib,_,rfl,p1,_,_,_,rfl,rfl,h1,iV,_,_,rfl,rfl,c b3 b2,?_⟩
 refine ⟨_,_,rfl,rfl,?_⟩
 refine ⟨_,rfl,p1,_,_,_,rfl,rfl,h1,iV,_,rfl,p2,_,_,_,rfl,rfl,h2,iV,_,_,rfl,rfl,c b2 b4,?_⟩
 exact ⟨_,_,rfl,LH k1 k2,q⟩
inductive xB (K:Frag)(f:Rat->Rat->Rat)(vs:η)(H:Hp)(Q:VK)(E_:XK):Prop where
 | mk (u v:V) (x y:Rat) (_:vs=[u,v]) (_:f' K H u x) (_:f' K H v y) (_:Sz 100000 x) (_:Sz 100000 y) (_:gives H Q (qr (f x y))):xB K f vs H Q E_
theorem II {k:Nat}{r:Rat}(h:Sz k r):Tc k (qr r):=⟨cX r,h.top,h.bot⟩
theorem PM {k:Nat}{x:Str}{ps:List Str}(F:Fn P w K mg base CX k x ps (xA K subQ)):Fn P w K mg base CX k x ps (xB K fun a b=>a - b):=by
 obtain ⟨f,fd,G,r⟩:=F.ex
 refine ⟨f,fd,G.imp fun vs H Q E h=> ?_,r⟩
 obtain ⟨u,v,a,b,e,h1,h2,k1,k2,q⟩:=h
 refine ⟨u,v,qr a,qr b,e,h1,h2,II k1,II k2,?_⟩
 unfold subQ
 rw [HN]
 exact q
def IJ (K:Frag)(H:Hp)(Q:VK)(p:Rat×Rat):Prop:=∀(v:V) (H' :Hp),au H H' ->ff K H' v p->Q v H'
inductive xC (K:Frag)(f:Rat->Rat->Rat)(vs:η)(H:Hp)(Q:VK)(E_:XK):Prop where
 | mk (u v:V) (x y:Rat×Rat) (_:vs=[u,v]) (_:ff K H u x) (_:ff K H v y) (_:Sz 100000 x.1) (_:Sz 100000 x.2) (_:Sz 100000 y.1) (_:Sz 100000 y.2) (_:IJ K H Q (f x.1 y.1,f x.2 y.2)):xC K f vs H Q E_
theorem Tx:aD ["one","other"] ["one","other"] (ag xv):=sq
theorem Tz (hM:u4 CX)(D:Def K mg "pair_difference" xv ["one","other"])(TB:Fn P w K mg base CX 34 "difference_of" ["one","other"] (xB K fun a b=>a - b)):Fn P w K mg base CX 35 "pair_difference" ["one","other"] (xC K fun a b=>a - b):=by
 refine D.ok Tx (fun vs H Q E h=> ?_) (fun f bE A outer s H vs Q E hr h=> ?_)
 ·obtain ⟨u,v,x,y,rfl,_⟩:=h
  rfl
 obtain ⟨u,v,x,y,rfl,⟨p1,a1,a2,rfl,h1,n1,n2⟩,⟨p2,b1,b2,rfl,h2,m1,m2⟩,k1,k2,l1,l2,q⟩:=h
 have px:=u5 (X:=(l_ (aY P w) P w K mg base ["one","other"] "pair_difference" (ag xv) f bE A outer s H E)) hM
 refine ⟨_,(aj (aI (a9 (ar (aA TB hr.mo px (ar (aL (pv 0)) (ar (aL (pv 1)) aa))) (ar (aA TB hr.mo px (ar (aL (pv 0)) (ar (aL (pv 1)) aa))) aa))))),?_⟩
 refine ⟨_,rfl,p1,_,_,_,rfl,rfl,h1,ib,_,rfl,p2,_,_,_,rfl,rfl,h2,ib,a1,b1,_,_,rfl,n1,m1,k1,l1,fun c1 H1 s1 e1=> ?_⟩
 refine ⟨_,rfl,p1,_,_,_,rfl,rfl,Ty.au.cG s1 h1,iV,_,rfl,p2,_,_,_,rfl,rfl,Ty.au.cG s1 h2,iV,a2,b2,_,_,rfl,n2.same s1,m2.same s1,k2,l2,fun c2 H2 s2 e2=> ?_⟩
 refine ⟨(by show 2<=sizeLine;decide),fun c3 n3=> ?_⟩
 have s3:=aG n3 (.tup [.ref c1,.ref c2])
 exact q (.ref c3) _ (fun b o z=>s3 _ _ (s2 _ _ (s1 _ _ z))) ⟨c3,_,_,rfl,bN.of ah,⟨c1,rfl,bN.of (s3 _ _ (s2 _ _ e1))⟩,⟨c2,rfl,bN.of (s3 _ _ e2)⟩⟩
inductive sU (K:Frag)(C:Addr)(vs:η)(H:Hp)(Q:VK)(E_:XK):Prop where
 | mk (a dx:Addr) (_:vs=[.ref a]) (_:H a=some (.ins C dx [])) (_:∀(pP pW pB:Addr) (H' :Hp),aV a H H' ->H pP=none->H pW=none->H pB=none->d_ K H' C a dx pP pW pB [] [] [] [] []->Q .cv H'):sU K C vs H Q E_
theorem LP {x:V}:fX "pin_places" x []=([("pin_places",x)]:List (Str×V)):=rfl
theorem LQ {x y:V}:fX "pin_ways" y [("pin_places",x)]=([("pin_places",x),("pin_ways",y)]:List (Str×V)):=by
 simp only [fX]
 rw [if_neg (by decide)]
theorem LR {x y z:V}:fX "bar_ends" z [("pin_places",x),("pin_ways",y)]=([("pin_places",x),("pin_ways",y),("bar_ends",z)]:List (Str×V)):=by
 simp only [fX]
 rw [if_neg (by decide),if_neg (by decide)]
theorem TC:aD ["self"] ["self"] (ag CJ):=sq
theorem TF {f:Addr}{fd:FuncData}{C:Addr}(F:mN K "__init__" "Frame.__init__" CJ f fd)(fc:AR K C):cB P w K mg base (aY P w) 1 f fd ["self"] (sU K C):=by
 refine cR F TC (fun vs H Q E h=> ?_) (fun bE A outer s H vs Q E hr h=> ?_)
 ·obtain ⟨a,dx,rfl,_⟩:=h
  rfl
 obtain ⟨a,dx,rfl,ha,q⟩:=h
 refine ⟨_,(ae (r6 (pv 0) dy rfl)
  (ae (r6 (pv 0) dy rfl)
  (aj (r6 (pv 0) dy rfl)))),?_⟩
 intro pP nP
 have aP:a≠pP:=aq ha nP
 refine ⟨_,rfl,a,C,dx,_,rfl,(by rw [ao aP];exact ha),fc.cls,fc.pl,(by show 0 < 1000;decide),?_⟩
 rw [LP]
 generalize e1:upd (upd H pP (.dK [])) a (.ins C dx [("pin_places",.ref pP)])=H1
 have o1:H1 a=some (.ins C dx [("pin_places",.ref pP)]):=by rw [<- e1,ah]
 have p1:H1 pP=some (.dK []):=by rw [<- e1,ao (aaO aP),ah]
 have k1:∀b o,b≠a->H b=some o->H1 b=some o:=fun b o n e=>by rw [<- e1,ao n,ao (aq e nP)];exact e
 intro pW nW
 have aW:a≠pW:=aq o1 nW
 refine ⟨_,rfl,a,C,dx,_,rfl,(by rw [ao aW];exact o1),fc.cls,fc.wy,(by show 1 < 1000;decide),?_⟩
 rw [LQ]
 generalize e2:upd (upd H1 pW (.dK [])) a (.ins C dx [("pin_places",.ref pP),("pin_ways",.ref pW)])=H2
 have PW:pP≠pW:=aq p1 nW
 have o2:H2 a=some (.ins C dx [("pin_places",.ref pP),("pin_ways",.ref pW)]):=by rw [<- e2,ah]
 have w2:H2 pW=some (.dK []):=by rw [<- e2,ao (aaO aW),ah]
 have k2:∀b o,b≠a->H1 b=some o->H2 b=some o:=fun b o n e=>by rw [<- e2,ao n,ao (aq e nW)];exact e
 intro pB nB
 have aB:a≠pB:=aq o2 nB
 have p2:=k2 _ _ (aaO aP) p1
 refine ⟨_,rfl,a,C,dx,_,rfl,(by rw [ao aB];exact o2),fc.cls,fc.br,(by show 2 < 1000;decide),?_⟩
 rw [LR]
 have PB:pP≠pB:=aq p2 nB
 have WB:pW≠pB:=aq w2 nB
 have k3:∀b o,b≠a->H2 b=some o->(upd (upd H2 pB (.dK [])) a (.ins C dx [("pin_places",.ref pP),("pin_ways",.ref pW),("bar_ends",.ref pB)])) b=some o:=fun b o n e=>by rw [ao n,ao (aq e nB)];exact e
 have f1:∀b,b≠a->H1 b=none->H b=none:=fun b n e=>by
  cases z:H b with
  | none=>rfl
  | some o=>rw [k1 b o n z] at e;cases e
 have f2:∀b,b≠a->H2 b=none->H b=none:=fun b n e=>by
  cases z:H b with
  | none=>rfl
  | some o=>rw [k2 b o n (k1 b o n z)] at e;cases e
 refine q pP pW pB _ (fun b o n e=>k3 b o n (k2 b o n (k1 b o n e))) nP (f1 _ (aaO aW) nW) (f2 _ (aaO aB) nB) ⟨ah,k3 _ _ (aaO aP) p2,k3 _ _ (aaO aW) w2,?_,PW,PB,WB,.nil,.nil⟩
 rw [ao (aaO aB),ah]
inductive jh (K:Frag)(C:Addr)(vs:η)(H:Hp)(Q:VK)(E_:XK):Prop where
 | mk (a dx pP pW pB:Addr) (ps:List (Str×Pt)) (bs:List (Str×Str×Str)) (kP kW kB:γ) (_:vs=[.ref a]) (_:d_ K H C a dx pP pW pB ps bs kP kW kB) (_:∀(l:Addr) (H' :Hp),au H H' ->H l=none->H' l=some (.lst ((bs.map (·.1)).map V.str))->Q (.ref l) H'):jh K C vs H Q E_
theorem TH:aD ["self"] ["self"] (ag CP):=sq
theorem TJ {f:Addr}{fd:FuncData}{C:Addr}(F:mN K "bars" "Frame.bars" CP f fd)(fc:AR K C)(bP:mg "list"=none):cB P w K mg base (aY P w) 1 f fd ["self"] (jh K C):=by
 refine cR F TH (fun vs H Q E h=> ?_) (fun bE A outer s H vs Q E hr h=> ?_)
 ·obtain ⟨a,dx,pP,pW,pB,ps,bs,kP,kW,kB,rfl,_⟩:=h
  rfl
 obtain ⟨a,dx,pP,pW,pB,ps,bs,kP,kW,kB,rfl,R,q⟩:=h
 refine ⟨_,(aj (aI (b7 (dH rfl) rfl bP gH (ar (cn (pv 0) rfl) aa)))),?_⟩
 refine ⟨_,rfl,a,C,dx,_,_,rfl,R.obj,fc.cls,fc.br,rfl,pB,kB,rfl,.inl R.br,fun l nl=> ?_⟩
 refine q l _ (aG nl _) nl ?_
 rw [ah]
 have e:kB.map (fun kv=>kV kv.1)=(bs.map (·.1)).map V.str:=by
  have z:kB.map (fun kv=>kV kv.1)=(kB.map (·.1)).map kV:=by rw [aay];rfl
  rw [z,R.oF,aay]
  rfl
 rw [e]
inductive gL (K:Frag)(C:Addr)(vs:η)(H:Hp)(Q:VK)(E_:XK):Prop where
 | mk (a dx pP pW pB:Addr) (ps:List (Str×Pt)) (bs:List (Str×Str×Str)) (kP kW kB:γ) (_:vs=[.ref a]) (_:d_ K H C a dx pP pW pB ps bs kP kW kB) (_:∀(l:Addr) (H' :Hp),au H H' ->H l=none->H' l=some (.lst ((ps.map (·.1)).map V.str))->Q (.ref l) H'):gL K C vs H Q E_
theorem TK:aD ["self"] ["self"] (ag CO):=sq
theorem TL {f:Addr}{fd:FuncData}{C:Addr}(F:mN K "pins" "Frame.pins" CO f fd)(fc:AR K C)(bP:mg "list"=none):cB P w K mg base (aY P w) 1 f fd ["self"] (gL K C):=by
 refine cR F TK (fun vs H Q E h=> ?_) (fun bE A outer s H vs Q E hr h=> ?_)
 ·obtain ⟨a,dx,pP,pW,pB,ps,bs,kP,kW,kB,rfl,_⟩:=h
  rfl
 obtain ⟨a,dx,pP,pW,pB,ps,bs,kP,kW,kB,rfl,R,q⟩:=h
 refine ⟨_,(aj (aI (b7 (dH rfl) rfl bP gH (ar (cn (pv 0) rfl) aa)))),?_⟩
 refine ⟨_,rfl,a,C,dx,_,_,rfl,R.obj,fc.cls,fc.pl,rfl,pP,kP,rfl,.inl R.pl,fun l nl=> ?_⟩
 refine q l _ (aG nl _) nl ?_
 rw [ah]
 have e:kP.map (fun kv=>kV kv.1)=(ps.map (·.1)).map V.str:=by
  have z:kP.map (fun kv=>kV kv.1)=(kP.map (·.1)).map kV:=by rw [aay];rfl
  rw [z,R.vo,aay]
  rfl
 rw [e]
inductive dI (K:Frag)(C:Addr)(vs:η)(H:Hp)(Q:VK)(E_:XK):Prop where
 | mk (a dx pP pW pB:Addr) (ps:List (Str×Pt)) (bs:List (Str×Str×Str)) (kP kW kB:γ) (x:Str) (_:vs=[.ref a,.str x]) (_:d_ K H C a dx pP pW pB ps bs kP kW kB) (_:x∈ps.map (·.1)) (_:Q .cv H):dI K C vs H Q E_
theorem TM:aD ["self","pin"] ["self","pin"] (ag CM):=sq
theorem TN {f:Addr}{fd:FuncData}{C:Addr}(F:mN K "check_pin" "Frame.check_pin" CM f fd)(fc:AR K C):cB P w K mg base (aY P w) 1 f fd ["self","pin"] (dI K C):=by
 refine cR F TM (fun vs H Q E h=> ?_) (fun bE A outer s H vs Q E hr h=> ?_)
 ·obtain ⟨a,dx,pP,pW,pB,ps,bs,kP,kW,kB,x,rfl,_⟩:=h
  rfl
 obtain ⟨a,dx,pP,pW,pB,ps,bs,kP,kW,kB,x,rfl,R,hx,q⟩:=h
 refine ⟨_,(aj (bo (jb (iE (bR hr) (pv 1) (cn (pv 0) rfl))) (aj (cT)) aQ)),?_⟩
 refine ⟨_,rfl,_,rfl,a,C,dx,_,_,rfl,R.obj,fc.cls,fc.pl,rfl,pP,_,rfl,d5.k (k:=.inr x) R.pl,_,rfl,?_⟩
 rw [R.pin x,decide_eq_true hx]
 exact q
inductive m7 (K:Frag)(C:Addr)(vs:η)(H:Hp)(Q:VK)(E_:XK):Prop where
 | mk (a dx pP pW pB:Addr) (ps:List (Str×Pt)) (bs:List (Str×Str×Str)) (kP kW kB:γ) (x:Str) (p:Pt) (_:vs=[.ref a,.str x]) (_:d_ K H C a dx pP pW pB ps bs kP kW kB) (_:(ps.map (·.1)).Nodup) (_:(x,p)∈ps) (_:∀v,Spot K H v p->Q v H):m7 K C vs H Q E_
theorem TQ:aD ["self","pin"] ["self","pin"] (ag CQ):=sq
theorem TR {f:Addr}{fd:FuncData}{C:Addr}(F:mN K "place" "Frame.place" CQ f fd)(fc:AR K C)(MC:bx P w K mg base (aY P w) 1 C "check_pin" ["self","pin"] (dI K C)):cB P w K mg base (aY P w) 2 f fd ["self","pin"] (m7 K C):=by
 refine cR F TQ (fun vs H Q E h=> ?_) (fun bE A outer s H vs Q E hr h=> ?_)
 ·obtain ⟨a,dx,pP,pW,pB,ps,bs,kP,kW,kB,x,p,rfl,_⟩:=h
  rfl
 obtain ⟨a,dx,pP,pW,pB,ps,bs,kP,kW,kB,x,p,rfl,R,nd,hx,q⟩:=h
 refine ⟨_,(ae (bf (cF (k:=1) (pv 0) hr.mo (pY P w) (ar (pv 1) aa)))
  (aj (aI (dD (bR hr) (cn (pv 0) rfl) (pv 1) (fun _ _=>rfl))))),?_⟩
 refine ⟨_,rfl,a,C,dx,_,_,_,rfl,R.obj,rfl,MC,_,rfl,a,dx,pP,pW,pB,ps,bs,kP,kW,kB,x,rfl,R,aab.mpr ⟨_,hx,rfl⟩,?_⟩
 obtain ⟨v,ev,hv⟩:=R.place nd hx
 exact ⟨_,rfl,a,C,dx,_,_,rfl,R.obj,fc.cls,fc.pl,rfl,_,rfl,pP,v,rfl,(by rw [<- ev];exact d5.k (k:=.inr x) R.pl),q v hv⟩
inductive sV (K:Frag)(C:Addr)(vs:η)(H:Hp)(Q:VK)(E_:XK):Prop where
 | mk (a dx pP pW pB:Addr) (ps:List (Str×Pt)) (bs:List (Str×Str×Str)) (kP kW kB:γ) (x one other:Str) (_:vs=[.ref a,.str x]) (_:d_ K H C a dx pP pW pB ps bs kP kW kB) (_:(bs.map (·.1)).Nodup) (_:(x,one,other)∈bs) (_:∀p,Rd H p (.tup [.str one,.str other])->Q (.ref p) H):sV K C vs H Q E_
theorem TU:aD ["self","bar"] ["self","bar"] (ag CT):=sq
theorem TV {f:Addr}{fd:FuncData}{C:Addr}(F:mN K "ends" "Frame.ends" CT f fd)(fc:AR K C):cB P w K mg base (aY P w) 1 f fd ["self","bar"] (sV K C):=by
 refine cR F TU (fun vs H Q E h=> ?_) (fun bE A outer s H vs Q E hr h=> ?_)
 ·obtain ⟨a,dx,pP,pW,pB,ps,bs,kP,kW,kB,x,one,other,rfl,_⟩:=h
  rfl
 obtain ⟨a,dx,pP,pW,pB,ps,bs,kP,kW,kB,x,one,other,rfl,R,nd,hx,q⟩:=h
 refine ⟨_,(ae (bo (jb (iE (bR hr) (pv 1) (cn (pv 0) rfl))) (aj (cT)) aQ)
  (aj (aI (dD (bR hr) (cn (pv 0) rfl) (pv 1) (fun _ _=>rfl))))),?_⟩
 have hm:x∈bs.map (·.1):=aab.mpr ⟨_,hx,rfl⟩
 refine ⟨_,rfl,_,rfl,a,C,dx,_,_,rfl,R.obj,fc.cls,fc.br,rfl,pB,_,rfl,d5.k (k:=.inr x) R.br,_,rfl,?_⟩
 rw [R.bar x,decide_eq_true hm]
 obtain ⟨p,ev,hv⟩:=R.ends nd hx
 exact ⟨_,rfl,a,C,dx,_,_,rfl,R.obj,fc.cls,fc.br,rfl,_,rfl,pB,.ref p,rfl,(by rw [<- ev];exact d5.k (k:=.inr x) R.br),q p hv⟩
inductive oK (K:Frag)(C:Addr)(vs:η)(H:Hp)(Q:VK)(E_:XK):Prop where
 | mk (a dx pP pW pB:Addr) (ps:List (Str×Pt)) (bs:List (Str×Str×Str)) (kP kW kB:γ) (pw:List (Str×List (Rat×Rat))) (x:Str) (ws:List (Rat×Rat)) (_:vs=[.ref a,.str x]) (_:d_ K H C a dx pP pW pB ps bs kP kW kB) (_:qc K H pw kW) (_:(pw.map (·.1)).Nodup) (_:(x,ws)∈pw) (_:x∈ps.map (·.1)) (_:∀(l:Addr) (us:η) (H' :Hp),au H H' ->H l=none->H' l=some (.lst us)->g_ K H' us ws->Q (.ref l) H'):oK K C vs H Q E_
theorem TX:aD ["self","pin"] ["self","pin"] (ag CS):=sq
theorem TY {f:Addr}{fd:FuncData}{C:Addr}(F:mN K "ways" "Frame.ways" CS f fd)(fc:AR K C)(bP:mg "list"=none)(MC:bx P w K mg base (aY P w) 1 C "check_pin" ["self","pin"] (dI K C)):cB P w K mg base (aY P w) 2 f fd ["self","pin"] (oK K C):=by
 refine cR F TX (fun vs H Q E h=> ?_) (fun bE A outer s H vs Q E hr h=> ?_)
 ·obtain ⟨a,dx,pP,pW,pB,ps,bs,kP,kW,kB,pw,x,ws,rfl,_⟩:=h
  rfl
 obtain ⟨a,dx,pP,pW,pB,ps,bs,kP,kW,kB,pw,x,ws,rfl,R,W,nd,hx,hp,q⟩:=h
 refine ⟨_,(ae (bf (cF (k:=1) (pv 0) hr.mo (pY P w) (ar (pv 1) aa)))
  (aj (aI (b7 oa rfl bP gH (ar (dD (bR hr) (cn (pv 0) rfl) (pv 1) (fun _ _=>rfl)) aa))))),?_⟩
 refine ⟨_,rfl,a,C,dx,_,_,_,rfl,R.obj,rfl,MC,_,rfl,a,dx,pP,pW,pB,ps,bs,kP,kW,kB,x,rfl,R,hp,?_⟩
 obtain ⟨v,ev,l,us,el,hl,pt⟩:=gK W nd hx
 have el' :v=.ref l:=el
 subst el'
 refine ⟨_,rfl,a,C,dx,_,_,rfl,R.obj,fc.cls,fc.wy,rfl,_,rfl,pW,.ref l,rfl,(by rw [<- ev];exact d5.k (k:=.inr x) R.wy),?_⟩
 exact ⟨l,us,rfl,a8.of hl,fun l2 n2=>q l2 us _ (aG n2 _) n2 ah (pt.same (aG n2 _))⟩
def PQ (K:Frag)(H:Hp)(Q:VK)(ws:List (Rat×Rat)):Prop:=∀(l:Addr) (us:η) (H' :Hp),au H H' ->H l=none->H' l=some (.lst us)->g_ K H' us ws->Q (.ref l) H'
theorem sW {x:Rat}(h:(qr x).1=0):x=0:=by
 have:=fG x
 unfold vl at this
 rw [h] at this
 have z:=xj (r:=x)
 have e:((0:Int):Rat)=0:=by rfl
 rw [e] at this
 grind
inductive m8 (K:Frag)(C:Addr)(vs:η)(H:Hp)(Q:VK)(E_:XK):Prop where
 | mk (a dx:Addr) (ux uy:V) (x y:Rat) (_:vs=[.ref a,ux,uy]) (_:H a=some (.ins C dx [])) (_:f' K H ux x) (_:f' K H uy y) (_:¬ (x=0/\y=0)) (_:∀p,H p=none->Q .cv (upd (upd H p (.tup [ux,uy])) a (.ins C dx [("way",.ref p)]))):m8 K C vs H Q E_
theorem TZ:aD ["self","x","y"] ["self","x","y"] (ag CU):=sq
theorem T1 {f:Addr}{fd:FuncData}{C:Addr}(F:mN K "__init__" "Roller.__init__" CU f fd)(cl:uQ K C)(nw:fC K C "way"):cB P w K mg base (aY P w) 1 f fd ["self","x","y"] (m8 K C):=by
 refine cR F TZ (fun vs H Q E h=> ?_) (fun bE A outer s H vs Q E hr h=> ?_)
 ·obtain ⟨a,dx,ux,uy,x,y,rfl,_⟩:=h
  rfl
 obtain ⟨a,dx,ux,uy,x,y,rfl,ha,⟨p1,rfl,h1⟩,⟨p2,rfl,h2⟩,nz,q⟩:=h
 have sz:(2:Nat)<=sizeLine:=by decide
 refine ⟨_,(ae (bo (PW.pt (rW (aR eC (aL (pv 1)) ak (aZ _)) (mJ (aR eC (aL (pv 2)) ak (aZ _))))) (aj (cT)) aQ)
  (aj (r6 (pv 0) (a9 (ar (pv 1) (ar (pv 2) aa))) rfl))),?_⟩
 refine ⟨_,rfl,p1,_,_,_,rfl,rfl,h1,ib,rfl,_,rfl,?_⟩
 refine bc (fun c1=> ?_) (fun c1=> ?_)
 ·have e1:(qr x).1=0:=by simpa using of_decide_eq_true c1
  refine ⟨_,rfl,p2,_,_,_,rfl,rfl,h2,ib,rfl,_,rfl,?_⟩
  refine bc (fun c2=> ?_) (fun c2=> ?_)
  ·have e2:(qr y).1=0:=by simpa using of_decide_eq_true c2
   exact absurd ⟨sW e1,sW e2⟩ nz
  ·exact ⟨_,rfl,_,rfl,sz,fun p hp=>⟨_,rfl,a,C,dx,[],rfl,(by rw [ao (aq ha hp)];exact ha),cl,nw,(by show 0 < 1000;decide),q p hp⟩⟩
 ·refine OY ?_
  exact ⟨_,rfl,_,rfl,sz,fun p hp=>⟨_,rfl,a,C,dx,[],rfl,(by rw [ao (aq ha hp)];exact ha),cl,nw,(by show 0 < 1000;decide),q p hp⟩⟩
inductive gM (K:Frag)(C:Addr)(vs:η)(H:Hp)(Q:VK)(E_:XK):Prop where
 | mk (a dx p:Addr) (w:Rat×Rat) (_:vs=[.ref a]) (_:H a=some (.ins C dx [("way",.ref p)])) (_:ff K H (.ref p) w) (_:PQ K H Q [w]):gM K C vs H Q E_
theorem T2:aD ["self"] ["self"] (ag CV):=sq
theorem T3 {f:Addr}{fd:FuncData}{C:Addr}(F:mN K "ways" "Roller.ways" CV f fd)(cl:uQ K C)(nw:fC K C "way"):cB P w K mg base (aY P w) 1 f fd ["self"] (gM K C):=by
 refine cR F T2 (fun vs H Q E h=> ?_) (fun bE A outer s H vs Q E hr h=> ?_)
 ·obtain ⟨a,dx,p,w,rfl,_⟩:=h
  rfl
 obtain ⟨a,dx,p,w,rfl,ha,hw,q⟩:=h
 refine ⟨_,(aj (aI (dk (ar (cn (pv 0) rfl) aa)))),?_⟩
 refine ⟨_,rfl,a,C,dx,_,.ref p,rfl,ha,cl,nw,(by simp),(by show 1<=sizeLine;decide),fun l hl=> ?_⟩
 exact q l [.ref p] _ (aG hl _) hl ah (.cons (hw.same (aG hl _)) .nil)
inductive gN (K:Frag)(vs:η)(H:Hp)(Q:VK)(E_:XK):Prop where
 | mk (a:Addr) (_:vs=[.ref a]) (_:PQ K H Q [(1,0),(0,1)]):gN K vs H Q E_
theorem sX:qr 1=(1,1):=by
 have:=oH 1
 simpa using this
theorem dR:qr 0=(0,1):=by
 have:=oH 0
 simpa using this
theorem yM {H:Hp}{p p1 p2:Addr}{a b:Rat}{x y:Int×Int}(ea:qr a=x)(eb:qr b=y)(h:H p=some (.tup [.ref p1,.ref p2]))(h1:H p1=some (.tup [.int x.1,.int x.2]))(h2:H p2=some (.tup [.int y.1,.int y.2])):ff K H (.ref p) (a,b):=
 ⟨p,.ref p1,.ref p2,rfl,bN.of h,⟨p1,rfl,by rw [ea];exact bN.of h1⟩,⟨p2,rfl,by rw [eb];exact bN.of h2⟩⟩
theorem T4:aD ["self"] ["self"] (ag CW):=sq
theorem T5 {f:Addr}{fd:FuncData}(F:mN K "ways" "Fixed.ways" CW f fd):cB P w K mg base (aY P w) 1 f fd ["self"] (gN K):=by
 refine cR F T4 (fun vs H Q E h=> ?_) (fun bE A outer s H vs Q E hr h=> ?_)
 ·obtain ⟨a,rfl,_⟩:=h
  rfl
 obtain ⟨a,rfl,q⟩:=h
 have sz:(2:Nat)<=sizeLine:=by decide
 refine ⟨_,(aj (aI (dk (ar (a9 (ar (a9 (ar ak (ar ak aa))) (ar (a9 (ar ak (ar ak aa))) aa))) (ar (a9 (ar (a9 (ar ak (ar ak aa))) (ar (a9 (ar ak (ar ak aa))) aa))) aa))))),?_⟩
 refine ⟨sz,fun p1 n1=> ?_⟩
 have s1:=aG n1 (.tup [.int 1,.int 1])
 have e1:upd H p1 (.tup [.int 1,.int 1]) p1=some (.tup [.int 1,.int 1]):=ah
 generalize upd H p1 (.tup [.int 1,.int 1])=H1 at s1 e1 ⊢
 refine ⟨sz,fun p2 n2=> ?_⟩
 have s2:=aG n2 (.tup [.int 0,.int 1])
 have e2:upd H1 p2 (.tup [.int 0,.int 1]) p2=some (.tup [.int 0,.int 1]):=ah
 generalize upd H1 p2 (.tup [.int 0,.int 1])=H2 at s2 e2 ⊢
 refine ⟨sz,fun p3 n3=> ?_⟩
 have s3:=aG n3 (.tup [.ref p1,.ref p2])
 have e3:upd H2 p3 (.tup [.ref p1,.ref p2]) p3=some (.tup [.ref p1,.ref p2]):=ah
 generalize upd H2 p3 (.tup [.ref p1,.ref p2])=H3 at s3 e3 ⊢
 refine ⟨sz,fun p4 n4=> ?_⟩
 have s4:=aG n4 (.tup [.int 0,.int 1])
 have e4:upd H3 p4 (.tup [.int 0,.int 1]) p4=some (.tup [.int 0,.int 1]):=ah
 generalize upd H3 p4 (.tup [.int 0,.int 1])=H4 at s4 e4 ⊢
 refine ⟨sz,fun p5 n5=> ?_⟩
 have s5:=aG n5 (.tup [.int 1,.int 1])
 have e5:upd H4 p5 (.tup [.int 1,.int 1]) p5=some (.tup [.int 1,.int 1]):=ah
 generalize upd H4 p5 (.tup [.int 1,.int 1])=H5 at s5 e5 ⊢
 refine ⟨sz,fun p6 n6=> ?_⟩
 have s6:=aG n6 (.tup [.ref p4,.ref p5])
 have e6:upd H5 p6 (.tup [.ref p4,.ref p5]) p6=some (.tup [.ref p4,.ref p5]):=ah
 generalize upd H5 p6 (.tup [.ref p4,.ref p5])=H6 at s6 e6 ⊢
 refine ⟨sz,fun l nl=> ?_⟩
 have s7:=aG nl (.lst [.ref p3,.ref p6])
 have e7:upd H6 l (.lst [.ref p3,.ref p6]) l=some (.lst [.ref p3,.ref p6]):=ah
 generalize upd H6 l (.lst [.ref p3,.ref p6])=H7 at s7 e7 ⊢
 have T6:=s1.trans (s2.trans (s3.trans (s4.trans (s5.trans s6))))
 have w1:ff K H7 (.ref p3) (1,0):=yM sX dR (s7 _ _ (s6 _ _ (s5 _ _ (s4 _ _ e3)))) (s7 _ _ (s6 _ _ (s5 _ _ (s4 _ _ (s3 _ _ (s2 _ _ e1)))))) (s7 _ _ (s6 _ _ (s5 _ _ (s4 _ _ (s3 _ _ e2)))))
 have w2:ff K H7 (.ref p6) (0,1):=yM dR sX (s7 _ _ e6) (s7 _ _ (s6 _ _ (s5 _ _ e4))) (s7 _ _ (s6 _ _ e5))
 exact q l [.ref p3,.ref p6] H7 (T6.trans s7) (T6.free nl) e7 (.cons w1 (.cons w2 .nil))
def IK (P:Program)(w:World)(K:Frag)(mg:ι)(base:Heap)(H:Hp)(hv:V)(ws:List (Rat×Rat)):Prop:=(hv=.cv/\ws=[])\/∃(h Ch T7:Addr) (Rk:List (Str×V)) (psh:List Str) (Y2:Sp),hv=.ref h/\H h=some (.ins Ch T7 Rk)/\Rk.lookup ("ways":Str)=none/\bx P w K mg base (aY P w) 2 Ch "ways" psh Y2/\(∀H1,H1 h=some (.ins Ch T7 Rk)->bg H H1->∀Q',PQ K H1 Q' ws->Y2 [.ref h] H1 Q' E0)
inductive cO (P:Program)(w:World)(K:Frag)(mg:ι)(base:Heap)(C:Addr)(vs:η)(H:Hp)(Q:VK)(E_:XK):Prop where
 | mk (a dx pP pW pB:Addr) (ps:List (Str×Pt)) (bs:List (Str×Str×Str)) (kP kW kB:γ) (pw:List (Str×List (Rat×Rat))) (x:Str) (u v hv:V) (p:Pt) (ws:List (Rat×Rat)) (_:vs=[.ref a,.str x,u,v,hv]) (_:d_ K H C a dx pP pW pB ps bs kP kW kB) (_:qc K H pw kW) (_:pw.map (·.1)=ps.map (·.1)) (_:lM K H u p.1) (_:lM K H v p.2) (_:x∉ps.map (·.1)) (_:(∀z∈ps,z.2≠p)) (_:ps.length < 24) (_:IK P w K mg base H hv ws) (_:∀(H' :Hp) (qd iT :γ),(∀b o,b≠pP->b≠pW->H b=some o->H' b=some o)->d_ K H' C a dx pP pW pB (ps++[(x,p)]) bs qd iT kB->qc K H' (pw++[(x,ws)]) iT ->(∃l,iT =kW++[(.inr x,.ref l)]/\H l=none)->Q .cv H'):cO P w K mg base C vs H Q E_
theorem IL:aD ["self","name","x","y","hold","pin","spot"] ["self","name","x","y","hold"] (ag mh):=sq
theorem T8 {f:Addr}{fd:FuncData}{C:Addr}(F:Pm K "put_pin" "Frame.put_pin" mh f fd)(fc:AR K C){tkP:Tok}(PR:mg "MOST_PINS"=some (.int 24 tkP))(ba:mg "len"=none)(bP:mg "list"=none):cB P w K mg base (aY P w) 3 f fd ["self","name","x","y","hold"] (cO P w K mg base C):=by
 refine HK F IL (fun vs H Q E h=> ?_) (fun bE A outer s H vs Q E hr h=> ?_)
 ·obtain ⟨a,dx,pP,pW,pB,ps,bs,kP,kW,kB,pw,x,u,v,hv,p,ws,rfl,_⟩:=h
  rfl
 obtain ⟨a,dx,pP,pW,pB,ps,bs,kP,kW,kB,pw,x,u,v,hvv,p,ws,rfl,R,W,ew,hu,hv,hx,hs,hl,hH,q⟩:=h
 refine ⟨_,(ae (bo (jb (oj (bR hr) (pv 1) (cn (pv 0) rfl))) (aj (cT)) aQ)
  (ae (mW (bD PassesOwn.never rfl (jH (cn (pv 0) rfl)) (dF rfl (aS (aC (i:=5) IL.nd rfl (aai rfl)) (aS (aC (i:=6) IL.nd rfl (aai rfl)) b_))) (aj (bo (aR (mQ hr.units) (pv 6) (a9 (ar (pv 2) (ar (pv 3) aa))) (aZ _)) (aj (cT)) aQ))))
  (ae (bo (aR FE (aT rq rfl ba cf (ar (cn (pv 0) rfl) aa)) (ju (v:=.int 24) rfl PR ⟨_,rfl⟩) (aZ _)) (aj (cT)) aQ)
  (ae (d6 (bR hr) (cn (pv 0) rfl) (pv 1) (a9 (ar (pv 2) (ar (pv 3) aa))) rfl)
  (aj (d6 (bR hr) (cn (pv 0) rfl) (pv 1) (uJ (aR wM (pv 4) nA (aZ _)) (dk aa) (b7 oa rfl bP gH (ar (d0 (k:=2) (pv 4) hr.mo (pY P w)) aa))) rfl)))))),?_⟩
 refine ⟨_,rfl,_,rfl,a,C,dx,_,_,rfl,R.obj,fc.cls,fc.pl,rfl,pP,_,rfl,d5.k (k:=.inr x) R.pl,_,rfl,?_⟩
 rw [R.pin x,decide_eq_false hx]
 have lk:kP.length=ps.length:=(Paired.length R.rp).symm
 refine ⟨_,rfl,a,C,dx,_,_,rfl,R.obj,fc.cls,fc.pl,rfl,pP,kP,rfl,R.pl,fun o=> ?_⟩
 have k0:aV pP H (upd H pP (.fk o (.dK kP))):=fun b o' n e=>by rw [ao n];exact e
 refine fq (d:=pP) (o:=o) (kvs:=kP) (fun t σ H' =>∃(o2 o3:Option V),σ=[some (.ref a),some (.str x),some u,some v,some hvv,o2,o3]/\aV pP H H' /\H' pP=some (.fk o (.dK kP))) ⟨none,none,rfl,k0,ah⟩ (fun t σ H' _ h=>by
   obtain ⟨_,_,_,_,h⟩:=h
   exact h) ?_ ?_
 ·rintro t k y σ H6 p7 rH ⟨o2,o3,rfl,k6,EH⟩ n7
  obtain ⟨z,ez,hz1,Pu⟩:=aH (bU R.rp) rH
  have PU :k=.inr z.1:=hz1
  subst PU
  have s6:bg H H6:=fun b xs r=>by
   rcases r with r | ⟨o',r⟩
   ·exact .inl (k6 _ _ (fun e=>by rw [e,R.pl] at r;cases r) r)
   ·exact .inr ⟨o',k6 _ _ (fun e=>by rw [e,R.pl] at r;cases r) r⟩
  have s7:=aG n7 (.tup [kV (.inr z.1),y])
  have s67:bg H (upd H6 p7 (.tup [kV (.inr z.1),y])):=s6.trans (.of s7)
  refine ⟨p7,_,rfl,bN.of ah,rfl,_,_,rfl,_,_,rfl,rfl,?_⟩
  refine ⟨_,rfl,_,rfl,_,rfl,(by show 2<=sizeLine;decide),fun t8 n8=> ?_⟩
  have s8:=aG n8 (.tup [u,v])
  have C_:bg H (upd (upd H6 p7 (.tup [kV (.inr z.1),y])) t8 (.tup [u,v])):=s67.trans (.of s8)
  refine ⟨eD z.2,eD p,.inl ⟨(Spot.aX Pu C_).is,(Spot.is (p:=p) ⟨t8,u,v,rfl,bN.of ah,hu.aX C_,hv.aX C_⟩)⟩,lO _ _,rA _,?_⟩
  rw [vn]
  refine ⟨_,rfl,?_⟩
  refine bc (fun c=>absurd (of_decide_eq_true c) (hs z (ir ez))) (fun _=> ?_)
  exact ⟨_,_,rfl,fun b o' n e=>s8 _ _ (s7 _ _ (k6 b o' n e)),s8 _ _ (s7 _ _ EH)⟩
 ·rintro σ H1 ⟨o2,o3,rfl,k1,hd1⟩
  refine ⟨pP,o,kP,hd1,fun o' u' z=>(by have z' :H pP=some (.fk o' u'):=z;rw [R.pl] at z';cases z'),?_⟩
  have s2:au H (upd H1 pP (.dK kP)):=fun b o' e=>by
   by_cases n:b=pP
   ·subst n
    rw [R.pl] at e
    rw [ah]
    exact e
   ·rw [ao n]
    exact k1 b o' n e
  generalize upd H1 pP (.dK kP)=H2 at s2 ⊢
  have R2:=R.same s2
  refine ⟨_,rfl,a,C,dx,_,_,rfl,R2.obj,fc.cls,fc.pl,rfl,pP,kP,rfl,.inl R2.pl,_,_,rfl,rfl,_,rfl,?_⟩
  refine bc (fun c=> ?_) (fun _=> ?_)
  ·have c' :(24:Int)<=(kP.length:Int):=of_decide_eq_true c
   omega
  refine ⟨_,rfl,_,rfl,(by show 2<=sizeLine;decide),fun t nt=> ?_⟩
  have s3:=aG nt (.tup [u,v])
  have R3:=R2.same s3
  have YZ:=(hu.same s2).same s3
  have hv3:=(hv.same s2).same s3
  refine ⟨_,rfl,a,C,dx,_,_,rfl,R3.obj,fc.cls,fc.pl,rfl,_,rfl,pP,_,rfl,iR.k (k:=.inr x) R3.pl (aar (show kP.length<=1000 by omega) (by decide)),?_⟩
  have e:putK kP (.inr x) (.ref t)=kP++[(.inr x,.ref t)]:=cK _ (cL (by rw [R.vo];exact fun z=>hx (dE.mp z)))
  rw [e]
  have R4:=R3.Po (x:=x) (p:=p) (t:=t) ⟨t,u,v,rfl,bN.of ah,YZ,hv3⟩
  have k4:∀b o,b≠pP->H b=some o->(upd (upd H2 t (.tup [u,v])) pP (.dK (kP++[(.inr x,.ref t)]))) b=some o:=fun b o n e=>by rw [ao n];exact s3 _ _ (s2 _ _ e)
  generalize upd (upd H2 t (.tup [u,v])) pP (.dK (kP++[(.inr x,.ref t)]))=H4 at R4 k4 ⊢
  have lw:kW.length=ps.length:=by
   have e1:kW.length=pw.length:=(Paired.length W).symm
   have e2:=congrArg ab8 ew
   rw [aaa,aaa] at e2
   omega
  have t4:bg H H4:=fun b xs r=>by
   rcases r with r | ⟨o',r⟩
   ·exact .inl (k4 _ _ (fun e=>by rw [e,R.pl] at r;cases r) r)
   ·exact .inr ⟨o',k4 _ _ (fun e=>by rw [e,R.pl] at r;cases r) r⟩
  have W4:qc K H4 pw kW:=Paired.bM W fun _ _ z=>⟨z.1,by
   obtain ⟨l,us,e1,e2,e3⟩:=z.2
   exact ⟨l,us,e1,k4 _ _ (fun e=>by rw [e,R.pl] at e2;cases e2) e2,e3.aX t4⟩⟩
  have nb:∀l2,H4 l2=none->H l2=none:=fun l2 n=>by
   cases hq:H l2 with
   | none=>rfl
   | some o=>
    have:=k4 l2 o (fun z=>by have h:=R4.pl;rw [<- z,n] at h;cases h) hq
    rw [n] at this
    cases this
  refine ⟨_,rfl,rfl,_,rfl,?_⟩
  rcases hH with ⟨rfl,rfl⟩ | ⟨h,Ch,T7,Rk,psh,Y2,rfl,hh,hlk,MH,qj⟩
  ·refine bc (fun _=> ?_) (fun c=>absurd (by decide) c)
   refine ⟨by show 0<=sizeLine;decide,fun l2 n6=> ?_⟩
   have s6:=aG n6 (.lst [])
   have R6:=R4.same s6
   have W6:=W4.same s6
   refine ⟨_,rfl,a,C,dx,_,_,rfl,R6.obj,fc.cls,fc.wy,rfl,_,rfl,pW,_,rfl,iR.k (k:=.inr x) R6.wy (aar (show kW.length<=1000 by omega) (by decide)),?_⟩
   have ek:putK kW (.inr x) (.ref l2)=kW++[(.inr x,.ref l2)]:=cK _ (cL (by rw [W.keys,ew];exact fun z=>hx (dE.mp z)))
   rw [ek]
   have ne6:l2≠pW:=fun z=>by have h:=R6.wy;rw [<- z,ah] at h;cases h
   exact q _ _ _ (fun b o n1 n2 e=>by rw [ao n2];exact s6 _ _ (k4 b o n1 e)) (R6.sI _) (Paired.snoc (W6.dict R6.wy) ⟨rfl,l2,[],rfl,by rw [ao ne6,ah],.nil⟩) ⟨l2,rfl,nb l2 n6⟩
  have h4:H4 h=some (.ins Ch T7 Rk):=k4 _ _ (fun e=>by rw [e,R.pl] at hh;cases hh) hh
  refine bc (fun c=>absurd (of_decide_eq_true c) (fun z=>nomatch z)) (fun _=> ?_)
  refine ⟨_,rfl,h,Ch,T7,Rk,psh,Y2,rfl,h4,hlk,MH,qj H4 h4 t4 _ fun l1 us H5 s5 n5 e5 p5=> ?_⟩
  refine ⟨l1,us,rfl,a8.of e5,fun l2 n6=> ?_⟩
  have s6:=aG n6 (.lst us)
  have R6:=(R4.same s5).same s6
  have W6:=(W4.same s5).same s6
  refine ⟨_,rfl,a,C,dx,_,_,rfl,R6.obj,fc.cls,fc.wy,rfl,_,rfl,pW,_,rfl,iR.k (k:=.inr x) R6.wy (aar (show kW.length<=1000 by omega) (by decide)),?_⟩
  have ek:putK kW (.inr x) (.ref l2)=kW++[(.inr x,.ref l2)]:=cK _ (cL (by rw [W.keys,ew];exact fun z=>hx (dE.mp z)))
  rw [ek]
  have sY:au H4 (upd H5 l2 (.lst us)):=fun b o z=>s6 _ _ (s5 _ _ z)
  refine q _ _ _ (fun b o n1 n2 e=>by rw [ao n2];exact sY _ _ (k4 b o n1 e)) (R6.sI _) ?_ ⟨l2,rfl,nb l2 (s5.free n6)⟩
  have ne6:l2≠pW:=fun z=>by have h:=R6.wy;rw [<- z,ah] at h;cases h
  exact Paired.snoc (W6.dict R6.wy) ⟨rfl,l2,us,rfl,by rw [ao ne6,ah],(p5.same s6).aX (.dict R6.wy)⟩
inductive gO (K:Frag)(C:Addr)(vs:η)(H:Hp)(Q:VK)(E_:XK):Prop where
 | mk (a dx pP pW pB:Addr) (ps:List (Str×Pt)) (bs:List (Str×Str×Str)) (kP kW kB:γ) (x one other:Str) (_:vs=[.ref a,.str x,.str one,.str other]) (_:d_ K H C a dx pP pW pB ps bs kP kW kB) (_:x∉bs.map (·.1)) (_:one∈ps.map (·.1)) (_:other∈ps.map (·.1)) (_:one≠other) (_:bs.length < 60) (_:Q .cv H):gO K C vs H Q E_
theorem T9:aD ["self","name","one","other"] ["self","name","one","other"] (ag CL):=sq
theorem T_ {f:Addr}{fd:FuncData}{C:Addr}(F:mN K "check_bar" "Frame.check_bar" CL f fd)(fc:AR K C){tkB:Tok}(PV:mg "MOST_BARS"=some (.int 60 tkB))(ba:mg "len"=none)
  (MC:bx P w K mg base (aY P w) 1 C "check_pin" ["self","pin"] (dI K C)):cB P w K mg base (aY P w) 2 f fd ["self","name","one","other"] (gO K C):=by
 refine cR F T9 (fun vs H Q E h=> ?_) (fun bE A outer s H vs Q E hr h=> ?_)
 ·obtain ⟨a,dx,pP,pW,pB,ps,bs,kP,kW,kB,x,one,other,rfl,_⟩:=h
  rfl
 obtain ⟨a,dx,pP,pW,pB,ps,bs,kP,kW,kB,x,one,other,rfl,R,hx,h1,h2,ne,hl,q⟩:=h
 refine ⟨_,(ae (bo (jb (oj (bR hr) (pv 1) (cn (pv 0) rfl))) (aj (cT)) aQ)
  (ae (bf (cF (k:=1) (pv 0) hr.mo (pY P w) (ar (pv 2) aa)))
  (ae (bf (cF (k:=1) (pv 0) hr.mo (pY P w) (ar (pv 3) aa)))
  (ae (bo (aR eC (pv 2) (pv 3) (aZ _)) (aj (cT)) aQ)
  (aj (bo (aR FE (aT rq rfl ba cf (ar (cn (pv 0) rfl) aa)) (ju (v:=.int 60) rfl PV ⟨_,rfl⟩) (aZ _)) (aj (cT)) aQ)))))),?_⟩
 refine ⟨_,rfl,_,rfl,a,C,dx,_,_,rfl,R.obj,fc.cls,fc.br,rfl,pB,_,rfl,d5.k (k:=.inr x) R.br,_,rfl,?_⟩
 rw [R.bar x,decide_eq_false hx]
 refine ⟨_,rfl,a,C,dx,_,_,_,rfl,R.obj,rfl,MC,_,rfl,a,dx,pP,pW,pB,ps,bs,kP,kW,kB,one,rfl,R,h1,?_⟩
 refine ⟨_,rfl,a,C,dx,_,_,_,rfl,R.obj,rfl,MC,_,rfl,a,dx,pP,pW,pB,ps,bs,kP,kW,kB,other,rfl,R,h2,?_⟩
 refine ⟨_,rfl,_,rfl,rfl,_,rfl,?_⟩
 refine bc (fun c=>absurd (by simpa [p_] using c) ne) (fun _=> ?_)
 have lk:kB.length=bs.length:=(Paired.length R.rb).symm
 refine ⟨_,rfl,a,C,dx,_,_,rfl,R.obj,fc.cls,fc.br,rfl,pB,kB,rfl,.inl R.br,_,_,rfl,rfl,_,rfl,?_⟩
 refine bc (fun c=> ?_) (fun _=>q)
 have c' :(60:Int)<=(kB.length:Int):=of_decide_eq_true c
 omega
inductive ig (K:Frag)(C:Addr)(vs:η)(H:Hp)(Q:VK)(E_:XK):Prop where
 | mk (a dx pP pW pB:Addr) (ps:List (Str×Pt)) (bs:List (Str×Str×Str)) (kP kW kB:γ) (x one other:Str) (_:vs=[.ref a,.str x,.str one,.str other]) (_:d_ K H C a dx pP pW pB ps bs kP kW kB) (_:x∉bs.map (·.1)) (_:one∈ps.map (·.1)) (_:other∈ps.map (·.1)) (_:one≠other) (_:bs.length < 60) (_:∀(H' :Hp) (NQ :γ),aV pB H H' ->d_ K H' C a dx pP pW pB ps (bs++[(x,one,other)]) kP kW NQ ->Q .cv H'):ig K C vs H Q E_
theorem Ua:aD ["self","name","one","other"] ["self","name","one","other"] (ag CK):=sq
theorem Ub {f:Addr}{fd:FuncData}{C:Addr}(F:mN K "put_bar" "Frame.put_bar" CK f fd)(fc:AR K C)
  (MC:bx P w K mg base (aY P w) 2 C "check_bar" ["self","name","one","other"] (gO K C)):cB P w K mg base (aY P w) 3 f fd ["self","name","one","other"] (ig K C):=by
 refine cR F Ua (fun vs H Q E h=> ?_) (fun bE A outer s H vs Q E hr h=> ?_)
 ·obtain ⟨a,dx,pP,pW,pB,ps,bs,kP,kW,kB,x,one,other,rfl,_⟩:=h
  rfl
 obtain ⟨a,dx,pP,pW,pB,ps,bs,kP,kW,kB,x,one,other,rfl,R,hx,h1,h2,ne,hl,q⟩:=h
 refine ⟨_,(ae (bf (cF (k:=2) (pv 0) hr.mo (pY P w) (ar (pv 1) (ar (pv 2) (ar (pv 3) aa)))))
  (aj (d6 (bR hr) (cn (pv 0) rfl) (pv 1) (a9 (ar (pv 2) (ar (pv 3) aa))) rfl))),?_⟩
 refine ⟨_,rfl,a,C,dx,_,_,_,rfl,R.obj,rfl,MC,_,rfl,_,rfl,_,rfl,a,dx,pP,pW,pB,ps,bs,kP,kW,kB,x,one,other,rfl,R,hx,h1,h2,ne,hl,?_⟩
 refine ⟨_,rfl,_,rfl,(by show 2<=sizeLine;decide),fun t nt=> ?_⟩
 have s:=aG nt (.tup [.str one,.str other])
 have R' :=R.same s
 have lk:kB.length=bs.length:=(Paired.length R.rb).symm
 refine ⟨_,rfl,a,C,dx,_,_,rfl,R'.obj,fc.cls,fc.br,rfl,_,rfl,pB,_,rfl,iR.k (k:=.inr x) R'.br (aar (show kB.length<=1000 by omega) (by decide)),?_⟩
 have e:putK kB (.inr x) (.ref t)=kB++[(.inr x,.ref t)]:=cK _ (cL (by rw [R.oF];exact fun z=>hx (dE.mp z)))
 rw [e]
 refine q _ _ (fun b o n z=> ?_) (R'.Pn (.inl ah))
 rw [ao n]
 exact s _ _ z
inductive iJ (K:Frag)(C:Addr)(vs:η)(H:Hp)(Q:VK)(E_:XK):Prop where
 | mk (a dx pP pW pB:Addr) (ps:List (Str×Pt)) (bs:List (Str×Str×Str)) (kP kW kB:γ) (x:Str) (_:vs=[.ref a,.str x]) (_:d_ K H C a dx pP pW pB ps bs kP kW kB) (_:x∈bs.map (·.1)) (_:∀(H' :Hp) (NQ :γ),aV pB H H' ->d_ K H' C a dx pP pW pB ps (bs.filter fun b=>decide (b.1≠x)) kP kW NQ ->Q .cv H'):iJ K C vs H Q E_
theorem Uc:aD ["self","name"] ["self","name"] (ag CN):=sq
theorem Ud {f:Addr}{fd:FuncData}{C:Addr}(F:mN K "take_bar" "Frame.take_bar" CN f fd)(fc:AR K C):cB P w K mg base (aY P w) 1 f fd ["self","name"] (iJ K C):=by
 refine cR F Uc (fun vs H Q E h=> ?_) (fun bE A outer s H vs Q E hr h=> ?_)
 ·obtain ⟨a,dx,pP,pW,pB,ps,bs,kP,kW,kB,x,rfl,_⟩:=h
  rfl
 obtain ⟨a,dx,pP,pW,pB,ps,bs,kP,kW,kB,x,rfl,R,hx,q⟩:=h
 refine ⟨_,(ae (bo (jb (iE (bR hr) (pv 1) (cn (pv 0) rfl))) (aj (cT)) aQ)
  (aj (bf (ou (cn (pv 0) rfl) (pv 1) ⟨rfl,rfl,rfl,rfl⟩)))),?_⟩
 refine ⟨_,rfl,_,rfl,a,C,dx,_,_,rfl,R.obj,fc.cls,fc.br,rfl,pB,_,rfl,d5.k (k:=.inr x) R.br,_,rfl,?_⟩
 rw [R.bar x,decide_eq_true hx]
 obtain ⟨v,ev⟩:=dO (kvs:=kB) (k:=.inr x) (by rw [R.oF];exact dE.mpr hx)
 refine ⟨_,rfl,a,C,dx,_,_,rfl,R.obj,fc.cls,fc.br,rfl,pB,rfl,.inl ⟨_,.inl R.br⟩,_,rfl,kB,.inr x,v,R.br,rfl,ev,?_⟩
 exact q _ _ (fun b o n z=>by rw [ao n];exact z) (R.Lw x)
theorem C' {K:Frag}{H:Hp}{C a dx pP pW pB:Addr}{ps:List (Str×Pt)}{bs:List (Str×Str×Str)}{kP kW kB:γ}(R:d_ K H C a dx pP pW pB ps bs kP kW kB)(x:Str):
  d_ K (upd H pP (.dK (d3 kP (.inr x)))) C a dx pP pW pB (ps.filter fun b=>decide (b.1≠x)) bs (d3 kP (.inr x)) kW kB:=by
 have s:bg H (upd H pP (.dK (d3 kP (.inr x)))):=.dict R.pl
 exact ⟨by rw [ao R.ab.1];exact R.obj,ah,by rw [ao (aaO R.ne1)];exact R.wy,by rw [ao (aaO R.ne2)];exact R.br,R.ne1,R.ne2,R.ne3,fT x (Paired.bM R.rp fun _ _ h=>⟨h.1,h.2.aX s⟩),
  Paired.bM R.rb fun _ _ h=>⟨h.1,by obtain ⟨p,e,k⟩:=h.2;exact ⟨p,e,s _ _ k⟩⟩⟩
inductive gP (K:Frag)(C:Addr)(vs:η)(H:Hp)(Q:VK)(E:XK):Prop where
 | mk (a dx pP pW pB:Addr) (ps:List (Str×Pt)) (bs:List (Str×Str×Str)) (kP kW kB:γ) (pw:List (Str×List (Rat×Rat))) (x:Str) (_:vs=[.ref a,.str x]) (_:d_ K H C a dx pP pW pB ps bs kP kW kB) (_:qc K H pw kW) (_:pw.map (·.1)=ps.map (·.1)) (_:x∈ps.map (·.1)) (_:(∀b∈bs,x≠b.2.1/\x≠b.2.2)) (_:∀(H' :Hp) (qd iT :γ),(∀b o,b≠pP->b≠pW->H b=some o->H' b=some o)->d_ K H' C a dx pP pW pB (ps.filter fun b=>decide (b.1≠x)) bs qd iT kB->qc K H' (pw.filter fun b=>decide (b.1≠x)) iT ->(∀kv∈iT,kv∈kW)->Q .cv H'):gP K C vs H Q E
theorem eh:aD ["self","name","bar","two"] ["self","name"] (ag bW):=sq
theorem jN {f:Addr}{fd:FuncData}{C:Addr}(F:mN K "take_pin" "Frame.take_pin" bW f fd)(fc:AR K C)(MC:bx P w K mg base (aY P w) 1 C "check_pin" ["self","pin"] (dI K C)):cB P w K mg base (aY P w) 2 f fd ["self","name"] (gP K C):=by
 refine cR F eh (fun vs H Q E h=> ?_) (fun bE A outer s H vs Q E hr h=> ?_)
 ·obtain ⟨a,dx,pP,pW,pB,ps,bs,kP,kW,kB,pw,x,rfl,_⟩:=h
  rfl
 obtain ⟨a,dx,pP,pW,pB,ps,bs,kP,kW,kB,pw,x,rfl,R,W,ew,hx,hb,q⟩:=h
 refine ⟨_,(ae (bf (cF (k:=1) (pv 0) hr.mo (pY P w) (ar (pv 1) aa)))
  (ae (mW (bD PassesOwn.never rfl (jH (cn (pv 0) rfl)) (dF rfl (aS (aC (i:=2) eh.nd rfl (aai rfl)) (aS (aC (i:=3) eh.nd rfl (aai rfl)) b_))) (aj (bo (aR qX (pv 1) (pv 3) rfl) (aj (cT)) aQ))))
  (ae (bf (ou (cn (pv 0) rfl) (pv 1) ⟨rfl,rfl,rfl,rfl⟩))
  (aj (bf (ou (cn (pv 0) rfl) (pv 1) ⟨rfl,rfl,rfl,rfl⟩)))))),?_⟩
 refine ⟨_,rfl,a,C,dx,_,_,_,rfl,R.obj,rfl,MC,_,rfl,a,dx,pP,pW,pB,ps,bs,kP,kW,kB,x,rfl,R,hx,?_⟩
 have lk:kB.length=bs.length:=(Paired.length R.rb).symm
 refine ⟨_,rfl,a,C,dx,_,_,rfl,R.obj,fc.cls,fc.br,rfl,pB,kB,rfl,R.br,fun o=> ?_⟩
 have k0:aV pB H (upd H pB (.fk o (.dK kB))):=fun b o' n e=>by rw [ao n];exact e
 refine fq (d:=pB) (o:=o) (kvs:=kB) (fun t σ H' =>∃(o2 o3:Option V),σ=[some (.ref a),some (.str x),o2,o3]/\aV pB H H' /\H' pB=some (.fk o (.dK kB))) ⟨none,none,rfl,k0,ah⟩ (fun t σ H' _ h=>by
   obtain ⟨_,_,_,_,h⟩:=h
   exact h) ?_ ?_
 ·rintro t k y σ H6 p7 rH ⟨o2,o3,rfl,k6,EH⟩ n7
  obtain ⟨z,ez,hz1,p,ep,Pu⟩:=aH (bU R.rb) rH
  have PU :k=.inr z.1:=hz1
  subst PU
  have wu :y=.ref p:=ep
  subst wu
  have s6:bg H H6:=fun b xs r=>by
   rcases r with r | ⟨o',r⟩
   ·exact .inl (k6 _ _ (fun e=>by rw [e,R.br] at r;cases r) r)
   ·exact .inr ⟨o',k6 _ _ (fun e=>by rw [e,R.br] at r;cases r) r⟩
  have s7:=aG n7 (.tup [kV (.inr z.1),.ref p])
  have s67:bg H (upd H6 p7 (.tup [kV (.inr z.1),.ref p])):=s6.trans (.of s7)
  obtain ⟨n1,n2⟩:=hb z (ir ez)
  refine ⟨p7,_,rfl,bN.of ah,rfl,_,_,rfl,_,_,rfl,rfl,?_⟩
  refine ⟨_,rfl,_,rfl,p,[.str z.2.1,.str z.2.2],rfl,.inr (s67.cG (.inl Pu)),rfl,rfl,_,rfl,?_⟩
  refine bc (fun c=> ?_) (fun _=>⟨_,_,rfl,fun b o' n e=>s7 _ _ (k6 b o' n e),s7 _ _ EH⟩)
  exfalso
  have c' :Q7 (.str x) [.str z.2.1,.str z.2.2]=true:=c
  simp [Q7,p_] at c'
  rcases c' with c' | c'
  ·exact n1 c'.symm
  ·exact n2 c'.symm
 ·rintro σ H1 ⟨o2,o3,rfl,k1,hd1⟩
  refine ⟨pB,o,kB,hd1,fun o' u' z=>(by have z' :H pB=some (.fk o' u'):=z;rw [R.br] at z';cases z'),?_⟩
  have s2:au H (upd H1 pB (.dK kB)):=fun b o' e=>by
   by_cases n:b=pB
   ·subst n
    rw [R.br] at e
    rw [ah]
    exact e
   ·rw [ao n]
    exact k1 b o' n e
  generalize upd H1 pB (.dK kB)=H2 at s2 ⊢
  have R2:=R.same s2
  obtain ⟨v,ev⟩:=dO (kvs:=kP) (k:=.inr x) (by rw [R.vo];exact dE.mpr hx)
  have kk:kW.map (·.1)=(ps.map (·.1)).map (fun b=>(aa6 b:Key)):=by rw [eT W, <- ew,aay];rfl
  obtain ⟨v2,ev2⟩:=dO (kvs:=kW) (k:=.inr x) (by rw [kk];exact dE.mpr hx)
  refine ⟨_,rfl,a,C,dx,_,_,rfl,R2.obj,fc.cls,fc.pl,rfl,pP,rfl,.inl ⟨_,.inl R2.pl⟩,_,rfl,kP,.inr x,v,R2.pl,rfl,ev,?_⟩
  have R3:=C' R2 x
  have k3:∀b o,b≠pP->H b=some o->(upd H2 pP (.dK (d3 kP (.inr x)))) b=some o:=fun b o n e=>by rw [ao n];exact s2 _ _ e
  have k2:aV pP H2 (upd H2 pP (.dK (d3 kP (.inr x)))):=fun b o n e=>by rw [ao n];exact e
  generalize upd H2 pP (.dK (d3 kP (.inr x)))=H3 at R3 k3 k2 ⊢
  refine ⟨_,rfl,a,C,dx,_,_,rfl,R3.obj,fc.cls,fc.wy,rfl,pW,rfl,.inl ⟨_,.inl R3.wy⟩,_,rfl,kW,.inr x,v2,R3.wy,rfl,ev2,?_⟩
  have t3:bg H2 H3:=fun b xs r=>by
   rcases r with r | ⟨o',r⟩
   ·exact .inl (k2 _ _ (fun e=>by rw [e,R2.pl] at r;cases r) r)
   ·exact .inr ⟨o',k2 _ _ (fun e=>by rw [e,R2.pl] at r;cases r) r⟩
  have t4:bg H3 (upd H3 pW (.dK (d3 kW (.inr x)))):=.dict R3.wy
  refine q _ _ _ (fun b o n1 n2 e=>by rw [ao n2];exact k3 b o n1 e) (R3.sI _) (fT x (Paired.bM (W.same s2) fun _ _ z=>⟨z.1,?_⟩)) (fun kv h=>by unfold d3 at h;exact (aa4.mp h).1)
  obtain ⟨l,us,z1,z2,z3⟩:=z.2
  exact ⟨l,us,z1,by rw [ao (fun e=>by rw [e,R2.wy] at z2;cases z2)];exact k2 _ _ (fun e=>by rw [e,R2.pl] at z2;cases z2) z2,(z3.aX t3).aX t4⟩
def kH (p q:aE):Rat×Rat:=(q.sp.1 - p.sp.1,q.sp.2 - p.sp.2)
inductive IM (K:Frag)(C:Addr)(vs:η)(H:Hp)(Q:VK)(E_:XK):Prop where
 | mk (a:Addr) (pins:ν) (bars:List aU) (p q:aE) (_:vs=[.ref a,.str p.nm,.str q.nm]) (_:EE K H C a pins bars) (_:dz pins bars) (_:p∈pins) (_:q∈pins) (_:IJ K H Q (kH p q)):IM K C vs H Q E_
theorem NR {pins:ν}(h:(pins.map (·.nm)).Nodup):((pins.map fun p=>(p.nm,mY p.sp)).map (·.1)).Nodup:=by
 rw [aay]
 exact h
theorem NS {pins:ν}(h:(pins.map (·.nm)).Nodup):((pins.map fun p=>(p.nm,p.ws)).map (·.1)).Nodup:=by
 rw [aay]
 exact h
theorem Ue {bars:List aU}(h:(bars.map (·.nm)).Nodup):((bars.map fun b=>(b.nm,b.one.nm,b.other.nm)).map (·.1)).Nodup:=by
 rw [aay]
 exact h
theorem Ug:aD ["F","one","other"] ["F","one","other"] (ag BD):=sq
theorem Uh {C:Addr}(D:Def K mg "arm_between" BD ["F","one","other"])(MP:bx P w K mg base (aY P w) 2 C "place" ["self","pin"] (m7 K C))(aa0:Fn P w K mg base (aY P w) 35 "pair_difference" ["one","other"] (xC K fun a b=>a - b)):Fn P w K mg base (aY P w) 36 "arm_between" ["F","one","other"] (IM K C):=by
 refine D.ok Ug (fun vs H Q E h=> ?_) (fun f bE A outer s H vs Q E hr h=> ?_)
 ·obtain ⟨a,pins,bars,p,q,rfl,_⟩:=h
  rfl
 obtain ⟨a,pins,bars,p,q,rfl,R,g,hp,hq,k⟩:=h
 obtain ⟨dx,pP,pW,pB,kP,kW,kB,R,W⟩:=R.ex
 refine ⟨_,(aj (aI (aA aa0 hr.mo (pY P w) (ar (cF (k:=2) (pv 0) hr.mo (pY P w) (ar (pv 2) aa)) (ar (cF (k:=2) (pv 0) hr.mo (pY P w) (ar (pv 1) aa)) aa))))),?_⟩
 refine ⟨_,rfl,a,C,dx,_,_,_,rfl,R.obj,rfl,MP,_,rfl,a,dx,pP,pW,pB,_,_,kP,kW,kB,q.nm,mY q.sp,rfl,R,NR g.np,aab.mpr ⟨q,hq,rfl⟩,fun v1 h1=> ?_⟩
 refine ⟨_,rfl,a,C,dx,_,_,_,rfl,R.obj,rfl,MP,_,rfl,a,dx,pP,pW,pB,_,_,kP,kW,kB,p.nm,mY p.sp,rfl,R,NR g.np,aab.mpr ⟨p,hp,rfl⟩,fun v2 h2=> ?_⟩
 have z1:=g.sz q hq
 have z2:=g.sz p hp
 exact ⟨v1,v2,q.sp,p.sp,rfl,h1,h2,z1.1.up (by decide),z1.2.1.up (by decide),z2.1.up (by decide),z2.2.1.up (by decide),k⟩
def mv (M:Str->Option (Rat×Rat))(x:Str):Rat×Rat:=(M x).getD (0,0)
def eA (F:Str->Option (Rat×Rat))(pins:ν):List (Int×Int):=pins.flatMap fun p=>[qr (mv F p.nm).1,qr (mv F p.nm).2]
theorem jO (F:Str->Option (Rat×Rat)):∀pins:List aE,(eA F pins).length=2*pins.length
 | []=>rfl
 | p::ps=>by
  have:=jO F ps
  unfold eA at this ⊢
  rw [aaA,aas,this]
  simp
  omega
theorem DA (F:Str->Option (Rat×Rat))(ps:ν)(p:aE):eA F (ps++[p])=eA F ps++[qr (mv F p.nm).1,qr (mv F p.nm).2]:=by
 unfold eA
 rw [abF]
 simp
def eK (x:Str)(w:Rat×Rat):Str->Option (Rat×Rat):=fun y=>if y=x then some w else none
def f7 (b:aU):Str->Option (Rat×Rat):=fun y=>if y=b.one.nm then some (kH b.one b.other) else if y=b.other.nm then some (kH b.other b.one) else none
def jP (pins:ν)(p:aE):List (List (Int×Int)):=p.ws.map fun w=>eA (eK p.nm w) pins
def cA (pins:ν)(bars:List aU):List (List (Int×Int)):=(pins.flatMap fun p=>jP pins p)++bars.map fun b=>eA (f7 b) pins
structure ip (K:Frag)(H:Hp)(r:Addr)(ls:List Addr)(bS:List (List V))(bQ:List (List (Int×Int))):Prop where
 m9:mq H r ls bS
 num:fg K H bS bQ
 nr:r∉ls
theorem ip.same {H H' :Hp}{r:Addr}{ls:List Addr}{bS:List (List V)}{bQ:List (List (Int×Int))}(h:ip K H r ls bS bQ)(s:au H H'):ip K H' r ls bS bQ:=⟨h.m9.same s,h.num.same s,h.nr⟩
theorem xD {H:Hp}{bS:List (List V)}{bQ:List (List (Int×Int))}{us:η}{qs:π}(h:fg K H bS bQ)(n:c_ K H us qs):fg K H (bS++[us]) (bQ++[qs]):=by
 refine ⟨by simp [h.1],fun i u q' e1 e2=> ?_⟩
 have l:=h.1
 by_cases c:i < bS.length
 ·rw [aat c] at e1
  rw [aat (by omega)] at e2
  exact h.2 i u q' e1 e2
 ·rw [aaJ (by omega)] at e1 e2
  by_cases z:i - bS.length=0
  ·rw [z] at e1
   rw [show i - bQ.length=0 by omega] at e2
   cases e1
   cases e2
   exact n
  ·rw [aae (by simp;omega)] at e1
   cases e1
theorem LS {H:Hp}{ls:List Addr}{bS:List (List V)}{l:Addr}{us:η}(hl:ls.length=bS.length)(h:∀(i:Nat) (l:Addr) (vs:η),ls[i]? =some l->bS[i]? =some vs->H l=some (.lst vs))(e:H l=some (.lst us)):
  ∀(i:Nat) (l' :Addr) (vs:η),(ls++[l])[i]? =some l' ->(bS++[us])[i]? =some vs->H l' =some (.lst vs):=fun i l' vs e1 e2=>by
 by_cases c:i < ls.length
 ·rw [aat c] at e1
  rw [aat (by omega)] at e2
  exact h i l' vs e1 e2
 ·rw [aaJ (by omega)] at e1 e2
  by_cases z:i - ls.length=0
  ·rw [z] at e1
   rw [show i - bS.length=0 by omega] at e2
   cases e1
   cases e2
   exact e
  ·rw [aae (by simp;omega)] at e1
   cases e1
theorem ip.push {H:Hp}{r l:Addr}{ls:List Addr}{bS:List (List V)}{bQ:List (List (Int×Int))}{us:η}{qs:π}(h:ip K H r ls bS bQ)(e:H l=some (.lst us))(ne:l≠r)(n:c_ K H us qs):
  ip K (upd H r (.lst (ls.map V.ref++[.ref l]))) r (ls++[l]) (bS++[us]) (bQ++[qs]):=by
 have st:bg H (upd H r (.lst (ls.map V.ref++[.ref l]))):=.list h.m9.1
 have hm:∀(i:Nat) (l' :Addr) (vs:η),ls[i]? =some l' ->bS[i]? =some vs->(upd H r (.lst (ls.map V.ref++[.ref l]))) l' =some (.lst vs):=fun i l' vs e1 e2=>by
  rw [ao (fun z:l' =r=>h.nr (by rw [<- z];exact ir e1))]
  exact h.m9.2.2 i l' vs e1 e2
 refine ⟨⟨by rw [ah,aaK];rfl,by simp [h.m9.2.1],LS h.m9.2.1 hm (by rw [ao ne];exact e)⟩,?_,?_⟩
 ·exact xD ⟨h.num.1,fun i vs qs e1 e2=>(h.num.2 i vs qs e1 e2).aX st⟩ (n.aX st)
 ·intro z
  rcases aaF.mp z with z | z
  ·exact h.nr z
  ·exact ne (aaw.mp z).symm
inductive iK (K:Frag)(C:Addr)(vs:η)(H:Hp)(Q:VK)(E_:XK):Prop where
 | mk (a d:Addr) (pins:ν) (bars:List aU) (kvs:γ) (F:Str->Option (Rat×Rat)) (_:vs=[.ref a,.ref d]) (_:EE K H C a pins bars) (_:pins.length<=100) (_:H d=some (.dK kvs)) (_:Rf K H kvs F) (_:∀(l:Addr) (us:η) (H' :Hp),au H H' ->H l=none->H' l=some (.lst us)->c_ K H' us (eA F pins)->Q (.ref l) H'):iK K C vs H Q E_
theorem iL (pins:ν):((pins.map fun p=>(p.nm,mY p.sp)).map (·.1))=pins.map (·.nm):=by rw [aay];rfl
theorem IP:aD ["F","draws","row","pin"] ["F","draws"] (ag BE):=sq
theorem Ui {C aM:Addr}(hM:∀H:Hp,ff K H (.ref aM) (0,0))(PX:mg "NO_MOVE"=some (.ref aM))(D:Def K mg "pair_row" BE ["F","draws"])(MP:bx P w K mg base (aY P w) 1 C "pins" ["self"] (gL K C)):Fn P w K mg base (aY P w) 2 "pair_row" ["F","draws"] (iK K C):=by
 refine D.ok IP (fun vs H Q E h=> ?_) (fun f bE A outer s H vs Q E hr h=> ?_)
 ·obtain ⟨a,d,pins,bars,kvs,F,rfl,_⟩:=h
  rfl
 obtain ⟨a,d,pins,bars,kvs,F,rfl,R,lp,hd,hP,q⟩:=h
 refine ⟨_,(ae (aF (i:=2) IP.nd rfl (aai rfl) (dk aa))
  (ae (bD PassesOwn.never rfl (bu (d0 (k:=1) (pv 0) hr.mo (pY P w))) (aC (i:=3) IP.nd rfl (aai rfl)) (aj (bf (i0 PySem.F.plainAttrs_list PySem.F.slot_list_extend PySem.F.type_list_extend Lz (pv 2) (ar (G' (bR hr) (pv 1) (pv 3) (ju (v:=.ref aM) rfl PX rfl) ⟨rfl,rfl,rfl,rfl⟩) aa)))))
  (aj (aI (pv 2))))),?_⟩
 refine ⟨(by show 0<=sizeLine;decide),?_⟩
 intro l nl;generalize eX:upd _ l _=H1;have ⟨s1,el⟩:=nw nl eX;clear eX
 have R1:=R.same s1
 obtain ⟨dx,pP,pW,pB,kP,kW,kB,F1,W1⟩:=R1.ex
 refine ⟨_,rfl,a,C,dx,_,_,_,rfl,F1.obj,rfl,MP,a,dx,pP,pW,pB,_,_,kP,kW,kB,rfl,F1,fun lp H2 s2 wG qv=> ?_⟩
 rw [iL] at qv
 have yN:=s1.trans s2
 have PY:lp≠l:=fun z=>by rw [z,el] at wG;cases wG
 refine ⟨lp,rfl,⟨_,a8.of qv⟩,bO (K:=K) (a:=lp) (xs:=(pins.map (·.nm)).map V.str) (fun i σ H' =>∃(o3:Option V) (us:η),σ=[some (.ref a),some (.ref d),some (.ref l),o3]/\au H H' /\H' lp=some (.lst ((pins.map (·.nm)).map V.str))/\H' l=some (.lst us)/\c_ K H' us (eA F (pins.take i))) ⟨none,[],rfl,yN,qv,s2 _ _ el,⟨rfl,fun i u q e=>by simp at e⟩⟩ (fun i σ H' _ h=>by
   obtain ⟨_,_,_,_,h,_⟩:=h
   exact a8.of h) ?_ ?_⟩
 ·rintro i z σ H4 hi ⟨o3,us,rfl,s4,l4,e4,n4⟩
  rw [Wp,Wp] at hi
  obtain ⟨x,hx,rfl⟩:=aal.mp hi
  obtain ⟨p,hp,rfl⟩:=aal.mp hx
  have il:i < pins.length:=(be.mp hp).1
  have d4:=s4 _ _ hd
  have g1:ff K H4 ((bB kvs (.inr p.nm)).getD (.ref aM)) (mv F p.nm):=(hP.same s4).aax (hM H4)
  obtain ⟨b,u1,u2,eb,hb,h1,h2⟩:=g1
  have lu:us.length<=200:=by
   have:=n4.1
   rw [jO,aaW] at this
   omega
  refine ⟨_,rfl,.inl ⟨rfl,_,a8.of e4⟩,_,rfl,d,rfl,.inl ⟨_,.inl d4⟩,_,rfl,_,d5.k (k:=.inr p.nm) d4,l,b,us,[u1,u2],rfl,by rw [eb],e4,hb,by simp;omega,?_⟩
  have st:bg H4 (upd H4 l (.lst (us++[u1,u2]))):=.list e4
  refine ⟨_,us++[u1,u2],rfl,fun c o z=> ?_,?_,ah,?_⟩
  ·rw [ao (aq z nl)]
   exact s4 _ _ z
  ·rw [ao PY]
   exact l4
  ·rw [take_snoc hp,DA]
   have a1:=c_.snoc (K:=K) (n4.aX st) (f'.aX h1 st)
   have a2:=c_.snoc (K:=K) a1 (f'.aX h2 st)
   simpa using a2
 ·rintro σ H4 ⟨o3,us,rfl,s4,l4,e4,n4⟩
  rw [aaa,aaa,aa5] at n4
  exact ⟨_,rfl,q l us H4 s4 nl e4 n4⟩
inductive oM (K:Frag)(C:Addr)(vs:η)(H:Hp)(Q:VK)(E_:XK):Prop where
 | mk (a:Addr) (pins:ν) (bars:List aU) (b:aU) (_:vs=[.ref a,.str b.one.nm,.str b.other.nm]) (_:EE K H C a pins bars) (_:dz pins bars) (_:b.one∈pins) (_:b.other∈pins) (_:b.one.nm≠b.other.nm) (_:∀(l:Addr) (us:η) (H' :Hp),au H H' ->H l=none->H' l=some (.lst us)->c_ K H' us (eA (f7 b) pins)->Q (.ref l) H'):oM K C vs H Q E_
theorem PZ (k:Key)(v:V):bX [] [(k,v)]=[(k,v)]:=rfl
theorem P0 {k j:Key}(v u:V)(h:k≠j):bX [] [(k,v),(j,u)]=[(k,v),(j,u)]:=by
 show putK [(k,v)] j u=_
 rw [cK]
 ·rfl
 ·rw [bC h]
  rfl
theorem Uj:aD ["F","one","other"] ["F","one","other"] (ag BF):=sq
theorem Uk {C:Addr}(D:Def K mg "bar_row" BF ["F","one","other"])(Ul:Fn P w K mg base (aY P w) 36 "arm_between" ["F","one","other"] (IM K C))(P1:Fn P w K mg base (aY P w) 2 "pair_row" ["F","draws"] (iK K C)):Fn P w K mg base (aY P w) 37 "bar_row" ["F","one","other"] (oM K C):=by
 refine D.ok Uj (fun vs H Q E h=> ?_) (fun f bE A outer s H vs Q E hr h=> ?_)
 ·obtain ⟨a,pins,bars,b,rfl,_⟩:=h
  rfl
 obtain ⟨a,pins,bars,b,rfl,R,g,m1,m2,ne,q⟩:=h
 refine ⟨_,(aj (aI (aA P1 hr.mo pX (ar (pv 0) (ar (yu (om (pv 1) (aA Ul hr.mo pX (ar (pv 0) (ar (pv 1) (ar (pv 2) aa)))) (om (pv 2) (aA Ul hr.mo pX (ar (pv 0) (ar (pv 2) (ar (pv 1) aa)))) yt)) rfl rfl (aiQ _ _) (by decide)) aa))))),?_⟩
 refine ⟨_,rfl,fun d nd=> ?_⟩
 have s1:=aG nd (.dK [])
 have e1:(upd H d (.dK [])) d=some (.dK []):=ah
 generalize upd H d (.dK [])=H1 at s1 e1 ⊢
 refine ⟨_,rfl,_,rfl,_,rfl,_,rfl,a,pins,bars,b.one,b.other,rfl,R.same s1,g,m1,m2,fun v1 H2 s2 h2=> ?_⟩
 refine ⟨_,rfl,_,rfl,_,rfl,_,rfl,a,pins,bars,b.other,b.one,rfl,(R.same s1).same s2,g,m2,m1,fun v2 H3 s3 h3=> ?_⟩
 have e3:=s3 _ _ (s2 _ _ e1)
 refine ⟨e3,[(.inr b.one.nm,v1),(.inr b.other.nm,v2)],rfl,(by show 2<=15;decide),?_⟩
 rw [P0 _ _ (fun z=>ne (aba z))]
 have st:bg H3 (upd H3 d (.dK [(.inr b.one.nm,v1),(.inr b.other.nm,v2)])):=.dict e3
 have e4:(upd H3 d (.dK [(.inr b.one.nm,v1),(.inr b.other.nm,v2)])) d=some (.dK [(.inr b.one.nm,v1),(.inr b.other.nm,v2)]):=ah
 have s4:au H (upd H3 d (.dK [(.inr b.one.nm,v1),(.inr b.other.nm,v2)])):=fun c o z=>by
  rw [ao (aq z nd)]
  exact s3 _ _ (s2 _ _ (s1 _ _ z))
 generalize upd H3 d (.dK [(.inr b.one.nm,v1),(.inr b.other.nm,v2)])=H4 at st e4 s4 ⊢
 refine ⟨a,d,pins,bars,_,f7 b,rfl,R.same s4,aaf g.lp (by decide),e4,fun x=> ?_,fun l us H5 s5 n5 e5 nm=>q l us H5 (s4.trans s5) (s4.free n5) e5 nm⟩
 by_cases c1:x=b.one.nm
 ·subst c1
  exact .inr ⟨v1,kH b.one b.other,bJ rfl,by unfold f7;rw [if_pos rfl],(h2.same s3).aX st⟩
 ·by_cases c2:x=b.other.nm
  ·subst c2
   exact .inr ⟨v2,kH b.other b.one,by rw [bC (fun z=>c1 (aba z).symm),bJ rfl],by unfold f7;rw [if_neg c1,if_pos rfl],h3.aX st⟩
  ·exact .inl ⟨by rw [bC (fun z=>c1 (aba z).symm),bC (fun z=>c2 (aba z).symm)];rfl,by unfold f7;rw [if_neg c1,if_neg c2]⟩
inductive gQ (K:Frag)(C:Addr)(vs:η)(H:Hp)(Q:VK)(E_:XK):Prop where
 | mk (a:Addr) (pins:ν) (bars:List aU) (_:vs=[.ref a]) (_:EE K H C a pins bars) (_:dz pins bars) (_:∀(r:Addr) (ls:List Addr) (bS:List (List V)) (H' :Hp),au H H' ->H r=none->ip K H' r ls bS (cA pins bars)->Q (.ref r) H'):gQ K C vs H Q E_
theorem m_ (bars:List aU):((bars.map fun b=>(b.nm,b.one.nm,b.other.nm)).map (·.1))=bars.map (·.nm):=by rw [aay];rfl
theorem iq (pins:ν)(h:∀p∈pins,p.ws.length<=2):(pins.flatMap fun p=>p.ws).length<=2*pins.length:=by
 induction pins with
 | nil=>simp
 | cons p ps ih=>
  have h1:=h p aaq
  have h2:=ih fun q hq=>h q (aag _ hq)
  rw [aaA,aas,aaY]
  omega
theorem iu (all pins:ν):(pins.flatMap fun p=>jP all p).length=(pins.flatMap fun p=>p.ws).length:=by
 induction pins with
 | nil=>rfl
 | cons p ps ih=>
  rw [aaA,aaA,aas,aas,ih]
  unfold jP
  rw [aaa]
theorem gx (pins:ν)(bars:List aU):(cA pins bars).length=(pins.flatMap fun p=>p.ws).length+bars.length:=by
 unfold cA
 rw [aas,iu,aaa]
theorem rJ:aD ["F","rows","pin","way","bar","two"] ["F"] (ag BG):=sq
theorem Um {C:Addr}(D:Def K mg "draw_rows" BG ["F"])(MP:bx P w K mg base (aY P w) 1 C "pins" ["self"] (gL K C))(MW:bx P w K mg base (aY P w) 2 C "ways" ["self","pin"] (oK K C))(MB:bx P w K mg base (aY P w) 1 C "bars" ["self"] (jh K C))(ME:bx P w K mg base (aY P w) 1 C "ends" ["self","bar"] (sV K C))
  (P1:Fn P w K mg base (aY P w) 2 "pair_row" ["F","draws"] (iK K C)) (aa1:Fn P w K mg base (aY P w) 37 "bar_row" ["F","one","other"] (oM K C)):Fn P w K mg base (aY P w) 38 "draw_rows" ["F"] (gQ K C):=by
 refine D.ok rJ (fun vs H Q E h=> ?_) (fun f bE A outer s H vs Q E hr h=> ?_)
 ·obtain ⟨a,pins,bars,rfl,_⟩:=h
  rfl
 obtain ⟨a,pins,bars,rfl,R,g,q⟩:=h
 refine ⟨_,(ae (aF (i:=1) rJ.nd rfl (aai rfl) (dk aa))
  (ae (bD PassesOwn.never rfl (bu (d0 (k:=1) (pv 0) hr.mo (pY P w))) (aC (i:=2) rJ.nd rfl (aai rfl)) (aj (bD PassesOwn.never rfl (bu (cF (k:=2) (pv 0) hr.mo (pY P w) (ar (pv 2) aa))) (aC (i:=3) rJ.nd rfl (aai rfl)) (aj (bf (i0 PySem.F.plainAttrs_list PySem.F.slot_list_append PySem.F.type_list_append c7 (pv 1) (ar (aA P1 hr.mo (pY P w) (ar (pv 0) (ar (yu (om (pv 2) (pv 3) yt) rfl rfl (aiQ _ _) (by decide)) aa))) aa)))))))
  (ae (bD PassesOwn.never rfl (bu (d0 (k:=1) (pv 0) hr.mo (pY P w))) (aC (i:=4) rJ.nd rfl (aai rfl)) (ae (aF (i:=5) rJ.nd rfl (aai rfl) (cF (k:=1) (pv 0) hr.mo (pY P w) (ar (pv 4) aa)))
   (aj (bf (i0 PySem.F.plainAttrs_list PySem.F.slot_list_append PySem.F.type_list_append c7 (pv 1) (ar (aA aa1 hr.mo (pY P w) (ar (pv 0) (ar (aL (pv 5)) (ar (aL (pv 5)) aa)))) aa))))))
  (aj (aI (pv 1)))))),?_⟩
 refine ⟨(by show 0<=sizeLine;decide),?_⟩
 intro r nr;generalize eX:upd _ r _=H1;have ⟨s1,er⟩:=nw nr eX;clear eX
 have big:(40:Nat)<=sizeLine:=by decide
 have wl:=iq pins g.lw
 have gl:=g.lp
 have R0:ip K H1 r [] [] []:=⟨⟨er,rfl,fun i l vs e=>by simp at e⟩,⟨rfl,fun i vs qs e=>by simp at e⟩,by simp⟩
 have R1:=R.same s1
 obtain ⟨dx,pP,pW,pB,kP,kW,kB,F1,W1⟩:=R1.ex
 refine ⟨_,rfl,a,C,dx,_,_,_,rfl,F1.obj,rfl,MP,a,dx,pP,pW,pB,_,_,kP,kW,kB,rfl,F1,fun lp H2 s2 wG qv=> ?_⟩
 rw [iL] at qv
 have yN:=s1.trans s2
 have PY:lp≠r:=fun z=>by rw [z,er] at wG;cases wG
 refine ⟨lp,rfl,⟨_,a8.of qv⟩,bO (K:=K) (a:=lp) (xs:=(pins.map (·.nm)).map V.str) (fun i σ H' =>∃(o2 o3:Option V) (ls:List Addr) (bS:List (List V)),σ=[some (.ref a),some (.ref r),o2,o3,none,none]/\au H H' /\H' lp=some (.lst ((pins.map (·.nm)).map V.str))/\ip K H' r ls bS ((pins.take i).flatMap fun p=>jP pins p)) ⟨none,none,[],[],rfl,yN,qv,R0.same s2⟩ (fun i σ H' _ h=>by
   obtain ⟨_,_,_,_,_,_,h,_⟩:=h
   exact a8.of h) ?_ ?_⟩
 ·rintro i z σ H4 hi ⟨o2,o3,ls,bS,rfl,s4,l4,RR⟩
  rw [Wp,Wp] at hi
  obtain ⟨x,hx,rfl⟩:=aal.mp hi
  obtain ⟨p,hp,rfl⟩:=aal.mp hx
  have mp:p∈pins:=ir hp
  have R4:=R.same s4
  obtain ⟨dx,pP,pW,pB,kP,kW,kB,F4,W4⟩:=R4.ex
  have mpn:p.nm∈(pins.map fun p=>(p.nm,mY p.sp)).map (·.1):=by rw [iL];exact aab.mpr ⟨p,mp,rfl⟩
  refine ⟨_,rfl,a,C,dx,_,_,_,rfl,F4.obj,rfl,MW,_,rfl,a,dx,pP,pW,pB,_,_,kP,kW,kB,_,p.nm,p.ws,rfl,F4,W4,NS g.np,aab.mpr ⟨p,mp,rfl⟩,mpn,fun m us H5 s5 n5 e5 p5=> ?_⟩
  have lu:us.length=p.ws.length:=Paired.length p5
  have LU:=s4.trans s5
  have mr:m≠r:=fun z=>by rw [z,RR.m9.1] at n5;cases n5
  refine ⟨m,rfl,⟨_,a8.of e5⟩,bO (K:=K) (a:=m) (xs:=us) (fun j σ H' =>∃(o3:Option V) (ls:List Addr) (bS:List (List V)),σ=[some (.ref a),some (.ref r),some (.str p.nm),o3,none,none]/\au H H' /\H' lp=some (.lst ((pins.map (·.nm)).map V.str))/\H' m=some (.lst us)/\g_ K H' us p.ws/\ip K H' r ls bS (((pins.take i).flatMap fun p=>jP pins p)++(p.ws.take j).map fun w=>eA (eK p.nm w) pins)) ⟨o3,ls,bS,rfl,LU,s5 _ _ l4,e5,p5,by simpa using RR.same s5⟩ (fun j σ H' _ h=>by
    obtain ⟨_,_,_,_,_,_,h,_⟩:=h
    exact a8.of h) ?_ ?_⟩
  ·rintro j u σ H6 hu ⟨o3,ls,bS,rfl,s6,l6,e6,p6,vH⟩
   obtain ⟨w,ew,hw⟩:=aH p6 hu
   have jl:=(be.mp hu).1
   refine ⟨_,rfl,.inl ⟨rfl,_,a8.of vH.m9.1⟩,_,rfl,fun d nd=> ?_⟩
   have t1:=aG nd (.dK [])
   have d1:(upd H6 d (.dK [])) d=some (.dK []):=ah
   generalize upd H6 d (.dK [])=H7 at t1 d1 ⊢
   refine ⟨_,rfl,_,rfl,d1,[(.inr p.nm,u)],rfl,(by show 1<=15;decide),?_⟩
   rw [PZ]
   have st:bg H7 (upd H7 d (.dK [(.inr p.nm,u)])):=.dict d1
   have d8:(upd H7 d (.dK [(.inr p.nm,u)])) d=some (.dK [(.inr p.nm,u)]):=ah
   have t8:au H6 (upd H7 d (.dK [(.inr p.nm,u)])):=fun c o z=>by
    rw [ao (aq z nd)]
    exact t1 _ _ z
   have Y3:=(hw.same t1).aX st
   generalize upd H7 d (.dK [(.inr p.nm,u)])=H8 at d8 t8 Y3 ⊢
   have s8:=s6.trans t8
   refine ⟨a,d,pins,bars,_,eK p.nm w,rfl,R.same s8,aaf g.lp (by decide),d8,fun x=> ?_,fun l iW H9 t9 n9 e9 nm=> ?_⟩
   ·by_cases c1:x=p.nm
    ·subst c1
     exact .inr ⟨u,w,bJ rfl,by unfold eK;rw [if_pos rfl],Y3⟩
    ·exact .inl ⟨by rw [bC (fun z=>c1 (aba z).symm)];rfl,by unfold eK;rw [if_neg c1]⟩
   have t69:=t8.trans t9
   have Rm:=vH.same t69
   have lr:l≠r:=fun z=>by rw [z,t8 _ _ vH.m9.1] at n9;cases n9
   have lss:ls.length<=18:=by
    have h1:=vH.m9.2.1
    have h2:=vH.num.1
    rw [aas,aaa,aaW,iu] at h2
    have h3:((pins.take i).flatMap fun p=>p.ws).length+p.ws.length<=(pins.flatMap fun p=>p.ws).length:=by
     have e:pins=pins.take i++p::pins.drop (i+1):=by
      have lt:=(be.mp hp).1
      have e2:=(be.mp hp).2
      rw [<- e2,aih,acd]
     have e3:=congrArg (fun l:List aE=>(l.flatMap fun p=>p.ws).length) e
     simp only [abF,aaA,aas] at e3
     omega
    omega
   refine ⟨r,_,_,rfl,rfl,Rm.m9.1,(by rw [aaa];omega),?_⟩
   have RN:=Rm.push e9 lr nm
   have tr:bg H9 (upd H9 r (.lst (ls.map V.ref++[.ref l]))):=.list Rm.m9.1
   have kk:∀b o,b≠r->H6 b=some o->(upd H9 r (.lst (ls.map V.ref++[.ref l]))) b=some o:=fun b o n e=>by rw [ao n];exact t69 _ _ e
   refine ⟨_,ls++[l],bS++[iW],rfl,fun b o e=> ?_,kk _ _ PY l6,kk _ _ mr e6,(p6.same t69).aX tr,?_⟩
   ·exact kk _ _ (aq e nr) (s6 _ _ e)
   ·rw [take_snoc ew,aaK, <- ahm]
    exact RN
  ·rintro σ H6 ⟨o3,ls,bS,rfl,s6,l6,e6,p6,vH⟩
   refine ⟨_,_,ls,bS,rfl,s6,l6,?_⟩
   rw [lu,aa5] at vH
   rw [take_snoc hp,abF]
   simpa [jP] using vH
 ·rintro σ H4 ⟨o2,o3,ls,bS,rfl,s4,l4,RR⟩
  rw [aaa,aaa,aa5] at RR
  have R4:=R.same s4
  obtain ⟨dx,pP,pW,pB,kP,kW,kB,F4,W4⟩:=R4.ex
  refine ⟨_,rfl,a,C,dx,_,_,_,rfl,F4.obj,rfl,MB,a,dx,pP,pW,pB,_,_,kP,kW,kB,rfl,F4,fun lb H5 s5 Uo xE=> ?_⟩
  rw [m_] at xE
  have bne:lb≠r:=fun z=>by rw [z,RR.m9.1] at Uo;cases Uo
  refine ⟨lb,rfl,⟨_,a8.of xE⟩,bO (K:=K) (a:=lb) (xs:=(bars.map (·.nm)).map V.str) (fun i σ H' =>∃(o4 o5:Option V) (ls:List Addr) (bS:List (List V)),σ=[some (.ref a),some (.ref r),o2,o3,o4,o5]/\au H H' /\H' lb=some (.lst ((bars.map (·.nm)).map V.str))/\ip K H' r ls bS ((pins.flatMap fun p=>jP pins p)++(bars.take i).map fun b=>eA (f7 b) pins)) ⟨none,none,ls,bS,rfl,s4.trans s5,xE,by simpa using RR.same s5⟩ (fun i σ H' _ h=>by
    obtain ⟨_,_,_,_,_,_,h,_⟩:=h
    exact a8.of h) ?_ ?_⟩
  ·rintro i z σ H6 hi ⟨o4,o5,ls,bS,rfl,s6,l6,vH⟩
   rw [Wp,Wp] at hi
   obtain ⟨x,hx,rfl⟩:=aal.mp hi
   obtain ⟨b,hb,rfl⟩:=aal.mp hx
   have mb:b∈bars:=ir hb
   have il:=(be.mp hb).1
   have R6:=R.same s6
   obtain ⟨dx,pP,pW,pB,kP,kW,kB,F6,W6⟩:=R6.ex
   refine ⟨_,rfl,a,C,dx,_,_,_,rfl,F6.obj,rfl,ME,_,rfl,a,dx,pP,pW,pB,_,_,kP,kW,kB,b.nm,b.one.nm,b.other.nm,rfl,F6,Ue g.nb,aab.mpr ⟨b,mb,rfl⟩,fun p rd=> ?_⟩
   have tp:bN K H6 p [.str b.one.nm,.str b.other.nm]:=.inl rd
   obtain ⟨m1,m2,m3⟩:=g.ends b mb
   refine ⟨_,rfl,.inl ⟨rfl,_,a8.of vH.m9.1⟩,_,rfl,_,rfl,p,_,_,_,rfl,rfl,tp,ib,_,rfl,p,_,_,_,rfl,rfl,tp,iV,?_⟩
   refine ⟨a,pins,bars,b,rfl,R6,g,m1,m2,m3,fun l iW H9 t9 n9 e9 nm=> ?_⟩
   have Rm:=vH.same t9
   have lr:l≠r:=fun z=>by rw [z,vH.m9.1] at n9;cases n9
   have lss:ls.length<=32:=by
    have h1:=vH.m9.2.1
    have h2:=vH.num.1
    rw [aas,aaa,aaW,iu] at h2
    have:=g.lb
    omega
   refine ⟨r,_,_,rfl,rfl,Rm.m9.1,(by rw [aaa];omega),?_⟩
   have RN:=Rm.push e9 lr nm
   have kk:∀c o,c≠r->H6 c=some o->(upd H9 r (.lst (ls.map V.ref++[.ref l]))) c=some o:=fun c o n e=>by rw [ao n];exact t9 _ _ e
   refine ⟨_,_,ls++[l],bS++[iW],rfl,fun c o e=>kk _ _ (aq e nr) (s6 _ _ e),kk _ _ bne l6,?_⟩
   rw [take_snoc hb,aaK, <- ahm]
   exact RN
  ·rintro σ H6 ⟨o4,o5,ls,bS,rfl,s6,l6,vH⟩
   rw [aaa,aaa,aa5] at vH
   exact ⟨_,rfl,q r ls bS H6 s6 nr vH⟩
theorem IQ {xs:η}{i j:Nat}(h:i<=j)(hj:j<=xs.length):fD xs (some (i:Int)) (some (j:Int))=(xs.drop i).take (j - i):=by
 unfold fD
 rw [HT.mM,HT.mM,ahT hj,ahT (show i<=xs.length by omega)]
theorem gR {α β:Type}{R:α->β->Prop}:∀{l:List α} {m:List β} (n:Nat),Paired R l m->Paired R (l.drop n) (m.drop n)
 | _,_,0,h=>h
 | _,_,_+1,.nil=>.nil
 | _,_,n+1,.cons _ t=>gR n t
theorem jQ {α β:Type}{R:α->β->Prop}:∀{l:List α} {m:List β} (n:Nat),Paired R l m->Paired R (l.take n) (m.take n)
 | _,_,0,_=>.nil
 | _,_,_+1,.nil=>.nil
 | _,_,n+1,.cons h t=>.cons h (jQ n t)
theorem jR:∀(more kvs:γ),((kvs++more).map (·.1)).Nodup->bX kvs more=kvs++more
 | [],kvs,_=>by simp [bX]
 | p::r,kvs,h=>by
  have e:bX kvs (p::r)=bX (putK kvs p.1 p.2) r:=rfl
  have hn:p.1∉kvs.map (·.1):=fun z=>by
   rw [aaK,aac,ahM] at h
   exact h.2.2 p.1 z p.1 aaq rfl
  rw [e,cK _ (cL hn),jR r (kvs++[(p.1,p.2)]) (by rw [ahm];exact h),ahm]
  rfl
theorem yO {R:V->Rat->Prop}:∀{bars:List aU} {ys:η} {rs:List Rat},(bars.map (·.nm)).Nodup->bars.length=rs.length->Paired R ys rs->
  ∃T:Str->Rat,bars.map (fun b=>T b.nm)=rs/\(((bars.map fun b=>(aa6 b.nm:Key)).zip ys).map (·.1))=bars.map (fun b=>(aa6 b.nm:Key))/\∀b∈bars,∃v,bB ((bars.map fun b=>(aa6 b.nm:Key)).zip ys) (.inr b.nm)=some v/\R v (T b.nm)
 | [],_,[],_,_,.nil=>⟨fun _=>0,rfl,rfl,by simp⟩
 | _::_,[],_,_,hl,.nil=>by simp at hl
 | b::bs,y::ys,r::rs,nd,hl,.cons h t=>by
  rw [aac,aaU] at nd
  obtain ⟨T,h1,h2,h3⟩:=yO nd.2 (by simpa using hl) t
  have ne:∀c∈bs,c.nm≠b.nm:=fun c hc z=>nd.1 (z▸aab.mpr ⟨c,hc,rfl⟩)
  obtain ⟨T',t1,t2⟩:∃T' :Str->Rat,T' b.nm=r/\∀x,x≠b.nm->T' x=T x:=⟨fun x=>if x=b.nm then r else T x,if_pos rfl,fun x h=>if_neg h⟩
  refine ⟨T',?_,?_,fun c hc=> ?_⟩
  ·have em:bs.map (fun c=>T' c.nm)=rs:=by
    rw [<- h1]
    exact aa9 fun c hc=>t2 _ (ne c hc)
   rw [aac,t1,em]
  ·rw [aac,aiA,aac,h2]
  ·rw [aac,aiA]
   rcases aaN.mp hc with e | hc
   ·subst e
    exact ⟨y,bJ rfl,by rw [t1];exact h⟩
   ·obtain ⟨v,e1,e2⟩:=h3 c hc
    refine ⟨v,?_,by rw [t2 _ (ne c hc)];exact e2⟩
    rw [bC (fun z=>ne c hc (aba z).symm)]
    exact e1
def av (pins:ν):Nat:=(pins.flatMap fun p=>p.ws).length
theorem oN (ps:ν)(p:aE):av (ps++[p])=av ps+p.ws.length:=by
 unfold av
 rw [abF,aas]
 simp
theorem xF {pins:ν}{i:Nat}{p:aE}(h:pins[i]? =some p):av (pins.take i)+p.ws.length<=av pins:=by
 have e:pins=pins.take i++p::pins.drop (i+1):=by
  have lt:=(be.mp h).1
  have e2:=(be.mp h).2
  rw [<- e2,aih,acd]
 have e3:=congrArg (fun l:List aE=>(l.flatMap fun p=>p.ws).length) e
 simp only [abF,aaA,aas] at e3
 unfold av
 omega
structure PPR (K:Frag)(H H' :Hp)(pins:ν)(bars:List aU)(dT dU:Addr)(kT kU:γ)(T:Str->Rat)(U:Str->List Rat)(L:Str->Addr):Prop where
 nT:H dT=none
 nU:H dU=none
 ne:dT≠dU
 hT:H' dT=some (.dK kT)
 hU:H' dU=some (.dK kU)
 aq4:kT.map (·.1)=bars.map (fun b=>(aa6 b.nm:Key))
 aq5:kU.map (·.1)=pins.map (fun p=>(aa6 p.nm:Key))
 tT:∀b∈bars,∃v,bB kT (.inr b.nm)=some v/\f' K H' v (T b.nm)
 tU:∀p∈pins,∃vs,bB kU (.inr p.nm)=some (.ref (L p.nm))/\H (L p.nm)=none/\H' (L p.nm)=some (.lst vs)/\Paired (f' K H') vs (U p.nm)
 lU:∀p∈pins,(U p.nm).length=p.ws.length
 inj:∀p∈pins,∀q∈pins,L p.nm=L q.nm->p.nm=q.nm
inductive P2 (K:Frag)(C:Addr)(vs:η)(H:Hp)(Q:VK)(E_:XK):Prop where
 | mk (a nl:Addr) (pins:ν) (bars:List aU) (us:η) (rs:List Rat) (_:vs=[.ref a,.ref nl]) (_:EE K H C a pins bars) (_:dz pins bars) (_:H nl=some (.lst us)) (_:Paired (f' K H) us rs) (_:rs.length=av pins+bars.length) (_:∀(T:Str->Rat) (U:Str->List Rat) (L:Str->Addr) (p dT dU:Addr) (kT kU:γ) (H' :Hp),au H H' ->rs=(pins.flatMap fun p=>U p.nm)++bars.map (fun b=>T b.nm)->H' p=some (.tup [.ref dT,.ref dU])->PPR K H H' pins bars dT dU kT kU T U L->Q (.ref p) H'):P2 K C vs H Q E_
theorem xG {ps:ν}{U W:Str->List Rat}(h:∀p∈ps,U p.nm=W p.nm):(ps.flatMap fun p=>U p.nm)=ps.flatMap fun p=>W p.nm:=by
 induction ps with
 | nil=>rfl
 | cons p ps ih=>
  rw [aaA,aaA,h p aaq,ih fun q hq=>h q (aag _ hq)]
theorem oO:aD ["F","numbers","pushes","at","pin","behind","pulls"] ["F","numbers"] (ag BH):=sq
theorem Up {C:Addr}(D:Def K mg "pulls_and_pushes" BH ["F","numbers"])(ba:mg "len"=none)(gS:mg "dict"=none)(jK:mg "zip"=none)(MP:bx P w K mg base (aY P w) 1 C "pins" ["self"] (gL K C))(MW:bx P w K mg base (aY P w) 2 C "ways" ["self","pin"] (oK K C))(MB:bx P w K mg base (aY P w) 1 C "bars" ["self"] (jh K C)):
  Fn P w K mg base (aY P w) 3 "pulls_and_pushes" ["F","numbers"] (P2 K C):=by
 refine D.ok oO (fun vs H Q E h=> ?_) (fun f bE A outer s H vs Q E hr h=> ?_)
 ·obtain ⟨a,nl,pins,bars,us,rs,rfl,_⟩:=h
  rfl
 obtain ⟨a,nl,pins,bars,us,rs,rfl,R,g,hn,hu,hl,q⟩:=h
 have lu:us.length=rs.length:=Paired.length hu
 have wl:av pins<=2*pins.length:=iq pins g.lw
 have gl:=g.lp
 have gb:=g.lb
 refine ⟨_,(ae (aF (i:=2) oO.nd rfl (aai rfl) dy)
  (ae (aF (i:=3) oO.nd rfl (aai rfl) ak)
  (ae (bD PassesOwn.never rfl (bu (d0 (k:=1) (pv 0) hr.mo (pY P w))) (aC (i:=4) oO.nd rfl (aai rfl)) (ae (aF (i:=5) oO.nd rfl (aai rfl) (aK cz (pv 3) (aT aJ rfl ba cf (ar (cF (k:=2) (pv 0) hr.mo (pY P w) (ar (pv 4) aa)) aa))))
   (ae (d6 (bR hr) (pv 2) (pv 4) (dY jy (pv 1) (dB (pv 3)) (dB (pv 5))) rfl)
   (aj (aF (i:=3) oO.nd rfl (aai rfl) (pv 5))))))
  (ae (aF (i:=6) oO.nd rfl (aai rfl) (HU rfl rfl gS rfl jK (ar (d0 (k:=1) (pv 0) hr.mo (pY P w)) (ar (dY jy (pv 1) (dB (pv 3)) iB) aa))))
  (aj (aI (a9 (ar (pv 6) (ar (pv 2) aa))))))))),?_⟩
 intro dU nU
 have s1:=aG nU (.dK [])
 have e1:(upd H dU (.dK [])) dU=some (.dK []):=ah
 generalize upd H dU (.dK [])=H1 at s1 e1 ⊢
 have R1:=R.same s1
 obtain ⟨dx,pP,pW,pB,kP,kW,kB,F1,W1⟩:=R1.ex
 refine ⟨_,rfl,a,C,dx,_,_,_,rfl,F1.obj,rfl,MP,a,dx,pP,pW,pB,_,_,kP,kW,kB,rfl,F1,fun lp H2 s2 wG qv=> ?_⟩
 rw [iL] at qv
 have yN:=s1.trans s2
 have PY:lp≠dU:=fun z=>by rw [z,e1] at wG;cases wG
 refine ⟨lp,rfl,⟨_,a8.of qv⟩,bO (K:=K) (a:=lp) (xs:=(pins.map (·.nm)).map V.str) (fun i σ H' =>∃(o4 o5:Option V) (kU:γ) (U:Str->List Rat) (L:Str->Addr),σ=[some (.ref a),some (.ref nl),some (.ref dU),some (.int (av (pins.take i):Int)),o4,o5,none]/\au H H' /\H' lp=some (.lst ((pins.map (·.nm)).map V.str))/\H' dU=some (.dK kU)/\kU.map (·.1)=(pins.take i).map (fun p=>(aa6 p.nm:Key))/\((pins.take i).flatMap fun p=>U p.nm)=rs.take (av (pins.take i))/\
   (∀p∈pins.take i,∃vs,bB kU (.inr p.nm)=some (.ref (L p.nm))/\H (L p.nm)=none/\H' (L p.nm)=some (.lst vs)/\Paired (f' K H') vs (U p.nm))/\(∀p∈pins.take i,(U p.nm).length=p.ws.length)/\(∀p∈pins.take i,∀q∈pins.take i,L p.nm=L q.nm->p.nm=q.nm))
   ⟨none,none,[],fun _=>[],fun _=>0,rfl,yN,qv,s2 _ _ e1,rfl,rfl,by simp,by simp,by simp⟩ (fun i σ H' _ h=>by
   obtain ⟨_,_,_,_,_,_,_,h,_⟩:=h
   exact a8.of h) ?_ ?_⟩
 ·rintro i z σ H4 hi ⟨o4,o5,kU,U,L,rfl,s4,l4,e4,ks,fl,tU,lU,inj⟩
  rw [Wp,Wp] at hi
  obtain ⟨x,hx,rfl⟩:=aal.mp hi
  obtain ⟨p,hp,rfl⟩:=aal.mp hx
  have mp:p∈pins:=ir hp
  have il:i < pins.length:=(be.mp hp).1
  have R4:=R.same s4
  obtain ⟨dx,pP,pW,pB,kP,kW,kB,F4,W4⟩:=R4.ex
  have mpn:p.nm∈(pins.map fun p=>(p.nm,mY p.sp)).map (·.1):=by rw [iL];exact aab.mpr ⟨p,mp,rfl⟩
  refine ⟨_,rfl,_,rfl,a,C,dx,_,_,_,rfl,F4.obj,rfl,MW,_,rfl,a,dx,pP,pW,pB,_,_,kP,kW,kB,_,p.nm,p.ws,rfl,F4,W4,NS g.np,aab.mpr ⟨p,mp,rfl⟩,mpn,fun m vs H5 s5 n5 e5 p5=> ?_⟩
  have lv:vs.length=p.ws.length:=Paired.length p5
  refine ⟨m,_,rfl,.inl (a8.of e5),_,_,rfl,rfl,?_⟩
  have tk:=take_snoc hp
  have wn:av (pins.take (i+1))=av (pins.take i)+p.ws.length:=by rw [tk,oN]
  have wt:=xF hp
  have eb:(av (pins.take i):Int)+((vs.length:Nat):Int)=((av (pins.take (i+1)):Nat):Int):=by rw [wn,lv];omega
  have LV:=s4.trans s5
  have Y4:=LV _ _ hn
  dsimp only
  rw [eb]
  refine ⟨_,rfl,_,rfl,_,rfl,_,rfl,_,rfl,nl,_,rfl,a8.of Y4,?_⟩
  rw [IQ (by omega) (by omega)]
  intro m2 n6;generalize eX:upd _ m2 _=H6;have ⟨s6,e6⟩:=nw n6 eX;clear eX
  have Uq:=s6 _ _ (s5 _ _ e4)
  have lk:kU.length<=9:=by
   have z:=congrArg ab8 ks
   rw [aaa,aaa,aaW] at z
   omega
  refine ⟨_,rfl,_,rfl,dU,_,rfl,iR.k (k:=.inr p.nm) Uq (aar (show kU.length<=1000 by omega) (by decide)),?_⟩
  have fresh:(aa6 p.nm:Key)∉kU.map (·.1):=by
   rw [ks]
   intro z
   obtain ⟨b',iQ,qe⟩:=aab.mp z
   exact gm (nm:=aE.nm) g.np hp iQ (aba qe)
  have pk:putK kU (.inr p.nm) (.ref m2)=kU++[(.inr p.nm,.ref m2)]:=cK _ (cL fresh)
  have t6:bg H6 (upd H6 dU (.dK (putK kU (.inr p.nm) (.ref m2)))):=.dict Uq
  have sY:=s5.trans s6
  have md:m2≠dU:=fun z=>by rw [z,s5 _ _ e4] at n6;cases n6
  have kk:∀b o,b≠dU->H4 b=some o->(upd H6 dU (.dK (putK kU (.inr p.nm) (.ref m2)))) b=some o:=fun b o n e=>by rw [ao n];exact sY _ _ e
  have ne:∀p' ∈pins.take i,p'.nm≠p.nm:=fun p' hG =>gm (nm:=aE.nm) g.np hp hG
  have sZ :∀p' ∈pins.take (i+1),p' ∈pins.take i\/p' =p:=fun p' hG =>by
   rw [tk] at hG
   rcases aaF.mp hG with h | h
   ·exact .inl h
   ·exact .inr (aaw.mp h)
  have hold:∀p' ∈pins.take i,∃o,H4 (L p'.nm)=some o:=fun p' hG =>by
   obtain ⟨vs,_,_,h,_⟩:=tU p' hG
   exact ⟨_,h⟩
  obtain ⟨U',hU1,hU2⟩:∃U' :Str->List Rat,U' p.nm=(rs.drop (av (pins.take i))).take p.ws.length/\∀x,x≠p.nm->U' x=U x:=⟨fun x=>if x=p.nm then (rs.drop (av (pins.take i))).take p.ws.length else U x,if_pos rfl,fun x h=>if_neg h⟩
  obtain ⟨L',Ri,NO⟩:∃L' :Str->Addr,L' p.nm=m2/\∀x,x≠p.nm->L' x=L x:=⟨fun x=>if x=p.nm then m2 else L x,if_pos rfl,fun x h=>if_neg h⟩
  refine ⟨_,rfl,_,_,putK kU (.inr p.nm) (.ref m2),U',L',rfl,fun b o e=> ?_,kk _ _ PY l4,ah,?_,?_,fun p' hG => ?_,fun p' hG => ?_,fun p' hG q' qi => ?_⟩
  ·rw [ao (aq e nU)]
   exact sY _ _ (s4 _ _ e)
  ·rw [pk,aaK,ks,tk,aaK]
   rfl
  ·rw [tk,abF,oN]
   rw [xG (U:=U') (W:=U) fun p' hG =>hU2 _ (ne p' hG),fl]
   simp only [aaA,ai_,ace,hU1]
   rw [List.take_add]
  ·rw [og]
   rcases sZ p' hG with h | h
   ·rw [if_neg (fun z=>ne p' h (aba z)),NO _ (ne p' h),hU2 _ (ne p' h)]
    obtain ⟨dj,h1,h2,h3,h4⟩:=tU p' h
    exact ⟨dj,h1,h2,kk _ _ (fun z=>by rw [z,e4] at h3;cases h3) h3,Paired.bM h4 fun _ _ z=>(z.same sY).aX t6⟩
   ·subst h
    rw [if_pos rfl,Ri,hU1]
    refine ⟨_,rfl,(s4.trans s5).free n6,by rw [ao md];exact e6,?_⟩
    have a1:=jQ (av (pins.take (i+1)) - av (pins.take i)) (gR (av (pins.take i)) hu)
    have a2:av (pins.take (i+1)) - av (pins.take i)=p'.ws.length:=by omega
    rw [a2] at a1 ⊢
    exact Paired.bM a1 fun _ _ z=>((z.same s4).same sY).aX t6
  ·rcases sZ p' hG with h | h
   ·rw [hU2 _ (ne p' h)]
    exact lU p' h
   ·subst h
    rw [hU1,aaW,abp]
    omega
  ·rcases sZ p' hG with h | h <;> rcases sZ q' qi with h' | h'
   ·rw [NO _ (ne p' h),NO _ (ne q' h')]
    exact inj p' h q' h'
   ·subst h'
    rw [NO _ (ne p' h),Ri]
    intro z
    obtain ⟨o,ho⟩:=hold p' h
    rw [z,s5.free n6] at ho
    cases ho
   ·subst h
    rw [NO _ (ne q' h'),Ri]
    intro z
    obtain ⟨o,ho⟩:=hold q' h'
    rw [<- z,s5.free n6] at ho
    cases ho
   ·intro _
    rw [h,h']
 ·rintro σ H4 ⟨o4,o5,kU,U,L,rfl,s4,l4,e4,ks,fl,tU,lU,inj⟩
  rw [aaa,aaa,aa5] at ks fl tU lU inj
  have R4:=R.same s4
  obtain ⟨dx,pP,pW,pB,kP,kW,kB,F4,W4⟩:=R4.ex
  refine ⟨_,rfl,a,C,dx,_,_,_,rfl,F4.obj,rfl,MB,a,dx,pP,pW,pB,_,_,kP,kW,kB,rfl,F4,fun lb H5 s5 Uo xE=> ?_⟩
  rw [m_] at xE
  have LV:=s4.trans s5
  refine ⟨_,rfl,_,rfl,_,rfl,nl,_,rfl,a8.of (LV _ _ hn),?_⟩
  have hw:av pins<=us.length:=by omega
  rw [aaa,aaa,aa5,kG hw]
  intro m2 n6;generalize eX:upd _ m2 _=H6;have ⟨s6,e6⟩:=nw n6 eX;clear eX
  have hp6:Paired (f' K H6) (us.drop (av pins)) (rs.drop (av pins)):=Paired.bM (gR (av pins) hu) fun _ _ z=>(z.same LV).same s6
  obtain ⟨T,h1,h2,h3⟩:=yO (R:=f' K H6) g.nb (by rw [abp];omega) hp6
  have eks:(bars.map (·.nm)).map V.str=(bars.map fun b=>(aa6 b.nm:Key)).map kV:=by
   rw [aay,aay]
   rfl
  rw [eks] at xE
  refine ⟨lb,m2,bars.map fun b=>(aa6 b.nm:Key),us.drop (av pins),rfl,s6 _ _ xE,e6,by rw [aaa];omega,fun dT H7 s7 n7 e7=> ?_⟩
  have ndk:(bars.map fun b=>(aa6 b.nm:Key)).Nodup:=by
   have:=AV g.nb
   rw [aay] at this
   exact this
  rw [jR _ [] (by rw [ahj,h2];exact ndk),ahj] at e7
  refine ⟨_,rfl,_,rfl,(by show 2<=sizeLine;decide),?_⟩
  intro pt n8;generalize eX:upd _ pt _=H8;have ⟨s8,e8⟩:=nw n8 eX;clear eX
  have Rn:=(s5.trans s6).trans (s7.trans s8)
  have s08:=s4.trans Rn
  have er:rs=(pins.flatMap fun p=>U p.nm)++bars.map (fun b=>T b.nm):=by rw [fl,h1,acd]
  refine q T U L pt dT dU _ kU H8 s08 er e8 ⟨(LV.trans s6).free n7,nU,(fun z=>by rw [z,s6 _ _ (s5 _ _ e4)] at n7;cases n7),s8 _ _ e7,Rn _ _ e4,h2,ks,fun b hb=> ?_,fun p hp=> ?_,lU,inj⟩
  ·obtain ⟨v,e1,e2⟩:=h3 b hb
   exact ⟨v,e1,(e2.same s7).same s8⟩
  ·obtain ⟨dj,a1,a2,a3,a4⟩:=tU p hp
   exact ⟨dj,a1,a2,Rn _ _ a3,Paired.bM a4 fun _ _ z=>z.same Rn⟩
inductive oP (K:Frag)(C:Addr)(vs:η)(H:Hp)(Q:VK)(E_:XK):Prop where
 | mk (a nl:Addr) (pins:ν) (bars:List aU) (us:η) (rs:List Rat) (_:vs=[.ref a,.ref nl]) (_:EE K H C a pins bars) (_:dz pins bars) (_:H nl=some (.lst us)) (_:Paired (f' K H) us rs) (_:rs.length=2*pins.length) (_:∀(M:Str->Rat×Rat) (d:Addr) (kM:γ) (H' :Hp),au H H' ->rs=(pins.flatMap fun p=>[(M p.nm).1,(M p.nm).2])->H d=none->H' d=some (.dK kM)->kM.map (·.1)=pins.map (fun p=>(aa6 p.nm:Key))->(∀p∈pins,∃t v1 v2,bB kM (.inr p.nm)=some (.ref t)/\H' t=some (.tup [v1,v2])/\f' K H' v1 (M p.nm).1/\f' K H' v2 (M p.nm).2)->Q (.ref d) H'):oP K C vs H Q E_
theorem vI {ps:ν}{U W:Str->Rat×Rat}(h:∀p∈ps,U p.nm=W p.nm):(ps.flatMap fun p=>[(U p.nm).1,(U p.nm).2])=ps.flatMap fun p=>[(W p.nm).1,(W p.nm).2]:=by
 induction ps with
 | nil=>rfl
 | cons p ps ih=>
  rw [aaA,aaA,h p aaq,ih fun q hq=>h q (aag _ hq)]
theorem yP:aD ["F","numbers","motion","at","pin"] ["F","numbers"] (ag BI):=sq
theorem Ur {C:Addr}(D:Def K mg "motion_from" BI ["F","numbers"])(cg:mg "enumerate"=none)(MP:bx P w K mg base (aY P w) 1 C "pins" ["self"] (gL K C)):
  Fn P w K mg base (aY P w) 2 "motion_from" ["F","numbers"] (oP K C):=by
 refine D.ok yP (fun vs H Q E h=> ?_) (fun f bE A outer s H vs Q E hr h=> ?_)
 ·obtain ⟨a,nl,pins,bars,us,rs,rfl,_⟩:=h
  rfl
 obtain ⟨a,nl,pins,bars,us,rs,rfl,R,g,hn,hu,hl,q⟩:=h
 have lu:us.length=rs.length:=Paired.length hu
 have gl:=g.lp
 refine ⟨_,(ae (aF (i:=2) yP.nd rfl (aai rfl) dy)
  (ae (bD PassesOwn.never rfl (sG rfl cg (ar (d0 (k:=1) (pv 0) hr.mo (pY P w)) aa)) (dF rfl (aS (aC (i:=3) yP.nd rfl (aai rfl)) (aS (aC (i:=4) yP.nd rfl (aai rfl)) b_))) (aj (d6 (bR hr) (pv 2) (pv 4) (a9 (ar (bq bt (pv 1) (aK cu ak (pv 3)) (fun _ _=>rfl)) (ar (bq bt (pv 1) (aK cz (aK cu ak (pv 3)) ak) (fun _ _=>rfl)) aa))) rfl)))
  (aj (aI (pv 2))))),?_⟩
 intro d nd
 have s1:=aG nd (.dK [])
 have e1:(upd H d (.dK [])) d=some (.dK []):=ah
 generalize upd H d (.dK [])=H1 at s1 e1 ⊢
 have R1:=R.same s1
 obtain ⟨dx,pP,pW,pB,kP,kW,kB,F1,W1⟩:=R1.ex
 refine ⟨_,rfl,a,C,dx,_,_,_,rfl,F1.obj,rfl,MP,a,dx,pP,pW,pB,_,_,kP,kW,kB,rfl,F1,fun lp H2 s2 wG qv=> ?_⟩
 rw [iL] at qv
 have yN:=s1.trans s2
 have PY:lp≠d:=fun z=>by rw [z,e1] at wG;cases wG
 refine ⟨lp,rfl,⟨_,a8.of qv⟩,vk (K:=K) (a:=lp) (xs:=(pins.map (·.nm)).map V.str) (fun i σ H' =>∃(o3 o4:Option V) (kM:γ) (M:Str->Rat×Rat),σ=[some (.ref a),some (.ref nl),some (.ref d),o3,o4]/\au H H' /\H' lp=some (.lst ((pins.map (·.nm)).map V.str))/\H' d=some (.dK kM)/\kM.map (·.1)=(pins.take i).map (fun p=>(aa6 p.nm:Key))/\((pins.take i).flatMap fun p=>[(M p.nm).1,(M p.nm).2])=rs.take (2*i)/\
   (∀p∈pins.take i,∃t v1 v2,bB kM (.inr p.nm)=some (.ref t)/\H' t=some (.tup [v1,v2])/\f' K H' v1 (M p.nm).1/\f' K H' v2 (M p.nm).2))
   ⟨none,none,[],fun _=>(0,0),rfl,yN,qv,s2 _ _ e1,rfl,rfl,by simp⟩ (fun i σ H' _ h=>by
   obtain ⟨_,_,_,_,_,_,h,_⟩:=h
   exact a8.of h) ?_ ?_⟩
 ·rintro i z σ H4 p9 hi ⟨o3,o4,kM,M,rfl,s4,l4,e4,ks,fl,tM⟩ n9
  rw [Wp,Wp] at hi
  obtain ⟨x,hx,rfl⟩:=aal.mp hi
  obtain ⟨p,hp,rfl⟩:=aal.mp hx
  have il:i < pins.length:=(be.mp hp).1
  have t9:=aG n9 (.tup [.int (i:Int),.str p.nm])
  have e9:(upd H4 p9 (.tup [.int (i:Int),.str p.nm])) p9=some (.tup [.int (i:Int),.str p.nm]):=ah
  generalize upd H4 p9 (.tup [.int (i:Int),.str p.nm])=H5 at t9 e9 ⊢
  refine ⟨p9,_,rfl,bN.of e9,rfl,_,_,rfl,_,_,rfl,rfl,?_⟩
  have LV:=s4.trans t9
  have Y4:=LV _ _ hn
  have l1:2*i < us.length:=by omega
  have l2:2*i+1 < us.length:=by omega
  have c2:q_ 2 (i:Int):=⟨by decide+kernel,aaf (intBits_le_64 (by omega) (by omega)) (by decide)⟩
  have a1:jr us (2*(i:Int))=some us[2*i]:=by
   have:=cE (xs:=us) (j:=2*i) (gE l1)
   rw [show ((2*i:Nat):Int)=2*(i:Int) by omega] at this
   exact this
  have a2:jr us (2*(i:Int)+1)=some us[2*i+1]:=by
   have:=cE (xs:=us) (j:=2*i+1) (gE l2)
   rw [show ((2*i+1:Nat):Int)=2*(i:Int)+1 by omega] at this
   exact this
  refine ⟨_,rfl,_,rfl,_,_,rfl,rfl,c2,nl,_,_,_,rfl,rfl,a8.of Y4,a1,?_⟩
  refine ⟨_,rfl,_,rfl,_,_,rfl,rfl,c2,_,_,rfl,rfl,nl,_,_,_,rfl,rfl,a8.of Y4,a2,(by show 2<=sizeLine;decide),?_⟩
  intro t n6;generalize eX:upd _ t _=H6;have ⟨s6,e6⟩:=nw n6 eX;clear eX
  have Uq:=s6 _ _ (t9 _ _ e4)
  have lk:kM.length<=9:=by
   have z:=congrArg ab8 ks
   rw [aaa,aaa,aaW] at z
   omega
  refine ⟨_,rfl,_,rfl,d,_,rfl,iR.k (k:=.inr p.nm) Uq (aar (show kM.length<=1000 by omega) (by decide)),?_⟩
  have fresh:(aa6 p.nm:Key)∉kM.map (·.1):=by
   rw [ks]
   intro z
   obtain ⟨b',iQ,qe⟩:=aab.mp z
   exact gm (nm:=aE.nm) g.np hp iQ (aba qe)
  have pk:putK kM (.inr p.nm) (.ref t)=kM++[(.inr p.nm,.ref t)]:=cK _ (cL fresh)
  have t6:bg H6 (upd H6 d (.dK (putK kM (.inr p.nm) (.ref t)))):=.dict Uq
  have sY:=t9.trans s6
  have td:t≠d:=fun z=>by rw [z,t9 _ _ e4] at n6;cases n6
  have kk:∀b o,b≠d->H4 b=some o->(upd H6 d (.dK (putK kM (.inr p.nm) (.ref t)))) b=some o:=fun b o n e=>by rw [ao n];exact sY _ _ e
  have ne:∀p' ∈pins.take i,p'.nm≠p.nm:=fun p' hG =>gm (nm:=aE.nm) g.np hp hG
  have tk:=take_snoc hp
  obtain ⟨r1,er1,hr1⟩:=aH hu (gE l1)
  obtain ⟨r2,er2,hr2⟩:=aH hu (gE l2)
  obtain ⟨M',hM1,hM2⟩:∃M' :Str->Rat×Rat,M' p.nm=(r1,r2)/\∀x,x≠p.nm->M' x=M x:=⟨fun x=>if x=p.nm then (r1,r2) else M x,if_pos rfl,fun x h=>if_neg h⟩
  refine ⟨_,_,putK kM (.inr p.nm) (.ref t),M',rfl,fun b o e=> ?_,kk _ _ PY l4,ah,?_,?_,fun p' hG => ?_⟩
  ·rw [ao (aq e nd)]
   exact sY _ _ (s4 _ _ e)
  ·rw [pk,aaK,ks,tk,aaK]
   rfl
  ·rw [tk,abF,vI (U:=M') (W:=M) fun p' hG =>hM2 _ (ne p' hG),fl]
   simp only [aaA,ai_,ace,hM1]
   rw [show 2*(i+1)=2*i+1+1 by omega,ahI,ahI,er1,er2]
   simp
  ·rw [og]
   rw [tk] at hG
   rcases aaF.mp hG with h | h
   ·rw [if_neg (fun z=>ne p' h (aba z)),hM2 _ (ne p' h)]
    obtain ⟨t',v1,v2,h1,h2,h3,h4⟩:=tM p' h
    exact ⟨t',v1,v2,h1,kk _ _ (fun z=>by rw [z,e4] at h2;cases h2) h2,(h3.same sY).aX t6,(h4.same sY).aX t6⟩
   ·rw [aaw.mp h,if_pos rfl,hM1]
    exact ⟨t,_,_,rfl,by rw [ao td];exact e6,((hr1.same LV).same s6).aX t6,((hr2.same LV).same s6).aX t6⟩
 ·rintro σ H4 ⟨o3,o4,kM,M,rfl,s4,l4,e4,ks,fl,tM⟩
  rw [aaa,aaa] at ks fl tM
  rw [aa5] at ks fl tM
  rw [<- hl,aa5] at fl
  exact ⟨_,rfl,q M d kM H4 s4 fl.symm nd e4 ks tM⟩
def dt (a b:Rat×Rat):Rat:=a.1*b.1+a.2*b.2
def sP (as bs:List Rat):Rat:=(abJ (·*·) as bs).sum
theorem iw (bs:List Rat):sP [] bs=0:=by simp [sP]
theorem ck (a b:Rat)(as bs:List Rat):sP (a::as) (b::bs)=a*b+sP as bs:=by simp [sP]
theorem kI:∀{a c:List Rat} (b d:List Rat),a.length=c.length->sP (a++b) (c++d)=sP a c+sP b d
 | [],[],b,d,_=>by
  rw [ahj,ahj,iw]
  grind
 | x::a,y::c,b,d,h=>by
  rw [aht,aht,ck,ck,kI b d (by simpa using h)]
  grind
 | [],_::_,_,_,h=>by simp at h
 | _::_,[],_,_,h=>by simp at h
theorem yQ:∀(ys cs:π),mf ys cs=sP (ys.map vl) (cs.map vl)
 | [],_=>by simp [mf,sP]
 | _::_,[]=>by simp [mf,sP]
 | y::ys,c::cs=>by rw [AF,aac,aac,ck,yQ ys cs]
theorem yR (F:Str->Option (Rat×Rat))(M:Str->Rat×Rat):∀pins:List aE,sP ((eA F pins).map vl) (pins.flatMap fun p=>[(M p.nm).1,(M p.nm).2])=(pins.map fun p=>dt (mv F p.nm) (M p.nm)).sum
 | []=>by simp [eA,sP]
 | p::ps=>by
  have ih:=yR F M ps
  unfold eA at ih ⊢
  rw [aaA,aaA,aaK,kI _ _ (by simp),ih]
  simp only [aac,ach,fG,ck,iw,ab9]
  unfold dt
  grind
theorem LW {pins:ν}(nd:(pins.map (·.nm)).Nodup){p:aE}(hp:p∈pins){f:Str->Rat}(h:∀q∈pins,q.nm≠p.nm->f q.nm=0):(pins.map fun q=>f q.nm).sum=f p.nm:=by
 induction pins with
 | nil=>simp at hp
 | cons q ps ih=>
  rw [aac,aaU] at nd
  rw [aac,ab9]
  have zero:∀(l:ν),(∀r∈l,f r.nm=0)->(l.map fun q=>f q.nm).sum=0:=fun l hl=>by
   induction l with
   | nil=>simp
   | cons r l ihl=>
    rw [aac,ab9,hl r aaq,ihl fun s hs=>hl s (aag _ hs)]
    grind
  by_cases e:q.nm=p.nm
  ·rw [e,zero ps fun r hr=>h r (aag _ hr) fun z=>nd.1 (by rw [e, <- z];exact aab.mpr ⟨r,hr,rfl⟩)]
   grind
  ·rw [h q aaq e]
   have hG :p∈ps:=by
    rcases aaN.mp hp with z | z
    ·exact absurd (by rw [z]) e
    ·exact z
   rw [ih nd.2 hG fun r hr=>h r (aag _ hr)]
   grind
theorem ji (x:Str)(w:Rat×Rat)(y:Str):mv (eK x w) y=if y=x then w else (0,0):=by
 unfold mv eK
 by_cases e:y=x
 ·rw [if_pos e,if_pos e]
  rfl
 ·rw [if_neg e,if_neg e]
  rfl
theorem jS (m:Rat×Rat):dt (0,0) m=0:=by
 unfold dt
 grind
theorem s_ {pins:ν}(nd:(pins.map (·.nm)).Nodup){p:aE}(hp:p∈pins)(w:Rat×Rat)(M:Str->Rat×Rat):(pins.map fun q=>dt (mv (eK p.nm w) q.nm) (M q.nm)).sum=dt w (M p.nm):=by
 rw [LW nd hp (f:=fun x=>dt (mv (eK p.nm w) x) (M x)) fun q _ e=>by rw [ji,if_neg e];exact jS _]
 rw [ji,if_pos rfl]
theorem sum_add (f g:aE->Rat):∀l:List aE,(l.map fun q=>f q+g q).sum=(l.map f).sum+(l.map g).sum
 | []=>by
  simp only [ach,List.sum_nil]
  grind
 | p::l=>by
  rw [aac,ab9,sum_add f g l,aac,aac,ab9,ab9]
  grind
def IS (M:Str->Rat×Rat)(b:aU):Rat:=dt (kH b.one b.other) ((M b.other.nm).1 - (M b.one.nm).1,(M b.other.nm).2 - (M b.one.nm).2)
theorem P4 (b:aU)(h:b.one.nm≠b.other.nm)(x:Str)(m:Rat×Rat):dt (mv (f7 b) x) m=dt (mv (eK b.one.nm (kH b.one b.other)) x) m+dt (mv (eK b.other.nm (kH b.other b.one)) x) m:=by
 rw [ji,ji]
 unfold mv f7
 by_cases c1:x=b.one.nm
 ·rw [if_pos c1,if_pos c1,if_neg (fun z=>h (c1.symm.trans z)),jS]
  show dt (kH b.one b.other) m=_
  grind
 ·rw [if_neg c1,if_neg c1,jS]
  by_cases c2:x=b.other.nm
  ·rw [if_pos c2,if_pos c2]
   show dt (kH b.other b.one) m=_
   grind
  ·rw [if_neg c2,if_neg c2,jS]
   show dt (0,0) m=_
   rw [jS]
   grind
theorem LX {pins:ν}(nd:(pins.map (·.nm)).Nodup)(b:aU)(h1:b.one∈pins)(h2:b.other∈pins)(h:b.one.nm≠b.other.nm)(M:Str->Rat×Rat):(pins.map fun q=>dt (mv (f7 b) q.nm) (M q.nm)).sum= -(IS M b):=by
 have e:(pins.map fun q=>dt (mv (f7 b) q.nm) (M q.nm))=pins.map fun q=>dt (mv (eK b.one.nm (kH b.one b.other)) q.nm) (M q.nm)+dt (mv (eK b.other.nm (kH b.other b.one)) q.nm) (M q.nm):=aa9 fun q _=>P4 b h _ _
 rw [e,sum_add,s_ nd h1,s_ nd h2]
 unfold IS dt kH
 grind
def ix (bars:List aU)(T:Str->Rat)(U:Str->List Rat)(p:aE)(c:Rat×Rat->Rat):Rat:=sP (U p.nm) (p.ws.map c)+(bars.map fun b=>T b.nm*c (mv (f7 b) p.nm)).sum
theorem yS:∀(as:List Rat) {α:Type} (l:List α),sP as (l.map fun _=>(0:Rat))=0
 | [],_,_=>iw _
 | _::_,_,[]=>by simp [sP]
 | a::as,_,x::l=>by
  rw [aac,ck,yS as l]
  grind
theorem yT {U:Str->List Rat}{c:Rat×Rat->Rat}(c0:c (0,0)=0)(p:aE):∀(ps:ν),(ps.map (·.nm)).Nodup->(∀q∈ps,(U q.nm).length=q.ws.length)->(∀q∈ps,q.nm=p.nm->q=p)->
  sP (ps.flatMap fun q=>U q.nm) (ps.flatMap fun q=>q.ws.map fun w=>c (mv (eK q.nm w) p.nm))=if p.nm∈ps.map (·.nm) then sP (U p.nm) (p.ws.map c) else 0
 | [],_,_,_=>by simp [sP]
 | q::ps,nd,hl,inj=>by
  rw [aac,aaU] at nd
  have ih:=yT c0 p ps nd.2 (fun r hr=>hl r (aag _ hr)) fun r hr=>inj r (aag _ hr)
  rw [aaA,aaA,kI _ _ (by rw [hl q aaq,aaa]),ih,aac]
  by_cases e:q.nm=p.nm
  ·have eq:q=p:=inj q aaq e
   subst eq
   have ec:(q.ws.map fun w=>c (mv (eK q.nm w) q.nm))=q.ws.map c:=aa9 fun w _=>by rw [ji,if_pos rfl]
   rw [if_neg nd.1,if_pos aaq,ec]
   grind
  ·have ec:(q.ws.map fun w=>c (mv (eK q.nm w) p.nm))=q.ws.map fun _=>(0:Rat):=aa9 fun w _=>by rw [ji,if_neg (fun z=>e z.symm)];exact c0
   rw [ec,yS]
   by_cases hm:p.nm∈ps.map (·.nm)
   ·rw [if_pos hm,if_pos (aag _ hm)]
    grind
   ·rw [if_neg hm,if_neg (fun z=>by
     rcases aaN.mp z with z | z
     ·exact e z.symm
     ·exact hm z)]
    grind
theorem IT {α:Type}(f g:α->Rat):∀l:List α,sP (l.map f) (l.map g)=(l.map fun x=>f x*g x).sum
 | []=>by simp [sP]
 | x::l=>by rw [aac,aac,ck,IT f g l,aac,ab9]
theorem LY {pins:ν}{bars:List aU}{T:Str->Rat}{U:Str->List Rat}{L:Str->Option (Rat×Rat)}{c:Rat×Rat->Rat}(c0:c (0,0)=0)(nd:(pins.map (·.nm)).Nodup)(hl:∀q∈pins,(U q.nm).length=q.ws.length){p:aE}(hp:p∈pins)(y:Rat):
  sP ((pins.flatMap fun q=>U q.nm)++bars.map (fun b=>T b.nm)++[y]) (((pins.flatMap fun q=>q.ws.map fun w=>c (mv (eK q.nm w) p.nm))++bars.map fun b=>c (mv (f7 b) p.nm))++[c (mv L p.nm)])=ix bars T U p c+y*c (mv L p.nm):=by
 have l1:(pins.flatMap fun q=>U q.nm).length=(pins.flatMap fun q=>q.ws.map fun w=>c (mv (eK q.nm w) p.nm)).length:=by
  clear hp nd
  induction pins with
  | nil=>rfl
  | cons q ps ih=>rw [aaA,aaA,aas,aas,ih fun r hr=>hl r (aag _ hr),hl q aaq,aaa]
 rw [kI _ _ (by rw [aas,aas,l1,aaa,aaa]),kI _ _ l1,yT c0 p pins nd hl fun q hq e=>Pq (nm:=aE.nm) nd hq hp e,if_pos (aab.mpr ⟨p,hp,rfl⟩),IT,ck,iw]
 unfold ix
 grind
theorem tf (F:Str->Option (Rat×Rat)):∀{pins:ν} {k:Nat} {p:aE},pins[k]? =some p->vl ((eA F pins).getD (2*k) (0,1))=(mv F p.nm).1/\vl ((eA F pins).getD (2*k+1) (0,1))=(mv F p.nm).2
 | q::ps,0,p,h=>by
  cases h
  unfold eA
  rw [aaA]
  exact ⟨fG _,fG _⟩
 | q::ps,k+1,p,h=>by
  have ih:=tf F (pins:=ps) (k:=k) (p:=p) (by simpa using h)
  unfold eA at ih ⊢
  rw [aaA]
  exact ih
theorem DB (pins:ν)(bars:List aU)(L:Str->Option (Rat×Rat)){k:Nat}{p:aE}(h:pins[k]? =some p)(j:Nat)(c:Rat×Rat->Rat)(hj:∀F,vl ((eA F pins).getD j (0,1))=c (mv F p.nm)):
  (fP (cA pins bars++[eA L pins]) j).map vl=((pins.flatMap fun q=>q.ws.map fun w=>c (mv (eK q.nm w) p.nm))++bars.map fun b=>c (mv (f7 b) p.nm))++[c (mv L p.nm)]:=by
 have flat:∀ps:List aE,((ps.flatMap fun q=>jP pins q).map fun qs=>vl (qs.getD j (0,1)))=ps.flatMap fun q=>q.ws.map fun w=>c (mv (eK q.nm w) p.nm):=fun ps=>by
  induction ps with
  | nil=>rfl
  | cons q ps ih=>
   rw [aaA,aaA,aaK,ih]
   congr 1
   unfold jP
   rw [aay]
   exact aa9 fun w _=>hj _
 unfold fP cA
 rw [aay,aaK,aaK,aac,ach]
 congr 1
 ·congr 1
  ·exact flat pins
  ·rw [aay]
   exact aa9 fun b _=>hj _
 ·rw [<- hj]
  rfl
theorem jT {k:Nat}(h:1<=k):Sz k 0:=by
 have:=kC (i:=0) (k:=k) (by simpa using apI k) h
 simpa using this
structure Zb (n:Nat)(r:Rat):Prop where
 top:(qr r).1.natAbs<=2^n
 bot:(qr r).2.natAbs<=2^n
theorem NT {T B:Nat}{q:Int×Int}(h:Sm T B q):q=qr (vl q):=oG h.pos h.low
theorem NU {k:Nat}{r:Rat}(h:Sz k r)(h2:k<=90):Sm 90 90 (qr r):=
 ⟨cX r,kA r,acf (aaD (intBits_le_iff.mp h.top) (aaP (by decide) h2)),acf (aaD (intBits_le_iff.mp h.bot) (aaP (by decide) h2))⟩
theorem yU {F:Str->Option (Rat×Rat)}(h:∀x,Sz 90 (mv F x).1/\Sz 90 (mv F x).2)(pins:ν):∀q∈eA F pins,Sm 90 90 q:=fun q hq=>by
 unfold eA at hq
 obtain ⟨p,_,hq⟩:=ab_.mp hq
 have z:=h p.nm
 rcases aaN.mp hq with e | hq
 ·rw [e]
  exact NU z.1 (aah _)
 ·rw [aaw.mp hq]
  exact NU z.2 (aah _)
theorem P5 {x:Str}{w:Rat×Rat}(h:Sz 90 w.1/\Sz 90 w.2)(y:Str):Sz 90 (mv (eK x w) y).1/\Sz 90 (mv (eK x w) y).2:=by
 rw [ji]
 by_cases c:y=x
 ·rw [if_pos c]
  exact h
 ·rw [if_neg c]
  exact ⟨jT (by decide),jT (by decide)⟩
theorem P6 {pins:ν}{bars:List aU}(g:dz pins bars){b:aU}(hb:b∈bars)(y:Str):Sz 90 (mv (f7 b) y).1/\Sz 90 (mv (f7 b) y).2:=by
 obtain ⟨m1,m2,_⟩:=g.ends b hb
 have z1:=g.sz _ m1
 have z2:=g.sz _ m2
 unfold mv f7
 by_cases c1:y=b.one.nm
 ·rw [if_pos c1]
  exact ⟨(z2.1.sub z1.1).up (by decide),(z2.2.1.sub z1.2.1).up (by decide)⟩
 ·rw [if_neg c1]
  by_cases c2:y=b.other.nm
  ·rw [if_pos c2]
   exact ⟨(z1.1.sub z2.1).up (by decide),(z1.2.1.sub z2.2.1).up (by decide)⟩
  ·rw [if_neg c2]
   exact ⟨jT (by decide),jT (by decide)⟩
theorem gT {pins:ν}{bars:List aU}(g:dz pins bars):∀qs∈cA pins bars,qs.length=2*pins.length/\∀q∈qs,Sm 90 90 q:=fun qs hq=>by
 unfold cA at hq
 rcases aaF.mp hq with h | h
 ·obtain ⟨p,hp,h⟩:=ab_.mp h
  unfold jP at h
  obtain ⟨w,hw,rfl⟩:=aab.mp h
  have z:=(g.sz p hp).2.2 w hw
  exact ⟨jO _ _,yU (P5 ⟨z.1.up (by decide),z.2.up (by decide)⟩) pins⟩
 ·obtain ⟨b,hb,rfl⟩:=aab.mp h
  exact ⟨jO _ _,yU (P6 g hb) pins⟩
theorem oQ {H:Hp}{T B:Nat}:∀{us:η} {qs:π},c_ K H us qs->(∀q∈qs,Sm T B q)->Paired (f' K H) us (qs.map vl)
 | [],[],_,_=>.nil
 | u::us,q::qs,h,hs=>by
  refine .cons ?_ (oQ ⟨by simpa using h.1,fun i u q e1 e2=>h.2 (i+1) u q (by simpa using e1) (by simpa using e2)⟩ fun r hr=>hs r (aag _ hr))
  have n:=h.2 0 u q rfl rfl
  show lM K H u (qr (vl q))
  rw [<- NT (hs q aaq)]
  exact n
 | [],_::_,h,_=>(nomatch h.1)
 | _::_,[],h,_=>(nomatch h.1)
theorem Us {m n:Nat}{q:Int×Int}{T B:Nat}(h:Sm T B q)(h1:T<=n)(h2:B<=n):Zb n (vl q):=by
 have e:=NT h
 refine ⟨?_,?_⟩
 ·rw [<- e]
  exact aaf h.top (aaP (by decide) h1)
 ·rw [<- e]
  exact aaf h.bot (aaP (by decide) h2)
theorem cy {α:Type}{l:List α}(h:l.Nodup){i j:Nat}{x:α}(hi:l[i]? =some x)(hj:l[j]? =some x):i=j:=by
 obtain ⟨i1,i2⟩:=be.mp hi
 obtain ⟨j1,j2⟩:=be.mp hj
 exact (aiN h).mp (i2.trans j2.symm)
def i7 (c m t:Nat)(nd:θ)(qs:π):Prop:=qs.length=m/\qs[c]? =some (1,1)/\(∀i,i < t->∀x,nd[i]? =some x->qs[x.1]? =some (low (-(x.2.getD c 0)) (x.2.getD x.1 0)))/\∀j,j < m->j≠c->(∀i,i < t->∀x,nd[i]? =some x->x.1≠j)->qs[j]? =some (0,1)
theorem i7.put {L c m t b:Nat}{os:ε}{nd:θ}{lv:ε}{qs:π}{x:Nat×List Int}(R:Red os L m b nd lv)(F:i7 c m t nd qs)(hc:∀y∈nd,y.1≠c)(e:nd[t]? =some x):i7 c m (t+1) nd (qs.set x.1 (low (-(x.2.getD c 0)) (x.2.getD x.1 0))):=by
 have ql:=F.1
 have hx:=R.cols x (ir e)
 have xc:=hc x (ir e)
 have dis:∀i y,i < t->nd[i]? =some y->y.1≠x.1:=fun i y hi ey=>by
  have a:=ah4.mp R.asc i t (by rw [aaa];exact (be.mp ey).1) (by rw [aaa];exact (be.mp e).1) hi
  simp only [aj_] at a
  have e1:=(be.mp ey).2
  have e2:=(be.mp e).2
  rw [e1,e2] at a
  omega
 refine ⟨by simp [ql],by rw [aa7,if_neg xc];exact F.2.1,fun i hi y ey=> ?_,fun j hj jc h=> ?_⟩
 ·rcases abm.mp hi with z | z
  ·rw [aa7,if_neg (aaO (dis i y z ey))]
   exact F.2.2.1 i z y ey
  ·subst z
   rw [e] at ey
   cases ey
   rw [aa7,if_pos rfl,if_pos (by omega)]
 ·rw [aa7,if_neg (h t (abc _) x e)]
  exact F.2.2.2 j hj jc (fun i hi y ey=>h i (abQ hi) y ey)
theorem Ln.ks {H H' :Hp}{v:V}{l:ξ}{d:Addr}{kvs:γ}(h:Ln H v l)(r:Rd H d (.dK kvs))(k:aV d H H'):Ln H' v l:=by
 obtain ⟨p,e,z⟩:=h
 refine ⟨p,e,k p _ (fun y=> ?_) z⟩
 rw [y] at z
 rcases r with r | ⟨o,r⟩ <;> (rw [r] at z;cases z)
theorem mm.ks {H H' :Hp}{kvs To:γ}{nd:θ}{d:Addr}(h:mm H kvs nd)(r:Rd H d (.dK To))(k:aV d H H'):mm H' kvs nd:=⟨h.1,fun i kv x e1 e2=>⟨(h.2 i kv x e1 e2).1,(h.2 i kv x e1 e2).2.ks r k⟩⟩
theorem aV.step {d:Addr}{H H' H2:Hp}(k:aV d H H')(s:au H' H2):aV d H H2:=fun b o n e=>s _ _ (k b o n e)
theorem aV.put {d x:Addr}{H H' :Hp}{o:HO}(k:aV d H H')(n:H x=none):aV d H (upd H' x o):=fun b o' nb e=>by
 rw [ao (fun z=>by rw [z,n] at e;cases e)]
 exact k b o' nb e
inductive tj (K:Frag)(vs:η)(H:Hp)(Q:VK)(E_:XK):Prop where
 | mk (d:Addr) (c m L b:Nat) (kvs:γ) (nd:θ) (os lv:List (List Int:_)) (_:vs=[.ref d,.int (c:Int),.int (m:Int)]) (_:Rd H d (.dK kvs)) (_:mm H kvs nd) (_:Red os L m b nd lv) (_:m<=L) (_:m<=900) (_:c < m) (_:(∀y∈nd,y.1≠c)) (_:∀(x:Addr) (us:η) (qs:π) (o:Obj) (H' :Hp),aV d H H' ->H' d=some (.fk o (.dK kvs))->H x=none->H' x=some (.lst us)->c_ K H' us qs->i7 c m nd.length nd qs->Q (.ref x) H'):tj K vs H Q E_
theorem eO:aD ["needed","column","many","numbers","place","line"] ["needed","column","many"] (ag dc):=sq
theorem qw {aN aO:Addr}(hN:∀H:Hp,bN K H aN [.int 0,.int 1])(P7:mg "NOUGHT"=some (.ref aN))(hO:∀H:Hp,bN K H aO [.int 1,.int 1])(P8:mg "ONE"=some (.ref aO))(D:Def K mg "spare_list" dc ["needed","column","many"])(IH:Fn P w K mg base (aY P w) 33 "lowest_terms" ["top","bottom"] gv):Fn P w K mg base (aY P w) 34 "spare_list" ["needed","column","many"] (tj K):=by
 refine D.ok eO (fun vs H Q E h=> ?_) (fun f bE A outer s H vs Q E hr h=> ?_)
 ·obtain ⟨d,c,m,L,b,kvs,nd,os,lv,rfl,_⟩:=h
  rfl
 obtain ⟨d,c,m,L,b,kvs,nd,os,lv,rfl,rd,NV,R,hmL,hm,hc,hnc,q⟩:=h
 refine ⟨_,(ae (aF (i:=3) eO.nd rfl (aai rfl) (aK FR (dk (ar (ju (v:=.ref aN) rfl P7 rfl) aa)) (pv 2)))
  (ae (nC (ju (v:=.ref aO) rfl P8 rfl) (rX (pv 3) (pv 1) set_list))
  (ae (bD PassesOwn.never rfl (rn (pv 0)) (dF rfl (aS (aC (i:=4) eO.nd rfl (aai rfl)) (aS (aC (i:=5) eO.nd rfl (aai rfl)) b_))) (aj (nC (aA IH hr.mo pX (ar (FC wL (bq bt (pv 5) (pv 1) (fun _ _=>rfl))) (ar (bq bt (pv 5) (pv 4) (fun _ _=>rfl)) aa))) (rX (pv 3) (pv 4) set_list))))
  (aj (aI (pv 3)))))),?_⟩
 refine ⟨(by show 1<=sizeLine;decide),fun p3 n3=> ?_⟩
 have s3:=aG n3 (.lst [V.ref aN])
 refine ⟨_,rfl,p3,_,_,rfl,rfl,ah,by omega,by omega,aaf (show 1*(m:Int).toNat<=1000 by omega) (by decide),fun x n4=> ?_⟩
 have er:(aaH (m:Int).toNat [V.ref aN]).flatten=aaH m (V.ref aN):=by simp
 rw [er]
 have s4:=aG n4 (.lst (aaH m (V.ref aN)))
 have nx:H x=none:=s3.free n4
 have xd:d≠x:=by
  rcases rd with r | ⟨o,r⟩
  ·exact aq r nx
  ·exact aq r nx
 refine ⟨_,rfl,_,rfl,x,_,_,c,rfl,rfl,ah,by rw [acb];exact sT hc,?_⟩
 have s5:au H (upd (upd (upd H p3 (.lst [V.ref aN])) x (.lst (aaH m (V.ref aN)))) x (.lst ((aaH m (V.ref aN)).set c (V.ref aO)))):=fK (s3.trans s4) nx
 have Kg:Rd (upd (upd (upd H p3 (.lst [V.ref aN])) x (.lst (aaH m (V.ref aN)))) x (.lst ((aaH m (V.ref aN)).set c (V.ref aO)))) d (.dK kvs):=by
  rcases rd with r | ⟨o,r⟩
  ·exact .inl (s5 _ _ r)
  ·exact .inr ⟨o,s5 _ _ r⟩
 have x5:upd (upd (upd H p3 (.lst [V.ref aN])) x (.lst (aaH m (V.ref aN)))) x (.lst ((aaH m (V.ref aN)).set c (V.ref aO))) x=some (.lst ((aaH m (V.ref aN)).set c (V.ref aO))):=ah
 generalize upd (upd (upd H p3 (.lst [V.ref aN])) x (.lst (aaH m (V.ref aN)))) x (.lst ((aaH m (V.ref aN)).set c (V.ref aO)))=H5 at*
 have LZ:=NV.same s5
 refine ⟨_,rfl,d,kvs,rfl,Kg,fun o=> ?_⟩
 have k5:aV d H (upd H5 d (.fk o (.dK kvs))):=fun b o' n e=>by rw [ao n];exact s5 _ _ e
 have k55:aV d H5 (upd H5 d (.fk o (.dK kvs))):=fun b o' n e=>by rw [ao n];exact e
 refine fq (d:=d) (o:=o) (kvs:=kvs) (fun t σ H' =>∃(o4 o5:Option V) (NW:η) (qs:π),σ=[some (.ref d),some (.int (c:Int)),some (.int (m:Int)),some (.ref x),o4,o5]/\aV d H H' /\H' d=some (.fk o (.dK kvs))/\H' x=some (.lst NW)/\c_ K H' NW qs/\mm H' kvs nd/\i7 c m t nd qs)
  ⟨none,none,(aaH m (V.ref aN)).set c (V.ref aO),(aaH m (0,1)).set c (1,1),rfl,k5,ah,by rw [ao (aaO xd)];exact x5,c_.set ⟨by simp,fun i u q' e1 e2=> ?_⟩ ⟨aO,rfl,hO _⟩,LZ.ks Kg k55,⟨by simp,by rw [aa7,if_pos rfl,if_pos (by simpa using hc)],fun i hi=>absurd hi (abG _),fun j hj jc _=>by rw [aa7,if_neg (aaO jc),abP,if_pos hj]⟩⟩ (fun t σ H' _ h=>by
   obtain ⟨_,_,_,_,_,_,h,_⟩:=h
   exact h) ?_ ?_
 ·rw [abP] at e1 e2
  by_cases z:i < m
  ·rw [if_pos z] at e1 e2
   cases e1
   cases e2
   exact ⟨aN,rfl,hN _⟩
  ·rw [if_neg z] at e1
   cases e1
 ·rintro t k v σ H6 p7 rH ⟨o4,o5,NW,qs,rfl,k6,EH,Ut,Ro,Uu,F⟩ n7
  have ht:t < kvs.length:=(be.mp rH).1
  have Uv:=Uu.1
  obtain ⟨y,ey⟩:∃y,nd[t]? =some y:=⟨_,gE (by omega)⟩
  obtain ⟨k1,k2⟩:=Uu.2 t _ y rH ey
  have k1' :k=.inl (y.1:Int):=k1
  subst k1'
  obtain ⟨b',eb,iQ⟩:=k2
  have qe :v=.ref b' :=eb
  subst qe
  have NX:=ir ey
  have hyl:=R.mi y NX
  have hyc:=R.cols y NX
  have s7:=aG n7 (.tup [kV (.inl (y.1:Int)),.ref b'])
  have NY:=s7 _ _ iQ
  refine ⟨p7,_,rfl,bN.of ah,rfl,_,_,rfl,_,_,rfl,rfl,?_⟩
  refine ⟨_,rfl,_,rfl,b',_,_,_,rfl,rfl,a8.of NY,rE (by omega),_,rfl,_,rfl,_,rfl,b',_,_,_,rfl,rfl,a8.of NY,rE (by omega),?_⟩
  refine ⟨_,_,rfl,R.here y NX,fun p8 H8 s8 e8=> ?_⟩
  have C_:=s7.trans s8
  have hx8:=C_ _ _ Ut
  have l2:=Ro.1
  have dx8:=C_ _ _ EH
  refine ⟨_,rfl,_,rfl,x,NW,_,y.1,rfl,rfl,hx8,sT (by rw [l2,F.1];exact hyc),?_⟩
  refine ⟨_,_,NW.set y.1 (.ref p8),qs.set y.1 (low (-(y.2.getD c 0)) (y.2.getD y.1 0)),rfl,aV.put (aV.step k6 C_) nx,by rw [ao xd];exact dx8,ah,?_,?_,F.put R hnc ey⟩
  ·have base:c_ K H8 (NW.set y.1 (.ref p8)) (qs.set y.1 (low (-(y.2.getD c 0)) (y.2.getD y.1 0))):=(Ro.same C_).set ⟨p8,rfl,bN.of e8⟩
   refine ⟨base.1,fun i u q' e1 e2=> ?_⟩
   obtain ⟨p9,e9,h9⟩:=base.2 i u q' e1 e2
   exact ⟨p9,e9,bN.putL h9 hx8⟩
  ·have base:=Uu.same C_
   refine ⟨base.1,fun i kv y' e1 e2=>⟨(base.2 i kv y' e1 e2).1,?_⟩⟩
   obtain ⟨p9,e9,h9⟩:=(NV.2 i kv y' e1 e2).2
   refine ⟨p9,e9,?_⟩
   rw [ao (fun z=>by rw [z,nx] at h9;cases h9)]
   obtain ⟨p10,e10,h10⟩:=(base.2 i kv y' e1 e2).2
   rw [e9] at e10
   cases e10
   exact h10
 ·rintro σ H6 ⟨o4,o5,NW,qs,rfl,k6,EH,Ut,Ro,Uu,F⟩
  have Uv:=Uu.1
  rw [Uv] at F
  exact ⟨_,rfl,q x NW qs o H6 k6 EH nx Ut Ro F⟩
theorem bN.ks {K:Frag}{H H' :Hp}{a d:Addr}{xs:η}{kvs:γ}(h:bN K H a xs)(r:Rd H d (.dK kvs))(k:aV d H H'):bN K H' a xs:=by
 have ne:∀{u:HO},H a=some u->(∀o,u≠.fk o (.dK kvs))->u≠.dK kvs->a≠d:=fun {u} e n1 n2 z=>by
  rw [z] at e
  rcases r with r | ⟨o,r⟩
  ·rw [r] at e
   cases e
   exact n2 rfl
  ·rw [r] at e
   cases e
   exact n1 o rfl
 rcases h with (h | ⟨o,h⟩) | h
 ·exact .inl (.inl (k _ _ (ne h (fun o z=>nomatch z) (fun z=>nomatch z)) h))
 ·exact .inl (.inr ⟨o,k _ _ (ne h (fun o z=>by cases z) (fun z=>nomatch z)) h⟩)
 ·exact .inr h
theorem c_.ks {K:Frag}{H H' :Hp}{us:η}{qs:π}{d:Addr}{kvs:γ}(h:c_ K H us qs)(r:Rd H d (.dK kvs))(k:aV d H H'):c_ K H' us qs:=⟨h.1,fun i u q e1 e2=>by
 obtain ⟨p,e,z⟩:=h.2 i u q e1 e2
 exact ⟨p,e,bN.ks z r k⟩⟩
def vJ (K:Frag)(H:Hp)(kvs:γ)(ss:List (Nat×List (Int×Int))):Prop:=kvs.length=ss.length/\∀(i:Nat) (kv:Key×V) (x:Nat×List (Int×Int)),kvs[i]? =some kv->ss[i]? =some x->kv.1=.inl (x.1:Int)/\∃p us,kv.2=.ref p/\H p=some (.lst us)/\c_ K H us x.2
theorem vJ.same {H H' :Hp}{kvs:γ}{ss:List (Nat×List (Int×Int))}(h:vJ K H kvs ss)(s:au H H'):vJ K H' kvs ss:=⟨h.1,fun i kv x e1 e2=>by
 obtain ⟨a,p,us,b,c,d⟩:=h.2 i kv x e1 e2
 exact ⟨a,p,us,b,s _ _ c,d.same s⟩⟩
theorem vJ.ks {H H' :Hp}{kvs To:γ}{ss:List (Nat×List (Int×Int))}{d:Addr}(h:vJ K H kvs ss)(r:Rd H d (.dK To))(k:aV d H H'):vJ K H' kvs ss:=⟨h.1,fun i kv x e1 e2=>by
 obtain ⟨a,p,us,b,c,d'⟩:=h.2 i kv x e1 e2
 refine ⟨a,p,us,b,k _ _ (fun z=> ?_) c,c_.ks d' r k⟩
 rw [z] at c
 rcases r with r | ⟨o,r⟩ <;> (rw [r] at c;cases c)⟩
theorem vJ.snoc {H:Hp}{kvs:γ}{ss:List (Nat×List (Int×Int))}(h:vJ K H kvs ss){c:Nat}{p:Addr}{us:η}{qs:π}(hp:H p=some (.lst us))(hn:c_ K H us qs):vJ K H (kvs++[(.inl (c:Int),.ref p)]) (ss++[(c,qs)]):=by
 have hl:=h.1
 refine ⟨by simp [hl],fun j kv x e1 e2=> ?_⟩
 by_cases z:j < kvs.length
 ·rw [aat z] at e1
  rw [aat (by omega)] at e2
  exact h.2 j kv x e1 e2
 ·rw [aaJ (by omega)] at e1 e2
  rw [<- hl] at e2
  by_cases y:j - kvs.length=0
  ·rw [y] at e1 e2
   cases e1
   cases e2
   exact ⟨rfl,p,us,rfl,hp,hn⟩
  ·rw [aae (by simp;omega)] at e1
   cases e1
theorem vJ.keys {H:Hp}{kvs:γ}{ss:List (Nat×List (Int×Int))}(h:vJ K H kvs ss):kvs.map (·.1)=ss.map (fun x=>(ahW (x.1:Int):Key)):=by
 refine aa8 fun i=> ?_
 have hl:=h.1
 rw [Wp,Wp]
 by_cases hi:i < ss.length
 ·have e:ss[i]? =some ss[i]:=gE hi
  have e2:kvs[i]? =some (kvs[i]'(by omega)):=gE (by omega)
  rw [e,e2]
  simp only [abZ]
  rw [(h.2 i _ _ e2 e).1]
 ·rw [aae (by omega),aae (by omega)]
  rfl
def yV (T B m:Nat)(qs:π)(w:Wl):Prop:=rg w.1 qs w.2.1/\0 < w.2.1/\w.2.1.natAbs<=2^(B*m)/\∀t∈w.1,t.natAbs<=2^(T+B*m)
def yW (T B m:Nat)(bQ:List (List (Int×Int)))(os:ε):Prop:=os.length=bQ.length/\∀(i:Nat) (o:ξ) (qs:π),os[i]? =some o->bQ[i]? =some qs->∃b:Int,0 < b/\rg o qs b
def free (nd:θ)(j:Nat):Bool:=nd.all fun y=>decide (y.1≠j)
theorem oR {nd:θ}{j:Nat}:free nd j=true ↔ ∀y∈nd,y.1≠j:=by
 unfold free
 rw [List.all_eq_true]
 exact ⟨fun h y hy=>of_decide_eq_true (h y hy),fun h y hy=>decide_eq_true (h y hy)⟩
inductive oT (K:Frag)(vs:η)(H:Hp)(Q:VK)(E_:XK):Prop where
 | mk (r:Addr) (m:Nat) (ls:List Addr) (bS:List (List V:_)) (bQ:List (List (Int×Int))) (T B Z:Nat) (_:vs=[.ref r,.int (m:Int)]) (_:mq H r ls bS) (_:fg K H bS bQ) (_:Shape T B m bQ) (_:m<=100) (_:bQ.length<=100) (_:T<=20000) (_:B*m<=8000) (_:B<=8000) (_:bb (T+B*m) (min m bQ.length)<=Z) (_:Z<=29000000) (_:∀(sd:Addr) (kvs:γ) (ss:List (Nat×List (Int×Int))) (os lv:ε) (nd:θ) (H' :Hp),au H H' ->H sd=none->H' sd=some (.dK kvs)->vJ K H' kvs ss->yW T B m bQ os->Red os m m Z nd lv->ss.map (·.1)=(aa_ m).filter (free nd)->(∀x∈ss,i7 x.1 m nd.length nd x.2)->Q (.ref sd) H'):oT K vs H Q E_
theorem dh:aD ["rows","many","needed","spare","column"] ["rows","many"] (ag b9):=sq
theorem kJ (D:Def K mg "spare_columns" b9 ["rows","many"])(bL:mg "range"=none)(P9:Fn P w K mg base (aY P w) 2 "whole_row" ["row"] (LI K))(P_:Fn P w K mg base (aY P w) 35 "reduced" ["lines","many"] (iI K))(tm:Fn P w K mg base (aY P w) 34 "spare_list" ["needed","column","many"] (tj K)):Fn P w K mg base (aY P w) 36 "spare_columns" ["rows","many"] (oT K):=by
 refine D.ok dh (fun vs H Q E h=> ?_) (fun f bE A outer s H vs Q E hr h=> ?_)
 ·obtain ⟨r,m,ls,bS,bQ,T,B,Z,rfl,_⟩:=h
  rfl
 obtain ⟨r,m,ls,bS,bQ,T,B,Z,rfl,M,NN,sh,hm,hn,hT,hB,YV,hZ,hZ1,q⟩:=h
 refine ⟨_,(ae (aF (i:=2) dh.nd rfl (aai rfl) (aL (aA P_ hr.mo pX (ar (dC (tn:=["row"]) (fr:=[]) (caps:=[]) rfl ⟨rfl,by decide+kernel,rfl,by decide+kernel,by decide+kernel,rfl,trivial,trivial⟩ (bu (pv 0)) (fun _ _ _ _=>(aC (i:=0) (show (["row"]:List Str).Nodup from by decide+kernel) rfl (aai rfl))) (fun _ _ _ _=>dG) (fun _ _ _ _=>(bq (c9 (K:=K) rfl) (aA P9 hr.mo (n_ (by first | assumption | exact aY.nX) rfl) (ar (pv 0) aa)) ak (fun _ _=>rfl)))) (ar (pv 1) aa)))))
  (ae (aF (i:=3) dh.nd rfl (aai rfl) dy)
  (ae (bD PassesOwn.never rfl (dJ rfl bL (ar (pv 1) aa)) (aC (i:=4) dh.nd rfl (aai rfl)) (aj (bo (jb (iE (bR hr) (pv 4) (pv 2))) (aj (d6 (bR hr) (pv 3) (pv 4) (aA tm hr.mo pX (ar (pv 2) (ar (pv 4) (ar (pv 1) aa)))) rfl)) aQ)))
  (aj (aI (pv 3)))))),?_⟩
 have l1:=M.2.1
 have l2:=NN.1
 refine ⟨_,rfl,r,rfl,⟨_,a8.of M.1⟩,fun D1 n1=> ?_⟩
 refine jg (cap:=[]) (K:=K) (a:=r) (xs:=ls.map V.ref) (fun i v H=>∃w:Wl,v=.ref w.2.2.1/\w.2.2.1≠D1/\H w.2.2.1=some (.lst (w.1.map V.int))/\∀qs,bQ[i]? =some qs->yV T B m qs w) n1 (by rw [aaa];exact aar (show ls.length<=1000 by omega) (by decide)) (fun H2 s2=>a8.of (s2 _ _ M.1)) ?_ ?_ ?_
 ·rintro i v H2 H3 ys hD ks ⟨w,e1,e2,e3,e4⟩
  exact ⟨w,e1,e2,ks _ _ e2 e3,e4⟩
 ·rintro i x H2 RR ex s2 ⟨ys0,hD0⟩ kk
  rw [Wp] at ex
  obtain ⟨l,el,rfl⟩:=aal.mp ex
  have hi:i < ls.length:=(be.mp el).1
  obtain ⟨qs,eq⟩:∃qs,bQ[i]? =some qs:=⟨_,gE (by omega)⟩
  obtain ⟨vs,ev⟩:∃vs,bS[i]? =some vs:=⟨_,gE (by omega)⟩
  have hl:=M.2.2 i l vs el ev
  have hq:=NN.2 i vs qs ev eq
  obtain ⟨lq,sq⟩:=sh qs (ir eq)
  refine ⟨_,rfl,l,qs,T,B,rfl,⟨_,a8.of (s2 _ _ hl),hq.same s2⟩,sq,hT,by rw [lq];omega,YV,by omega,fun p3 Uw ts b H3 s3 nl hp3 hl3 hb Ux wh Uy=> ?_⟩
  rw [lq] at Ux Uy
  refine ⟨p3,_,_,_,rfl,rfl,bN.of hp3,ib,kk _ _ s3 ⟨(ts,b,Uw,p3),rfl,fun z=> ?_,hl3,fun LC e1=> ?_⟩⟩
  ·rw [show Uw =D1 from z,hD0] at nl
   cases nl
  ·rw [eq] at e1
   cases e1
   exact ⟨wh,hb,Ux,Uy⟩
 intro zs H2 hz ie s2 Kh
 rw [aaa] at hz
 obtain ⟨ws,lw,hw⟩:=gw (P:=fun i v (w:Wl)=>v=.ref w.2.2.1/\w.2.2.1≠D1/\H2 w.2.2.1=some (.lst (w.1.map V.int))/\∀qs,bQ[i]? =some qs->yV T B m qs w) zs ie
 have wp:∀(i:Nat) (w:Wl),ws[i]? =some w->∃v qs,zs[i]? =some v/\bQ[i]? =some qs/\v=.ref w.2.2.1/\H2 w.2.2.1=some (.lst (w.1.map V.int))/\yV T B m qs w:=fun i w e=>by
  have hi:i < ws.length:=(be.mp e).1
  obtain ⟨v,ev⟩:∃v,zs[i]? =some v:=⟨_,gE (by omega)⟩
  obtain ⟨qs,eq⟩:∃qs,bQ[i]? =some qs:=⟨_,gE (by omega)⟩
  obtain ⟨h1,_,h3,h4⟩:=hw i v w ev e
  exact ⟨v,qs,ev,eq,h1,h3,h4 qs eq⟩
 have hLl:qu H2 zs (ws.map (·.1)):=⟨by simp [lw],fun i u l e1 e2=>by
  rw [Wp] at e2
  obtain ⟨w,ew,rfl⟩:=aal.mp e2
  obtain ⟨v,qs,ev,_,e,h,_⟩:=wp i w ew
  rw [e1] at ev
  cases ev
  exact ⟨_,e,h⟩⟩
 have Uz:∀l∈ws.map (·.1),l.length=m:=fun l hl=>by
  obtain ⟨w,hw',rfl⟩:=aab.mp hl
  obtain ⟨i,e⟩:=aad hw'
  obtain ⟨v,qs,_,eq,_,_,wh,_⟩:=wp i w e
  rw [wh.1,(sh qs (ir eq)).1]
 have wbd:∀l∈ws.map (·.1),Bd (T+B*m) l:=fun l hl=>by
  obtain ⟨w,hw',rfl⟩:=aab.mp hl
  obtain ⟨i,e⟩:=aad hw'
  obtain ⟨v,qs,_,eq,_,_,_,_,_,h⟩:=wp i w e
  exact Bd.of h
 have hlm:(ws.map (·.1)).length=bQ.length:=by rw [aaa];omega
 have abd:yW T B m bQ (ws.map (·.1)):=⟨hlm,fun i o qs e1 e2=>by
  rw [Wp] at e1
  obtain ⟨w,ew,rfl⟩:=aal.mp e1
  obtain ⟨v,LC,_,eq,_,_,wh,wb,_⟩:=wp i w ew
  rw [e2] at eq
  cases eq
  exact ⟨_,wb,wh⟩⟩
 refine ⟨_,rfl,D1,zs,ws.map (·.1),m,m,T+B*m,rfl,a8.of Kh,hLl,Uz,aah _,by omega,by omega,wbd,by rw [hlm];omega,fun p d a' kvs iW nd lv H3 s3 wD np hp hd PH NV Ri R=> ?_⟩
 rw [hlm] at R
 have RZ:=R.up hZ
 refine ⟨p,_,_,_,rfl,rfl,bN.of hp,ib,?_⟩
 refine fun sd L6=> ?_
 have t4:=aG L6 (.dK [])
 have EI:=(s2.trans s3).trans t4
 have Hd:H d=none:=s2.free wD
 have Ki:H sd=none:=(s2.trans s3).free L6
 have ds:d≠sd:=aq hd L6
 refine ⟨_,rfl,_,rfl,by omega,by omega,?_⟩
 refine fo (lo:=0) (n:=m) (fun i σ H' =>∃(o4:Option V) (gU:γ) (ss:List (Nat×List (Int×Int))),σ=[some (.ref r),some (.int (m:Int)),some (.ref d),some (.ref sd),o4]/\au H H' /\Rd H' d (.dK kvs)/\H' sd=some (.dK gU)/\mm H' kvs nd/\vJ K H' gU ss/\ss.map (·.1)=(aa_ i).filter (free nd)/\∀x∈ss,i7 x.1 m nd.length nd x.2)
  ⟨none,[],[],rfl,EI,.inl (t4 _ _ hd),ah,NV.same t4,⟨rfl,fun i kv x e=>by simp at e⟩,by simp,fun x h=>nomatch h⟩ ?_ ?_
 ·rintro i σ H5 hi ⟨o4,gU,ss,rfl,s5,Kg,EJ,LZ,Rp,Rq,Y5⟩
  have nk:(kvs.map (·.1)).Nodup:=by
   rw [LZ.keys]
   exact keys_nodup R.asc
  by_cases fr:free nd i=true
  ·have fr' :=oR.mp fr
   have K_:bB kvs (.inl ((0:Int)+i))=none:=iH (fun z=>by
    rw [LZ.keys] at z
    obtain ⟨x',uE,e⟩:=aab.mp z
    have e1:(x'.1:Int)=0+i:=ahR e
    exact fr' x' uE (by omega))
   refine ⟨_,rfl,_,rfl,d,none,rfl,.inl ⟨kvs,.inl ((0:Int)+i),Kg,rfl,K_.symm⟩,_,rfl,?_⟩
   refine bc (fun _=> ?_) (fun c=>absurd rfl c)
   refine ⟨_,rfl,_,rfl,_,rfl,d,i,m,m,Z,kvs,nd,ws.map (·.1),lv,by rw [abo];rfl,Kg,LZ,RZ,aah _,by omega,hi,fr',fun x us qs o H6 k6 EH nx Ut Ro F=> ?_⟩
   have Qa:H6 sd=some (.dK gU):=k6 _ _ (aaO ds) EJ
   have Rr:=Rp.1
   have lss:ss.length<=m:=by
    have:=congrArg ab8 Rq
    rw [aaa] at this
    have h2:=abi (free nd) (aa_ i)
    rw [ahp] at h2
    omega
   refine ⟨_,rfl,_,rfl,sd,_,rfl,iR.k (k:=.inl ((0:Int)+i)) Qa (aar (show gU.length<=1000 by omega) (by decide)),?_⟩
   have abe:bB gU (.inl ((0:Int)+i))=none:=iH (fun z=>by
    rw [Rp.keys] at z
    obtain ⟨x',uE,e⟩:=aab.mp z
    have e1:(x'.1:Int)=0+i:=ahR e
    have:x'.1∈(aa_ i).filter (free nd):=by rw [<- Rq];exact aab.mpr ⟨x',uE,rfl⟩
    have:=abb.mp (aa4.mp this).1
    omega)
   rw [cK _ abe,abo]
   have s6:au H H6:=fun b o' e=>k6 _ _ (aq e Hd) (s5 _ _ e)
   have Y6:aV sd H6 (upd H6 sd (.dK (gU++[(.inl (i:Int),.ref x)]))):=fun b o' n e=>by rw [ao n];exact e
   refine ⟨_,_,ss++[(i,qs)],rfl,fK s6 Ki,.inr ⟨o,by rw [ao ds];exact EH⟩,ah,(LZ.ks Kg k6).ks (.inl Qa) Y6,((Rp.ks Kg k6).snoc Ut Ro).ks (.inl Qa) Y6,?_,fun x' uE => ?_⟩
   ·rw [aaK,Rq,ahz,abI]
    simp [fr]
   ·rcases aaF.mp uE with z | z
    ·exact Y5 x' z
    ·rw [aaw.mp z]
     exact F
  ·have nf:∃y∈nd,y.1=i:=by
    apply aa3
    intro z
    exact fr (oR.mpr fun y hy e=>z ⟨y,hy,e⟩)
   obtain ⟨y,hy,ey⟩:=nf
   obtain ⟨t,et⟩:=aad hy
   obtain ⟨v,ev,_⟩:=LZ.at et
   have vat:=mZ nk ev
   refine ⟨_,rfl,_,rfl,d,some v,rfl,.inl ⟨kvs,.inl ((0:Int)+i),Kg,rfl,by rw [abo, <- ey];exact vat.symm⟩,_,rfl,?_⟩
   refine bc (fun c=>nomatch c) (fun _=> ?_)
   refine ⟨_,_,ss,rfl,s5,Kg,EJ,LZ,Rp,?_,Y5⟩
   rw [Rq,ahz,abI]
   simp [fr]
 ·rintro σ H5 ⟨o4,gU,ss,rfl,s5,Kg,EJ,LZ,Rp,Rq,Y5⟩
  exact ⟨_,rfl,q sd gU ss _ lv nd H5 s5 Ki EJ Rp abd RZ Rq Y5⟩
structure DC (nd:θ)(c:Nat)(z:Nat->Rat):Prop where
 one:z c=1
 at' :∀y∈nd,z y.1=(-(y.2.getD c 0):Int) / ((y.2.getD y.1 0:Int):Rat)
 no:∀j,j≠c->(∀y∈nd,y.1≠j)->z j=0
theorem DC.sol {os lv:ε}{L m b c:Nat}{nd:θ}{z:Nat->Rat}(R:Red os L m b nd lv)(hc:c < m)(h:DC nd c z)(fr:∀y∈nd,y.1≠c):∀o∈os,ev o z=0:=by
 refine (R.sol z).mp ⟨fun x hx=> ?_,fun l hl=> ?_⟩
 ·have e:z=fun j=>(if j=c then 1 else 0)+(if j=c then 0 else z j):=by
   funext j
   by_cases q:j=c
   ·rw [if_pos q,if_pos q,q,h.one]
    grind
   ·rw [if_neg q,if_neg q]
    grind
  rw [e,HE,sD x.2 (fun j=>if j=c then 1 else 0) c (fun j hj=>by rw [if_neg hj];grind),sD x.2 (fun j=>if j=c then 0 else z j) x.1 (fun j hj=> ?_)]
  ·have hh:=cq (R.here x hx)
   rw [if_pos rfl,if_neg (fr x hx),h.at' x hx]
   push_cast
   grind
  ·by_cases q:j=c
   ·rw [if_pos q]
    grind
   ·rw [if_neg q]
    by_cases y:∃u∈nd,u.1=j
    ·obtain ⟨u,hu,rfl⟩:=y
     rw [R.off x hx u hu (aaO hj)]
     simp
    ·rw [h.no j q (fun u hu e=>y ⟨u,hu,e⟩)]
     grind
 ·refine mV l z fun j=> ?_
  by_cases hj:j < m
  ·rw [R.zero l hl j hj]
   simp
  ·rw [h.no j (by omega) (fun y hy e=>by have:=R.cols y hy;omega)]
   grind
theorem DC.behind {os lv:ε}{L m b c:Nat}{nd:θ}{z:Nat->Rat}(R:Red os L m b nd lv)(h:DC nd c z){j:Nat}(hj:c < j):z j=0:=by
 by_cases q:∃y∈nd,y.1=j
 ·obtain ⟨y,hy,rfl⟩:=q
  rw [h.at' y hy,R.low y hy c hj]
  simp [al_]
 ·exact h.no j (by omega) (fun y hy e=>q ⟨y,hy,e⟩)
theorem oU:∀(m:Nat) (f g:Nat->Rat),(∀j,j < m->f j=g j)->Ty.sumTo m f=Ty.sumTo m g
 | 0,_,_,_=>rfl
 | m+1,f,g,h=>by
  simp only [Ty.sumTo]
  rw [h 0 (by omega),oU m (fun i=>f (i+1)) (fun i=>g (i+1)) (fun j hj=>h (j+1) (by omega))]
theorem Qb {ts:ξ}{qs:π}{b:Int}{m:Nat}(h:rg ts qs b)(hm:qs.length=m)(z:Nat->Rat):ev ts z=(b:Rat)*sumTo m (fun j=>vl (qs.getD j (0,1))*z j):=by
 have hl:=h.1
 rw [vm m ts z (by omega), <- kz]
 refine oU m _ _ fun j hj=> ?_
 have e1:ts[j]? =some (ts[j]'(by omega)):=gE (by omega)
 have e2:qs[j]? =some (qs[j]'(by omega)):=gE (by omega)
 have w:=h.2 j _ _ e1 e2
 rw [getD_mem e1,w,aaj,e2]
 show _=(b:Rat)*(vl (qs[j]'(by omega))*z j)
 grind
theorem tq {ts:ξ}{qs:π}{b:Int}{m:Nat}(h:rg ts qs b)(hb:0 < b)(hm:qs.length=m)(z:Nat->Rat):ev ts z=0 ↔ sumTo m (fun j=>vl (qs.getD j (0,1))*z j)=0:=by
 rw [Qb h hm z]
 have iQ :=cq (show b≠0 by omega)
 constructor <;> intro q <;> grind
theorem rK {T B m:Nat}{bQ:List (List (Int×Int))}{os:ε}(gD:yW T B m bQ os)(len:∀qs∈bQ,qs.length=m)(z:Nat->Rat):(∀o∈os,ev o z=0) ↔ ∀qs∈bQ,sumTo m (fun j=>vl (qs.getD j (0,1))*z j)=0:=by
 have hl:=gD.1
 constructor
 ·intro h qs hq
  obtain ⟨i,e⟩:=aad hq
  have hi:i < bQ.length:=(be.mp e).1
  have e1:os[i]? =some (os[i]'(by omega)):=gE (by omega)
  obtain ⟨b,hb,wh⟩:=gD.2 i _ qs e1 e
  exact (tq wh hb (len qs hq) z).mp (h _ (ir e1))
 ·intro h o ho
  obtain ⟨i,e⟩:=aad ho
  have hi:i < os.length:=(be.mp e).1
  have e1:bQ[i]? =some (bQ[i]'(by omega)):=gE (by omega)
  obtain ⟨b,hb,wh⟩:=gD.2 i o _ e e1
  exact (tq wh hb (len _ (ir e1)) z).mpr (h _ (ir e1))
theorem getD_some {qs:π}{j:Nat}{q:Int×Int}(e:qs[j]? =some q):qs.getD j (0,1)=q:=by
 rw [aaj,e]
 rfl
theorem xH (pins:ν)(bars:List aU){k:Nat}{p:aE}(h:pins[k]? =some p)(j:Nat)(c:Rat×Rat->Rat)(hj:∀F,vl ((eA F pins).getD j (0,1))=c (mv F p.nm)):
  (fP (cA pins bars) j).map vl=(pins.flatMap fun q=>q.ws.map fun w=>c (mv (eK q.nm w) p.nm))++bars.map fun b=>c (mv (f7 b) p.nm):=by
 have:=DB pins bars (fun _=>none) h j c hj
 unfold fP at this ⊢
 rw [aaK,aaK] at this
 exact (List.append_inj' this rfl).1
theorem IU {pins:ν}{bars:List aU}{T:Str->Rat}{U:Str->List Rat}{c:Rat×Rat->Rat}(c0:c (0,0)=0)(nd:(pins.map (·.nm)).Nodup)(hl:∀q∈pins,(U q.nm).length=q.ws.length){p:aE}(hp:p∈pins):
  sP ((pins.flatMap fun q=>U q.nm)++bars.map (fun b=>T b.nm)) ((pins.flatMap fun q=>q.ws.map fun w=>c (mv (eK q.nm w) p.nm))++bars.map fun b=>c (mv (f7 b) p.nm))=ix bars T U p c:=by
 have l1:(pins.flatMap fun q=>U q.nm).length=(pins.flatMap fun q=>q.ws.map fun w=>c (mv (eK q.nm w) p.nm)).length:=by
  clear hp nd
  induction pins with
  | nil=>rfl
  | cons q ps ih=>rw [aaA,aaA,aas,aas,ih fun r hr=>hl r (aag _ hr),hl q aaq,aaa]
 have:=LY (L:=fun _=>none) (bars:=bars) (T:=T) c0 nd hl hp 0
 rw [kI _ _ (by rw [aas,aas,l1,aaa,aaa]),ck,iw] at this
 grind
theorem oV {pins:ν}{U:Str->List Rat}(hl:∀q∈pins,(U q.nm).length=q.ws.length):(pins.flatMap fun q=>U q.nm).length=av pins:=by
 unfold av
 induction pins with
 | nil=>rfl
 | cons q ps ih=>rw [aaA,aaA,aas,aas,ih fun r hr=>hl r (aag _ hr),hl q aaq]
def xI (pins:ν)(bars:List aU)(T:Str->Rat)(U:Str->List Rat):Prop:=∀p∈pins,ix bars T U p (·.1)=0/\ix bars T U p (·.2)=0
theorem DE {pins:ν}{bars:List aU}(g:dz pins bars){T:Str->Rat}{U:Str->List Rat}(hl:∀q∈pins,(U q.nm).length=q.ws.length)(h:∀j,j < 2*pins.length->sP ((pins.flatMap fun q=>U q.nm)++bars.map (fun b=>T b.nm)) ((fP (cA pins bars) j).map vl)=0):xI pins bars T U:=fun p hp=>by
 obtain ⟨k,ek⟩:=aad hp
 have hk:=(be.mp ek).1
 have one:∀(j:Nat) (c:Rat×Rat->Rat),j < 2*pins.length->c (0,0)=0->(∀F,vl ((eA F pins).getD j (0,1))=c (mv F p.nm))->ix bars T U p c=0:=fun j c hj c0 hc=>by
  have:=h j hj
  rw [xH pins bars ek j c hc,IU c0 g.np hl hp] at this
  exact this
 exact ⟨one (2*k) (·.1) (by omega) rfl fun F=>(tf F ek).1,one (2*k+1) (·.2) (by omega) rfl fun F=>(tf F ek).2⟩
theorem IV:∀(rs:List Rat) (qs:π),rs.length=qs.length->Ty.sumTo qs.length (fun j=>vl (qs.getD j (0,1))*rs.getD j 0)=sP rs (qs.map vl)
 | [],[],_=>by simp [Ty.sumTo,sP]
 | r::rs,q::qs,h=>by
  rw [aac,ck, <- IV rs qs (by simpa using h),aaY]
  show vl q*r+Ty.sumTo qs.length (fun j=>vl (qs.getD j (0,1))*rs.getD j 0)=_
  grind
def vK (pins:ν)(bars:List aU)(T:Str->Rat)(U:Str->List Rat):List Rat:=(pins.flatMap fun q=>U q.nm)++bars.map (fun b=>T b.nm)
theorem IW {pins:ν}{bars:List aU}{T:Str->Rat}{U:Str->List Rat}(hl:∀q∈pins,(U q.nm).length=q.ws.length){k:Nat}{b:aU}(e:bars[k]? =some b):(vK pins bars T U)[av pins+k]? =some (T b.nm):=by
 unfold vK
 rw [aaJ (by rw [oV hl];omega),oV hl,aic,Wp,e]
 rfl
def xJ (ws:List (Rat×Rat)):Prop:=∀us:List Rat,us.length=ws.length->sP us (ws.map (·.1))=0->sP us (ws.map (·.2))=0->∀u∈us,u=0
theorem L7 {pins:ν}{bars:List aU}{T:Str->Rat}{U:Str->List Rat}(wi:∀p∈pins,xJ p.ws)(hl:∀q∈pins,(U q.nm).length=q.ws.length)(no:xI pins bars T U){c:Nat}(h1:(vK pins bars T U)[c]? =some 1)(h0:∀j r,c < j->(vK pins bars T U)[j]? =some r->r=0):av pins<=c:=by
 rcases Nat.lt_or_ge c (av pins) with z | z
 ·exfalso
  have tz:∀b∈bars,T b.nm=0:=fun b hb=>by
   obtain ⟨k,ek⟩:=aad hb
   exact h0 _ _ (by omega) (IW (T:=T) hl ek)
  have f0:∀(p:aE) (cc:Rat×Rat->Rat),ix bars T U p cc=sP (U p.nm) (p.ws.map cc):=fun p cc=>by
   unfold ix
   have:(bars.map fun b=>T b.nm*cc (mv (f7 b) p.nm))=bars.map fun _=>(0:Rat):=aa9 fun b hb=>by rw [tz b hb];grind
   rw [this]
   have s0:∀l:List aU,(l.map fun _=>(0:Rat)).sum=0:=fun l=>by
    induction l with
    | nil=>rfl
    | cons a l ih=>rw [aac,ab9,ih];grind
   rw [s0]
   grind
  have uz:∀p∈pins,∀u∈U p.nm,u=0:=fun p hp=>wi p hp (U p.nm) (hl p hp) (by rw [<- f0];exact (no p hp).1) (by rw [<- f0];exact (no p hp).2)
  have m1:(1:Rat)∈pins.flatMap fun q=>U q.nm:=by
   have e:=h1
   unfold vK at e
   rw [aat (by rw [oV hl];exact z)] at e
   exact ir e
  obtain ⟨p,hp,hu⟩:=ab_.mp m1
  have:=uz p hp 1 hu
  grind
 ·exact z
theorem i7.abf {os lv:ε}{L m b c:Nat}{nd:θ}{qs:π}(R:Red os L m b nd lv)(F:i7 c m nd.length nd qs):∀q∈qs,Sm b b q:=by
 intro q hq
 obtain ⟨j,hj⟩:=aad hq
 have hjm:j < m:=by have:=(be.mp hj).1;rw [<- F.1];exact this
 by_cases jc:j=c
 ·subst jc
  rw [F.2.1] at hj
  cases hj
  exact ⟨by decide,by decide,aca,aca⟩
 by_cases cc:∃(i:Nat) (x:Nat×List Int),nd[i]? =some x/\x.1=j
 ·obtain ⟨i,x,e,rfl⟩:=cc
  have hi:i < nd.length:=(be.mp e).1
  have h1:=F.2.2.1 i hi x e
  rw [hj] at h1
  cases h1
  have hm:=ir e
  exact yL (R.here x hm) (by rw [ah1];exact R.CY x hm c) (R.CY x hm x.1)
 ·have h1:=F.2.2.2 j hjm jc (fun i _ x e z=>cc ⟨i,x,e,z⟩)
  rw [hj] at h1
  cases h1
  exact ⟨by decide,by decide,aaX _,aca⟩
theorem DF {H:Hp}{bS:List (List V)}{bQ:List (List (Int×Int))}{T B m j:Nat}(h:fg K H bS bQ)(sh:Shape T B m bQ)(hj:j < m):c_ K H (xy bS j) (fP bQ j):=by
 refine ⟨by simp [xy,fP,h.1],fun i u q e1 e2=> ?_⟩
 unfold xy at e1
 unfold fP at e2
 rw [Wp] at e1 e2
 obtain ⟨vs,ev,rfl⟩:=aal.mp e1
 obtain ⟨qs,eq,rfl⟩:=aal.mp e2
 have N:=h.2 i vs qs ev eq
 have hl:=(sh qs (ir eq)).1
 have lN:=N.1
 refine N.2 j _ _ ?_ ?_
 ·rw [aaj,gE (by omega)];rfl
 ·rw [aaj,gE (by omega)];rfl
def b6 (pins:ν)(bars:List aU):List (List (Int×Int)):=(aa_ (2*pins.length)).map fun j=>fP (cA pins bars) j
theorem iy {α β:Type}{F:α->β->Prop}:∀{l₁:List α} {l₂:List β} {a:α} {b:β},Paired F l₁ l₂->F a b->Paired F (l₁++[a]) (l₂++[b])
 | _,_,_,_,.nil,h=>.cons h .nil
 | _,_,_,_,.cons h t,h' =>.cons h (iy t h')
def unit (n i:Nat):List Int:=(aaH n 0).set i 1
inductive xK (vs:η)(H:Hp)(Q:VK)(E_:XK):Prop where
 | mk (i n:Nat) (_:vs=[.int (i:Int),.int (n:Int)]) (_:i < n) (_:n<=900) (_:∀(p:Addr) (H' :Hp),au H H' ->H p=none->H' p=some (.lst ((unit n i).map V.int))->Q (.ref p) H'):xK vs H Q E_
theorem jU:aD ["at","many","line"] ["at","many"] (ag dP):=sq
theorem tu (D:Def K mg "unit_line" dP ["at","many"]):Fn P w K mg base (aY P w) 1 "unit_line" ["at","many"] xK:=by
 refine D.ok jU (fun vs H Q E h=> ?_) (fun f bE A outer s H vs Q E hr h=> ?_)
 ·obtain ⟨i,n,rfl,_⟩:=h
  rfl
 obtain ⟨i,n,rfl,hi,hn,q⟩:=h
 refine ⟨_,(ae (aF (i:=2) jU.nd rfl (aai rfl) (aK FR (dk (ar ak aa)) (pv 1)))
  (ae (nC ak (rX (pv 2) (pv 0) set_list))
  (aj (aI (pv 2))))),?_⟩
 refine ⟨(by show 1<=sizeLine;decide),fun p3 n3=> ?_⟩
 have s3:=aG n3 (.lst [V.int 0])
 refine ⟨_,rfl,p3,_,_,rfl,rfl,ah,by omega,by omega,aaf (show 1*(n:Int).toNat<=1000 by omega) (by decide),fun x n4=> ?_⟩
 have er:(aaH (n:Int).toNat [V.int 0]).flatten=aaH n (V.int 0):=by simp
 rw [er]
 have s4:=aG n4 (.lst (aaH n (V.int 0)))
 have nx:H x=none:=s3.free n4
 refine ⟨_,rfl,_,rfl,x,_,_,i,rfl,rfl,ah,by rw [acb];exact sT hi,?_⟩
 refine ⟨_,rfl,q x _ (fK (s3.trans s4) nx) nx ?_⟩
 rw [ah]
 unfold unit
 rw [List.map_set]
 simp
def gW (m n:Nat)(ws:List Wl)(es:ε):Prop:=es.length=n/\ws.length=n/\∀(i:Nat) (w:Wl),ws[i]? =some w->es[i]? =some (w.1++unit n i)
def cY (m:Nat)(ws:List Wl)(x:Nat×List Int):List (Int×Int):=abJ (fun (s:Int) (w:Wl)=>low (s*w.2.1) (x.2.getD x.1 0)) (x.2.drop m) ws
inductive oW (K:Frag)(vs:η)(H:Hp)(Q:VK)(E_:XK):Prop where
 | mk (r:Addr) (m:Nat) (ls:List Addr) (bS:List (List V:_)) (bQ:List (List (Int×Int))) (T B Z:Nat) (_:vs=[.ref r,.int (m:Int)]) (_:mq H r ls bS) (_:fg K H bS bQ) (_:Shape T B m bQ) (_:m<=100) (_:bQ.length<=100) (_:T<=20000) (_:B*m<=8000) (_:B<=8000) (_:bb (T+B*m) (min m bQ.length)<=Z) (_:Z<=29000000) (_:∀(dd:Addr) (kvs:γ) (ss:List (Nat×List (Int×Int))) (ws:List Wl) (es lv:ε) (nd:θ) (H' :Hp),au H H' ->H dd=none->H' dd=some (.dK kvs)->vJ K H' kvs ss->gW m bQ.length ws es->(∀(i:Nat) (w:Wl) (qs:π),ws[i]? =some w->bQ[i]? =some qs->yV T B m qs w)->Red es (m+bQ.length) m Z nd lv->ss=nd.map (fun x=>(x.1,cY m ws x))->Q (.ref dd) H'):oW K vs H Q E_
theorem vL:∀{l:List Nat} {m:Nat},l.Nodup->(∀c∈l,c < m)->l.length<=m:=fun {l m} h1 h2=>by
 have:=List.Nodup.length_le_of_subset h1 (l₂:=aa_ m) (fun c hc=>abb.mpr (h2 c hc))
 simpa using this
theorem DG {l:ξ}{m:Nat}(h:m<=l.length):fD (l.map V.int) (some (m:Int)) none=(l.drop m).map V.int:=by
 rw [kG (by rw [aaa];exact h),List.map_drop]
theorem bK:aD ["rows","many","wholes","lines","needed","column","line","shares"] ["rows","many"] (ag bV):=sq
theorem jV (D:Def K mg "needed_columns" bV ["rows","many"])(ba:mg "len"=none)(jK:mg "zip"=none)(cg:mg "enumerate"=none)(P9:Fn P w K mg base (aY P w) 2 "whole_row" ["row"] (LI K))(vM:Fn P w K mg base (aY P w) 1 "unit_line" ["at","many"] xK)(P_:Fn P w K mg base (aY P w) 35 "reduced" ["lines","many"] (iI K))(IH:Fn P w K mg base (aY P w) 33 "lowest_terms" ["top","bottom"] gv):Fn P w K mg base (aY P w) 36 "needed_columns" ["rows","many"] (oW K):=by
 refine D.ok bK (fun vs H Q E h=> ?_) (fun f bE A outer s H vs Q E hr h=> ?_)
 ·obtain ⟨r,m,ls,bS,bQ,T,B,Z,rfl,_⟩:=h
  rfl
 obtain ⟨r,m,ls,bS,bQ,T,B,Z,rfl,M,NN,sh,hm,hn,hT,hB,YV,hZ,hZ1,q⟩:=h
 refine ⟨_,(ae (aF (i:=2) bK.nd rfl (aa2 rfl) (dC (tn:=["row"]) (fr:=[]) (caps:=[]) rfl ⟨rfl,by decide+kernel,rfl,by decide+kernel,by decide+kernel,rfl,trivial,trivial⟩ (bu (pv 0)) (fun _ _ _ _=>(aC (i:=0) (show (["row"]:List Str).Nodup from by decide+kernel) rfl (aai rfl))) (fun _ _ _ _=>dG) (fun _ _ _ _=>(aA P9 hr.mo (n_ (by first | assumption | exact aY.nX) rfl) (ar (pv 0) aa)))))
  (ae (mS (i:=3) bK.nd rfl (aai rfl) (tn:=["at","whole"]) (fr:=["wholes"]) (caps:=[2]) rfl ⟨rfl,by decide+kernel,rfl,by decide+kernel,by decide+kernel,rfl,⟨(by first | exact aai rfl | exact aa2 rfl),trivial⟩,⟨(by first | exact aai rfl | exact aa2 rfl),trivial⟩⟩ (sG rfl cg (ar (pv 2) aa)) (fun _ _ _ _=>(sy (K:=K) (n:=2) rfl rfl (aS (aC (i:=0) (show (["at","whole","wholes"]:List Str).Nodup from by decide+kernel) rfl (aai rfl)) (aS (aC (i:=1) (show (["at","whole","wholes"]:List Str).Nodup from by decide+kernel) rfl (aai rfl)) b_)))) (fun _ _ _ _=>dG) (fun _ _ _ _=>(aK FQ (bq (c9 (K:=K) rfl) (pv 1) ak (fun _ _=>rfl)) (aA vM hr.mo (n_ (by first | assumption | exact aY.nX) rfl) (ar (pv 0) (ar (aT (qp (K:=K) rfl) rfl ba cf (ar (pv 2) aa)) aa))))))
  (ae (aF (i:=4) bK.nd rfl (aai rfl) dy)
  (ae (bD PassesOwn.never rfl (rn (aL (aA P_ hr.mo pX (ar (pv 3) (ar (pv 1) aa))))) (dF rfl (aS (aC (i:=5) bK.nd rfl (aa2 rfl)) (aS (aC (i:=6) bK.nd rfl (aa2 rfl)) b_))) (ae (aF (i:=7) bK.nd rfl (aai rfl) (dY jy (pv 6) (dB (pv 1)) iB))
   (aj (d6 (bR hr) (pv 4) (pv 5) (dC (tn:=["share","whole"]) (fr:=["line","column"]) (caps:=[6,5]) rfl ⟨rfl,by decide+kernel,rfl,by decide+kernel,by decide+kernel,rfl,⟨(by first | exact aai rfl | exact aa2 rfl),⟨(by first | exact aai rfl | exact aa2 rfl),trivial⟩⟩,⟨(by first | exact aai rfl | exact aa2 rfl),⟨(by first | exact aai rfl | exact aa2 rfl),trivial⟩⟩⟩ (GS rfl jK (ar (pv 7) (ar (pv 2) aa))) (fun _ _ _ _=>(sy (K:=K) (n:=2) rfl rfl (aS (aC (i:=0) (show (["share","whole","line","column"]:List Str).Nodup from by decide+kernel) rfl (aai rfl)) (aS (aC (i:=1) (show (["share","whole","line","column"]:List Str).Nodup from by decide+kernel) rfl (aai rfl)) b_)))) (fun _ _ _ _=>dG) (fun _ _ _ _=>(aA IH hr.mo (n_ (by first | assumption | exact aY.nX) rfl) (ar (aK iF (pv 0) (bq (c9 (K:=K) rfl) (pv 1) ak (fun _ _=>rfl))) (ar (bq (u_ (K:=K) rfl) (pv 2) (pv 3) (fun _ _=>rfl)) aa))))) rfl))))
  (aj (aI (pv 4))))))),?_⟩
 have l1:=M.2.1
 have l2:=NN.1
 refine ⟨_,rfl,r,rfl,⟨_,a8.of M.1⟩,fun D1 n1=> ?_⟩
 refine jg (cap:=[]) (K:=K) (a:=r) (xs:=ls.map V.ref) (fun i v H=>∃w:Wl,v=.ref w.2.2.2/\w.2.2.1≠D1/\H w.2.2.2=some (.tup [.ref w.2.2.1,.int w.2.1])/\H w.2.2.1=some (.lst (w.1.map V.int))/\∀qs,bQ[i]? =some qs->yV T B m qs w) n1 (by rw [aaa];exact aar (show ls.length<=1000 by omega) (by decide)) (fun H2 s2=>a8.of (s2 _ _ M.1)) ?_ ?_ ?_
 ·rintro i v H2 H3 ys hD ks ⟨w,e1,e2,e3,e4,e5⟩
  exact ⟨w,e1,e2,ks _ _ (fun z=>by rw [z,hD] at e3;cases e3) e3,ks _ _ e2 e4,e5⟩
 ·rintro i x H2 RR ex s2 ⟨ys0,hD0⟩ kk
  rw [Wp] at ex
  obtain ⟨l,el,rfl⟩:=aal.mp ex
  have hi:i < ls.length:=(be.mp el).1
  obtain ⟨qs,eq⟩:∃qs,bQ[i]? =some qs:=⟨_,gE (by omega)⟩
  obtain ⟨vs,ev⟩:∃vs,bS[i]? =some vs:=⟨_,gE (by omega)⟩
  have hl:=M.2.2 i l vs el ev
  have hq:=NN.2 i vs qs ev eq
  obtain ⟨lq,sq⟩:=sh qs (ir eq)
  refine ⟨_,rfl,l,qs,T,B,rfl,⟨_,a8.of (s2 _ _ hl),hq.same s2⟩,sq,hT,by rw [lq];omega,YV,by omega,fun p3 Uw ts b H3 s3 nl hp3 hl3 hb Ux wh Uy=> ?_⟩
  rw [lq] at Ux Uy
  refine kk _ _ s3 ⟨(ts,b,Uw,p3),rfl,fun z=> ?_,hp3,hl3,fun LC e1=> ?_⟩
  ·rw [show Uw =D1 from z,hD0] at nl
   cases nl
  ·rw [eq] at e1
   cases e1
   exact ⟨wh,hb,Ux,Uy⟩
 intro zs H2 hz ie s2 Kh
 rw [aaa] at hz
 obtain ⟨ws,lw,hw⟩:=gw (P:=fun i v (w:Wl)=>v=.ref w.2.2.2/\w.2.2.1≠D1/\H2 w.2.2.2=some (.tup [.ref w.2.2.1,.int w.2.1])/\H2 w.2.2.1=some (.lst (w.1.map V.int))/\∀qs,bQ[i]? =some qs->yV T B m qs w) zs ie
 have lwn:ws.length=bQ.length:=by omega
 have wp:∀(i:Nat) (w:Wl),ws[i]? =some w->∃qs,zs[i]? =some (.ref w.2.2.2)/\bQ[i]? =some qs/\H2 w.2.2.2=some (.tup [.ref w.2.2.1,.int w.2.1])/\H2 w.2.2.1=some (.lst (w.1.map V.int))/\yV T B m qs w/\w.1.length=m:=fun i w e=>by
  have hi:i < ws.length:=(be.mp e).1
  obtain ⟨v,ev⟩:∃v,zs[i]? =some v:=⟨_,gE (by omega)⟩
  obtain ⟨qs,eq⟩:∃qs,bQ[i]? =some qs:=⟨_,gE (by omega)⟩
  obtain ⟨h1,_,h3,h4,h5⟩:=hw i v w ev e
  have h6:=h5 qs eq
  exact ⟨qs,by rw [ev,h1],eq,h3,h4,h6,by rw [h6.1.1,(sh qs (ir eq)).1]⟩
 refine ⟨_,rfl,D1,rfl,⟨_,a8.of Kh⟩,fun D2 n2=> ?_⟩
 refine xh (cap:=[some (.ref D1)]) (K:=K) (a:=D1) (xs:=zs) (fun k v H=>∃e:List Int,∃p:Addr,v=.ref p/\p≠D2/\H p=some (.lst (e.map V.int))/\∀w,ws[k]? =some w->e=w.1++unit bQ.length k) n2 (aar (show zs.length<=1000 by omega) (by decide)) (fun H3 s3=>a8.of (s3 _ _ Kh)) ?_ ?_ ?_
 ·rintro k v H3 H4 ys hD ks ⟨e,p,e1,e2,e3,e4⟩
  exact ⟨e,p,e1,e2,ks _ _ e2 e3,e4⟩
 ·rintro k x H3 RR ex s3 ⟨ys0,ID⟩ kk
  have hk:k < zs.length:=(be.mp ex).1
  obtain ⟨w,ew⟩:∃w,ws[k]? =some w:=⟨_,gE (by omega)⟩
  obtain ⟨qs,ez,eq,h3,h4,h5,h6⟩:=wp k w ew
  rw [ex] at ez
  cases ez
  refine ⟨_,rfl,w.2.2.2,_,_,_,rfl,rfl,bN.of (s3 _ _ h3),ib,_,rfl,_,rfl,D1,_,rfl,.inl (a8.of (s3 _ _ Kh)),k,bQ.length,by rw [show zs.length=bQ.length by omega];rfl,by omega,by omega,fun pu Hu su nu hu=> ?_⟩
  refine ⟨w.2.2.1,pu,_,_,rfl,rfl,su _ _ (s3 _ _ h4),hu,aaf (show _<=1000 by simp [unit];omega) (by decide),fun pn nn=> ?_⟩
  refine kk _ _ (su.trans (aG nn _)) ⟨w.1++unit bQ.length k,pn,rfl,fun z=> ?_,by rw [ah,aaK],fun w' ew' =>by rw [ew] at ew';cases ew';rfl⟩
  have:=su _ _ ID
  rw [z,this] at nn
  cases nn
 intro ys H3 hy UA s3 LA
 obtain ⟨es,le,hes⟩:=gw (P:=fun k v (e:ξ)=>∃p:Addr,v=.ref p/\p≠D2/\H3 p=some (.lst (e.map V.int))/\∀w,ws[k]? =some w->e=w.1++unit bQ.length k) ys UA
 have hE:gW m bQ.length ws es:=⟨by omega,lwn,fun i w e=>by
  have hi:i < ws.length:=(be.mp e).1
  have e1:ys[i]? =some (ys[i]'(by omega)):=gE (by omega)
  have e2:es[i]? =some (es[i]'(by omega)):=gE (by omega)
  obtain ⟨p,_,_,_,h⟩:=hes i _ _ e1 e2
  rw [e2,h w e]⟩
 have hLl:qu H3 ys es:=⟨le.symm,fun i u l e1 e2=>by
  obtain ⟨p,h1,_,h3,_⟩:=hes i u l e1 e2
  exact ⟨p,h1,h3⟩⟩
 have UB:∀l∈es,l.length=m+bQ.length/\Bd (T+B*m) l:=fun l hl=>by
  obtain ⟨i,e⟩:=aad hl
  have hi:i < es.length:=(be.mp e).1
  obtain ⟨w,ew⟩:∃w,ws[i]? =some w:=⟨_,gE (by omega)⟩
  have e2:=hE.2.2 i w ew
  rw [e] at e2
  cases e2
  obtain ⟨qs,_,_,_,_,h5,h6⟩:=wp i w ew
  refine ⟨by rw [aas,h6];simp [unit],Bd.of fun t ht=> ?_⟩
  rcases aaF.mp ht with z | z
  ·exact h5.2.2.2 t z
  ·unfold unit at z
   rcases List.mem_or_eq_of_mem_set z with y | y
   ·rw [(List.mem_replicate.mp y).2]
    exact aaX _
   ·rw [y]
    exact aca
 refine fun dd ndd=> ?_
 have t4:=aG ndd (.dK [])
 refine ⟨_,rfl,_,rfl,D2,ys,es,m+bQ.length,m,T+B*m,rfl,a8.of (t4 _ _ LA),hLl.same t4,fun l hl=>(UB l hl).1,by omega,by omega,by omega,fun l hl=>(UB l hl).2,by rw [hE.1];omega,fun p d a' kvs iW nd lv H5 s5 wD np hp hd PH NV Ri R=> ?_⟩
 rw [hE.1] at R
 have RZ:=R.up hZ
 have uF:=(s3.trans t4).trans s5
 have LU:=s2.trans uF
 have Hd:H d=none:=((s2.trans s3).trans t4).free wD
 have Hdd:H dd=none:=(s2.trans s3).free ndd
 have Qc:H5 dd=some (.dK []):=s5 _ _ ah
 have ds:d≠dd:=fun z=>by rw [z,ah] at wD;cases wD
 refine ⟨p,_,_,_,rfl,rfl,bN.of hp,ib,d,kvs,rfl,.inl hd,fun o=> ?_⟩
 refine fq (d:=d) (o:=o) (kvs:=kvs) (fun t σ H' =>∃(o5 o6 o7:Option V) (gU:γ),σ=[some (.ref r),some (.int (m:Int)),some (.ref D1),some (.ref D2),some (.ref dd),o5,o6,o7]/\au H H' /\H' d=some (.fk o (.dK kvs))/\H' dd=some (.dK gU)/\(∀b o',b≠d->b≠dd->H5 b=some o' ->H' b=some o')/\vJ K H' gU ((nd.take t).map fun x=>(x.1,cY m ws x)))
  ⟨none,none,none,[],rfl,fK LU Hd,ah,by rw [ao (aaO ds)];exact Qc,fun b o' n1 n2 e=>by rw [ao n1];exact e,⟨by simp,fun i kv x e=>by simp at e⟩⟩ (fun t σ H' _ h=>by
   obtain ⟨_,_,_,_,_,_,h,_⟩:=h
   exact h) ?_ ?_
 ·rintro t k v σ H6 p7 rH ⟨o5,o6,o7,gU,rfl,s6,EH,Qd,k6,Rt⟩ n7
  have ht:t < kvs.length:=(be.mp rH).1
  have Uv:=NV.1
  obtain ⟨y,ey⟩:∃y,nd[t]? =some y:=⟨_,gE (by omega)⟩
  obtain ⟨k1,k2⟩:=NV.2 t _ y rH ey
  have k1' :k=.inl (y.1:Int):=k1
  subst k1'
  obtain ⟨b',eb,iQ⟩:=k2
  have qe :v=.ref b' :=eb
  subst qe
  have k6L:∀{b:Addr} {xs:η},H5 b=some (.lst xs)->H6 b=some (.lst xs):=fun {b xs} e=>k6 _ _ (fun z=>by rw [z,hd] at e;cases e) (fun z=>by rw [z,Qc] at e;cases e) e
  have k6T:∀{b:Addr} {xs:η},H5 b=some (.tup xs)->H6 b=some (.tup xs):=fun {b xs} e=>k6 _ _ (fun z=>by rw [z,hd] at e;cases e) (fun z=>by rw [z,Qc] at e;cases e) e
  have NX:=ir ey
  have hyl:=R.mi y NX
  have hyc:=R.cols y NX
  have s7:=aG n7 (.tup [kV (.inl (y.1:Int)),.ref b'])
  have NY:=s7 _ _ (k6L iQ)
  refine ⟨p7,_,rfl,bN.of ah,rfl,_,_,rfl,_,_,rfl,rfl,?_⟩
  refine ⟨_,rfl,_,rfl,_,rfl,b',_,rfl,a8.of NY,fun ps nps=> ?_⟩
  rw [DG (by omega)]
  have t8:=aG nps (.lst ((y.2.drop m).map V.int))
  have C_:=s7.trans t8
  have UC:=C_ _ _ (k6L (uF _ _ Kh))
  refine ⟨_,rfl,_,rfl,ps,D1,rfl,⟨_,a8.of ah⟩,⟨_,a8.of UC⟩,fun D9 n9=> ?_⟩
  have ldr:(y.2.drop m).length=bQ.length:=by rw [abp];omega
  refine va (cap:=[some (.ref b'),some (kV (.inl (y.1:Int)))]) (K:=K) (xs:=(y.2.drop m).map V.int) (ys:=zs) (fun k v H=>∃s w,(y.2.drop m)[k]? =some s/\ws[k]? =some w/\Nm H v (low (s*w.2.1) (y.2.getD y.1 0))) n9 (aar (show ((y.2.drop m).map V.int).length<=1000 by rw [aaa];omega) (by decide)) (by rw [aaa];omega) (fun H8 s8=>a8.of (s8 _ _ ah)) (fun H8 s8=>a8.of (s8 _ _ UC)) ?_ ?_ ?_
  ·rintro k v H8 H9 ys9 hD ks ⟨s,w,e1,e2,e3⟩
   exact ⟨s,w,e1,e2,e3.kept hD ks⟩
  ·intro k x z H8 RR ex ez s8 kk
   rw [Wp] at ex
   obtain ⟨sv,zR,rfl⟩:=aal.mp ex
   have hk:k < zs.length:=(be.mp ez).1
   obtain ⟨w,ew⟩:∃w,ws[k]? =some w:=⟨_,gE (by omega)⟩
   obtain ⟨qs,ez',eq,h3,h4,h5,h6⟩:=wp k w ew
   rw [ez] at ez'
   cases ez'
   have Y3:=s8 _ _ (C_ _ _ (k6T (uF _ _ h3)))
   have hb8:=s8 _ _ (t8 _ _ NY)
   have bs:sv.natAbs<=2^Z:=(RZ.CY y NX).mem (air (ir zR))
   refine ⟨_,rfl,_,rfl,w.2.2.2,_,_,_,rfl,rfl,bN.of Y3,iV,_,_,rfl,rfl,gk bs h5.2.2.1 (by omega),_,rfl,_,rfl,b',_,_,_,rfl,rfl,a8.of hb8,rE (by omega),?_⟩
   exact ⟨_,_,rfl,R.here y NX,fun p8 H9 s9 e9=>kk _ _ s9 ⟨sv,w,zR,ew,p8,rfl,e9⟩⟩
  intro us9 H9 h9 UD s9 hD9
  rw [aaa] at h9
  have xM:=C_.trans s9
  have UE:=xM _ _ Qd
  have Rr:=Rt.1
  have lnd:nd.length<=m:=by
   have a:=R.cnt
   have:=ahs.mpr (R.asc.imp fun {a b} h=>aaQ h)
   have z:=vL this (fun c hc=>by
    obtain ⟨x,hx,rfl⟩:=aab.mp hc
    exact R.cols x hx)
   rw [aaa] at z
   exact z
  have lsm:gU.length<=100:=by
   rw [Rr,aaa,aaW]
   omega
  refine ⟨_,rfl,_,rfl,dd,_,rfl,iR.k (k:=.inl (y.1:Int)) UE (aar (show gU.length<=1000 by omega) (by decide)),?_⟩
  have K_:bB gU (.inl (y.1:Int))=none:=iH (fun z=>by
   rw [Rt.keys] at z
   obtain ⟨x',uE,e⟩:=aab.mp z
   obtain ⟨x,hx,rfl⟩:=aab.mp uE
   have e1:(x.1:Int)=y.1:=ahR e
   obtain ⟨i,hi⟩:=aad hx
   rw [List.getElem?_take] at hi
   by_cases hit:i < t
   ·rw [if_pos hit] at hi
    have a:=ah4.mp R.asc i t (by rw [aaa];exact (be.mp hi).1) (by rw [aaa];exact (be.mp ey).1) hit
    simp only [aj_] at a
    have wB :=(be.mp hi).2
    have Ru :=(be.mp ey).2
    rw [wB,Ru] at a
    omega
   ·rw [if_neg hit] at hi
    cases hi)
  rw [cK _ K_]
  have Y6:aV dd H9 (upd H9 dd (.dK (gU++[(.inl (y.1:Int),.ref D9)]))):=fun b o' n e=>by rw [ao n];exact e
  have hq9:c_ K H9 us9 (cY m ws y):=⟨by unfold cY;rw [ahw];omega,fun i u q' e1 e2=>by
   obtain ⟨sv,w,a1,a2,p,a3,a4⟩:=UD i u e1
   unfold cY at e2
   rw [abk,a1,a2] at e2
   cases e2
   exact ⟨p,a3,bN.of a4⟩⟩
  refine ⟨_,_,_,_,rfl,fK (s6.trans xM) Hdd,by rw [ao ds];exact xM _ _ EH,ah,fun b o' n1 n2 e=>by rw [ao n2];exact xM _ _ (k6 _ _ n1 n2 e),?_⟩
  rw [List.take_succ,ey]
  rw [aaK]
  exact ((Rt.same xM).snoc hD9 hq9).ks (.inl UE) Y6
 ·rintro σ H6 ⟨o5,o6,o7,gU,rfl,s6,EH,Qd,k6,Rt⟩
  have Uv:=NV.1
  rw [Uv,ahK (aah _)] at Rt
  exact ⟨_,rfl,q dd gU _ ws es lv nd H6 s6 Hdd Qd Rt hE (fun i w qs e1 e2=>by
   obtain ⟨LC,_,eq,_,_,h5,_⟩:=wp i w e1
   rw [e2] at eq
   cases eq
   exact h5) RZ rfl⟩
theorem DC.ex (c:Nat):∀{nd:θ},(nd.map (·.1)).Pairwise (· < ·)->(∀y∈nd,y.1≠c)->∃z,DC nd c z
 | [],_,_=>⟨fun j=>if j=c then 1 else 0,if_pos rfl,(fun y hy=>nomatch hy),fun j h _=>if_neg h⟩
 | x::r,a,f=>by
  rw [aac,ahB] at a
  obtain ⟨z,hz⟩:=DC.ex c a.2 (fun y hy=>f y (aag _ hy))
  refine ⟨fun j=>if j=x.1 then (-(x.2.getD c 0):Int) / ((x.2.getD x.1 0:Int):Rat) else z j,?_,fun y hy=> ?_,fun j h1 h2=> ?_⟩
  ·show (if c=x.1 then _ else z c)=1
   rw [if_neg (aaO (f x aaq))]
   exact hz.one
  ·rcases aaN.mp hy with q | q
   ·subst q
    exact if_pos rfl
   ·have:=a.1 y.1 (aab.mpr ⟨y,q,rfl⟩)
    show (if y.1=x.1 then _ else z y.1)=_
    rw [if_neg (by omega)]
    exact hz.at' y q
  ·show (if j=x.1 then _ else z j)=0
   rw [if_neg (aaO (h2 x aaq))]
   exact hz.no j h1 (fun y hy=>h2 y (aag _ hy))
theorem lT {os lv:ε}{L m b c:Nat}{nd:θ}{z:Nat->Rat}(R:Red os L m b nd lv)(z1:z c≠0)(zb:∀j,c < j->z j=0)(hz:∀o∈os,ev o z=0):∀y∈nd,y.1≠c:=by
 intro y hy e
 have e0:=((R.sol z).mpr hz).1 y hy
 rw [sD y.2 z c (fun j hj=> ?_)] at e0
 ·have hh:=cq (R.here y hy)
  rw [e] at hh
  grind
 ·by_cases q:j < c
  ·rw [R.low y hy j (by rw [e];exact q)]
   simp
  ·rw [zb j (by omega)]
   grind
theorem IX:∀(l r:ξ) (z:Nat->Rat),(∀j,l.length<=j->z j=0)->ev (l++r) z=ev l z
 | [],r,z,h=>by
  rw [ahj,mV r z (fun j=>by rw [h j (aaX _)];grind)]
  rfl
 | a::l,r,z,h=>by
  rw [aht]
  simp only [ev]
  rw [IX l r (fun i=>z (i+1)) (fun j hj=>h (j+1) (by simp;omega))]
theorem oX {T B m:Nat}{bQ:List (List (Int×Int))}{ws:List Wl}{es:ε}(gD:gW m bQ.length ws es)(wl:∀(i:Nat) (w:Wl) (qs:π),ws[i]? =some w->bQ[i]? =some qs->yV T B m qs w)(len:∀qs∈bQ,qs.length=m)(z:Nat->Rat)(hz:∀j,m<=j->z j=0):(∀o∈es,ev o z=0) ↔ ∀qs∈bQ,sumTo m (fun j=>vl (qs.getD j (0,1))*z j)=0:=by
 obtain ⟨l1,l2,l3⟩:=gD
 have row:∀i,i < bQ.length->∃w qs,ws[i]? =some w/\bQ[i]? =some qs/\es[i]? =some (w.1++unit bQ.length i)/\(ev (w.1++unit bQ.length i) z=0 ↔ sumTo m (fun j=>vl (qs.getD j (0,1))*z j)=0):=fun i hi=>by
  have e1:ws[i]? =some (ws[i]'(by omega)):=gE (by omega)
  have e2:bQ[i]? =some (bQ[i]'(by omega)):=gE (by omega)
  obtain ⟨wh,hb,_⟩:=wl i _ _ e1 e2
  have hq:=len _ (ir e2)
  refine ⟨_,_,e1,e2,l3 i _ e1,?_⟩
  rw [IX _ _ z (fun j hj=>hz j (by rw [wh.1] at hj;omega))]
  exact tq wh hb hq z
 constructor
 ·intro h qs hq
  obtain ⟨i,e⟩:=aad hq
  obtain ⟨w,LC,_,e2,e3,k⟩:=row i (be.mp e).1
  rw [e] at e2
  cases e2
  exact k.mp (h _ (ir e3))
 ·intro h o ho
  obtain ⟨i,e⟩:=aad ho
  obtain ⟨w,LC,_,e2,e3,k⟩:=row i (by have:=(be.mp e).1;omega)
  rw [e] at e3
  cases e3
  exact k.mpr (h _ (ir e2))
theorem rL (j:Nat):∀(y:List Rat) (os:ε) (i:Nat),y.length=os.length->i < os.length->(∀(k:Nat) (o:ξ),os[k]? =some o->o.getD j 0=if k=i then 1 else 0)->eI y os j=y.getD i 0
 | [],[],_,_,h,_=>by simp at h
 | a::y,o::os,0,h,_,f=>by
  have f0:=f 0 o rfl
  rw [if_pos rfl] at f0
  have hz:∀(y:List Rat) (os:ε),(∀o∈os,o.getD j 0=0)->eI y os j=0:=by
   intro y os
   induction os generalizing y with
   | nil=>intro _;cases y <;> rfl
   | cons o os ih=>
    intro g
    cases y with
    | nil=>rfl
    | cons a y=>
     simp only [eI]
     rw [g o aaq,ih y (fun o' EM =>g o' (aag _ EM))]
     simp
     grind
  simp only [eI]
  rw [f0,hz y os (fun o' EM =>by
   obtain ⟨k,e⟩:=aad EM
   have:=f (k+1) o' (by simpa using e)
   rw [if_neg (by omega)] at this
   exact this)]
  simp
  grind
 | a::y,o::os,i+1,h,hi,f=>by
  have f0:=f 0 o rfl
  rw [if_neg (by omega)] at f0
  simp only [eI]
  rw [f0,rL j y os i (by simpa using h) (by simpa using hi) (fun k o' e=>by
   have:=f (k+1) o' (by simpa using e)
   rw [this]
   simp)]
  simp
  grind
 | [],_::_,_,h,_,_=>by simp at h
 | _::_,[],_,h,_,_=>by simp at h
theorem oY (j:Nat):∀(y:List Rat) (os K7 :ε),os.length=K7.length->(∀(k:Nat) (o o' :ξ),os[k]? =some o->K7[k]? =some o' ->o.getD j 0=o'.getD j 0)->eI y os j=eI y K7 j
 | [],os,K7,_,_=>by cases os <;> cases K7 <;> rfl
 | _::_,[],[],_,_=>rfl
 | a::y,o::os,o' ::K7,h,f=>by
  simp only [eI]
  rw [f 0 o o' rfl rfl,oY j y os K7 (by simpa using h) (fun k p p' e1 e2=>f (k+1) p p' (by simpa using e1) (by simpa using e2))]
 | _::_,[],_::_,h,_=>by simp at h
 | _::_,_::_,[],h,_=>by simp at h
theorem qz {l r:ξ}{j:Nat}(h:j < l.length):(l++r).getD j 0=l.getD j 0:=by
 rw [aaj,aaj,aat h]
theorem oZ {l r:ξ}{j:Nat}:(l++r).getD (l.length+j) 0=r.getD j 0:=by
 rw [aaj,aaj,aaJ (by omega)]
 congr 2
 omega
theorem DH {n i j:Nat}(hj:j < n):(unit n i).getD j 0=if i=j then 1 else 0:=by
 unfold unit
 rw [aaj,aa7]
 by_cases z:i=j
 ·rw [if_pos z,if_pos z,if_pos (by rw [acb];omega)]
  rfl
 ·rw [if_neg z,if_neg z,abP,if_pos hj]
  rfl
theorem DI {T B m:Nat}{bQ:List (List (Int×Int))}{ws:List Wl}{es lv:ε}{nd:θ}{Z:Nat}(gD:gW m bQ.length ws es)(wl:∀(i:Nat) (w:Wl) (qs:π),ws[i]? =some w->bQ[i]? =some qs->yV T B m qs w)(len:∀qs∈bQ,qs.length=m)(R:Red es (m+bQ.length) m Z nd lv){x:Nat×List Int}(hx:x∈nd){j:Nat}(hj:j < m):
  mf (cY m ws x) (fP bQ j)=((x.2.getD j 0:Int):Rat) / ((x.2.getD x.1 0:Int):Rat):=by
 obtain ⟨l1,l2,l3⟩:=gD
 have xl:=R.mi x hx
 have ld:(x.2.drop m).length=bQ.length:=by rw [abp];omega
 have hp:=cq (R.here x hx)
 have row:∀i,i < bQ.length->∃w qs,ws[i]? =some w/\bQ[i]? =some qs/\es[i]? =some (w.1++unit bQ.length i)/\rg w.1 qs w.2.1/\w.1.length=m:=fun i hi=>by
  have e1:ws[i]? =some (ws[i]'(by omega)):=gE (by omega)
  have e2:bQ[i]? =some (bQ[i]'(by omega)):=gE (by omega)
  obtain ⟨wh,hb,_⟩:=wl i _ _ e1 e2
  exact ⟨_,_,e1,e2,l3 i _ e1,wh,by rw [wh.1];exact len _ (ir e2)⟩
 have esr:∀(k:Nat) (o:ξ),es[k]? =some o->∃w,ws[k]? =some w/\o=w.1++unit bQ.length k/\w.1.length=m:=fun k o e=>by
  obtain ⟨w,qs,e1,_,e3,_,e5⟩:=row k (by have:=(be.mp e).1;omega)
  rw [e] at e3
  cases e3
  exact ⟨w,e1,rfl,e5⟩
 obtain ⟨y,ly,hy⟩:=R.rG x hx
 have yi:∀i,i < bQ.length->y.getD i 0=((x.2.getD (m+i) 0:Int):Rat):=fun i hi=>by
  rw [hy (m+i),rL (m+i) y es i ly (by omega) (fun k o e=> ?_)]
  obtain ⟨w,_,rfl,e5⟩:=esr k o e
  rw [<- e5,oZ,DH hi]
 rw [vG j (ws:=ws) (ss:=(x.2.drop m).map fun s=>(s,x.2.getD x.1 0)) (by rw [aaa];omega) (by unfold cY;rw [ahw];omega) (by unfold fP;rw [aaa];omega) (fun i w s q e1 e2 e3=> ?_) (fun i w c e1 e2=> ?_)]
 ·have e:(List.map vl ((x.2.drop m).map fun s=>(s,x.2.getD x.1 0)))=y.map (fun a=>a*(1 / ((x.2.getD x.1 0:Int):Rat))):=by
   rw [aay]
   refine aa8 fun i=> ?_
   rw [Wp,Wp]
   by_cases hi:i < bQ.length
   ·have e1:(x.2.drop m)[i]? =some (x.2.getD (m+i) 0):=by
     rw [List.getElem?_drop,aaj,gE (show m+i < x.2.length by omega)]
     rfl
    have e2:y[i]? =some (y.getD i 0):=by
     rw [aaj,gE (show i < y.length by omega)]
     rfl
    rw [e1,e2,yi i hi]
    show some (vl (_,_))=some _
    unfold vl
    congr 1
    grind
   ·rw [aae (by omega),aae (by omega)]
    rfl
  rw [e,oB,hy j,oY j y es (ws.map (·.1)) (by rw [aaa];omega) (fun k o o' e1 e2=> ?_)]
  ·grind
  ·obtain ⟨w,ew,rfl,e5⟩:=esr k o e1
   rw [Wp,ew] at e2
   cases e2
   exact qz (by omega)
 ·rw [Wp] at e2
  obtain ⟨sv,zR,rfl⟩:=aal.mp e2
  unfold cY at e3
  rw [abk,zR,e1] at e3
  cases e3
  rw [w_ (R.here x hx)]
  unfold vl
  push_cast
  grind
 ·have hi:i < ws.length:=(be.mp e1).1
  obtain ⟨w',qs,f1,f2,_,wh,Uz⟩:=row i (by omega)
  rw [e1] at f1
  cases f1
  unfold fP at e2
  rw [Wp,f2] at e2
  cases e2
  have lq:=len qs (ir f2)
  have g1:w.1[j]? =some (w.1[j]'(by omega)):=gE (by omega)
  have g2:qs[j]? =some (qs[j]'(by omega)):=gE (by omega)
  show _=vl (qs.getD j (0,1))*_
  rw [getD_mem g1,getD_some g2,wh.2 j _ _ g1 g2]
inductive tw (K:Frag)(vs:η)(H:Hp)(Q:VK)(E_:XK):Prop where
 | mk (l:Addr) (us:η) (rs:List Rat) (_:vs=[.ref l]) (_:H l=some (.lst us)) (_:Paired (f' K H) us rs) (_:us.length<=100) (_:∀(l' :Addr) (iW :η) (H' :Hp),au H H' ->H' l' =some (.lst iW)->Paired (f' K H') iW (rs.map fun r=> -r)->Q (.ref l') H'):tw K vs H Q E_
theorem rM {α:Type}{R:V->α->Prop}:∀{us:η} {zs:List α},us.length=zs.length->(∀(i:Nat) (u:V),us[i]? =some u->∃z,zs[i]? =some z/\R u z)->Paired R us zs
 | [],[],_,_=>.nil
 | u::us,z::zs,l,h=>by
  obtain ⟨z',e,hz⟩:=h 0 u rfl
  cases e
  exact .cons hz (rM (by simpa using l) fun i u e=>h (i+1) u (by simpa using e))
theorem UG:aD ["numbers"] ["numbers"] (ag BJ):=sq
theorem UH (D:Def K mg "signs_turned" BJ ["numbers"]):Fn P w K mg base (aY P w) 1 "signs_turned" ["numbers"] (tw K):=by
 refine D.ok UG (fun vs H Q E h=> ?_) (fun f bE A outer s H vs Q E hr h=> ?_)
 ·obtain ⟨l,us,rs,rfl,_⟩:=h
  rfl
 obtain ⟨l,us,rs,rfl,hl,pp,ln,q⟩:=h
 have lu:=Paired.length pp
 refine ⟨_,(aj (aI (dC (tn:=["number"]) (fr:=[]) (caps:=[]) rfl ⟨rfl,by decide+kernel,rfl,by decide+kernel,by decide+kernel,rfl,trivial,trivial⟩ (bu (pv 0)) (fun _ _ _ _=>(aC (i:=0) (show (["number"]:List Str).Nodup from by decide+kernel) rfl (aai rfl))) (fun _ _ _ _=>dG) (fun _ _ _ _=>(a9 (ar (FC wL (bq (c9 (K:=K) rfl) (pv 0) ak (fun _ _=>rfl))) (ar (bq (c9 (K:=K) rfl) (pv 0) ak (fun _ _=>rfl)) aa))))))),?_⟩
 refine ⟨_,rfl,l,rfl,⟨_,a8.of hl⟩,fun D1 n1=> ?_⟩
 refine dN (cap:=[]) (K:=K) (a:=l) (xs:=us) (fun i v H' =>∃r,rs[i]? =some r/\f' K H' v (-r)) n1 (aar ln (by decide)) (fun H2 s2=>a8.of (s2 _ _ hl)) (fun i v H6 H7 ys e ks ⟨r,h1,h2⟩=>⟨r,h1,h2.aX (bg.ks e ks)⟩) ?_ ?_
 ·intro i u H2 R hu s2 k
  obtain ⟨r,er,hr⟩:=aH pp hu
  obtain ⟨p,rfl,hq⟩:lM K H2 u (qr r):=hr.same s2
  refine ⟨_,rfl,p,_,_,_,rfl,rfl,hq,ib,_,rfl,_,rfl,p,_,_,_,rfl,rfl,hq,iV,(by show 2<=sizeLine;decide),?_⟩
  intro p3 n3;generalize eX:upd _ p3 _=H3;have ⟨s3,e3⟩:=nw n3 eX;clear eX
  refine k _ _ s3 ⟨r,er,p3,rfl,?_⟩
  rw [xi]
  exact bN.of e3
 ·intro ys H2 ly hy s2 hD
  refine q D1 ys H2 s2 hD (rM (by rw [ly,lu,aaa]) fun i v e=> ?_)
  obtain ⟨r,er,hr⟩:=hy i v e
  exact ⟨-r,by rw [Wp,er];rfl,hr⟩
structure DJ (K:Frag)(H:Hp)(pins:ν)(d:Addr)(kM:γ)(M:Str->Rat×Rat)(N:Nat):Prop where
 hM:H d=some (.dK kM)
 keys:kM.map (·.1)=pins.map (fun p=>(aa6 p.nm:Key))
 tM:∀p∈pins,∃t v1 v2,bB kM (.inr p.nm)=some (.ref t)/\H t=some (.tup [v1,v2])/\f' K H v1 (M p.nm).1/\f' K H v2 (M p.nm).2
 zb:∀p∈pins,Zb N (M p.nm).1/\Zb N (M p.nm).2
 hN:N<=6000000
theorem DJ.same {H H' :Hp}{pins:ν}{d:Addr}{kM:γ}{M:Str->Rat×Rat}{N:Nat}(h:DJ K H pins d kM M N)(s:au H H'):DJ K H' pins d kM M N:=⟨s _ _ h.hM,h.keys,fun p hp=>by
 obtain ⟨t,v1,v2,a,b,c,d⟩:=h.tM p hp
 exact ⟨t,v1,v2,a,s _ _ b,c.same s,d.same s⟩,h.zb,h.hN⟩
def yX (u:HO):Prop:=(∀xs,u≠.tup xs)/\∀o xs,u≠.fk o (.tup xs)
theorem UI {kvs:γ}:yX (.dK kvs):=⟨fun _ z=>(nomatch z),fun _ _ z=>(nomatch z)⟩
theorem Qe {o:Obj}{kvs:γ}:yX (.fk o (.dK kvs)):=⟨fun _ z=>(nomatch z),fun _ _ z=>(nomatch z)⟩
theorem eg {H H' :Hp}{d:Addr}{u:HO}(e:H d=some u)(n:yX u)(k:aV d H H'):bg H H' :=fun b xs z=>by
 rcases z with z | ⟨o',z⟩
 ·exact .inl (k _ _ (fun c=>by rw [c,e] at z;cases z;exact n.1 _ rfl) z)
 ·exact .inr ⟨o',k _ _ (fun c=>by rw [c,e] at z;cases z;exact n.2 _ _ rfl) z⟩
theorem DJ.ksG {H H' :Hp}{pins:ν}{d dM:Addr}{u:HO}{kM:γ}{M:Str->Rat×Rat}{N:Nat}(h:DJ K H pins dM kM M N)(e:H d=some u)(n:yX u)(nd:dM≠d)(k:aV d H H'):DJ K H' pins dM kM M N:=⟨k _ _ nd h.hM,h.keys,fun p hp=>by
 obtain ⟨t,v1,v2,a,b,c,c'⟩:=h.tM p hp
 exact ⟨t,v1,v2,a,k _ _ (fun z=>by rw [z,e] at b;cases b;exact n.1 _ rfl) b,c.aX (eg e n k),c'.aX (eg e n k)⟩,h.zb,h.hN⟩
def jW (pins:ν)(bars:List aU)(j:Nat):Prop:=∃z:Nat->Rat,z j≠0/\(∀i,j < i->z i=0)/\∀qs∈b6 pins bars,Ty.sumTo (av pins+bars.length) (fun i=>vl (qs.getD i (0,1))*z i)=0
theorem gy {pins:ν}{bars:List aU}:∀qs∈b6 pins bars,qs.length=av pins+bars.length:=fun qs hq=>by
 have dl:(cA pins bars).length=av pins+bars.length:=gx pins bars
 obtain ⟨i,_,rfl⟩:=aab.mp hq
 unfold fP
 rw [aaa,dl]
theorem iM (pins:ν)(bars:List aU):(b6 pins bars).length=2*pins.length:=by unfold b6;simp
theorem Qf {pins:ν}{bars:List aU}{os lv:ε}{nd:θ}{Z j:Nat}(gD:yW 90 90 (av pins+bars.length) (b6 pins bars) os)(R:Red os (av pins+bars.length) (av pins+bars.length) Z nd lv)(hj:j < av pins+bars.length):(∀y∈nd,y.1≠j) ↔ jW pins bars j:=by
 constructor
 ·intro fr
  obtain ⟨z,hz⟩:=DC.ex j R.asc fr
  exact ⟨z,by rw [hz.one];decide,fun i hi=>DC.behind R hz hi,(rK gD gy z).mp (DC.sol R hj hz fr)⟩
 ·rintro ⟨z,z1,zb,hz⟩
  exact lT R z1 zb ((rK gD gy z).mpr hz)
theorem IY {pins:ν}{bars:List aU}{ws:List Wl}{es lv:ε}{nd:θ}{Z j:Nat}(gD:gW (av pins+bars.length) (b6 pins bars).length ws es)(wl:∀(i:Nat) (w:Wl) (qs:π),ws[i]? =some w->(b6 pins bars)[i]? =some qs->yV 90 90 (av pins+bars.length) qs w)(R:Red es (av pins+bars.length+(b6 pins bars).length) (av pins+bars.length) Z nd lv)(hj:j < av pins+bars.length):(∀y∈nd,y.1≠j) ↔ jW pins bars j:=by
 constructor
 ·intro fr
  obtain ⟨z,hz⟩:=DC.ex j R.asc fr
  have zb:∀i,j < i->z i=0:=fun i hi=>DC.behind R hz hi
  exact ⟨z,by rw [hz.one];decide,zb,(oX gD wl gy z (fun i hi=>zb i (by omega))).mp (DC.sol R hj hz fr)⟩
 ·rintro ⟨z,z1,zb,hz⟩
  exact lT R z1 zb ((oX gD wl gy z (fun i hi=>zb i (by omega))).mpr hz)
theorem lW {f g:aE->List Rat}:∀{l:ν},(∀x∈l,f x=g x)->l.flatMap f=l.flatMap g
 | [],_=>rfl
 | x::l,h=>by rw [aaA,aaA,h x aaq,lW fun y hy=>h y (aag _ hy)]
theorem o_:∀(pins:ν) (l:List Rat),(pins.map (·.nm)).Nodup->l.length=av pins->∃U:Str->List Rat,(∀q∈pins,(U q.nm).length=q.ws.length)/\(pins.flatMap fun q=>U q.nm)=l
 | [],l,_,h=>⟨fun _=>[],(fun q hq=>nomatch hq),by
  have:l=[]:=abT.mp h
  rw [this]
  rfl⟩
 | q::ps,l,nd,h=>by
  rw [aac,aaU] at nd
  have hw:av (q::ps)=q.ws.length+av ps:=by
   unfold av
   rw [aaA,aas]
  obtain ⟨U,h1,h2⟩:=o_ ps (l.drop q.ws.length) nd.2 (by rw [abp];omega)
  have ne:∀r∈ps,r.nm≠q.nm:=fun r hr z=>nd.1 (by rw [<- z];exact aab.mpr ⟨r,hr,rfl⟩)
  refine ⟨fun x=>if x=q.nm then l.take q.ws.length else U x,fun r hr=> ?_,?_⟩
  ·rcases aaN.mp hr with e | hr
   ·rw [e]
    show (if q.nm=q.nm then l.take q.ws.length else U q.nm).length=_
    rw [if_pos rfl,aaW]
    omega
   ·show (if r.nm=q.nm then l.take q.ws.length else U r.nm).length=_
    rw [if_neg (ne r hr)]
    exact h1 r hr
  ·rw [aaA]
   show (if q.nm=q.nm then l.take q.ws.length else U q.nm)++_=l
   rw [if_pos rfl,lW (g:=fun r=>U r.nm) (fun r hr=>if_neg (ne r hr)),h2,acd]
theorem pd:∀(bars:List aU) (l:List Rat),(bars.map (·.nm)).Nodup->l.length=bars.length->∃T:Str->Rat,(bars.map fun b=>T b.nm)=l
 | [],l,_,h=>⟨fun _=>0,(abT.mp h).symm⟩
 | b::bs,[],_,h=>(nomatch h)
 | b::bs,r::l,nd,h=>by
  rw [aac,aaU] at nd
  obtain ⟨T,hT⟩:=pd bs l nd.2 (by simpa using h)
  refine ⟨fun x=>if x=b.nm then r else T x,?_⟩
  rw [aac]
  show (if b.nm=b.nm then r else T b.nm)::_=r::l
  rw [if_pos rfl]
  congr 1
  refine Eq.trans (aa9 fun c hc=> ?_) hT
  exact if_neg fun z=>nd.1 (by rw [<- z];exact aab.mpr ⟨c,hc,rfl⟩)
theorem vN {pins:ν}{bars:List aU}(g:dz pins bars)(wi:∀p∈pins,xJ p.ws){j:Nat}(hj:j < av pins+bars.length)(h:jW pins bars j):av pins<=j:=by
 obtain ⟨z,z1,zb,hz⟩:=h
 let l:List Rat:=(aa_ (av pins+bars.length)).map fun i=>z i / z j
 have ll:l.length=av pins+bars.length:=by simp [l]
 have la:∀i,i < av pins+bars.length->l[i]? =some (z i / z j):=fun i hi=>by
  show ((aa_ (av pins+bars.length)).map fun i=>z i / z j)[i]? =_
  rw [Wp,ais hi]
  rfl
 obtain ⟨U,u1,u2⟩:=o_ pins (l.take (av pins)) g.np (by rw [aaW];omega)
 obtain ⟨T,hT⟩:=pd bars (l.drop (av pins)) g.nb (by rw [abp];omega)
 have e:vK pins bars T U=l:=by
  unfold vK
  rw [u2,hT,acd]
 have no:xI pins bars T U:=DE g u1 fun c hc=>by
  have lq:(fP (cA pins bars) c).length=av pins+bars.length:=by
   unfold fP
   rw [aaa]
   exact gx pins bars
  have:=hz (fP (cA pins bars) c) (aab.mpr ⟨c,abb.mpr hc,rfl⟩)
  show sP (vK pins bars T U) _=0
  rw [<- IV _ _ (by rw [lq,e];exact ll),lq,e]
  have e2:Ty.sumTo (av pins+bars.length) (fun i=>vl ((fP (cA pins bars) c).getD i (0,1))*l.getD i 0)=Ty.sumTo (av pins+bars.length) (fun i=>(1 / z j)*(vl ((fP (cA pins bars) c).getD i (0,1))*z i)):=oU _ _ _ fun i hi=>by
   have hl:l.getD i 0=z i / z j:=by rw [aaj,la i hi];rfl
   rw [hl]
   grind
  rw [e2,kz,this]
  grind
 refine L7 (T:=T) wi u1 no ?_ fun i r hi er=> ?_
 ·rw [e,la j hj]
  congr 1
  grind
 ·rw [e] at er
  have Pj :i < av pins+bars.length:=by
   have:=(be.mp er).1
   omega
  rw [la i Pj] at er
  have:=aaM er
  rw [<- this,zb i hi]
  grind
theorem IZ {pins:ν}{bars:List aU}(g:dz pins bars){j:Nat}{qs:π}(e:(cA pins bars)[j]? =some qs):fP (b6 pins bars) j=qs:=by
 have lq:=(gT g qs (ir e)).1
 unfold fP b6
 rw [aay]
 refine aa8 fun c=> ?_
 by_cases hc:c < 2*pins.length
 ·rw [Wp,ais hc,gE (by omega)]
  show some (((cA pins bars).map fun qs=>qs.getD c (0,1)).getD j (0,1))=_
  rw [aaj,Wp,e]
  show some (qs.getD c (0,1))=_
  rw [aaj,gE (by omega)]
  rfl
 ·rw [aae (by rw [aaa,ahp];omega),aae (by omega)]
theorem I_:∀as bs:List Rat,sP as (bs.map fun b=> -b)= -(sP as bs)
 | [],_=>by simp [sP]
 | _::_,[]=>by simp [sP]
 | a::as,b::bs=>by
  rw [aac,ck,ck,I_ as bs]
  grind
theorem yY:∀as bs:List Rat,sP as bs=sP bs as
 | [],[]=>rfl
 | [],_::_=>rfl
 | _::_,[]=>rfl
 | a::as,b::bs=>by
  rw [ck,ck,yY as bs]
  grind
theorem Qg {pins:ν}{bars:List aU}{k:Nat}{b:aU}(e:bars[k]? =some b):(cA pins bars)[av pins+k]? =some (eA (f7 b) pins):=by
 have hw:(pins.flatMap fun p=>jP pins p).length=av pins:=iu pins pins
 unfold cA
 rw [aaJ (by omega),hw,aic,Wp,e]
 rfl
theorem Qh {pins:ν}{bars:List aU}{p:aE}(hp:p∈pins){w:Rat×Rat}(hw:w∈p.ws):∃j,j < av pins/\(cA pins bars)[j]? =some (eA (eK p.nm w) pins):=by
 have hl:(pins.flatMap fun p=>jP pins p).length=av pins:=iu pins pins
 have mem:eA (eK p.nm w) pins∈pins.flatMap fun p=>jP pins p:=ab_.mpr ⟨p,hp,by unfold jP;exact aab.mpr ⟨w,hw,rfl⟩⟩
 obtain ⟨j,ej⟩:=aad mem
 have hj:=(be.mp ej).1
 refine ⟨j,by omega,?_⟩
 unfold cA
 rw [aat hj]
 exact ej
def xN (pins:ν)(bars:List aU)(ws:List Wl)(n:Nat×(Str->Rat×Rat))(x:Nat×List Int):Prop:=x.1=av pins+n.1/\n.1 < bars.length/\(pins.flatMap fun p=>[(n.2 p.nm).1,(n.2 p.nm).2])=((cY (av pins+bars.length) ws x).map vl).map fun r=> -r
section
variable {pins:ν}{bars:List aU}{ws:List Wl}{es lv:ε}{nd:θ}{Z:Nat}
theorem vO (g:dz pins bars)(gD:gW (av pins+bars.length) (b6 pins bars).length ws es)(wl:∀(i:Nat) (w:Wl) (qs:π),ws[i]? =some w->(b6 pins bars)[i]? =some qs->yV 90 90 (av pins+bars.length) qs w)(R:Red es (av pins+bars.length+(b6 pins bars).length) (av pins+bars.length) Z nd lv){n:Nat×(Str->Rat×Rat)}{x:Nat×List Int}(hx:x∈nd)(hn:xN pins bars ws n x){F:Str->Option (Rat×Rat)}{j:Nat}(e:(cA pins bars)[j]? =some (eA F pins)):
  (pins.map fun p=>dt (mv F p.nm) (n.2 p.nm)).sum= -(((x.2.getD j 0:Int):Rat) / ((x.2.getD x.1 0:Int):Rat)):=by
 have hj:j < av pins+bars.length:=by
  have:=(be.mp e).1
  rw [gx] at this
  exact this
 have sd:=DI gD wl gy R hx hj
 rw [IZ g e,yQ] at sd
 rw [<- yR F n.2 pins,hn.2.2,I_,yY,sd]
theorem xO (g:dz pins bars)(wi:∀p∈pins,xJ p.ws)(gD:gW (av pins+bars.length) (b6 pins bars).length ws es)(wl:∀(i:Nat) (w:Wl) (qs:π),ws[i]? =some w->(b6 pins bars)[i]? =some qs->yV 90 90 (av pins+bars.length) qs w)(R:Red es (av pins+bars.length+(b6 pins bars).length) (av pins+bars.length) Z nd lv){n:Nat×(Str->Rat×Rat)}{x:Nat×List Int}(hx:x∈nd)(hn:xN pins bars ws n x):∀p∈pins,∀w∈p.ws,dt w (n.2 p.nm)=0:=fun p hp w hw=>by
 obtain ⟨j,hj,ej⟩:=Qh (bars:=bars) hp hw
 have:=vO g gD wl R hx hn ej
 rw [s_ g.np hp] at this
 rw [this]
 have ned:∃y∈nd,y.1=j:=by
  apply aa3
  intro no
  have fr:=(IY gD wl R (j:=j) (by omega)).mp fun y hy e=>no ⟨y,hy,e⟩
  have:=vN g wi (by omega) fr
  omega
 obtain ⟨y,hy,ey⟩:=ned
 rw [<- ey,R.off x hx y hy (by rw [hn.1];omega)]
 simp [al_]
theorem Jf (g:dz pins bars)(gD:gW (av pins+bars.length) (b6 pins bars).length ws es)(wl:∀(i:Nat) (w:Wl) (qs:π),ws[i]? =some w->(b6 pins bars)[i]? =some qs->yV 90 90 (av pins+bars.length) qs w)(R:Red es (av pins+bars.length+(b6 pins bars).length) (av pins+bars.length) Z nd lv){n n' :Nat×(Str->Rat×Rat)}{x y:Nat×List Int}(hx:x∈nd)(hn:xN pins bars ws n x)(hy:y∈nd)(EO :xN pins bars ws n' y){b:aU}(eb:bars[n'.1]? =some b):IS n.2 b=if n'.1=n.1 then 1 else 0:=by
 have:=vO g gD wl R hx hn (Qg eb)
 obtain ⟨m1,m2,m3⟩:=g.ends b (ir eb)
 rw [LX g.np b m1 m2 m3] at this
 have hh:=cq (R.here x hx)
 rw [<- EO.1] at this
 by_cases c:n'.1=n.1
 ·rw [if_pos c]
  rw [show y.1=x.1 by rw [hn.1,EO.1,c]] at this
  grind
 ·rw [if_neg c]
  rw [R.off x hx y hy (by rw [hn.1,EO.1];omega)] at this
  simp [al_] at this
  grind
end
theorem vP {H:Hp}{pins:ν}{bars:List aU}{bS:List (List V)}(g:dz pins bars)(h:fg K H bS (cA pins bars)):fg K H (jL bS (2*pins.length)) (b6 pins bars):=⟨by unfold jL b6;simp,fun i vs qs e1 e2=>by
 unfold jL at e1
 unfold b6 at e2
 rw [Wp] at e1 e2
 obtain ⟨j,ej,rfl⟩:=aal.mp e1
 rw [ej] at e2
 cases e2
 exact DF h (gT g) (abb.mp (ir ej))⟩
theorem pf {pins:ν}{bars:List aU}(g:dz pins bars):Shape 90 90 (av pins+bars.length) (b6 pins bars):=fun qs hq=>by
 refine ⟨gy qs hq,?_⟩
 obtain ⟨j,hj,rfl⟩:=aab.mp hq
 exact PK (gT g) (abb.mp hj)
theorem yZ {pins:ν}{bars:List aU}(g:dz pins bars):bb (90+90*(av pins+bars.length)) (min (av pins+bars.length) (b6 pins bars).length)<=60000:=by
 have gl:=g.lp
 have gb:=g.lb
 have wl:av pins<=2*pins.length:=iq pins g.lw
 unfold bb
 rw [iM]
 have h1:min (av pins+bars.length) (2*pins.length)+1<=19:=by omega
 have h2:90+90*(av pins+bars.length)+11<=2981:=by omega
 exact aaf (abl h1 h2) (by decide)
theorem y4 {pins:ν}{bars:List aU}{H:Hp}{bS:List (List V)}(g:dz pins bars)(h:fg K H bS (cA pins bars)):∀vs∈bS,((2*pins.length:Nat):Int)<=(vs.length:Int):=fun vs hv=>by
 obtain ⟨i,ei⟩:=aad hv
 have hi:=(be.mp ei).1
 have l1:=h.1
 obtain ⟨qs,eq⟩:∃qs,(cA pins bars)[i]? =some qs:=⟨_,gE (by omega)⟩
 have l2:=(h.2 i vs qs ei eq).1
 have l3:=(gT g qs (ir eq)).1
 omega
inductive Jg (K:Frag)(C:Addr)(vs:η)(H:Hp)(Q:VK)(E_:XK):Prop where
 | mk (a:Addr) (pins:ν) (bars:List aU) (_:vs=[.ref a]) (_:EE K H C a pins bars) (_:dz pins bars) (_:(∀p∈pins,xJ p.ws)) (_:∀(d:Addr) (kvs:γ) (H' :Hp),au H H' ->H' d=some (.dK kvs)->(∀k b,bars[k]? =some b->((bB kvs (.inr b.nm)).isSome=true ↔ jW pins bars (av pins+k)))->Q (.ref d) H'):Jg K C vs H Q E_
theorem cH:aD ["F","rows","bars","ways","spares","column","numbers"] ["F"] (ag dQ):=sq
theorem tD {C:Addr}(D:Def K mg "spares_of" dQ ["F"])(ba:mg "len"=none)(MP:bx P w K mg base (aY P w) 1 C "pins" ["self"] (gL K C))(MB:bx P w K mg base (aY P w) 1 C "bars" ["self"] (jh K C))
  (Qi:Fn P w K mg base (aY P w) 38 "draw_rows" ["F"] (gQ K C)) (Qj:Fn P w K mg base (aY P w) 1 "turned" ["rows","many"] jM) (mz:Fn P w K mg base (aY P w) 36 "spare_columns" ["rows","many"] (oT K)) (abh:Fn P w K mg base (aY P w) 3 "pulls_and_pushes" ["F","numbers"] (P2 K C)):
  Fn P w K mg base (aY P w) 39 "spares_of" ["F"] (Jg K C):=by
 refine D.ok cH (fun vs H Q E h=> ?_) (fun f bE A outer s H vs Q E hr h=> ?_)
 ·obtain ⟨a,pins,bars,rfl,_⟩:=h
  rfl
 obtain ⟨a,pins,bars,rfl,R,g,wi,q⟩:=h
 have gl:=g.lp
 have gb:=g.lb
 have wl:av pins<=2*pins.length:=iq pins g.lw
 have lcq:=iM pins bars
 have dl:(cA pins bars).length=av pins+bars.length:=gx pins bars
 refine ⟨_,(ae (aF (i:=1) cH.nd rfl (aai rfl) (aA Qi hr.mo (pY P w) (ar (pv 0) aa)))
  (ae (aF (i:=2) cH.nd rfl (aai rfl) (d0 (k:=1) (pv 0) hr.mo (pY P w)))
  (ae (aF (i:=3) cH.nd rfl (aai rfl) (aK cU (aT aJ rfl ba cf (ar (pv 1) aa)) (aT aJ rfl ba cf (ar (pv 2) aa))))
  (ae (aF (i:=4) cH.nd rfl (aai rfl) dy)
  (ae (mW (bD PassesOwn.never rfl (jH (aA mz hr.mo (pY P w) (ar (aA Qj hr.mo (pY P w) (ar (pv 1) (ar (aK cu ak (aT aJ rfl ba cf (ar (d0 (k:=1) (pv 0) hr.mo (pY P w)) aa))) aa))) (ar (aT aJ rfl ba cf (ar (pv 1) aa)) aa)))) (dF rfl (aS (aC (i:=5) cH.nd rfl (aai rfl)) (aS (aC (i:=6) cH.nd rfl (aai rfl)) b_))) (aj (d6 (bR hr) (pv 4) (bq bt (pv 2) (aK cU (pv 5) (pv 3)) (fun _ _=>rfl)) (aA abh hr.mo (pY P w) (ar (pv 0) (ar (pv 6) aa))) rfl))))
  (aj (aI (pv 4)))))))),?_⟩
 refine ⟨_,rfl,a,pins,bars,rfl,R,g,fun r ls bS H1 s1 nr RR=> ?_⟩
 obtain ⟨dx,pP,pW,pB,kP,kW,kB,F0,W0⟩:=R.ex
 have F1:=F0.same s1
 refine ⟨_,rfl,a,C,dx,_,_,_,rfl,F1.obj,rfl,MB,a,dx,pP,pW,pB,_,_,kP,kW,kB,rfl,F1,fun lb H2 s2 Uo xE=> ?_⟩
 rw [m_] at xE
 have UJ:=RR.same s2
 refine ⟨_,rfl,r,_,rfl,.inl (a8.of UJ.m9.1),_,rfl,lb,_,rfl,.inl (a8.of xE),_,_,rfl,rfl,?_⟩
 intro d wD;generalize eX:upd _ d _=H3;have ⟨s3,e3⟩:=nw wD eX;clear eX
 have RR3:=UJ.same s3
 have F3:=F1.same (s2.trans s3)
 have uG:=s1.trans (s2.trans s3)
 have nmp:((pins.map fun p=>(p.nm,mY p.sp)).map (·.1))=pins.map (·.nm):=by rw [aay];rfl
 have UK:ls.length=av pins+bars.length:=by rw [RR.m9.2.1,RR.num.1,dl]
 refine ⟨_,rfl,_,rfl,a,C,dx,_,_,_,rfl,F3.obj,rfl,MP,a,dx,pP,pW,pB,_,_,kP,kW,kB,rfl,F3,fun lp H4 s4 wG qv=> ?_⟩
 rw [nmp] at qv
 have Qk:=RR3.same s4
 have sz4:((pins.map (·.nm)).map V.str).length=pins.length:=by rw [aaa,aaa]
 have c2:q_ 2 ((pins.length:Nat):Int):=⟨by decide+kernel,aaf (intBits_le_64 (by omega) (by omega)) (by decide)⟩
 refine ⟨lp,_,rfl,.inl (a8.of qv),_,_,rfl,rfl,(by rw [aaa,aaa];exact c2),?_⟩
 have em:(2*((((pins.map (·.nm)).map V.str).length:Nat):Int))=((2*pins.length:Nat):Int):=by rw [sz4];omega
 refine ⟨r,ls,bS,((2*pins.length:Nat):Int),congrArg (fun i:Int=>[V.ref r,V.int i]) em,Qk.m9,by omega,by omega,by omega,y4 g Qk.num,fun c cs H5 s5 M5=> ?_⟩
 rw [ah5] at M5
 have UL:=Qk.same s5
 refine ⟨_,rfl,r,_,rfl,.inl (a8.of UL.m9.1),?_⟩
 have emm:(((ls.map V.ref).length:Nat):Int)=((av pins+bars.length:Nat):Int):=by rw [aaa,UK]
 refine ⟨c,av pins+bars.length,cs,_,b6 pins bars,90,90,60000,congrArg (fun i:Int=>[V.ref c,V.int i]) emm,M5,vP g UL.num,pf g,by omega,by omega,by decide,by omega,by decide,yZ g,by decide,fun sd gU ss os lv nd H6 s6 L6 EJ UM gD RZ Px hF=> ?_⟩
 have eW:((((ls.map V.ref).length:Nat):Int) - ((((bars.map (·.nm)).map V.str).length:Nat):Int))=(av pins:Int):=by
  rw [aaa,aaa,aaa,UK]
  omega
 have sY:=s4.trans (s5.trans s6)
 have y6:=uG.trans sY
 have Ki:H sd=none:=(uG.trans (s4.trans s5)).free L6
 have Hd:H d=none:=(s1.trans s2).free wD
 have ed6:=sY _ _ e3
 have xP:=sY _ _ (s3 _ _ xE)
 have Ql:d≠sd:=fun z=>by
  have:=(s4.trans s5) _ _ e3
  rw [z,L6] at this
  cases this
 refine ⟨sd,gU,rfl,EJ,fun o=> ?_⟩
 have k0:aV sd H6 (upd H6 sd (.fk o (.dK gU))):=aV.upd
 have Rr:gU.length=ss.length:=UM.1
 have lss:ss.length<=av pins+bars.length:=by
  have:=congrArg ab8 Px
  rw [aaa] at this
  have h2:=abi (free nd) (aa_ (av pins+bars.length))
  rw [ahp] at h2
  omega
 have mfr:∀c,c < av pins+bars.length->(c∈ss.map (·.1) ↔ jW pins bars c):=fun c hc=>by
  rw [Px, <- Qf gD RZ hc,aa4,abb,oR]
  exact ⟨fun h=>h.2,fun h=>⟨hc,h⟩⟩
 refine fq (d:=sd) (o:=o) (kvs:=gU) (fun t σ H' =>∃(o5 o6:Option V) (kvs:γ),σ=[some (.ref a),some (.ref r),some (.ref lb),some (.int ((((ls.map V.ref).length:Nat):Int) - ((((bars.map (·.nm)).map V.str).length:Nat):Int))),some (.ref d),o5,o6]/\au H H' /\H' lb=some (.lst ((bars.map (·.nm)).map V.str))/\vJ K H' gU ss/\H' sd=some (.fk o (.dK gU))/\H' d=some (.dK kvs)/\kvs.length<=t/\∀k b,bars[k]? =some b->((bB kvs (.inr b.nm)).isSome=true ↔ av pins+k∈(ss.take t).map (·.1))) ⟨none,none,[],rfl,fun b o' e=>k0 _ _ (aq e Ki) (y6 _ _ e),k0 _ _ (fun z=>by rw [z,EJ] at xP;cases xP) xP,UM.ks (.inl EJ) k0,ah,k0 _ _ Ql ed6,aah _,fun k b _=>by simp [bB]⟩ (fun t σ H' _ h=>by
   obtain ⟨_,_,_,_,_,_,_,h,_⟩:=h
   exact h) ?_ ?_
 ·rintro t k y σ H7 p7 rH ⟨o5,o6,kvs,rfl,s7,mB,NZ,Kj,d7,lk7,kk7⟩ n7
  have ht:t < gU.length:=(be.mp rH).1
  obtain ⟨x,ex⟩:∃x,ss[t]? =some x:=⟨_,gE (by omega)⟩
  have mx:=ir ex
  obtain ⟨ek,lx,us,ey,hlx,Y7⟩:=NZ.2 t (k,y) x rH ex
  have ek' :k=.inl (x.1:Int):=ek
  have yF :y=.ref lx:=ey
  subst ek'
  subst yF
  have t7:=aG n7 (.tup [kV (.inl (x.1:Int)),.ref lx])
  have e7:(upd H7 p7 (.tup [kV (.inl (x.1:Int)),.ref lx])) p7=some (.tup [kV (.inl (x.1:Int)),.ref lx]):=ah
  generalize upd H7 p7 (.tup [kV (.inl (x.1:Int)),.ref lx])=H8 at t7 e7 ⊢
  have s8:=s7.trans t7
  refine ⟨p7,_,rfl,bN.of e7,rfl,_,_,rfl,_,_,rfl,rfl,?_⟩
  have m1:x.1∈ss.map (·.1):=aab.mpr ⟨x,mx,rfl⟩
  have cx:x.1 < av pins+bars.length:=by
   rw [Px] at m1
   exact abb.mp (aa4.mp m1).1
  have wc:=vN g wi cx ((mfr _ cx).mp m1)
  have Fx:=hF x mx
  refine ⟨_,rfl,_,rfl,a,lx,pins,bars,us,x.2.map vl,rfl,R.same s8,g,t7 _ _ hlx,oQ (Y7.same t7) (i7.abf RZ Fx),by rw [aaa];exact Fx.1,fun T U L p dT dU kT kU H9 s9 er hp9 pr=> ?_⟩
  have hb:x.1 - av pins < bars.length:=by omega
  obtain ⟨b,eb⟩:∃b,bars[x.1 - av pins]? =some b:=⟨_,gE hb⟩
  have xM:=t7.trans s9
  have d9:=xM _ _ d7
  have ai:jr ((bars.map (·.nm)).map V.str) ((x.1:Int) - ((((ls.map V.ref).length:Nat):Int) - ((((bars.map (·.nm)).map V.str).length:Nat):Int)))=some (.str b.nm):=by
   rw [eW,show (x.1:Int) - (av pins:Int)=((x.1 - av pins:Nat):Int) by omega]
   exact cE (by rw [Wp,Wp,eb];rfl)
  refine ⟨_,rfl,_,rfl,_,rfl,_,rfl,_,_,rfl,rfl,lb,_,_,_,rfl,rfl,a8.of (xM _ _ mB),ai,d,_,rfl,iR.k (k:=.inr b.nm) d9 (aar (show kvs.length<=1000 by omega) (by decide)),?_⟩
  have ks:aV d H9 (upd H9 d (.dK (putK kvs (.inr b.nm) (.ref p)))):=aV.upd
  have lp9:=fS kvs (.inr b.nm) (.ref p)
  refine ⟨_,_,putK kvs (.inr b.nm) (.ref p),rfl,fun b' o' e=> ?_,?_,(NZ.same xM).ks (.inl d9) ks,?_,ah,by omega,fun k' b' qe => ?_⟩
  ·exact ks _ _ (aq e Hd) (s9 _ _ (s8 _ _ e))
  ·exact ks _ _ (fun z=>by rw [z,d7] at mB;cases mB) (xM _ _ mB)
  ·exact ks _ _ (aaO Ql) (xM _ _ Kj)
  ·rw [og,take_snoc ex,aaK,aaF, <- kk7 k' b' qe]
   have nx:b'.nm=b.nm ↔ av pins+k' =x.1:=by
    constructor
    ·intro z
     have f1:(bars.map (·.nm))[x.1 - av pins]? =some b.nm:=by rw [Wp,eb];rfl
     have f2:(bars.map (·.nm))[k']? =some b.nm:=by rw [Wp,qe, <- z];rfl
     have:=cy g.nb f1 f2
     omega
    ·intro z
     rw [show x.1 - av pins=k' by omega,qe] at eb
     cases eb
     rfl
   have nk:((aa6 b'.nm:Key)=.inr b.nm) ↔ av pins+k' =x.1:=⟨fun z=>nx.mp (aba z),fun z=>congrArg aa6 (nx.mpr z)⟩
   have e1:av pins+k' ∈([x].map (·.1)) ↔ av pins+k' =x.1:=by simp
   rw [e1, <- nk]
   by_cases c:(aa6 b'.nm:Key)=.inr b.nm
   ·rw [if_pos c]
    exact ⟨fun _=>.inr c,fun _=>rfl⟩
   ·rw [if_neg c]
    exact ⟨.inl,fun h=>h.resolve_right c⟩
 ·rintro σ H7 ⟨o5,o6,kvs,rfl,s7,mB,NZ,Kj,d7,lk7,kk7⟩
  have kS:aV sd H7 (upd H7 sd (.dK gU)):=aV.upd
  refine ⟨sd,o,gU,Kj,fun o' u' z=>(by have z' :H sd=some (.fk o' u'):=z;rw [Ki] at z';cases z'),_,rfl,?_⟩
  refine q d kvs _ (fun b' o' e=>kS _ _ (aq e Ki) (s7 _ _ e)) (kS _ _ Ql d7) fun k b eb=> ?_
  have:=(be.mp eb).1
  rw [kk7 k b eb,Rr,aa5,mfr _ (by omega)]
theorem jk {α β:Type}{R:α->β->Prop}:∀{us:List α} {l:List β},Paired R us l->∀{i:Nat} {b:β},l[i]? =some b->∃u,us[i]? =some u/\R u b
 | _,_,.nil,i,b,e=>by simp at e
 | _,_,.cons h t,0,b,e=>by
  cases e
  exact ⟨_,rfl,h⟩
 | _,_,.cons h t,i+1,b,e=>by
  obtain ⟨u,a,c⟩:=jk t (i:=i) (b:=b) (by simpa using e)
  exact ⟨u,by simpa using a,c⟩
theorem Zb.neg {n:Nat}{r:Rat}(h:Zb n r):Zb n (-r):=by
 refine ⟨?_,?_⟩
 ·rw [xi]
  show (-(qr r).1).natAbs<=_
  rw [ah1]
  exact h.top
 ·rw [xi]
  exact h.bot
abbrev DK:=Nat×(Str->Rat×Rat)
def L8 (K:Frag)(H:Hp)(pins:ν)(bars:List aU)(d:Addr)(N:Nat)(kv:Key×V)(n:DK):Prop:=∃(b:aU) (dM:Addr) (kM:γ),bars[n.1]? =some b/\kv=(.inr b.nm,.ref dM)/\dM≠d/\DJ K H pins dM kM n.2 N
theorem L8.same {H H' :Hp}{pins:ν}{bars:List aU}{d:Addr}{N:Nat}{kv:Key×V}{n:DK}(h:L8 K H pins bars d N kv n)(s:au H H'):L8 K H' pins bars d N kv n:=by
 obtain ⟨b,dM,kM,e,e2,e3,m⟩:=h
 exact ⟨b,dM,kM,e,e2,e3,m.same s⟩
structure fV (K:Frag)(H:Hp)(pins:ν)(bars:List aU)(d:Addr)(kvs:γ)(ns:List DK)(N:Nat):Prop where
 pr:Paired (L8 K H pins bars d N) kvs ns
 asc:(ns.map (·.1)).Pairwise (· < ·)
 keeps:∀n∈ns,∀p∈pins,∀w∈p.ws,dt w (n.2 p.nm)=0
 len:∀n∈ns,∀n' ∈ns,∀b,bars[n'.1]? =some b->IS n.2 b=if n'.1=n.1 then 1 else 0
 cols:∀k b,bars[k]? =some b->((∃n∈ns,n.1=k) ↔ ¬ jW pins bars (av pins+k))
inductive tE (K:Frag)(C:Addr)(vs:η)(H:Hp)(Q:VK)(E_:XK):Prop where
 | mk (a:Addr) (pins:ν) (bars:List aU) (_:vs=[.ref a]) (_:EE K H C a pins bars) (_:dz pins bars) (_:(∀p∈pins,xJ p.ws)) (_:∀(d:Addr) (kvs:γ) (ns:List DK) (H' :Hp),au H H' ->H d=none->H' d=some (.dK kvs)->fV K H' pins bars d kvs ns 63000->(∀kv∈kvs,∃dM,kv.2=.ref dM/\H dM=none)->Q (.ref d) H'):tE K C vs H Q E_
theorem Jh {pins:ν}{bars:List aU}{ws:List Wl}{es lv:ε}{nd:θ}{m:Nat}(hm:m<=32)(gD:gW m (b6 pins bars).length ws es)(wl:∀(i:Nat) (w:Wl) (qs:π),ws[i]? =some w->(b6 pins bars)[i]? =some qs->yV 90 90 m qs w)(R:Red es (m+(b6 pins bars).length) m 60000 nd lv){x:Nat×List Int}(hx:x∈nd):(cY m ws x).length=2*pins.length/\∀q∈cY m ws x,Sm 63000 63000 q:=by
 have l1:=R.mi x hx
 have l2:=gD.2.1
 have l3:=iM pins bars
 refine ⟨by unfold cY;rw [ahw,abp];omega,fun q hq=> ?_⟩
 obtain ⟨i,ei⟩:=aad hq
 unfold cY at ei
 rw [abk] at ei
 cases zR :(x.2.drop m)[i]? with
 | none=>rw [zR] at ei;cases ei
 | some sv=>
  cases ew:ws[i]? with
  | none=>rw [zR,ew] at ei;cases ei
  | some w=>
   rw [zR,ew] at ei
   cases ei
   have hi:=(be.mp ew).1
   obtain ⟨qs,eq⟩:∃qs,(b6 pins bars)[i]? =some qs:=⟨_,gE (by omega)⟩
   have h5:=(wl i w qs ew eq).2.2.1
   have bs:sv.natAbs<=2^60000:=(R.CY x hx).mem (air (ir zR))
   have bh:(x.2.getD x.1 0).natAbs<=2^60000:=by
    have hc:=R.cols x hx
    have e:x.2[x.1]? =some (x.2[x.1]'(by omega)):=gE (by omega)
    rw [aaj,e]
    exact (R.CY x hx).mem (ir e)
   refine yL (R.here x hx) ?_ (aaf bh (aaP (by decide) (by decide)))
   rw [aby]
   refine aaf (abl bs h5) ?_
   rw [<- ahC]
   exact aaP (by decide) (by omega)
theorem rN {pins:ν}{bars:List aU}{ws:List Wl}:∀{ns:List DK} {l:θ},Paired (xN pins bars ws) ns l->l.map (·.1)=(ns.map (·.1)).map (av pins+·)
 | _,_,.nil=>rfl
 | _,_,.cons h t=>by rw [aac,aac,aac,rN t,h.1]
theorem cZ:aD ["F","rows","bars","ways","needs","column","shares"] ["F"] (ag eJ):=sq
theorem vQ {C:Addr}(D:Def K mg "needs_of" eJ ["F"])(ba:mg "len"=none)(MP:bx P w K mg base (aY P w) 1 C "pins" ["self"] (gL K C))(MB:bx P w K mg base (aY P w) 1 C "bars" ["self"] (jh K C))
  (Qi:Fn P w K mg base (aY P w) 38 "draw_rows" ["F"] (gQ K C)) (Qj:Fn P w K mg base (aY P w) 1 "turned" ["rows","many"] jM) (kK:Fn P w K mg base (aY P w) 36 "needed_columns" ["rows","many"] (oW K)) (abq:Fn P w K mg base (aY P w) 2 "motion_from" ["F","numbers"] (oP K C)) (abr:Fn P w K mg base (aY P w) 1 "signs_turned" ["numbers"] (tw K)):
  Fn P w K mg base (aY P w) 39 "needs_of" ["F"] (tE K C):=by
 refine D.ok cZ (fun vs H Q E h=> ?_) (fun f bE A outer s H vs Q E hr h=> ?_)
 ·obtain ⟨a,pins,bars,rfl,_⟩:=h
  rfl
 obtain ⟨a,pins,bars,rfl,R,g,wi,q⟩:=h
 have gl:=g.lp
 have gb:=g.lb
 have wl:av pins<=2*pins.length:=iq pins g.lw
 have lcq:=iM pins bars
 have dl:(cA pins bars).length=av pins+bars.length:=gx pins bars
 refine ⟨_,(ae (aF (i:=1) cZ.nd rfl (aai rfl) (aA Qi hr.mo (pY P w) (ar (pv 0) aa)))
  (ae (aF (i:=2) cZ.nd rfl (aai rfl) (d0 (k:=1) (pv 0) hr.mo (pY P w)))
  (ae (aF (i:=3) cZ.nd rfl (aai rfl) (aK cU (aT aJ rfl ba cf (ar (pv 1) aa)) (aT aJ rfl ba cf (ar (pv 2) aa))))
  (ae (aF (i:=4) cZ.nd rfl (aai rfl) dy)
  (ae (mW (bD PassesOwn.never rfl (jH (aA kK hr.mo (pY P w) (ar (aA Qj hr.mo (pY P w) (ar (pv 1) (ar (aK cu ak (aT aJ rfl ba cf (ar (d0 (k:=1) (pv 0) hr.mo (pY P w)) aa))) aa))) (ar (aT aJ rfl ba cf (ar (pv 1) aa)) aa)))) (dF rfl (aS (aC (i:=5) cZ.nd rfl (aai rfl)) (aS (aC (i:=6) cZ.nd rfl (aai rfl)) b_))) (aj (bo (aR FE (pv 5) (pv 3) (aZ _)) (aj (d6 (bR hr) (pv 4) (bq bt (pv 2) (aK cU (pv 5) (pv 3)) (fun _ _=>rfl)) (aA abq hr.mo (pY P w) (ar (pv 0) (ar (aA abr hr.mo (pY P w) (ar (pv 6) aa)) aa))) rfl)) aQ))))
  (aj (aI (pv 4)))))))),?_⟩
 refine ⟨_,rfl,a,pins,bars,rfl,R,g,fun r ls bS H1 s1 nr RR=> ?_⟩
 obtain ⟨dx,pP,pW,pB,kP,kW,kB,F0,W0⟩:=R.ex
 have F1:=F0.same s1
 refine ⟨_,rfl,a,C,dx,_,_,_,rfl,F1.obj,rfl,MB,a,dx,pP,pW,pB,_,_,kP,kW,kB,rfl,F1,fun lb H2 s2 Uo xE=> ?_⟩
 rw [m_] at xE
 have UJ:=RR.same s2
 refine ⟨_,rfl,r,_,rfl,.inl (a8.of UJ.m9.1),_,rfl,lb,_,rfl,.inl (a8.of xE),_,_,rfl,rfl,?_⟩
 intro d wD;generalize eX:upd _ d _=H3;have ⟨s3,e3⟩:=nw wD eX;clear eX
 have RR3:=UJ.same s3
 have F3:=F1.same (s2.trans s3)
 have uG:=s1.trans (s2.trans s3)
 have nmp:((pins.map fun p=>(p.nm,mY p.sp)).map (·.1))=pins.map (·.nm):=by rw [aay];rfl
 have UK:ls.length=av pins+bars.length:=by rw [RR.m9.2.1,RR.num.1,dl]
 refine ⟨_,rfl,_,rfl,a,C,dx,_,_,_,rfl,F3.obj,rfl,MP,a,dx,pP,pW,pB,_,_,kP,kW,kB,rfl,F3,fun lp H4 s4 wG qv=> ?_⟩
 rw [nmp] at qv
 have Qk:=RR3.same s4
 have sz4:((pins.map (·.nm)).map V.str).length=pins.length:=by rw [aaa,aaa]
 have c2:q_ 2 ((pins.length:Nat):Int):=⟨by decide+kernel,aaf (intBits_le_64 (by omega) (by omega)) (by decide)⟩
 refine ⟨lp,_,rfl,.inl (a8.of qv),_,_,rfl,rfl,(by rw [aaa,aaa];exact c2),?_⟩
 have em:(2*((((pins.map (·.nm)).map V.str).length:Nat):Int))=((2*pins.length:Nat):Int):=by rw [sz4];omega
 refine ⟨r,ls,bS,((2*pins.length:Nat):Int),congrArg (fun i:Int=>[V.ref r,V.int i]) em,Qk.m9,by omega,by omega,by omega,y4 g Qk.num,fun c cs H5 s5 M5=> ?_⟩
 rw [ah5] at M5
 have UL:=Qk.same s5
 refine ⟨_,rfl,r,_,rfl,.inl (a8.of UL.m9.1),?_⟩
 have emm:(((ls.map V.ref).length:Nat):Int)=((av pins+bars.length:Nat):Int):=by rw [aaa,UK]
 refine ⟨c,av pins+bars.length,cs,_,b6 pins bars,90,90,60000,congrArg (fun i:Int=>[V.ref c,V.int i]) emm,M5,vP g UL.num,pf g,by omega,by omega,by decide,by omega,by decide,yZ g,by decide,fun sd gU ss ws es lv nd H6 s6 L6 EJ UM gD Y8 RZ hss=> ?_⟩
 have eW:((((ls.map V.ref).length:Nat):Int) - ((((bars.map (·.nm)).map V.str).length:Nat):Int))=(av pins:Int):=by
  rw [aaa,aaa,aaa,UK]
  omega
 have sY:=s4.trans (s5.trans s6)
 have y6:=uG.trans sY
 have Ki:H sd=none:=(uG.trans (s4.trans s5)).free L6
 have Hd:H d=none:=(s1.trans s2).free wD
 have ed6:=sY _ _ e3
 have xP:=sY _ _ (s3 _ _ xE)
 have Ql:d≠sd:=fun z=>by
  have:=(s4.trans s5) _ _ e3
  rw [z,L6] at this
  cases this
 refine ⟨sd,gU,rfl,EJ,fun o=> ?_⟩
 have k0:aV sd H6 (upd H6 sd (.fk o (.dK gU))):=aV.upd
 have Rr:gU.length=nd.length:=by rw [UM.1,hss,aaa]
 have lnd:nd.length<=av pins+bars.length:=by
  have z:=vL (ahs.mpr (RZ.asc.imp fun {a b} h=>aaQ h)) (fun c hc=>by
   obtain ⟨x,hx,rfl⟩:=aab.mp hc
   exact RZ.cols x hx)
  rw [aaa] at z
  exact z
 refine fq (d:=sd) (o:=o) (kvs:=gU) (fun t σ H' =>∃(o5 o6:Option V) (kvs:γ) (ns:List DK),σ=[some (.ref a),some (.ref r),some (.ref lb),some (.int ((((ls.map V.ref).length:Nat):Int) - ((((bars.map (·.nm)).map V.str).length:Nat):Int))),some (.ref d),o5,o6]/\au H H' /\H' lb=some (.lst ((bars.map (·.nm)).map V.str))/\vJ K H' gU ss/\H' sd=some (.fk o (.dK gU))/\H' d=some (.dK kvs)/\Paired (L8 K H' pins bars d 63000) kvs ns/\Paired (xN pins bars ws) ns ((nd.take t).filter fun x=>decide (av pins<=x.1))/\∀kv∈kvs,∃dM,kv.2=.ref dM/\H dM=none) ⟨none,none,[],[],rfl,fun b o' e=>k0 _ _ (aq e Ki) (y6 _ _ e),k0 _ _ (fun z=>by rw [z,EJ] at xP;cases xP) xP,UM.ks (.inl EJ) k0,ah,k0 _ _ Ql ed6,.nil,by simpa using Paired.nil,fun kv h=>(nomatch h)⟩ (fun t σ H' _ h=>by
   obtain ⟨_,_,_,_,_,_,_,_,h,_⟩:=h
   exact h) ?_ ?_
 ·rintro t k y σ H7 p7 rH ⟨o5,o6,kvs,ns,rfl,s7,mB,NZ,Kj,d7,Rv,L9,NC⟩ n7
  have ht:t < gU.length:=(be.mp rH).1
  obtain ⟨x,ex⟩:∃x,nd[t]? =some x:=⟨_,gE (by omega)⟩
  have mx:=ir ex
  have exs:ss[t]? =some (x.1,cY (av pins+bars.length) ws x):=by rw [hss,Wp,ex];rfl
  obtain ⟨ek,lx,us,ey,hlx,Y7⟩:=NZ.2 t (k,y) _ rH exs
  have ek' :k=.inl (x.1:Int):=ek
  have yF :y=.ref lx:=ey
  subst ek'
  subst yF
  have t7:=aG n7 (.tup [kV (.inl (x.1:Int)),.ref lx])
  have e7:(upd H7 p7 (.tup [kV (.inl (x.1:Int)),.ref lx])) p7=some (.tup [kV (.inl (x.1:Int)),.ref lx]):=ah
  generalize upd H7 p7 (.tup [kV (.inl (x.1:Int)),.ref lx])=H8 at t7 e7 ⊢
  have s8:=s7.trans t7
  have cx:=RZ.cols x mx
  refine ⟨p7,_,rfl,bN.of e7,rfl,_,_,rfl,_,_,rfl,rfl,?_⟩
  refine ⟨_,rfl,_,rfl,_,_,rfl,rfl,_,rfl,?_⟩
  refine bc (fun c0=> ?_) (fun c0=> ?_)
  ·have wc:av pins<=x.1:=by
    have c1:=of_decide_eq_true c0
    rw [eW] at c1
    omega
   obtain ⟨lsh,smx⟩:=Jh (by omega) gD Y8 RZ mx
   have lus:us.length<=100:=by
    have:us.length=(cY (av pins+bars.length) ws x).length:=Y7.1
    omega
   refine ⟨_,rfl,_,rfl,lx,us,(cY (av pins+bars.length) ws x).map vl,rfl,t7 _ _ hlx,oQ (Y7.same t7) smx,lus,fun l' iW H9 s9 hl9 pr9=> ?_⟩
   have s89:=s8.trans s9
   refine ⟨a,l',pins,bars,iW,_,rfl,R.same s89,g,hl9,pr9,by rw [aaa,aaa];exact lsh,fun M dM kM wC Lj Qm nM hM kMk tM=> ?_⟩
   obtain ⟨b,eb⟩:∃b,bars[x.1 - av pins]? =some b:=⟨_,gE (by omega)⟩
   have xQ:=t7.trans (s9.trans Lj)
   have d9:=xQ _ _ d7
   have ai:jr ((bars.map (·.nm)).map V.str) ((x.1:Int) - ((((ls.map V.ref).length:Nat):Int) - ((((bars.map (·.nm)).map V.str).length:Nat):Int)))=some (.str b.nm):=by
    rw [eW,show (x.1:Int) - (av pins:Int)=((x.1 - av pins:Nat):Int) by omega]
    exact cE (by rw [Wp,Wp,eb];rfl)
   have lk:kvs.length=ns.length:=Paired.length Rv
   have lo:ns.length<=t:=by
    have:=Paired.length L9
    have h2:=abi (fun x:Nat×List Int=>decide (av pins<=x.1)) (nd.take t)
    rw [aaW] at h2
    omega
   refine ⟨_,rfl,_,rfl,_,rfl,_,rfl,_,_,rfl,rfl,lb,_,_,_,rfl,rfl,a8.of (xQ _ _ mB),ai,d,_,rfl,iR.k (k:=.inr b.nm) d9 (aar (show kvs.length<=1000 by omega) (by decide)),?_⟩
   have K_:bB kvs (.inr b.nm)=none:=iH fun z=>by
    obtain ⟨kv,DL,UN⟩:=aab.mp z
    obtain ⟨i,ei⟩:=aad DL
    obtain ⟨n,en,b',Kk,Rw,qe,abt,_⟩:=aH Rv ei
    rw [abt] at UN
    have en0:b'.nm=b.nm:=aba UN
    have f1:(bars.map (·.nm))[x.1 - av pins]? =some b.nm:=by rw [Wp,eb];rfl
    have f2:(bars.map (·.nm))[n.1]? =some b.nm:=by rw [Wp,qe, <- en0];rfl
    have e4:=cy g.nb f1 f2
    obtain ⟨y,ey,hy⟩:=aH L9 en
    have my:=(aa4.mp (ir ey)).1
    have ey1:y.1=x.1:=by rw [hy.1];omega
    obtain ⟨i',ei'⟩:=aad my
    have hi:i' < t:=by
     have:=(be.mp ei').1
     rw [aaW] at this
     omega
    rw [ah' hi] at ei'
    have f3:(nd.map (·.1))[t]? =some x.1:=by rw [Wp,ex];rfl
    have f4:(nd.map (·.1))[i']? =some x.1:=by rw [Wp,ei', <- ey1];rfl
    have:=cy (ahs.mpr (RZ.asc.imp fun {a b} h=>aaQ h)) f3 f4
    omega
   rw [cK _ K_]
   have ks:aV d wC (upd wC d (.dK (kvs++[(.inr b.nm,.ref dM)]))):=aV.upd
   have zm:∀rr∈((cY (av pins+bars.length) ws x).map vl).map (fun r=> -r),Zb 63000 rr:=fun rr hr=>by
    obtain ⟨q1,hq1,rfl⟩:=aab.mp hr
    obtain ⟨q',qi,rfl⟩:=aab.mp hq1
    exact (Us (m:=0) (smx q' qi) (aah _) (aah _)).neg
   have dMd:dM≠d:=fun z=>by
    have:=(t7.trans s9) _ _ d7
    rw [<- z,nM] at this
    cases this
   have nw:L8 K wC pins bars d 63000 (.inr b.nm,.ref dM) (x.1 - av pins,M):=⟨b,dM,kM,eb,rfl,dMd,hM,kMk,tM,fun p hp=>by
    refine ⟨zm _ ?_,zm _ ?_⟩
    ·rw [Qm]
     exact ab_.mpr ⟨p,hp,aaq⟩
    ·rw [Qm]
     exact ab_.mpr ⟨p,hp,aag _ aaq⟩,by decide⟩
   have kn:∀{kv:Key×V} {n:DK},L8 K wC pins bars d 63000 kv n->L8 K (upd wC d (.dK (kvs++[(.inr b.nm,.ref dM)]))) pins bars d 63000 kv n:=fun {kv n} ⟨b',Kk,Rw,z1,z2,z3,z4⟩=>⟨b',Kk,Rw,z1,z2,z3,z4.ksG d9 UI z3 ks⟩
   refine ⟨_,_,kvs++[(.inr b.nm,.ref dM)],ns++[(x.1 - av pins,M)],rfl,fun b' o' e=> ?_,?_,(NZ.same xQ).ks (.inl d9) ks,?_,ah,iy (Paired.bM Rv fun _ _ z=>kn (z.same xQ)) (kn nw),?_,?_⟩
   ·exact ks _ _ (aq e Hd) (xQ _ _ (s7 _ _ e))
   ·exact ks _ _ (fun z=>by rw [z,d7] at mB;cases mB) (xQ _ _ mB)
   ·exact ks _ _ (aaO Ql) (xQ _ _ Kj)
   ·rw [take_snoc ex,abI,show [x].filter (fun x=>decide (av pins<=x.1))=[x] by simp [wc]]
    exact iy L9 ⟨by show x.1=av pins+(x.1 - av pins);omega,by show x.1 - av pins < bars.length;omega,Qm.symm⟩
   ·intro kv DL
    rcases aaF.mp DL with h | h
    ·exact NC kv h
    ·rw [aaw.mp h]
     exact ⟨dM,rfl,s89.free nM⟩
  ·have wc:¬ av pins<=x.1:=fun z=>c0 (decide_eq_true (by rw [eW];omega))
   refine ⟨_,_,kvs,ns,rfl,s8,t7 _ _ mB,NZ.same t7,t7 _ _ Kj,t7 _ _ d7,Paired.bM Rv fun _ _ z=>z.same t7,?_,NC⟩
   rw [take_snoc ex,abI,show [x].filter (fun x=>decide (av pins<=x.1))=[] by simp [wc],ace]
   exact L9
 ·rintro σ H7 ⟨o5,o6,kvs,ns,rfl,s7,mB,NZ,Kj,d7,Rv,L9,NC⟩
  rw [Rr,aa5] at L9
  have kS:aV sd H7 (upd H7 sd (.dK gU)):=aV.upd
  have Y9:∀n∈ns,∃x,x∈nd/\xN pins bars ws n x:=fun n hn=>by
   obtain ⟨i,ei⟩:=aad hn
   obtain ⟨x,ex,h⟩:=aH L9 ei
   exact ⟨x,(aa4.mp (ir ex)).1,h⟩
  refine ⟨sd,o,gU,Kj,fun o' u' z=>(by have z' :H sd=some (.fk o' u'):=z;rw [Ki] at z';cases z'),_,rfl,?_⟩
  refine q d kvs ns _ (fun b' o' e=>kS _ _ (aq e Ki) (s7 _ _ e)) Hd (kS _ _ Ql d7) ⟨Paired.bM Rv fun kv n z=> ?_,?_,fun n hn=> ?_,fun n hn n' EO b eb=> ?_,fun k b eb=> ?_⟩ NC
  ·obtain ⟨b',Kk,Rw,z1,z2,z3,z4⟩:=z
   exact ⟨b',Kk,Rw,z1,z2,z3,z4.ksG Kj Qe (fun z=>by have:=z4.hM;rw [z,Kj] at this;cases this) kS⟩
  ·have hp:((nd.filter fun x=>decide (av pins<=x.1)).map (·.1)).Pairwise (· < ·):=RZ.asc.sublist (List.filter_sublist.map _)
   rw [rN L9,ahJ] at hp
   exact hp.imp fun {a b} h=>by omega
  ·obtain ⟨x,mx,hx⟩:=Y9 n hn
   exact xO g wi gD Y8 RZ mx hx
  ·obtain ⟨x,mx,hx⟩:=Y9 n hn
   obtain ⟨y,my,hy⟩:=Y9 n' EO
   exact Jf g gD Y8 RZ mx hx my hy eb
  ·have hk:=(be.mp eb).1
   rw [<- IY gD Y8 RZ (j:=av pins+k) (by omega)]
   constructor
   ·rintro ⟨n,hn,rfl⟩ h
    obtain ⟨x,mx,hx⟩:=Y9 n hn
    exact h x mx hx.1
   ·intro h
    apply aa3
    intro no
    refine h fun y my ey=>no ?_
    have hy:y∈nd.filter fun x=>decide (av pins<=x.1):=aa4.mpr ⟨my,decide_eq_true (by omega)⟩
    obtain ⟨i,ei⟩:=aad hy
    obtain ⟨n,en,hn⟩:=jk L9 ei
    refine ⟨n,ir en,?_⟩
    have:=hn.1
    omega
def cell (ns:ξ)(k:Int):Int:=if k < (ns.length:Int) then (ns[k.toNat]?).getD 0 else ((((k+5)*(k+5)*48271).fmod 2147483647)*(((k+5)*(k+5)*48271).fmod 2147483647)).fmod 2147483629
theorem ng {x m:Int}(h:0 < m):0<=x.fmod m/\x.fmod m < m:=⟨ag_ x h,ah0 x h⟩
inductive ph (K:Frag)(vs:η)(H:Hp)(Q:VK)(E_:XK):Prop where
 | mk (a:Addr) (ns:ξ) (k:Int) (_:vs=[.ref a,.int k]) (_:a8 K H a (ns.map V.int)) (_:0<=k) (_:k<=1000) (_:Q (.int (cell ns k)) H):ph K vs H Q E_
theorem cell_in {ns:ξ}{k:Int}(h0:0<=k)(h:k < (ns.length:Int)):jr (ns.map V.int) k=some (.int (cell ns k)):=by
 have hk:k.toNat < ns.length:=by omega
 have ek:k=((k.toNat:Nat):Int):=by omega
 have q:jr (ns.map V.int) ((k.toNat:Nat):Int)=some (.int (cell ns k)):=cE (by
  unfold cell
  rw [if_pos h,Wp,gE hk]
  rfl)
 rw [<- ek] at q
 exact q
theorem jm {i:Int}{k:Nat}(h:i.natAbs < 2^k):intBits i<=k:=intBits_le_iff.mpr h
theorem N0:aD ["_law_script","_law_k","_law_part"] ["_law_script","_law_k"] (ag BQ):=sq
theorem UO (D:Def K mg "_law_cell_at" BQ ["_law_script","_law_k"])(ba:mg "len"=none):Fn P w K mg base CX 1 "_law_cell_at" ["_law_script","_law_k"] (ph K):=by
 refine D.ok N0 (fun vs H Q E h=> ?_) (fun f bE A outer s H vs Q E hr h=> ?_)
 ·obtain ⟨a,ns,k,rfl,_⟩:=h
  rfl
 obtain ⟨a,ns,k,rfl,hS,h0,h1,q⟩:=h
 refine ⟨_,(ae (bo (aR uN (pv 1) (aT aJ rfl ba cf (ar (pv 0) aa)) (aZ _)) (aj (aI (bq bt (pv 0) (pv 1) (fun _ _=>rfl)))) aQ)
  (ae (aF (i:=2) N0.nd rfl (aai rfl) (aK fQ (aK cu (aK cu (aK cz (pv 1) ak) (aK cz (pv 1) ak)) ak) ak))
  (aj (aI (aK fQ (aK cu (pv 2) (pv 2)) ak))))),?_⟩
 have hl:(ns.map V.int).length=ns.length:=aaa _
 refine ⟨_,rfl,_,rfl,a,_,rfl,.inl hS,_,_,rfl,rfl,_,rfl,?_⟩
 refine bc (fun c=> ?_) (fun c=> ?_)
 ·have c' :k < (((ns.map V.int).length:Nat):Int):=of_decide_eq_true c
  rw [hl] at c'
  exact ⟨_,rfl,_,rfl,a,_,k,_,rfl,rfl,hS,cell_in h0 c',q⟩
 ·have c' :¬ k < (((ns.map V.int).length:Nat):Int):=of_decide_eq_false (ahL.mpr c)
  rw [hl] at c'
  have b5:intBits (k+5)<=11:=jm (by show _ < 2048;omega)
  have e1:=ng (x:=(k+5)*(k+5)*48271) (m:=2147483647) (by decide)
  have bp:intBits (((k+5)*(k+5)*48271).fmod 2147483647)<=31:=jm (by show _ < 2147483648;omega)
  refine ⟨_,rfl,_,_,rfl,rfl,_,rfl,_,_,rfl,rfl,_,_,rfl,rfl,⟨aaf b5 (by decide),aaf b5 (by decide)⟩,?_⟩
  refine ⟨_,_,rfl,rfl,⟨aaf (intBits_mul_le b5 b5) (by decide),by decide+kernel⟩,_,_,rfl,rfl,nz (by decide),?_⟩
  refine ⟨_,rfl,_,rfl,_,_,rfl,rfl,⟨aaf bp (by decide),aaf bp (by decide)⟩,_,_,rfl,rfl,nz (by decide),?_⟩
  have e:cell ns k=((((k+5)*(k+5)*48271).fmod 2147483647)*(((k+5)*(k+5)*48271).fmod 2147483647)).fmod 2147483629:=by
   unfold cell
   rw [if_neg c']
  rw [e] at q
  exact q
def field (c p m:Int):Int:=(((c.fmod p+11)*48271).fmod p).fmod m
theorem a_ {c p m:Int}(h:0 < m):0<=field c p m/\field c p m < m:=ng h
inductive eQ (vs:η)(H:Hp)(Q:VK)(E_:XK):Prop where
 | mk (c p m:Int) (_:vs=[.int c,.int p,.int m]) (_:0 < p) (_:p<=2000000) (_:0 < m) (_:Q (.int (field c p m)) H):eQ vs H Q E_
theorem UP:aD ["_law_cell","_law_prime","_law_many"] ["_law_cell","_law_prime","_law_many"] (ag BR):=sq
theorem UQ (D:Def K mg "_law_field" BR ["_law_cell","_law_prime","_law_many"]):Fn P w K mg base CX 1 "_law_field" ["_law_cell","_law_prime","_law_many"] eQ:=by
 refine D.ok UP (fun vs H Q E h=> ?_) (fun f bE A outer s H vs Q E hr h=> ?_)
 ·obtain ⟨c,p,m,rfl,_⟩:=h
  rfl
 obtain ⟨c,p,m,rfl,hp,SJ,hm,q⟩:=h
 refine ⟨_,(aj (aI (aK fQ (aK fQ (aK cu (aK cz (aK fQ (pv 0) (pv 1)) ak) ak) (pv 1)) (pv 2)))),?_⟩
 have e1:=ng (x:=c) hp
 refine ⟨_,rfl,_,rfl,_,_,rfl,rfl,nz (by omega),_,_,rfl,rfl,_,_,rfl,rfl,⟨aaf (jm (k:=22) (by show _ < 4194304;omega)) (by decide),by decide+kernel⟩,?_⟩
 exact ⟨_,rfl,_,_,rfl,rfl,nz (by omega),_,rfl,_,_,rfl,rfl,nz (by omega),q⟩
inductive dA (vs:η)(H:Hp)(Q:VK)(E_:XK):Prop where
 | mk (t b:Int) (_:vs=[.int t,.int b]) (_:0 < b) (_:gives H Q (low t b)):dA vs H Q E_
theorem y8:aD ["_law_top","_law_bottom","_law_one","_law_other"] ["_law_top","_law_bottom"] (ag BS):=sq
theorem UR (ht:P.given.tree=none)(D:Def K mg "_law_lowest" BS ["_law_top","_law_bottom"])(rF:mg "abs"=none):Fn P w K mg base (aY P w) 33 "_law_lowest" ["_law_top","_law_bottom"] dA:=by
 refine D.ok y8 (fun vs H Q E h=> ?_) (fun f bE A outer s H vs Q E hr h=> ?_)
 ·obtain ⟨t,b,rfl,_⟩:=h
  rfl
 obtain ⟨t,b,rfl,hb,q⟩:=h
 refine ⟨_,(ae (aF (i:=2) y8.nd rfl (aai rfl) (aT uP rfl rF NA (ar (pv 0) aa)))
  (ae (aF (i:=3) y8.nd rfl (aai rfl) (pv 1))
  (ae (nE PassesOwn.never (aR lE (pv 3) ak (aZ _)) (aj (OH (i:=2) (j:=3) rfl y8.nd rfl rfl (by decide) rfl rfl (ar (pv 3) (ar (aK fQ (pv 2) (pv 3)) aa)) rfl)))
  (aj (aI (a9 (ar (aK (fF ht (Ty.cp.py hr (by decide)) rfl rfl rfl rfl rfl) (pv 0) (pv 2)) (ar (aK (fF ht (Ty.cp.py hr (by decide)) rfl rfl rfl rfl rfl) (pv 1) (pv 2)) aa)))))))),?_⟩
 refine ⟨_,rfl,t,rfl,?_⟩
 refine ⟨_,rfl,?_⟩
 refine uM (fun σ H' =>∃x y:Int,σ=[some (.int t),some (.int b),some (.int x),some (.int y)]/\H' =H/\0<=x/\0<=y/\aa' x y=aa' t b) (fun σ _=>match σ with | [_,_,_,some (.int y)]=>y.natAbs | _=>0) ⟨_,b,rfl,rfl,?_,by omega,?_⟩ ?_ ?_
 ·split <;> omega
 ·split
  ·exact Int.neg_gcd
  ·rfl
 ·rintro σ H' ⟨x,y,rfl,rfl,hx,hy,g⟩
  refine ⟨_,rfl,rfl,_,rfl,?_⟩
  refine bc (fun c=> ?_) (fun c=> ?_)
  ·have ID:y≠0:=by
    intro z
    subst z
    simp at c
   refine ⟨_,rfl,_,rfl,_,rfl,_,_,rfl,rfl,ID,_,_,rfl,?_⟩
   exact ⟨⟨_,_,rfl,rfl,hy,ag_ _ (by omega),by rw [uW];exact g⟩,q4 ID⟩
  ·have ID:y=0:=by
    have:=ahL.mpr c
    simp at this
    exact this
   subst ID
   have e:x=sg t b:=by
    rw [aiz] at g
    unfold sg
    rw [if_neg (by omega)]
    unfold gz
    rw [<- g]
    omega
   subst e
   have hbn:b≠0:=by omega
   have c:=nL (t:=t) hbn
   refine ⟨_,rfl,_,rfl,_,_,rfl,rfl,c,_,rfl,_,rfl,_,_,rfl,rfl,c,(by show 2<=sizeLine;decide),fun p hp=> ?_⟩
   exact q p _ (aG hp _) ah
 ·rintro σ H' Q1 Q2 h ⟨v,e1,e2,k,ek,z⟩
  exact ⟨v,e1,e2,k,ek,h _ _ z⟩
structure Ns (n:Nat)(q:Int×Int):Prop where
 top:q.1.natAbs<=2^n
 bot:q.2.natAbs<=2^n
theorem Ns.up {m n:Nat}{q:Int×Int}(h:Ns m q)(l:m<=n):Ns n q:=⟨aaf h.top (aaP (by decide) l),aaf h.bot (aaP (by decide) l)⟩
def kL (K:Frag)(H:Hp)(v:V)(n:Nat)(r:Rat):Prop:=∃q:Int×Int,lM K H v q/\0 < q.2/\vl q=r/\Ns n q
theorem kL.same {H H' :Hp}{v:V}{n:Nat}{r:Rat}(h:kL K H v n r)(s:au H H'):kL K H' v n r:=by
 obtain ⟨q,h1,h2⟩:=h
 exact ⟨q,h1.same s,h2⟩
theorem kL.aX {H H' :Hp}{v:V}{n:Nat}{r:Rat}(h:kL K H v n r)(s:bg H H'):kL K H' v n r:=by
 obtain ⟨q,h1,h2⟩:=h
 exact ⟨q,h1.aX s,h2⟩
theorem kL.up {H:Hp}{v:V}{m n:Nat}{r:Rat}(h:kL K H v m r)(l:m<=n):kL K H v n r:=by
 obtain ⟨q,h1,h2,h3,h4⟩:=h
 exact ⟨q,h1,h2,h3,h4.up l⟩
theorem iz {H:Hp}{v:V}{n:Nat}{r:Rat}(h:f' K H v r)(z:Zb n r):kL K H v n r:=⟨qr r,h,cX r,fG r,⟨z.top,z.bot⟩⟩
theorem y_ {k n:Nat}{r:Rat}(h:Sz k r)(l:k<=n):Zb n r:=⟨acf (aaD (intBits_le_iff.mp h.top) (aaP (by decide) l)),acf (aaD (intBits_le_iff.mp h.bot) (aaP (by decide) l))⟩
theorem za {q:Int×Int}(h:0 < q.2):q.1=0 ↔ vl q=0:=by
 unfold vl
 have z:((q.2:Int):Rat)≠0:=cq (abz h)
 constructor
 ·intro e
  rw [e]
  have:((0:Int):Rat)=0:=by rfl
  rw [this]
  grind
 ·intro e
  apply aa3
  intro n
  have y:((q.1:Int):Rat)≠0:=cq n
  exact (by grind:¬ ((q.1:Int):Rat) / ((q.2:Int):Rat)=0) e
def f9 (x y:Int×Int):Int×Int:=(x.1*y.2+y.1*x.2,x.2*y.2)
def qA (x y:Int×Int):Int×Int:=(x.1*y.1,x.2*y.2)
theorem eU {a b:Int}{m n:Nat}(h1:a.natAbs<=2^m)(h2:b.natAbs<=2^n):(a*b).natAbs<=2^(m+n):=by
 rw [aby,ahC]
 exact abl h1 h2
theorem L_ {x y:Int×Int}{m n:Nat}(hx:0 < x.2)(hy:0 < y.2)(zx:Ns m x)(zy:Ns n y):0 < (f9 x y).2/\vl (f9 x y)=vl x+vl y/\Ns (m+n+1) (f9 x y):=by
 refine ⟨ahr hx hy,?_,?_,?_⟩
 ·unfold vl f9
  have z1:((x.2:Int):Rat)≠0:=cq (abz hx)
  have z2:((y.2:Int):Rat)≠0:=cq (abz hy)
  push_cast
  grind
 ·have h1:=eU zx.top zy.bot
  have h2:=eU zy.top zx.bot
  rw [aie n m] at h2
  have h3:=aho (x.1*y.2) (y.1*x.2)
  show (x.1*y.2+y.1*x.2).natAbs<=2^(m+n+1)
  rw [ahG]
  omega
 ·exact aaf (eU zx.bot zy.bot) (aaP (by decide) (by omega))
theorem Ma {x y:Int×Int}{m n:Nat}(hx:0 < x.2)(hy:0 < y.2)(zx:Ns m x)(zy:Ns n y):0 < (qA x y).2/\vl (qA x y)=vl x*vl y/\Ns (m+n) (qA x y):=by
 refine ⟨ahr hx hy,?_,eU zx.top zy.top,eU zx.bot zy.bot⟩
 unfold vl qA
 have z1:((x.2:Int):Rat)≠0:=cq (abz hx)
 have z2:((y.2:Int):Rat)≠0:=cq (abz hy)
 push_cast
 grind
inductive dq (K:Frag)(f:Int×Int->Int×Int->Int×Int)(vs:η)(H:Hp)(Q:VK)(E_:XK):Prop where
 | mk (u v:V) (x y:Int×Int) (m n:Nat) (_:vs=[u,v]) (_:lM K H u x) (_:lM K H v y) (_:Ns m x) (_:Ns n y) (_:m+n<=130000000) (_:gives H Q (f x y)):dq K f vs H Q E_
theorem tF {H:Hp}{u v:V}{m n:Nat}{x y:Rat}{Q:VK}{E:XK}(h1:kL K H u m x)(h2:kL K H v n y)(l:m+n<=130000000)(k:∀(p:Addr) (H' :Hp),au H H' ->kL K H' (.ref p) (m+n+1) (x+y)->Q (.ref p) H'):dq K f9 [u,v] H Q E:=by
 obtain ⟨q1,a1,a2,a3,a4⟩:=h1
 obtain ⟨q2,b1,b2,b3,b4⟩:=h2
 obtain ⟨c1,c2,c3⟩:=L_ a2 b2 a4 b4
 exact ⟨u,v,q1,q2,m,n,rfl,a1,b1,a4,b4,l,fun p H' s e=>k p H' s ⟨f9 q1 q2,⟨p,rfl,bN.of e⟩,c1,by rw [c2,a3,b3],c3⟩⟩
theorem zc {H:Hp}{u v:V}{m n:Nat}{x y:Rat}{Q:VK}{E:XK}(h1:kL K H u m x)(h2:kL K H v n y)(l:m+n<=130000000)(k:∀(p:Addr) (H' :Hp),au H H' ->kL K H' (.ref p) (m+n) (x*y)->Q (.ref p) H'):dq K qA [u,v] H Q E:=by
 obtain ⟨q1,a1,a2,a3,a4⟩:=h1
 obtain ⟨q2,b1,b2,b3,b4⟩:=h2
 obtain ⟨c1,c2,c3⟩:=Ma a2 b2 a4 b4
 exact ⟨u,v,q1,q2,m,n,rfl,a1,b1,a4,b4,l,fun p H' s e=>k p H' s ⟨qA q1 q2,⟨p,rfl,bN.of e⟩,c1,by rw [c2,a3,b3],c3⟩⟩
inductive gX (K:Frag)(vs:η)(H:Hp)(Q:VK)(E_:XK):Prop where
 | mk (u:V) (x:Int×Int) (_:vs=[u]) (_:lM K H u x) (_:gives H Q (0 - x.1,x.2)):gX K vs H Q E_
theorem vR {H:Hp}{u:V}{m:Nat}{x:Rat}{Q:VK}{E:XK}(h1:kL K H u m x)(k:∀(p:Addr) (H' :Hp),au H H' ->kL K H' (.ref p) m (-x)->Q (.ref p) H'):gX K [u] H Q E:=by
 obtain ⟨q1,a1,a2,a3,a4⟩:=h1
 refine ⟨u,q1,rfl,a1,fun p H' s e=>k p H' s ⟨(0 - q1.1,q1.2),⟨p,rfl,bN.of e⟩,a2,?_,?_,a4.bot⟩⟩
 ·rw [<- a3]
  unfold vl
  push_cast
  grind
 ·have:=a4.top
  show (0 - q1.1).natAbs<=2^m
  omega
theorem US:aD ["_law_one","_law_other"] ["_law_one","_law_other"] (ag BU):=sq
theorem UT (D:Def K mg "_law_sum" BU ["_law_one","_law_other"]):Fn P w K mg base (aY P w) 1 "_law_sum" ["_law_one","_law_other"] (dq K f9):=by
 refine D.ok US (fun vs H Q E h=> ?_) (fun f bE A outer s H vs Q E hr h=> ?_)
 ·obtain ⟨u,v,x,y,m,n,rfl,_⟩:=h
  rfl
 obtain ⟨u,v,x,y,m,n,rfl,⟨p1,rfl,h1⟩,⟨p2,rfl,h2⟩,zx,zy,l,q⟩:=h
 refine ⟨_,(aj (aI (a9 (ar (aK cz (aK iF (aL (pv 0)) (aL (pv 1))) (aK iF (aL (pv 1)) (aL (pv 0)))) (ar (aK iF (aL (pv 0)) (aL (pv 1))) aa))))),?_⟩
 refine ⟨_,rfl,p1,_,_,_,rfl,rfl,h1,ib,_,rfl,p2,_,_,_,rfl,rfl,h2,iV,_,_,rfl,rfl,gk zx.top zy.bot (by omega),?_⟩
 refine ⟨_,rfl,p2,_,_,_,rfl,rfl,h2,ib,_,rfl,p1,_,_,_,rfl,rfl,h1,iV,_,_,rfl,rfl,gk zy.top zx.bot (by omega),?_⟩
 refine ⟨_,_,rfl,rfl,?_⟩
 refine ⟨_,rfl,p1,_,_,_,rfl,rfl,h1,iV,_,rfl,p2,_,_,_,rfl,rfl,h2,iV,_,_,rfl,rfl,gk zx.bot zy.bot (by omega),(by show 2<=sizeLine;decide),?_⟩
 intro p3 n3;generalize eX:upd _ p3 _=H3;have ⟨s3,e3⟩:=nw n3 eX;clear eX
 exact q p3 H3 s3 e3
theorem UU:aD ["_law_one","_law_other"] ["_law_one","_law_other"] (ag BV):=sq
theorem UW (D:Def K mg "_law_times" BV ["_law_one","_law_other"]):Fn P w K mg base (aY P w) 1 "_law_times" ["_law_one","_law_other"] (dq K qA):=by
 refine D.ok UU (fun vs H Q E h=> ?_) (fun f bE A outer s H vs Q E hr h=> ?_)
 ·obtain ⟨u,v,x,y,m,n,rfl,_⟩:=h
  rfl
 obtain ⟨u,v,x,y,m,n,rfl,⟨p1,rfl,h1⟩,⟨p2,rfl,h2⟩,zx,zy,l,q⟩:=h
 refine ⟨_,(aj (aI (a9 (ar (aK iF (aL (pv 0)) (aL (pv 1))) (ar (aK iF (aL (pv 0)) (aL (pv 1))) aa))))),?_⟩
 refine ⟨_,rfl,p1,_,_,_,rfl,rfl,h1,ib,_,rfl,p2,_,_,_,rfl,rfl,h2,ib,_,_,rfl,rfl,gk zx.top zy.top (by omega),?_⟩
 refine ⟨_,rfl,p1,_,_,_,rfl,rfl,h1,iV,_,rfl,p2,_,_,_,rfl,rfl,h2,iV,_,_,rfl,rfl,gk zx.bot zy.bot (by omega),(by show 2<=sizeLine;decide),?_⟩
 intro p3 n3;generalize eX:upd _ p3 _=H3;have ⟨s3,e3⟩:=nw n3 eX;clear eX
 exact q p3 H3 s3 e3
theorem UX:aD ["_law_one"] ["_law_one"] (ag BW):=sq
theorem UY (D:Def K mg "_law_turned" BW ["_law_one"]):Fn P w K mg base (aY P w) 1 "_law_turned" ["_law_one"] (gX K):=by
 refine D.ok UX (fun vs H Q E h=> ?_) (fun f bE A outer s H vs Q E hr h=> ?_)
 ·obtain ⟨u,x,rfl,_⟩:=h
  rfl
 obtain ⟨u,x,rfl,⟨p1,rfl,h1⟩,q⟩:=h
 refine ⟨_,(aj (aI (a9 (ar (aK cU ak (aL (pv 0))) (ar (aL (pv 0)) aa))))),?_⟩
 refine ⟨_,rfl,p1,_,_,_,rfl,rfl,h1,ib,_,_,rfl,rfl,_,rfl,p1,_,_,_,rfl,rfl,h1,iV,(by show 2<=sizeLine;decide),?_⟩
 intro p3 n3;generalize eX:upd _ p3 _=H3;have ⟨s3,e3⟩:=nw n3 eX;clear eX
 exact q p3 H3 s3 e3
def nameOf (st a k:Int):Str:=if st=0 then Txt.mul "p" (k+1) else if st=1 then Txt.mul "p" a++⟨#[(jr (Str.ofString "bcdefghijklm").cps.toList k).getD 0]⟩++Txt.mul "p" (5 - a) else Txt.slice "12345" none (some a)++(toString k:String)
theorem vS:∀st:Fin 3,∀a:Fin 6,∀k:Fin 12,∀j:Fin 12,k≠j->nameOf (st.val:Int) (a.val:Int) (k.val:Int)≠nameOf (st.val:Int) (a.val:Int) (j.val:Int):=by decide+kernel
theorem Qn:∀n:Fin 20,MulOk "p" (n.val:Int):=by
 intro n
 unfold MulOk
 revert n
 decide+kernel
theorem Qo:∀k:Fin 12,jr (Str.ofString "bcdefghijklm").cps.toList (k.val:Int)=some ((jr (Str.ofString "bcdefghijklm").cps.toList (k.val:Int)).getD 0):=by decide+kernel
theorem Ji:∀a:Fin 6,∀k:Fin 12,(Txt.mul "p" (a.val:Int)).length+(⟨#[(jr (Str.ofString "bcdefghijklm").cps.toList (k.val:Int)).getD 0]⟩:Str).length<=1000/\
  (Txt.mul "p" (a.val:Int)++(⟨#[(jr (Str.ofString "bcdefghijklm").cps.toList (k.val:Int)).getD 0]⟩:Str)).length+(Txt.mul "p" (5 - (a.val:Int))).length<=1000/\(Txt.slice "12345" none (some (a.val:Int))).length+(Str.ofString (toString (k.val:Int))).length<=1000:=by decide+kernel
inductive tG (vs:η)(H:Hp)(Q:VK)(E_:XK):Prop where
 | mk (c k:Int) (_:vs=[.int c,.int k]) (_:0<=k) (_:k < 12) (_:Q (.str (nameOf (field c 3001 3) (field c 4001 6) k)) H):tG vs H Q E_
theorem Jj:aD ["_law_cell","_law_k","_law_style","_law_at"] ["_law_cell","_law_k"] (ag xw):=sq
theorem UZ (hM:u4 CX)(D:Def K mg "_law_name" xw ["_law_cell","_law_k"])(Jk:mg "str"=none)(dr:Fn P w K mg base CX 1 "_law_field" ["_law_cell","_law_prime","_law_many"] eQ):Fn P w K mg base CX 2 "_law_name" ["_law_cell","_law_k"] tG:=by
 refine D.ok Jj (fun vs H Q E h=> ?_) (fun f bE A outer s H vs Q E hr h=> ?_)
 ·obtain ⟨c,k,rfl,_⟩:=h
  rfl
 obtain ⟨c,k,rfl,h0,h12,q⟩:=h
 have px:=u5 (X:=l_ CX P w K mg base ["_law_cell","_law_k","_law_style","_law_at"] "_law_name" (ag xw) f bE A outer s H E) hM
 refine ⟨_,(ae (aF (i:=2) Jj.nd rfl (aai rfl) (aA dr hr.mo px (ar (pv 0) (ar ak (ar ak aa)))))
  (ae (aF (i:=3) Jj.nd rfl (aai rfl) (aA dr hr.mo px (ar (pv 0) (ar ak (ar ak aa)))))
  (ae (bo (aR eC (pv 2) ak (aZ _)) (aj (aI (aK sr kh (aK cz (pv 1) ak)))) aQ)
  (ae (bo (aR eC (pv 2) ak (aZ _)) (aj (aI (aK jd (aK jd (aK sr kh (pv 3)) (bq OT kh (pv 1) (fun _ _=>rfl))) (aK sr kh (aK cU ak (pv 3)))))) aQ)
  (aj (aI (aK jd (dY O8 kh iB (dB (pv 3))) (b7 rY rfl Jk So (ar (pv 1) aa))))))))),?_⟩
 have i1:=a_ (c:=c) (p:=3001) (m:=3) (by decide)
 have i2:=a_ (c:=c) (p:=4001) (m:=6) (by decide)
 refine ⟨_,rfl,_,_,_,rfl,by decide,by decide,by decide,?_⟩
 refine ⟨_,rfl,_,_,_,rfl,by decide,by decide,by decide,?_⟩
 generalize field c 3001 3=st at i1 q ⊢
 generalize field c 4001 6=a at i2 q ⊢
 obtain ⟨kn,rfl⟩:∃n:Nat,k=(n:Int):=⟨k.toNat,by omega⟩
 obtain ⟨an,rfl⟩:∃n:Nat,a=(n:Int):=⟨a.toNat,by omega⟩
 have mk:∀i:Int,0<=i->i < 20->MulOk "p" i:=fun i a b=>by
  have:=Qn ⟨i.toNat,by omega⟩
  rwa [show ((⟨i.toNat,by omega⟩:Fin 20).val:Int)=i by show ((i.toNat:Nat):Int)=i;omega] at this
 refine ⟨_,rfl,rfl,_,rfl,?_⟩
 refine bc (fun z=> ?_) (fun z=> ?_)
 ·have z' :st=0:=by simpa [p_] using z
  subst z'
  refine ⟨_,rfl,_,_,rfl,rfl,_,_,rfl,rfl,mk _ (by omega) (by omega),?_⟩
  exact q
 have z' :¬ st=0:=by simpa [p_] using z
 have nl:=Ji ⟨an,by omega⟩ ⟨kn,by omega⟩
 refine ⟨_,rfl,rfl,_,rfl,?_⟩
 refine bc (fun z3=> ?_) (fun z3=> ?_)
 ·have z3' :st=1:=by simpa [p_] using z3
  subst z3'
  refine ⟨_,rfl,_,_,rfl,rfl,mk _ (by omega) (by omega),_,rfl,_,_,_,rfl,rfl,(by decide+kernel),Qo ⟨kn,by omega⟩,?_⟩
  refine ⟨_,_,rfl,rfl,aaf nl.1 (by decide),_,rfl,_,_,rfl,rfl,_,_,rfl,rfl,mk _ (by omega) (by omega),_,_,rfl,rfl,aaf nl.2.1 (by decide),?_⟩
  exact q
 ·have z3' :¬ st=1:=by simpa [p_] using z3
  refine ⟨_,rfl,_,rfl,_,rfl,(by decide+kernel),?_⟩
  have lg:(kn:Int).natAbs.log2 < 1920:=aar (Nat.log2_le_self _) (by show kn < 1920;omega)
  refine ⟨_,rfl,_,rfl,lg,_,_,rfl,rfl,aaf nl.2.2 (by decide),?_⟩
  have e:nameOf st (an:Int) (kn:Int)=Txt.slice "12345" none (some (an:Int))++Str.ofString (toString (kn:Int)):=by
   unfold nameOf
   rw [if_neg z',if_neg z3']
  rw [e] at q
  exact q
def gY (ws:List (Rat×Rat)):Prop:=ws=[]\/(∃x y:Rat,ws=[(x,y)]/\¬ (x=0/\y=0)/\Sz 22 x/\Sz 22 y)\/ws=[(1,0),(0,1)]
theorem pj {K:Frag}{H:Hp}{p:Addr}(i:Int)(h:H p=some (.tup [.int i,.int 1])):f' K H (.ref p) (i:Rat):=⟨p,rfl,by rw [oH];exact bN.of h⟩
theorem jX {K:Frag}{H:Hp}{p:Addr}{r:Rat}(h:H p=some (.tup [.int (qr r).1,.int (qr r).2])):f' K H (.ref p) r:=⟨p,rfl,bN.of h⟩
theorem jY {K:Frag}{H:Hp}{p:Addr}{u v:V}{r s:Rat}(h:H p=some (.tup [u,v]))(h1:f' K H u r)(h2:f' K H v s):ff K H (.ref p) (r,s):=⟨p,u,v,rfl,bN.of h,h1,h2⟩
theorem jZ {k:Nat}{i:Int}(h:i.natAbs < 1048576)(hk:20<=k):Sz k (i:Rat):=kC (aaD h (show 2^20<=2^k from aaP (by decide) hk)) (by omega)
theorem iN {t b:Int}(h:0 < b)(h1:t.natAbs < 1048576)(h2:b < 1048576):Sz 20 ((t:Rat) / (b:Rat)):=HP (abz h) (intBits_le_iff.mpr (by show _ < 1048576;omega)) (intBits_le_iff.mpr (by show _ < 1048576;omega))
theorem vT {i:Int}(h:i<=500002):(i:Rat)<=500002:=by
 have:=ahi.mpr h
 simpa using this
theorem nh {t b:Int}(hb:0 < b)(h:t<=500002):(t:Rat) / (b:Rat)<=500002:=by
 have iQ :(0:Rat) < (b:Rat):=by
  have:=Rat.intCast_lt_intCast.mpr hb
  simpa using this
 have h1:t<=500002*b:=by
  have:(500002:Int)*1<=500002*b:=Int.mul_le_mul_of_nonneg_left (by omega) (by decide)
  omega
 have h2:(t:Rat)<=500002*(b:Rat):=by
  have:=ahi.mpr h1
  simpa using this
 have e:(t:Rat) / (b:Rat)*(b:Rat)=(t:Rat):=by
  have ED:(b:Rat)≠0:=by grind
  grind
 generalize (t:Rat) / (b:Rat)=z at e
 by_cases c:z<=500002
 ·exact c
 ·have c' :500002 < z:=by grind
  have:=Rat.mul_lt_mul_of_pos_right c' iQ
  grind
theorem Jl {i:Int}(h:i<=500002)(h2: -500002<=i): -500002<=(i:Rat)/\(i:Rat)<=500002:=by
 refine ⟨?_,vT h⟩
 have:=ahi.mpr h2
 simpa using this
theorem zd {t b:Int}(hb:0 < b)(h:t<=500002)(h2: -500002<=t): -500002<=(t:Rat) / (b:Rat)/\(t:Rat) / (b:Rat)<=500002:=by
 refine ⟨?_,nh hb h⟩
 have:=nh (t:= -t) hb (by omega)
 have e:((-t:Int):Rat) / (b:Rat)= -((t:Rat) / (b:Rat)):=by
  push_cast
  grind
 rw [e] at this
 grind
inductive tH (K:Frag)(vs:η)(H:Hp)(Q:VK)(E_:XK):Prop where
 | mk (c k:Int) (_:vs=[.int c,.int k]) (_:∀(p:Addr) (x y:Rat) (H' :Hp),au H H' ->Sz 20 x->Sz 20 y->x<=500002->(-500002<=y/\y<=500002)->ff K H' (.ref p) (x,y)->Q (.ref p) H'):tH K vs H Q E_
theorem Jm:aD ["_law_cell","_law_kind","_law_x"] ["_law_cell","_law_kind"] (ag BX):=sq
theorem U0 (D:Def K mg "_law_spot" BX ["_law_cell","_law_kind"])(dr:Fn P w K mg base (aY P w) 1 "_law_field" ["_law_cell","_law_prime","_law_many"] eQ)(tI:Fn P w K mg base (aY P w) 33 "_law_lowest" ["_law_top","_law_bottom"] dA):Fn P w K mg base (aY P w) 34 "_law_spot" ["_law_cell","_law_kind"] (tH K):=by
 refine D.ok Jm (fun vs H Q E h=> ?_) (fun f bE A outer s H vs Q E hr h=> ?_)
 ·obtain ⟨c,k,rfl,_⟩:=h
  rfl
 obtain ⟨c,k,rfl,q⟩:=h
 have L2:2<=sizeLine:=by decide
 refine ⟨_,(ae (bo (aR eC (pv 1) ak (aZ _)) (aj (aI (a9 (ar (a9 (ar (aA dr hr.mo pX (ar (pv 0) (ar ak (ar ak aa)))) (ar ak aa))) (ar (a9 (ar (aA dr hr.mo pX (ar (pv 0) (ar ak (ar ak aa)))) (ar ak aa))) aa))))) aQ)
  (ae (bo (aR eC (pv 1) ak (aZ _)) (ae (aF (i:=2) Jm.nd rfl (aai rfl) (aA tI hr.mo pX (ar (aK cU (aA dr hr.mo pX (ar (pv 0) (ar ak (ar ak aa)))) ak) (ar (aK cz ak (aA dr hr.mo pX (ar (pv 0) (ar ak (ar ak aa))))) aa))))
   (aj (aI (a9 (ar (pv 2) (ar (aA tI hr.mo pX (ar (aK cU (aA dr hr.mo pX (ar (pv 0) (ar ak (ar ak aa)))) ak) (ar (aK cz ak (aA dr hr.mo pX (ar (pv 0) (ar ak (ar ak aa))))) aa))) aa)))))) aQ)
  (ae (aF (i:=2) Jm.nd rfl (aai rfl) (aA tI hr.mo pX (ar (aK cU (aA dr hr.mo pX (ar (pv 0) (ar ak (ar ak aa)))) ak) (ar (aK cz ak (aA dr hr.mo pX (ar (pv 0) (ar ak (ar ak aa))))) aa))))
  (aj (aI (a9 (ar (pv 2) (ar (aA tI hr.mo pX (ar (aK cU (aA dr hr.mo pX (ar (pv 0) (ar ak (ar ak aa)))) ak) (ar (aK cz ak (aA dr hr.mo pX (ar (pv 0) (ar ak (ar ak aa))))) aa))) aa)))))))),?_⟩
 refine ⟨_,rfl,rfl,_,rfl,?_⟩
 refine bc (fun _=> ?_) (fun _=> ?_)
 ·have i1:=a_ (c:=c) (p:=1009) (m:=4) (by decide)
  have i2:=a_ (c:=c) (p:=2003) (m:=4) (by decide)
  refine ⟨_,rfl,_,_,_,rfl,by decide,by decide,by decide,L2,?_⟩
  intro p1 n1;generalize eX:upd _ p1 _=H1;have ⟨s1,e1⟩:=nw n1 eX;clear eX
  refine ⟨_,rfl,_,_,_,rfl,by decide,by decide,by decide,L2,?_⟩
  intro p2 n2;generalize eX:upd _ p2 _=H2;have ⟨s2,e2⟩:=nw n2 eX;clear eX
  refine ⟨L2,?_⟩
  intro p3 n3;generalize eX:upd _ p3 _=H3;have ⟨s3,e3⟩:=nw n3 eX;clear eX
  exact q p3 _ _ H3 ((s1.trans s2).trans s3) (jZ (by omega) (by decide)) (jZ (by omega) (by decide)) (vT (by omega)) (Jl (by omega) (by omega)) (jY e3 (((pj _ e1).same s2).same s3) ((pj _ e2).same s3))
 refine ⟨_,rfl,rfl,_,rfl,?_⟩
 refine bc (fun _=> ?_) (fun _=> ?_)
 ·have i1:=a_ (c:=c) (p:=1009) (m:=13) (by decide)
  have i2:=a_ (c:=c) (p:=3001) (m:=3) (by decide)
  have i3:=a_ (c:=c) (p:=2003) (m:=13) (by decide)
  have i4:=a_ (c:=c) (p:=4001) (m:=2) (by decide)
  refine ⟨_,rfl,_,_,_,rfl,by decide,by decide,by decide,_,_,rfl,rfl,_,rfl,_,_,_,rfl,by decide,by decide,by decide,_,_,rfl,rfl,_,_,rfl,by omega,fun p1 H1 s1 e1=> ?_⟩
  rw [gI (by omega)] at e1
  refine ⟨_,rfl,_,rfl,_,_,_,rfl,by decide,by decide,by decide,_,_,rfl,rfl,_,rfl,_,_,_,rfl,by decide,by decide,by decide,_,_,rfl,rfl,_,_,rfl,by omega,fun p2 H2 s2 e2=>⟨L2,?_⟩⟩
  rw [gI (by omega)] at e2
  intro p3 n3;generalize eX:upd _ p3 _=H3;have ⟨s3,e3⟩:=nw n3 eX;clear eX
  exact q p3 _ _ H3 ((s1.trans s2).trans s3) (iN (by omega) (by omega) (by omega)) (iN (by omega) (by omega) (by omega)) (nh (by omega) (by omega)) (zd (by omega) (by omega) (by omega)) (jY e3 (((jX e1).same s2).same s3) ((jX e2).same s3))
 ·have i1:=a_ (c:=c) (p:=1000003) (m:=1000003) (by decide)
  have i2:=a_ (c:=c) (p:=3001) (m:=997) (by decide)
  have i3:=a_ (c:=c) (p:=1000033) (m:=1000003) (by decide)
  have i4:=a_ (c:=c) (p:=4001) (m:=997) (by decide)
  refine ⟨_,rfl,_,_,_,rfl,by decide,by decide,by decide,_,_,rfl,rfl,_,rfl,_,_,_,rfl,by decide,by decide,by decide,_,_,rfl,rfl,_,_,rfl,by omega,fun p1 H1 s1 e1=> ?_⟩
  rw [gI (by omega)] at e1
  refine ⟨_,rfl,_,rfl,_,_,_,rfl,by decide,by decide,by decide,_,_,rfl,rfl,_,rfl,_,_,_,rfl,by decide,by decide,by decide,_,_,rfl,rfl,_,_,rfl,by omega,fun p2 H2 s2 e2=>⟨L2,?_⟩⟩
  rw [gI (by omega)] at e2
  intro p3 n3;generalize eX:upd _ p3 _=H3;have ⟨s3,e3⟩:=nw n3 eX;clear eX
  exact q p3 _ _ H3 ((s1.trans s2).trans s3) (iN (by omega) (by omega) (by omega)) (iN (by omega) (by omega) (by omega)) (nh (by omega) (by omega)) (zd (by omega) (by omega) (by omega)) (jY e3 (((jX e1).same s2).same s3) ((jX e2).same s3))
inductive nj (K:Frag)(vs:η)(H:Hp)(Q:VK)(E_:XK):Prop where
 | mk (c:Int) (_:vs=[.int c]) (_:∀(l:Addr) (us:η) (ws:List (Rat×Rat)) (H' :Hp),gY ws->au H H' ->H l=none->H' l=some (.lst us)->g_ K H' us ws->Q (.ref l) H'):nj K vs H Q E_
theorem Mb {r:Rat}:(qr r).1=0 ↔ r=0:=⟨sW,fun e=>by rw [e,dR]⟩
theorem vU:aD ["_law_cell","_law_kind","_law_x","_law_y"] ["_law_cell"] (ag BY):=sq
theorem U1 (D:Def K mg "_law_ways" BY ["_law_cell"])(dr:Fn P w K mg base (aY P w) 1 "_law_field" ["_law_cell","_law_prime","_law_many"] eQ)(tI:Fn P w K mg base (aY P w) 33 "_law_lowest" ["_law_top","_law_bottom"] dA):Fn P w K mg base (aY P w) 34 "_law_ways" ["_law_cell"] (nj K):=by
 refine D.ok vU (fun vs H Q E h=> ?_) (fun f bE A outer s H vs Q E hr h=> ?_)
 ·obtain ⟨c,rfl,_⟩:=h
  rfl
 obtain ⟨c,rfl,q⟩:=h
 have L0:0<=sizeLine:=by decide
 have L1:1<=sizeLine:=by decide
 have L2:2<=sizeLine:=by decide
 refine ⟨_,(ae (aF (i:=1) vU.nd rfl (aai rfl) (aA dr hr.mo pX (ar (pv 0) (ar ak (ar ak aa)))))
  (ae (bo (aR uN (pv 1) ak (aZ _)) (aj (aI (dk aa))) aQ)
  (ae (bo (aR uN (pv 1) ak (aZ _)) (aj (aI (dk (ar (a9 (ar (a9 (ar ak (ar ak aa))) (ar (a9 (ar ak (ar ak aa))) aa))) (ar (a9 (ar (a9 (ar ak (ar ak aa))) (ar (a9 (ar ak (ar ak aa))) aa))) aa))))) aQ)
  (ae (aF (i:=2) vU.nd rfl (aai rfl) (aA tI hr.mo pX (ar (aK cU (aA dr hr.mo pX (ar (pv 0) (ar ak (ar ak aa)))) ak) (ar (aK cz ak (aA dr hr.mo pX (ar (pv 0) (ar ak (ar ak aa))))) aa))))
  (ae (aF (i:=3) vU.nd rfl (aai rfl) (aA tI hr.mo pX (ar (aK cU (aA dr hr.mo pX (ar (pv 0) (ar ak (ar ak aa)))) ak) (ar (aK cz ak (aA dr hr.mo pX (ar (pv 0) (ar ak (ar ak aa))))) aa))))
  (ae (bo (PW.pt (rW (aR eC (aL (pv 2)) ak (aZ _)) (mJ (aR eC (aL (pv 3)) ak (aZ _))))) (aj (aF (i:=3) vU.nd rfl (aai rfl) (a9 (ar ak (ar ak aa))))) aQ)
  (aj (aI (dk (ar (a9 (ar (pv 2) (ar (pv 3) aa))) aa)))))))))),?_⟩
 refine ⟨_,rfl,_,_,_,rfl,by decide,by decide,by decide,?_⟩
 refine ⟨_,rfl,_,_,rfl,rfl,_,rfl,?_⟩
 refine bc (fun _=> ?_) (fun _=> ?_)
 ·refine ⟨L0,?_⟩
  intro l nl;generalize eX:upd _ l _=H1;have ⟨s1,e1⟩:=nw nl eX;clear eX
  exact q l [] [] H1 (.inl rfl) s1 nl e1 .nil
 refine ⟨_,rfl,_,_,rfl,rfl,_,rfl,?_⟩
 refine bc (fun _=> ?_) (fun _=> ?_)
 ·refine ⟨L2,?_⟩
  intro p1 n1;generalize eX:upd _ p1 _=H1;have ⟨s1,e1⟩:=nw n1 eX;clear eX
  refine ⟨L2,?_⟩
  intro p2 n2;generalize eX:upd _ p2 _=H2;have ⟨s2,e2⟩:=nw n2 eX;clear eX
  refine ⟨L2,?_⟩
  intro p3 n3;generalize eX:upd _ p3 _=H3;have ⟨s3,e3⟩:=nw n3 eX;clear eX
  refine ⟨L2,?_⟩
  intro p4 n4;generalize eX:upd _ p4 _=H4;have ⟨s4,e4⟩:=nw n4 eX;clear eX
  refine ⟨L2,?_⟩
  intro p5 n5;generalize eX:upd _ p5 _=H5;have ⟨s5,e5⟩:=nw n5 eX;clear eX
  refine ⟨L2,?_⟩
  intro p6 n6;generalize eX:upd _ p6 _=H6;have ⟨s6,e6⟩:=nw n6 eX;clear eX
  refine ⟨L2,?_⟩
  intro p7 n7;generalize eX:upd _ p7 _=H7;have ⟨s7,e7⟩:=nw n7 eX;clear eX
  have sh:=s1.trans (s2.trans (s3.trans (s4.trans (s5.trans s6))))
  have w1:ff K H7 (.ref p3) (1,0):=yM sX dR (s7 _ _ (s6 _ _ (s5 _ _ (s4 _ _ e3)))) (s7 _ _ (s6 _ _ (s5 _ _ (s4 _ _ (s3 _ _ (s2 _ _ e1)))))) (s7 _ _ (s6 _ _ (s5 _ _ (s4 _ _ (s3 _ _ e2)))))
  have w2:ff K H7 (.ref p6) (0,1):=yM dR sX (s7 _ _ e6) (s7 _ _ (s6 _ _ (s5 _ _ e4))) (s7 _ _ (s6 _ _ e5))
  exact q p7 _ [(1,0),(0,1)] _ (.inr (.inr rfl)) (sh.trans s7) (sh.free n7) e7 (.cons w1 (.cons w2 .nil))
 have i1:=a_ (c:=c) (p:=6007) (m:=7) (by decide)
 have i2:=a_ (c:=c) (p:=7001) (m:=3) (by decide)
 have i3:=a_ (c:=c) (p:=8009) (m:=7) (by decide)
 have i4:=a_ (c:=c) (p:=9001) (m:=2) (by decide)
 refine ⟨_,rfl,_,_,_,rfl,by decide,by decide,by decide,_,_,rfl,rfl,_,rfl,_,_,_,rfl,by decide,by decide,by decide,_,_,rfl,rfl,_,_,rfl,by omega,fun p1 H1 s1 e1=> ?_⟩
 rw [gI (by omega)] at e1
 refine ⟨_,rfl,_,_,_,rfl,by decide,by decide,by decide,_,_,rfl,rfl,_,rfl,_,_,_,rfl,by decide,by decide,by decide,_,_,rfl,rfl,_,_,rfl,by omega,fun p2 H2 s2 e2=> ?_⟩
 rw [gI (by omega)] at e2
 have z1:=iN (t:=field c 6007 7 - 3) (b:=1+field c 7001 3) (by omega) (by omega) (by omega)
 have z2:=iN (t:=field c 8009 7 - 3) (b:=1+field c 9001 2) (by omega) (by omega) (by omega)
 generalize ((field c 6007 7 - 3:Int):Rat) / ((1+field c 7001 3:Int):Rat)=x at e1 z1 ⊢
 generalize ((field c 8009 7 - 3:Int):Rat) / ((1+field c 9001 2:Int):Rat)=y at e2 z2 ⊢
 have wB :=s2 _ _ e1
 have BA:=s1.trans s2
 have fin:∀(v:V) (y' :Rat) (H3:Hp),au H2 H3->f' K H3 v y' ->Sz 22 y' ->¬ (x=0/\y' =0)->∀(p:Addr) (l:Addr) (H5:Hp),au H3 H5->H3 l=none->H5 p=some (.tup [.ref p1,v])->H5 l=some (.lst [.ref p])->Q (.ref l) H5:=fun v y' H3 s3 hv zy hn p l H5 s5 nl ep el=>
  q l [.ref p] [(x,y')] H5 (.inr (.inl ⟨x,y',rfl,hn,z1.up (by decide),zy⟩)) (BA.trans (s3.trans s5)) ((BA.trans s3).free nl) el (.cons (jY ep (((jX wB).same s3).same s5) (hv.same s5)) .nil)
 refine ⟨_,rfl,p1,_,_,_,rfl,rfl,bN.of wB,ib,rfl,_,rfl,?_⟩
 refine bc (fun c1=> ?_) (fun c1=> ?_)
 ·have c1' :x=0:=Mb.mp (by simpa using of_decide_eq_true c1)
  refine ⟨_,rfl,p2,_,_,_,rfl,rfl,bN.of e2,ib,rfl,_,rfl,?_⟩
  refine bc (fun c2=> ?_) (fun c2=> ?_)
  ·refine ⟨L2,?_⟩
   intro p3 n3;generalize eX:upd _ p3 _=H3;have ⟨s3,e3⟩:=nw n3 eX;clear eX
   refine ⟨_,rfl,_,rfl,L2,?_⟩
   intro p4 n4;generalize eX:upd _ p4 _=H4;have ⟨s4,e4⟩:=nw n4 eX;clear eX
   refine ⟨L1,?_⟩
   intro l5 n5;generalize eX:upd _ l5 _=H5;have ⟨s5,e5⟩:=nw n5 eX;clear eX
   exact fin (.ref p3) 1 H3 s3 (pj 1 e3) (jZ (i:=1) (by decide) (by decide)) (fun z=>absurd z.2 (by decide)) p4 l5 H5 (s4.trans s5) (s4.free n5) (s5 _ _ e4) e5
  ·have c2' :¬ y=0:=fun z=>c2 (by rw [z,dR];decide)
   refine ⟨_,rfl,_,rfl,L2,?_⟩
   intro p4 n4;generalize eX:upd _ p4 _=H4;have ⟨s4,e4⟩:=nw n4 eX;clear eX
   refine ⟨L1,?_⟩
   intro l5 n5;generalize eX:upd _ l5 _=H5;have ⟨s5,e5⟩:=nw n5 eX;clear eX
   exact fin (.ref p2) y H2 (au.refl _) (jX e2) (z2.up (by decide)) (fun z=>c2' z.2) p4 l5 H5 (s4.trans s5) (s4.free n5) (s5 _ _ e4) e5
 ·have c1' :¬ x=0:=fun z=>c1 (by rw [z,dR];decide)
  refine OY ?_
  refine ⟨_,rfl,_,rfl,L2,?_⟩
  intro p4 n4;generalize eX:upd _ p4 _=H4;have ⟨s4,e4⟩:=nw n4 eX;clear eX
  refine ⟨L1,?_⟩
  intro l5 n5;generalize eX:upd _ l5 _=H5;have ⟨s5,e5⟩:=nw n5 eX;clear eX
  exact fin (.ref p2) y H2 (au.refl _) (jX e2) (z2.up (by decide)) (fun z=>c1' z.1) p4 l5 H5 (s4.trans s5) (s4.free n5) (s5 _ _ e4) e5
inductive jn (K:Frag)(H:Hp)(d:Addr)(v:V)(p:aE):Prop where
 | mk (a l:Addr) (s:V) (us:η) (_:v=.ref a) (_:bN K H a [.str p.nm,s,.ref l]) (_:ff K H s p.sp) (_:H l=some (.lst us)) (_:g_ K H us p.ws) (_:l≠d):jn K H d v p
inductive gZ (K:Frag)(H:Hp)(v:V)(p:aE):Prop where
 | mk (a l:Addr) (s:V) (us:η) (_:v=.ref a) (_:bN K H a [.str p.nm,s,.ref l]) (_:ff K H s p.sp) (_:H l=some (.lst us)) (_:g_ K H us p.ws):gZ K H v p
inductive g7 (K:Frag)(H:Hp)(pins:ν)(v:V)(b:aU):Prop where
 | mk (a:Addr) (i j:Nat) (_:v=.ref a) (_:bN K H a [.str b.nm,.int (i:Int),.int (j:Int)]) (_:pins[i]? =some b.one) (_:pins[j]? =some b.other):g7 K H pins v b
section
variable {K:Frag}{H H' :Hp}{v:V}{p:aE}{d:Addr}
theorem jn.same (h:jn K H d v p)(s:au H H'):jn K H' d v p:=by
 obtain ⟨a,l,sv,us,e,h1,h2,h3,h4,h5⟩:=h
 exact ⟨a,l,sv,us,e,Ty.au.cG s h1,h2.same s,s _ _ h3,h4.same s,h5⟩
theorem jn.upd {xs:η}{o:HO}(h:jn K H d v p)(e:H d=some (.lst xs)):jn K (L2.upd H d o) d v p:=by
 obtain ⟨a,l,sv,us,ev,h1,h2,h3,h4,h5⟩:=h
 have t:bg H (L2.upd H d o):=.list e
 exact ⟨a,l,sv,us,ev,t.cG h1,h2.aX t,by rw [ao h5];exact h3,h4.aX t,h5⟩
theorem jn.r (h:jn K H d v p):gZ K H v p:=by
 obtain ⟨a,l,sv,us,e,h1,h2,h3,h4,_⟩:=h
 exact ⟨a,l,sv,us,e,h1,h2,h3,h4⟩
theorem gZ.same (h:gZ K H v p)(s:au H H'):gZ K H' v p:=by
 obtain ⟨a,l,sv,us,e,h1,h2,h3,h4⟩:=h
 exact ⟨a,l,sv,us,e,Ty.au.cG s h1,h2.same s,s _ _ h3,h4.same s⟩
theorem g7.same {pins:ν}{b:aU}(h:g7 K H pins v b)(s:au H H'):g7 K H' pins v b:=by
 obtain ⟨a,i,j,e,h1,h2,h3⟩:=h
 exact ⟨a,i,j,e,Ty.au.cG s h1,h2,h3⟩
end
structure eY (pins:ν):Prop where
 np:(pins.map (·.nm)).Nodup
 ns:(pins.map (·.sp)).Nodup
 sz:∀p∈pins,Sz 44 p.sp.1/\Sz 44 p.sp.2
 ws:∀p∈pins,gY p.ws
theorem gY.sz {ws:List (Rat×Rat)}(h:gY ws):∀w∈ws,Sz 22 w.1/\Sz 22 w.2:=fun w hw=>by
 rcases h with rfl | ⟨x,y,rfl,_,h1,h2⟩ | rfl
 ·cases hw
 ·have:w=(x,y):=by simpa using hw
  rw [this]
  exact ⟨h1,h2⟩
 ·have e1:Sz 22 (1:Rat):=jZ (k:=22) (i:=1) (by decide) (by decide)
  have e0:Sz 22 (0:Rat):=jT (by decide)
  have:w=(1,0)\/w=(0,1):=by simpa using hw
  rcases this with rfl | rfl
  ·exact ⟨e1,e0⟩
  ·exact ⟨e0,e1⟩
theorem gY.len {ws:List (Rat×Rat)}(h:gY ws):ws.length<=2:=by
 rcases h with rfl | ⟨x,y,rfl,_⟩ | rfl <;> simp
theorem eY.snoc {pins:ν}{p:aE}(g:eY pins)(h1:p.nm∉pins.map (·.nm))(h2:p.sp∉pins.map (·.sp))(h3:Sz 44 p.sp.1/\Sz 44 p.sp.2)(h4:gY p.ws):eY (pins++[p]):=by
 refine ⟨?_,?_,fun q hq=> ?_,fun q hq=> ?_⟩
 ·rw [aaK,ahM]
  refine ⟨g.np,by simp,fun a ha b hb e=>h1 ?_⟩
  have:b=p.nm:=by simpa using hb
  rw [<- this, <- e]
  exact ha
 ·rw [aaK,ahM]
  refine ⟨g.ns,by simp,fun a ha b hb e=>h2 ?_⟩
  have:b=p.sp:=by simpa using hb
  rw [<- this, <- e]
  exact ha
 ·rcases aaF.mp hq with z | z
  ·exact g.sz q z
  ·rw [aaw.mp z]
   exact h3
 ·rcases aaF.mp hq with z | z
  ·exact g.ws q z
  ·rw [aaw.mp z]
   exact h4
structure j0 (pins:ν)(bars:List aU):Prop where
 nb:(bars.map (·.nm)).Nodup
 ends:∀b∈bars,b.one∈pins/\b.other∈pins/\b.one.nm≠b.other.nm
theorem eZ {α β:Type}{F:α->β->Prop}:∀{l₁:List α} {l₂:List β} {a:α} {b:β},Paired F l₁ l₂->F a b->Paired F (l₁++[a]) (l₂++[b])
 | _,_,_,_,.nil,h=>.cons h .nil
 | _,_,_,_,.cons h t,h' =>.cons h (eZ t h')
theorem e_ {t u:TS}{D:Ends}{σ:L2.St}{H:Hp}(inv:L2.St->Hp->Prop)(h1:∀N:L2.St->Hp->Prop,(∀σ' H',inv σ' H' ->N σ' H')->t {D with nx:=N} σ H)(h2:∀σ' H',inv σ' H' ->u D σ' H'):RM t u D σ H:=h1 _ h2
theorem U2 {pins:ν}{bars:List aU}(g:eY pins)(b:j0 pins bars)(lp:pins.length<=9)(lb:bars.length<=14):dz pins bars:=
 ⟨g.np,b.nb,b.ends,fun p hp=>⟨(g.sz p hp).1,(g.sz p hp).2,(g.ws p hp).sz⟩,lp,lb,fun p hp=>(g.ws p hp).len⟩
theorem U3:bootBuiltins "min"=some (.builtin "min"):=by decide+kernel
def cnt (pins:ν)(x:Rat):Nat:=(pins.filter fun p=>decide (x<=p.sp.1)).length
theorem Jn (x:Rat):∀pins:List aE,cnt pins (x+1)<=cnt pins x
 | []=>aah _
 | p::ps=>by
  have ih:=Jn x ps
  unfold cnt at ih ⊢
  rw [abH,abH]
  by_cases c:x+1<=p.sp.1
  ·have c2:x<=p.sp.1:=by grind
   rw [if_pos (decide_eq_true c),if_pos (decide_eq_true c2)]
   simpa using ih
  ·rw [if_neg (by simpa using c)]
   split
   ·rw [aaY]
    omega
   ·exact ih
theorem Jo {x:Rat}:∀{pins:ν},(∃p∈pins,p.sp.1=x)->cnt pins (x+1) < cnt pins x
 | [],⟨p,h,_⟩=>by simp at h
 | p::ps,⟨q,hq,e⟩=>by
  unfold cnt
  rw [abH,abH]
  by_cases c0:p.sp.1=x
  ·have c:¬ x+1<=p.sp.1:=by grind
   have c2:x<=p.sp.1:=by grind
   rw [if_neg (by simpa using c),if_pos (decide_eq_true c2),aaY]
   have:=Jn x ps
   unfold cnt at this
   omega
  ·have qi :q∈ps:=by
    rcases aaN.mp hq with z | z
    ·exact absurd (by rw [<- z];exact e) c0
    ·exact z
   have ih:=Jo (pins:=ps) ⟨q,qi,e⟩
   unfold cnt at ih
   by_cases c:x+1<=p.sp.1
   ·have c2:x<=p.sp.1:=by grind
    rw [if_pos (decide_eq_true c),if_pos (decide_eq_true c2)]
    simpa using ih
   ·rw [if_neg (by simpa using c)]
    split
    ·rw [aaY]
     omega
    ·exact ih
theorem Mc (pins:ν)(x:Rat):cnt pins x<=pins.length:=abi _ _
theorem Md (r:Rat):f9 (qr r) (1,1)=qr (r+1):=by
 have e:f9 (qr r) (1,1)=((qr r).1+(qr r).2,(qr r).2):=by
  unfold f9
  simp
 have g:aa' ((qr r).1+(qr r).2) (qr r).2=1:=by
  have:=kA r
  rw [<- this]
  simp
 rw [e,oG (q:=((qr r).1+(qr r).2,(qr r).2)) (cX r) g]
 congr 1
 have z:=xj (r:=r)
 have v:=fG r
 unfold vl at v ⊢
 push_cast
 grind
theorem N1 {k:Nat}{r:Rat}(h:Sz k r):Ns k (qr r):=⟨acf (intBits_le_iff.mp h.top),acf (intBits_le_iff.mp h.bot)⟩
theorem Me:∀i:Fin 10,∃N:Fin 6,jr [V.int 0,.int 1,.int 2,.int 2,.int 3,.int 3,.int 3,.int 4,.int 4,.int 5] (i.val:Int)=some (.int (N.val:Int)):=by decide+kernel
theorem DM:∀st:Fin 3,∀a:Fin 6,∀k:Fin 12,nameOf (st.val:Int) (a.val:Int) (k.val:Int)≠ "free"/\nameOf (st.val:Int) (a.val:Int) (k.val:Int)≠ "far":=by decide+kernel
inductive tJ (K:Frag)(vs:η)(H:Hp)(Q:VK)(E_:XK):Prop where
 | mk (sA:Addr) (ns:ξ) (_:vs=[.ref sA]) (_:a8 K H sA (ns.map V.int)) (_:∀(l:Addr) (us:η) (pins:ν) (H' :Hp),au H H' ->H l=none->H' l=some (.lst us)->Paired (jn K H' l) us pins->eY pins->pins.length<=5->(∀p∈pins,(p.nm≠ "free"/\p.nm≠ "far")/\p.sp.1<=500010/\Sz 20 p.sp.2/\ -500002<=p.sp.2/\p.sp.2<=500002)->Q (.ref l) H'):tJ K vs H Q E_
theorem j4:aD ["_law_script","_law_cell","_law_many","_law_kind","_law_pins_here","_law_k","_law_spot_here"] ["_law_script"] (ag BZ):=sq
theorem U4 (D:Def K mg "_law_pins" BZ ["_law_script"])(bL:mg "range"=none)(Jp:mg "min"=none)(pC:Fn P w K mg base (aY P w) 1 "_law_cell_at" ["_law_script","_law_k"] (ph K))(dr:Fn P w K mg base (aY P w) 1 "_law_field" ["_law_cell","_law_prime","_law_many"] eQ)
  (abw:Fn P w K mg base (aY P w) 34 "_law_spot" ["_law_cell","_law_kind"] (tH K)) (Mf:Fn P w K mg base (aY P w) 34 "_law_ways" ["_law_cell"] (nj K)) (Qp:Fn P w K mg base (aY P w) 2 "_law_name" ["_law_cell","_law_k"] tG) (tK:Fn P w K mg base (aY P w) 1 "_law_sum" ["_law_one","_law_other"] (dq K f9)):
  Fn P w K mg base (aY P w) 35 "_law_pins" ["_law_script"] (tJ K):=by
 refine D.ok j4 (fun vs H Q E h=> ?_) (fun f bE A outer s H vs Q E hr h=> ?_)
 ·obtain ⟨sA,ns,rfl,_⟩:=h
  rfl
 obtain ⟨sA,ns,rfl,hS,q⟩:=h
 have L2:2<=sizeLine:=by decide
 have L3:3<=sizeLine:=by decide
 refine ⟨_,(ae (aF (i:=1) j4.nd rfl (aai rfl) (aA pC hr.mo pX (ar (pv 0) (ar ak aa))))
  (ae (aF (i:=2) j4.nd rfl (aai rfl) (bq bt (dk (ar ak (ar ak (ar ak (ar ak (ar ak (ar ak (ar ak (ar ak (ar ak (ar ak aa))))))))))) (aA dr hr.mo pX (ar (pv 1) (ar ak (ar ak aa)))) (fun _ _=>rfl)))
  (ae (aF (i:=3) j4.nd rfl (aai rfl) (aA dr hr.mo pX (ar (pv 1) (ar ak (ar ak aa)))))
  (ae (bo (aR eC (pv 3) ak (aZ _)) (aj (aF (i:=2) j4.nd rfl (aai rfl) (aT (zW rfl) rfl Jp U3 (ar (pv 2) (ar ak aa))))) aQ)
  (ae (aF (i:=4) j4.nd rfl (aai rfl) (dk aa))
  (ae (bD PassesOwn.never rfl (dJ rfl bL (ar (pv 2) aa)) (aC (i:=5) j4.nd rfl (aai rfl)) (ae (aF (i:=6) j4.nd rfl (aai rfl) (aA abw hr.mo pX (ar (aA pC hr.mo pX (ar (pv 0) (ar (aK cz ak (pv 5)) aa))) (ar (pv 3) aa))))
   (ae (nE PassesOwn.never (aR (Lx hr.units) (pv 6) (dC (tn:=["_law_pin"]) (fr:=[]) (caps:=[]) rfl ⟨rfl,by decide+kernel,rfl,by decide+kernel,by decide+kernel,rfl,trivial,trivial⟩ (bu (pv 4)) (fun _ _ _ _=>(aC (i:=0) (show (["_law_pin"]:List Str).Nodup from by decide+kernel) rfl (aai rfl))) (fun _ _ _ _=>dG) (fun _ _ _ _=>(bq (c9 (K:=K) rfl) (pv 0) ak (fun _ _=>rfl)))) rfl) (aj (aF (i:=6) j4.nd rfl (aai rfl) (a9 (ar (aA tK hr.mo pX (ar (aL (pv 6)) (ar (a9 (ar ak (ar ak aa))) aa))) (ar (aL (pv 6)) aa))))))
   (aj (bf (i0 PySem.F.plainAttrs_list PySem.F.slot_list_append PySem.F.type_list_append c7 (pv 4) (ar (a9 (ar (aA Qp hr.mo pX (ar (pv 1) (ar (pv 5) aa))) (ar (pv 6) (ar (aA Mf hr.mo pX (ar (aA pC hr.mo pX (ar (pv 0) (ar (aK cz ak (pv 5)) aa))) aa)) aa)))) aa)))))))
  (aj (aI (pv 4))))))))),?_⟩
 refine ⟨_,rfl,sA,ns,0,rfl,hS,by decide,by decide,?_⟩
 generalize cell ns 0=c0
 refine ⟨(by show 10<=sizeLine;decide),?_⟩
 intro t0 nt0;generalize eX:upd _ t0 _=H0;have ⟨st0,et0⟩:=nw nt0 eX;clear eX
 have i1:=a_ (c:=c0) (p:=1009) (m:=10) (by decide)
 refine ⟨_,rfl,_,_,_,rfl,by decide,by decide,by decide,?_⟩
 generalize field c0 1009 10=fi at i1 ⊢
 obtain ⟨fn,rfl⟩:∃n:Nat,fi=(n:Int):=⟨fi.toNat,by omega⟩
 obtain ⟨N,eN⟩:=Me ⟨fn,by omega⟩
 refine ⟨t0,_,_,_,rfl,rfl,a8.of et0,eN,?_⟩
 refine ⟨_,rfl,_,_,_,rfl,by decide,by decide,by decide,?_⟩
 generalize field c0 2003 3=kind
 dsimp only
 refine e_ (fun σ' H' =>∃N:Nat,N<=5/\σ' =[some (.ref sA),some (.int c0),some (.int (N:Int)),some (.int kind),none,none,none]/\H' =H0) (fun Nx tL=> ?_) ?_
 ·refine ⟨_,rfl,rfl,_,rfl,?_⟩
  refine bc (fun _=> ?_) (fun _=> ?_)
  ·have hN:=N.isLt
   refine ⟨_,rfl,_,_,rfl,?_⟩
   refine tL _ _ ⟨min N.val 4,by omega,?_,rfl⟩
   have:(if (4:Int) < (N.val:Int) then (4:Int) else (N.val:Int))=((min N.val 4:Nat):Int):=by
    split <;> omega
   rw [this]
   rfl
  ·exact tL _ _ ⟨N.val,by have:=N.isLt;omega,rfl,rfl⟩
 rintro σ' H' ⟨N,hN,rfl,rfl⟩
 refine ⟨(by show 0<=sizeLine;decide),?_⟩
 intro lp np;generalize eX:upd _ lp _=H1;have ⟨sp,ep⟩:=nw np eX;clear eX
 have s01:=st0.trans sp
 have wG:H lp=none:=st0.free np
 refine ⟨_,rfl,(N:Int),rfl,by omega,by omega,fo (lo:=0) (n:=N) (fun i σ H' =>∃(o5 o6:Option V) (us:η) (pins:ν),σ=[some (.ref sA),some (.int c0),some (.int (N:Int)),some (.int kind),some (.ref lp),o5,o6]/\au H H' /\H' lp=some (.lst us)/\Paired (jn K H' lp) us pins/\eY pins/\pins.length=i/\∀p∈pins,∃j,j < i/\p.nm=nameOf (field c0 3001 3) (field c0 4001 6) (j:Int)/\p.sp.1<=500010/\Sz 20 p.sp.2/\ -500002<=p.sp.2/\p.sp.2<=500002) ⟨none,none,[],[],rfl,s01,ep,.nil,⟨by simp,by simp,by simp,by simp⟩,rfl,by simp⟩ ?_ ?_⟩
 ·rintro i σ H2 hi ⟨o5,o6,us,pins,rfl,s2,e2,pp,gp,lpi,nm⟩
  have ei:(0:Int)+(i:Int)=(i:Int):=abo _
  rw [ei]
  have lu:us.length=pins.length:=Paired.length pp
  refine ⟨_,rfl,_,rfl,_,_,rfl,rfl,sA,ns,_,rfl,s2.seq hS,by omega,by omega,_,rfl,?_⟩
  refine ⟨_,_,rfl,fun p3 x0 y0 H3 s3 zx zy xb yb h3=> ?_⟩
  have s23:=s2.trans s3
  have h30:ff K H3 (.ref p3) (x0+((0:Nat):Rat),y0):=by
   have e:x0+((0:Nat):Rat)=x0:=by
    have:((0:Nat):Rat)=0:=by rfl
    rw [this]
    grind
   rw [e]
   exact h3
  dsimp only
  refine e_ (fun σ' H' =>∃(sv:V) (x:Rat),σ' =[some (.ref sA),some (.int c0),some (.int (N:Int)),some (.int kind),some (.ref lp),some (.int (i:Int)),some sv]/\au H3 H' /\ff K H' sv (x,y0)/\(Sz 44 x/\x<=500010)/\(x,y0)∉pins.map (·.sp)) (fun Nx tL=> ?_) ?_
  ·refine ⟨fun m σ H' =>∃(sv:V) (j:Nat),σ=[some (.ref sA),some (.int c0),some (.int (N:Int)),some (.int kind),some (.ref lp),some (.int (i:Int)),some sv]/\au H3 H' /\ff K H' sv (x0+(j:Rat),y0)/\m=cnt pins (x0+(j:Rat))/\j+cnt pins (x0+(j:Rat))<=pins.length,⟨_,_,0,rfl,au.refl _,h30,rfl,by have:=Mc pins (x0+((0:Nat):Rat));omega⟩,?_⟩
   rintro m σ H4 ⟨sv,j,rfl,s4,h4,rfl,hj⟩
   have e4:=(s3.trans s4) _ _ e2
   have pp4:Paired (jn K H4 lp) us pins:=Paired.bM pp fun _ _ z=>z.same (s3.trans s4)
   have zj:Sz 44 (x0+(j:Rat)):=(zx.add (kC (i:=(j:Int)) (k:=3) (show _ < 8 by omega) (by decide))).up (by decide)
   refine ⟨_,rfl,_,rfl,lp,rfl,⟨_,a8.of e4⟩,fun D1 n1=> ?_⟩
   refine dN (cap:=[]) (K:=K) (a:=lp) (xs:=us) (fun i v H=>∃p,pins[i]? =some p/\ff K H v p.sp) n1 (by rw [lu];exact aar (show pins.length<=1000 by omega) (by decide)) (fun H2 s2=>a8.of (s2 _ _ e4)) (fun _ _ _ _ _ h0 ks h=>by
     obtain ⟨p,h1,h2⟩:=h
     refine ⟨p,h1,h2.aX fun b xs r=> ?_⟩
     rcases r with r | ⟨o',r⟩
     ·exact .inl (ks _ _ (fun e=>by rw [e,h0] at r;cases r) r)
     ·exact .inr ⟨o',ks _ _ (fun e=>by rw [e,h0] at r;cases r) r⟩) ?_ ?_
   ·intro jj u H6 R hu s6 k
    obtain ⟨p,wu,hp⟩:=aH pp4 hu
    obtain ⟨a,l,sv,iW,rfl,h1,h2,_⟩:=hp
    exact ⟨_,rfl,a,_,_,_,rfl,rfl,Ty.au.cG s6 h1,rfl,k _ _ (au.refl _) ⟨p,wu,h2.same s6⟩⟩
   intro ys H6 hy ie s6 hD
   have pq:g_ K H6 ys (pins.map (·.sp)):=eG (by rw [aaa,hy,lu]) fun j u q' wB Ru =>by
    obtain ⟨p,h1,h2⟩:=ie j u wB
    rw [Wp,h1] at Ru
    cases Ru
    exact h2
   have h6:=h4.same s6
   refine ⟨(x0+(j:Rat),y0),D1,ys,_,rfl,a8.of hD,h6,pq,_,rfl,?_⟩
   refine bc (fun cc=> ?_) (fun cc=> ?_)
   ·have mem:(x0+(j:Rat),y0)∈pins.map (·.sp):=by simpa using cc
    obtain ⟨p,hp,wu⟩:=aab.mp mem
    have lt:=Jo (x:=x0+(j:Rat)) ⟨p,hp,by rw [wu]⟩
    have ej:x0+(j:Rat)+1=x0+((j+1:Nat):Rat):=by
     push_cast
     grind
    rw [ej] at lt
    refine ⟨fun σ' H' =>∃(sv:V),σ' =[some (.ref sA),some (.int c0),some (.int (N:Int)),some (.int kind),some (.ref lp),some (.int (i:Int)),some sv]/\au H3 H' /\ff K H' sv (x0+((j+1:Nat):Rat),y0),fun σ' H' ⟨U5,h1,h2,h3⟩=>⟨_,lt,U5,j+1,h1,h2,h3,rfl,by omega⟩,?_⟩
    obtain ⟨sa,u1,u2,rfl,tO,Qq,J_⟩:=h6
    refine ⟨_,rfl,sa,_,_,_,rfl,rfl,tO,ib,L2,?_⟩
    intro p7 n7;generalize eX:upd _ p7 _=H7;have ⟨s7,e7⟩:=nw n7 eX;clear eX
    refine ⟨u1,.ref p7,qr (x0+(j:Rat)),(1,1),44,1,rfl,Qq.same s7,⟨p7,rfl,bN.of e7⟩,N1 zj,⟨by decide,by decide⟩,by decide,fun p8 H8 s8 e8=> ?_⟩
    rw [Md,ej] at e8
    refine ⟨_,rfl,sa,_,_,_,rfl,rfl,Ty.au.cG (s7.trans s8) tO,iV,L2,?_⟩
    intro p9 n9;generalize eX:upd _ p9 _=H9;have ⟨s9,e9⟩:=nw n9 eX;clear eX
    have s69:=(s7.trans s8).trans s9
    exact ⟨.ref p9,rfl,(s4.trans s6).trans s69,jY e9 ((jX e8).same s9) (J_.same s69)⟩
   ·have fresh:(x0+(j:Rat),y0)∉pins.map (·.sp):=by simpa using cc
    exact tL _ _ ⟨sv,x0+(j:Rat),rfl,s4.trans s6,h6,⟨zj,(by have YS :((j:Int):Rat)<=((5:Int):Rat):=ahi.mpr (by omega);have e1:((j:Int):Rat)=(j:Rat):=rfl;have e2:((5:Int):Rat)=5:=rfl;rw [e1,e2] at YS;grind)⟩,fresh⟩
  rintro σ' H4 ⟨sv,x,rfl,s4,h4,⟨zx',xb'⟩,fresh⟩
  have Mg:=s3.trans s4
  have EI:=s2.trans Mg
  have e4:=Mg _ _ e2
  have pp4:Paired (jn K H4 lp) us pins:=Paired.bM pp fun _ _ z=>z.same Mg
  refine ⟨_,rfl,.inl ⟨rfl,_,a8.of e4⟩,_,rfl,_,rfl,_,_,rfl,by omega,by omega,_,rfl,?_⟩
  refine ⟨_,rfl,_,rfl,_,_,rfl,rfl,sA,ns,_,rfl,EI.seq hS,by omega,by omega,?_⟩
  refine ⟨_,rfl,fun l8 U6 ws H8 wk s8 n8 e8 p8=>⟨L3,?_⟩⟩
  intro p9 n9;generalize eX:upd _ p9 _=H9;have ⟨s9,e9⟩:=nw n9 eX;clear eX
  have Y_:=s8.trans s9
  have e49:=Y_ _ _ e4
  have pp9:Paired (jn K H9 lp) us pins:=Paired.bM pp4 fun _ _ z=>z.same Y_
  refine ⟨lp,_,_,rfl,rfl,e49,(by rw [lu];exact aar (show pins.length<=1000 by omega) (by decide)),?_⟩
  have qj:jn K H9 lp (.ref p9) ⟨nameOf (field c0 3001 3) (field c0 4001 6) (i:Int),(x,y0),ws⟩:=⟨p9,l8,sv,U6,rfl,bN.of e9,h4.same Y_,s9 _ _ e8,p8.same s9,fun z=>by rw [z,e4] at n8;cases n8⟩
  refine ⟨_,_,_,pins++[⟨nameOf (field c0 3001 3) (field c0 4001 6) (i:Int),(x,y0),ws⟩],rfl,fun b o z=> ?_,ah,eZ (Paired.bM pp9 fun _ _ z=>z.upd e49) (qj.upd e49),gp.snoc (fun z=> ?_) fresh ⟨zx',zy.up (by decide)⟩ wk,by simp [lpi],fun p hp=> ?_⟩
  ·rw [ao (aq z wG)]
   exact Y_ _ _ (EI _ _ z)
  ·obtain ⟨p,hp,wu⟩:=aab.mp z
   obtain ⟨j,hj,ej,_⟩:=nm p hp
   have i3:=a_ (c:=c0) (p:=3001) (m:=3) (by decide)
   have i4:=a_ (c:=c0) (p:=4001) (m:=6) (by decide)
   have:=vS ⟨(field c0 3001 3).toNat,by omega⟩ ⟨(field c0 4001 6).toNat,by omega⟩ ⟨j,by omega⟩ ⟨i,by omega⟩ (fun z=>by
    have:=congrArg Fin.val z
    simp at this
    omega)
   refine this ?_
   show nameOf (((field c0 3001 3).toNat:Nat):Int) (((field c0 4001 6).toNat:Nat):Int) (j:Int)=nameOf (((field c0 3001 3).toNat:Nat):Int) (((field c0 4001 6).toNat:Nat):Int) (i:Int)
   rw [show (((field c0 3001 3).toNat:Nat):Int)=field c0 3001 3 by omega,show (((field c0 4001 6).toNat:Nat):Int)=field c0 4001 6 by omega, <- ej]
   exact wu
  ·rcases aaF.mp hp with z | z
   ·obtain ⟨j,hj,ej,eb⟩:=nm p z
    exact ⟨j,by omega,ej,eb⟩
   ·rw [aaw.mp z]
    exact ⟨i,by omega,rfl,xb',zy,yb⟩
 ·rintro σ H2 ⟨o5,o6,us,pins,rfl,s2,e2,pp,gp,lpi,nm⟩
  refine ⟨_,rfl,q lp us pins H2 s2 wG e2 pp gp (by omega) fun p hp=> ?_⟩
  obtain ⟨j,hj,ej,eb⟩:=nm p hp
  refine ⟨?_,eb⟩
  rw [ej]
  have f1:=a_ (c:=c0) (p:=3001) (m:=3) (by decide)
  have f2:=a_ (c:=c0) (p:=4001) (m:=6) (by decide)
  obtain ⟨u,hu⟩:∃n:Nat,field c0 3001 3=(n:Int):=⟨(field c0 3001 3).toNat,by omega⟩
  obtain ⟨v,hv⟩:∃n:Nat,field c0 4001 6=(n:Int):=⟨(field c0 4001 6).toNat,by omega⟩
  rw [hu,hv]
  exact DM ⟨u,by omega⟩ ⟨v,by omega⟩ ⟨j,by omega⟩
inductive tP (K:Frag)(vs:η)(H:Hp)(Q:VK)(E_:XK):Prop where
 | mk (sA pA:Addr) (ns:ξ) (us:η) (pins:ν) (_:vs=[.ref sA,.ref pA]) (_:a8 K H sA (ns.map V.int)) (_:H pA=some (.lst us)) (_:us.length=pins.length) (_:(pins.map (·.nm)).Nodup) (_:pins.length<=6) (_:∀(l:Addr) (dj :η) (bars:List aU) (H' :Hp),au H H' ->H l=none->H' l=some (.lst dj)->Paired (g7 K H' pins) dj bars->j0 pins bars->bars.length<=7->Q (.ref l) H'):tP K vs H Q E_
theorem j0.snoc {pins:ν}{bars:List aU}{b:aU}(g:j0 pins bars)(h1:b.nm∉bars.map (·.nm))(h2:b.one∈pins/\b.other∈pins/\b.one.nm≠b.other.nm):j0 pins (bars++[b]):=by
 refine ⟨?_,fun q hq=> ?_⟩
 ·rw [aaK,ahM]
  refine ⟨g.nb,by simp,fun a ha c hc e=>h1 ?_⟩
  have:c=b.nm:=by simpa using hc
  rw [<- this, <- e]
  exact ha
 ·rcases aaF.mp hq with z | z
  ·exact g.ends q z
  ·rw [aaw.mp z]
   exact h2
theorem lX:aD ["_law_script","_law_pins_here","_law_cell","_law_many","_law_bars_here","_law_k","_law_one","_law_step"] ["_law_script","_law_pins_here"] (ag B_):=sq
theorem U7 (D:Def K mg "_law_bars" B_ ["_law_script","_law_pins_here"])(bL:mg "range"=none)(ba:mg "len"=none)(pC:Fn P w K mg base (aY P w) 1 "_law_cell_at" ["_law_script","_law_k"] (ph K))(dr:Fn P w K mg base (aY P w) 1 "_law_field" ["_law_cell","_law_prime","_law_many"] eQ)(Qp:Fn P w K mg base (aY P w) 2 "_law_name" ["_law_cell","_law_k"] tG):
  Fn P w K mg base (aY P w) 3 "_law_bars" ["_law_script","_law_pins_here"] (tP K):=by
 refine D.ok lX (fun vs H Q E h=> ?_) (fun f bE A outer s H vs Q E hr h=> ?_)
 ·obtain ⟨sA,pA,ns,us,pins,rfl,_⟩:=h
  rfl
 obtain ⟨sA,pA,ns,us,pins,rfl,hS,hp,lu,np,lp,q⟩:=h
 have L3:3<=sizeLine:=by decide
 refine ⟨_,(ae (aF (i:=2) lX.nd rfl (aai rfl) (aA pC hr.mo pX (ar (pv 0) (ar ak aa))))
  (ae (aF (i:=3) lX.nd rfl (aai rfl) (aA dr hr.mo pX (ar (pv 2) (ar ak (ar ak aa)))))
  (ae (bo (aR uN (aT aJ rfl ba cf (ar (pv 1) aa)) ak (aZ _)) (aj (aF (i:=3) lX.nd rfl (aai rfl) ak)) aQ)
  (ae (aF (i:=4) lX.nd rfl (aai rfl) (dk aa))
  (ae (bD PassesOwn.never rfl (dJ rfl bL (ar (pv 3) aa)) (aC (i:=5) lX.nd rfl (aai rfl)) (ae (aF (i:=6) lX.nd rfl (aai rfl) (aA dr hr.mo pX (ar (aA pC hr.mo pX (ar (pv 0) (ar (aK cz ak (pv 5)) aa))) (ar ak (ar (aT aJ rfl ba cf (ar (pv 1) aa)) aa)))))
   (ae (aF (i:=7) lX.nd rfl (aai rfl) (aK cz ak (aA dr hr.mo pX (ar (aA pC hr.mo pX (ar (pv 0) (ar (aK cz ak (pv 5)) aa))) (ar ak (ar (aK cU (aT aJ rfl ba cf (ar (pv 1) aa)) ak) aa))))))
   (aj (bf (i0 PySem.F.plainAttrs_list PySem.F.slot_list_append PySem.F.type_list_append c7 (pv 4) (ar (a9 (ar (aA Qp hr.mo pX (ar (pv 2) (ar (pv 5) aa))) (ar (pv 6) (ar (aK fQ (aK cz (pv 6) (pv 7)) (aT aJ rfl ba cf (ar (pv 1) aa))) aa)))) aa)))))))
  (aj (aI (pv 4)))))))),?_⟩
 refine ⟨_,rfl,sA,ns,1,rfl,hS,by decide,by decide,?_⟩
 generalize cell ns 1=c0
 have i1:=a_ (c:=c0) (p:=1009) (m:=8) (by decide)
 refine ⟨_,rfl,_,_,_,rfl,by decide,by decide,by decide,?_⟩
 generalize field c0 1009 8=fi at i1 ⊢
 obtain ⟨fn,rfl⟩:∃n:Nat,fi=(n:Int):=⟨fi.toNat,by omega⟩
 dsimp only
 refine e_ (fun σ' H' =>∃N:Nat,N<=7/\(0 < N->2<=pins.length)/\σ' =[some (.ref sA),some (.ref pA),some (.int c0),some (.int (N:Int)),none,none,none,none]/\H' =H) (fun Nx tL=> ?_) ?_
 ·refine ⟨_,rfl,pA,_,rfl,.inl (a8.of hp),_,_,rfl,rfl,_,rfl,?_⟩
  refine bc (fun _=> ?_) (fun c=> ?_)
  ·exact tL _ _ ⟨0,by omega,by omega,rfl,rfl⟩
  ·have c' :¬ (us.length:Int) < 2:=fun z=>c (decide_eq_true z)
   exact tL _ _ ⟨fn,by omega,fun _=>by omega,rfl,rfl⟩
 rintro σ' Hy ⟨N,hN,hN2,rfl,rfl⟩
 refine ⟨(by show 0<=sizeLine;decide),?_⟩
 intro lb nb;generalize eX:upd _ lb _=H1;have ⟨sb,eb⟩:=nw nb eX;clear eX
 refine ⟨_,rfl,(N:Int),rfl,by omega,by omega,fo (lo:=0) (n:=N) (fun i σ H' =>∃(o5 o6 o7:Option V) (dj :η) (bars:List aU),σ=[some (.ref sA),some (.ref pA),some (.int c0),some (.int (N:Int)),some (.ref lb),o5,o6,o7]/\au Hy H' /\H' lb=some (.lst dj)/\Paired (g7 K H' pins) dj bars/\j0 pins bars/\bars.length=i/\∀b∈bars,∃j,j < i/\b.nm=nameOf (field c0 3001 3) (field c0 4001 6) (j:Int)) ⟨none,none,none,[],[],rfl,sb,eb,.nil,⟨by simp,by simp⟩,rfl,by simp⟩ ?_ ?_⟩
 ·rintro i σ H2 hi ⟨o5,o6,o7,dj,bars,rfl,s2,e2,pb,gb,lbi,nm⟩
  have ei:(0:Int)+(i:Int)=(i:Int):=abo _
  rw [ei]
  have n2:2<=pins.length:=hN2 (by omega)
  have lv:dj.length=bars.length:=Paired.length pb
  have sp:=a8.of (K:=K) (s2 _ _ hp)
  refine ⟨_,rfl,_,rfl,_,_,rfl,rfl,sA,ns,_,rfl,s2.seq hS,by omega,by omega,_,rfl,pA,_,rfl,.inl sp,_,_,_,rfl,by decide,by decide,by omega,?_⟩
  have j1:=a_ (c:=cell ns (8+(i:Int))) (p:=1009) (m:=(us.length:Int)) (by omega)
  have j2:=a_ (c:=cell ns (8+(i:Int))) (p:=2003) (m:=(us.length:Int) - 1) (by omega)
  refine ⟨_,rfl,_,rfl,_,_,rfl,rfl,sA,ns,_,rfl,s2.seq hS,by omega,by omega,_,rfl,pA,_,rfl,.inl sp,_,_,rfl,rfl,_,_,_,rfl,by decide,by decide,by omega,_,_,rfl,rfl,?_⟩
  generalize field (cell ns (8+(i:Int))) 1009 (us.length:Int)=one at j1 ⊢
  generalize field (cell ns (8+(i:Int))) 2003 ((us.length:Int) - 1)=step at j2 ⊢
  obtain ⟨on,rfl⟩:∃n:Nat,one=(n:Int):=⟨one.toNat,by omega⟩
  have oo:∃m:Nat,((on:Int)+(1+step)).fmod (us.length:Int)=(m:Int)/\m < us.length/\m≠on:=by
   have f:=ng (x:=(on:Int)+(1+step)) (m:=(us.length:Int)) (by omega)
   refine ⟨(((on:Int)+(1+step)).fmod (us.length:Int)).toNat,by omega,by omega,fun z=> ?_⟩
   have e:((on:Int)+(1+step)).fmod (us.length:Int)=(on:Int):=by omega
   rw [Int.fmod_eq_emod_of_nonneg _ (by omega)] at e
   by_cases c:(on:Int)+(1+step) < (us.length:Int)
   ·rw [aiJ (by omega) c] at e
    omega
   ·rw [<- Int.sub_emod_right,aiJ (by omega) (by omega)] at e
    omega
  obtain ⟨Y',Ru,l2',ne2⟩:=oo
  refine ⟨_,rfl,.inl ⟨rfl,_,a8.of e2⟩,_,rfl,_,rfl,_,_,rfl,by omega,by omega,_,rfl,_,rfl,_,rfl,_,_,rfl,rfl,_,rfl,pA,_,rfl,.inl sp,_,_,rfl,rfl,nz (by omega),L3,?_⟩
  intro p9 n9;generalize eX:upd _ p9 _=H9;have ⟨s9,e9⟩:=nw n9 eX;clear eX
  have e9:H9 p9=some (.tup [.str (nameOf (field c0 3001 3) (field c0 4001 6) (i:Int)),.int (on:Int),.int (((on:Int)+(1+step)).fmod (us.length:Int))]):=e9
  rw [Ru] at e9
  have e29:=s9 _ _ e2
  refine ⟨lb,_,_,rfl,rfl,e29,(by rw [lv];exact aar (show bars.length<=1000 by omega) (by decide)),?_⟩
  have l1:on < pins.length:=by omega
  have l2:Y' < pins.length:=by omega
  have st:bg H9 (upd H9 lb (.lst (dj ++[.ref p9]))):=.list e29
  have ns9:∀(v:V) (b:aU),g7 K H2 pins v b->g7 K (upd H9 lb (.lst (dj ++[.ref p9]))) pins v b:=fun v b h=>by
   obtain ⟨a,i',j',e,h1,h2,h3⟩:=h.same s9
   exact ⟨a,i',j',e,st.cG h1,h2,h3⟩
  refine ⟨_,_,_,dj ++[.ref p9],bars++[⟨nameOf (field c0 3001 3) (field c0 4001 6) (i:Int),pins[on],pins[Y']⟩],rfl,fun b o z=> ?_,ah,eZ (Paired.bM pb fun _ _ z=>ns9 _ _ z) ?_,gb.snoc (fun z=> ?_) ⟨abu l1,abu l2,fun z=> ?_⟩,by simp [lbi],fun b hb=> ?_⟩
  ·rw [ao (aq z nb)]
   exact s9 _ _ (s2 _ _ z)
  ·exact ⟨p9,on,Y',rfl,st.cG (bN.of e9),gE l1,gE l2⟩
  ·obtain ⟨b,hb,wu⟩:=aab.mp z
   obtain ⟨j,hj,ej⟩:=nm b hb
   have i3:=a_ (c:=c0) (p:=3001) (m:=3) (by decide)
   have i4:=a_ (c:=c0) (p:=4001) (m:=6) (by decide)
   have:=vS ⟨(field c0 3001 3).toNat,by omega⟩ ⟨(field c0 4001 6).toNat,by omega⟩ ⟨j,by omega⟩ ⟨i,by omega⟩ (fun z=>by
    have:=congrArg Fin.val z
    simp at this
    omega)
   refine this ?_
   show nameOf (((field c0 3001 3).toNat:Nat):Int) (((field c0 4001 6).toNat:Nat):Int) (j:Int)=nameOf (((field c0 3001 3).toNat:Nat):Int) (((field c0 4001 6).toNat:Nat):Int) (i:Int)
   rw [show (((field c0 3001 3).toNat:Nat):Int)=field c0 3001 3 by omega,show (((field c0 4001 6).toNat:Nat):Int)=field c0 4001 6 by omega, <- ej]
   exact wu
  ·have q1:(pins.map (·.nm))[on]? =some pins[on].nm:=by rw [Wp,gE l1];rfl
   have q2:(pins.map (·.nm))[Y']? =some pins[on].nm:=by rw [Wp,gE l2];exact congrArg some z.symm
   exact ne2 ((ahH (by rw [aaa];omega) np).mp (q1.trans q2.symm)).symm
  ·rcases aaF.mp hb with z | z
   ·obtain ⟨j,hj,ej⟩:=nm b z
    exact ⟨j,by omega,ej⟩
   ·rw [aaw.mp z]
    exact ⟨i,by omega,rfl⟩
 ·rintro σ H2 ⟨o5,o6,o7,dj,bars,rfl,s2,e2,pb,gb,lbi,nm⟩
  exact ⟨_,rfl,q lb dj bars H2 s2 nb e2 pb gb (by omega)⟩
theorem ze (v:V):ab7 ("ways":Str) [(("way":Str),v)]=none:=by
 have h:(("ways":Str)=="way")=false:=by decide+kernel
 simp [ab7,h]
inductive pD (K:Frag)(C:Addr)(vs:η)(H:Hp)(Q:VK)(E_:XK):Prop where
 | mk (pA bA:Addr) (us dj :η) (pins:ν) (bars:List aU) (_:vs=[.ref pA,.ref bA]) (_:H pA=some (.lst us)) (_:Paired (gZ K H) us pins) (_:H bA=some (.lst dj)) (_:Paired (g7 K H pins) dj bars) (_:eY pins) (_:j0 pins bars) (_:pins.length<=9) (_:bars.length<=14) (_:∀(a dx pP pW pB:Addr) (kP kW kB:γ) (H' :Hp),au H H' ->d_ K H' C a dx pP pW pB (pins.map fun p=>(p.nm,mY p.sp)) (bars.map fun b=>(b.nm,b.one.nm,b.other.nm)) kP kW kB->qc K H' (pins.map fun p=>(p.nm,p.ws)) kW->(∀kv∈kW,∀b o,H b=some o->kv.2≠.ref b)->H pP=none->H pW=none->H pB=none->Q (.ref a) H'):pD K C vs H Q E_
theorem lY:aD ["_law_pins_here","_law_bars_here","_law_frame_here","_law_name_here","_law_spot_here","_law_ways_here","_law_one","_law_other"] ["_law_pins_here","_law_bars_here"] (ag B'):=sq
theorem U8 {C CR CF fI fR:Addr}{fdI U9:FuncData}(D:Def K mg "_law_frame" B' ["_law_pins_here","_law_bars_here"])(ba:mg "len"=none)(Qr:Mk K C fI)(Qs:mg "Frame"=some (.ref C))(abA:cB P w K mg base (aY P w) 1 fI fdI ["self"] (sU K C))(Qt:Binds K fdI ["self"] [])
  (DN:mg "Roller"=some (.ref CR)) (DO:mg "Fixed"=some (.ref CF)) (DP:Q9 K CF) (DQ:Mk K CR fR) (Qu:cB P w K mg base (aY P w) 1 fR U9 ["self","x","y"] (m8 K CR)) (DR:Binds K U9 ["self","x","y"] [])
  (wR:bx P w K mg base (aY P w) 2 CR "ways" ["self"] (gM K CR)) (wF:bx P w K mg base (aY P w) 2 CF "ways" ["self"] (gN K))
  (Rx:bx P w K mg base (aY P w) 3 C "put_bar" ["self","name","one","other"] (ig K C)) (N2:bx P w K mg base (aY P w) 3 C "put_pin" ["self","name","x","y","hold"] (cO P w K mg base C)) (Ry:sH P w K mg base (aY P w) 3 C "put_pin" ["self","name","x","y","hold"] [.none] (cO P w K mg base C)):
  Fn P w K mg base (aY P w) 4 "_law_frame" ["_law_pins_here","_law_bars_here"] (pD K C):=by
 refine D.ok lY (fun vs H Q E h=> ?_) (fun f bE A outer s H vs Q E hr h=> ?_)
 ·obtain ⟨pA,bA,us,dj,pins,bars,rfl,_⟩:=h
  rfl
 obtain ⟨pA,bA,us,dj,pins,bars,rfl,hp,pp,hb,pb,gp,gb,lp6,lb8,q⟩:=h
 have lu:us.length=pins.length:=Paired.length pp
 refine ⟨_,(ae (aF (i:=2) lY.nd rfl (aai rfl) (FI Qr abA hr.mo rfl Qs Qt .nil (pY P w)))
  (ae (bD PassesOwn.never rfl (bu (pv 0)) (dF rfl (aS (aC (i:=3) lY.nd rfl (aai rfl)) (aS (aC (i:=4) lY.nd rfl (aai rfl)) (aS (aC (i:=5) lY.nd rfl (aai rfl)) b_)))) (ae (bo (aR eC (aT aJ rfl ba cf (ar (pv 5) aa)) ak (aZ _)) (aj (bf (yx (k:=3) (pv 2) hr.mo (pY P w) (ar (pv 3) (ar (aL (pv 4)) (ar (aL (pv 4)) aa)))))) aQ)
   (ae (bo (aR eC (aT aJ rfl ba cf (ar (pv 5) aa)) ak (aZ _)) (aj (bf (cF (k:=3) (pv 2) hr.mo (pY P w) (ar (pv 3) (ar (aL (pv 4)) (ar (aL (pv 4)) (ar (yj DQ Qu hr.mo rfl DN DR .nil (pY P w) (ar (aL (yG (pv 5))) (ar (aL (yG (pv 5))) aa))) aa))))))) aQ)
   (aj (bo (aR eC (aT aJ rfl ba cf (ar (pv 5) aa)) ak (aZ _)) (aj (bf (cF (k:=3) (pv 2) hr.mo (pY P w) (ar (pv 3) (ar (aL (pv 4)) (ar (aL (pv 4)) (ar (GP DP rfl DO) aa))))))) aQ)))))
  (ae (bD PassesOwn.never rfl (bu (pv 1)) (dF rfl (aS (aC (i:=3) lY.nd rfl (aai rfl)) (aS (aC (i:=6) lY.nd rfl (aai rfl)) (aS (aC (i:=7) lY.nd rfl (aai rfl)) b_)))) (aj (bf (cF (k:=3) (pv 2) hr.mo (pY P w) (ar (pv 3) (ar (aL (bq bt (pv 0) (pv 6) (fun _ _=>rfl))) (ar (aL (bq bt (pv 0) (pv 7) (fun _ _=>rfl))) aa)))))))
  (aj (aI (pv 2)))))),?_⟩
 intro a dx na ndx nad
 have sF:au H (upd (upd H dx (.own a)) a (.ins C dx [])):=fun b o e=>by rw [ao (aq e na),ao (aq e ndx)];exact e
 refine ⟨a,dx,rfl,ah,fun pP pW pB H1 k1 nP nW nB R1=>⟨rfl,?_⟩⟩
 have s1:au H H1:=fun b o e=>k1 b o (aq e na) (sF _ _ e)
 have nP:=kD sF nP
 have nW:=kD sF nW
 have nB:=kD sF nB
 refine ⟨_,rfl,pA,rfl,⟨_,a8.of (s1 _ _ hp)⟩,bO (K:=K) (a:=pA) (xs:=us) (fun i σ H' =>∃(o4 o5 o6:Option V) (kP kW:γ),σ=[some (.ref pA),some (.ref bA),some (.ref a),o4,o5,o6,none,none]/\au H H' /\d_ K H' C a dx pP pW pB ((pins.take i).map fun p=>(p.nm,mY p.sp)) [] kP kW []/\qc K H' ((pins.take i).map fun p=>(p.nm,p.ws)) kW/\∀kv∈kW,∀b o,H b=some o->kv.2≠.ref b) ⟨none,none,none,[],[],rfl,s1,R1,.nil,fun kv h=>(nomatch h)⟩ (fun i σ H' _ h=>by
   obtain ⟨_,_,_,_,_,_,s,_⟩:=h
   exact a8.of (s _ _ hp)) ?_ ?_⟩
 ·rintro i u σ H2 hu ⟨o4,o5,o6,kP,kW,rfl,s2,R2,W2,nw⟩
  obtain ⟨p,ep,U_⟩:=aH pp hu
  have mp:p∈pins:=ir ep
  obtain ⟨ta,l,sv,ws,rfl,h1,h2,h3,h4⟩:=U_.same s2
  obtain ⟨sa,x1,y1,rfl,tO,Qq,J_⟩:=h2
  refine ⟨ta,_,rfl,h1,rfl,_,_,rfl,_,_,rfl,_,_,rfl,rfl,?_⟩
  have tk:=take_snoc ep
  have il:i < pins.length:=(be.mp ep).1
  have nlP:l≠pP:=fun z=>by rw [z,R2.pl] at h3;cases h3
  have nlW:l≠pW:=fun z=>by rw [z,R2.wy] at h3;cases h3
  have fin:∀(hv:V) (H5:Hp) (Q5:VK) (E5:XK),au H2 H5->IK P w K mg base H5 hv p.ws->
    (∀H' qd iT,au H H' ->H' l=some (.lst ws)->d_ K H' C a dx pP pW pB ((pins.take (i+1)).map fun p=>(p.nm,mY p.sp)) [] qd iT []->qc K H' ((pins.take (i+1)).map fun p=>(p.nm,p.ws)) iT ->(∀kv∈iT,∀b o,H b=some o->kv.2≠.ref b)->Q5 .cv H')->cO P w K mg base C [.ref a,.str p.nm,x1,y1,hv] H5 Q5 E5:=fun hv H5 Q5 E5 s5 hY fin=>by
   refine ⟨a,dx,pP,pW,pB,_,_,kP,kW,_,_,p.nm,x1,y1,hv,mY p.sp,p.ws,rfl,R2.same s5,W2.same s5,by rw [aay,aay];rfl,Qq.same s5,J_.same s5,fun z=> ?_,fun z hz e=> ?_,?_,hY,fun H' qd iT k' R' W' nl' => ?_⟩
   ·rw [aay] at z
    obtain ⟨p',hG,e'⟩:=aab.mp z
    exact gm (nm:=aE.nm) gp.np ep hG e'
   ·obtain ⟨p',hG,e'⟩:=aab.mp hz
    rw [<- e'] at e
    have e1:=congrArg apP e
    have e2:=congrArg apQ e
    have e3:p'.sp=p.sp:=ahS (gJ e1) (gJ e2)
    obtain ⟨j,hj,ej⟩:=abx.mp hG
    rw [aiH] at ej
    rw [aaW] at hj
    have q1:(pins.map (·.sp))[j]? =some p.sp:=by rw [Wp,gE (by omega),ej, <- e3];rfl
    have q2:(pins.map (·.sp))[i]? =some p.sp:=by rw [Wp,ep];rfl
    have:=(ahH (by rw [aaa];omega) gp.ns).mp (q1.trans q2.symm)
    omega
   ·rw [aaa,aaW]
    omega
   ·refine fin H' qd iT (fun b o z=>k' b o (aq z nP) (aq z nW) (s5 _ _ (s2 _ _ z))) (k' _ _ nlP nlW (s5 _ _ h3)) ?_ ?_ ?_
    ·rw [tk,aaK]
     exact R'
    ·rw [tk,aaK]
     exact W'
    ·obtain ⟨l9,e9,n9⟩:=nl'
     rw [e9]
     intro kv DL b o hb z
     rcases aaF.mp DL with h | h
     ·exact nw kv h b o hb z
     ·rw [aaw.mp h] at z
      injection z with z
      have:=(s2.trans s5).free n9
      rw [z,hb] at this
      cases this
  have l2:=a8.of (K:=K) h3
  have lw:ws.length=p.ws.length:=Paired.length h4
  refine ⟨_,rfl,l,_,rfl,.inl l2,rfl,_,rfl,?_⟩
  rcases gp.ws p mp with hw | ⟨wx,wy,hw,wn,_,_⟩ | hw
  ·rw [hw] at lw
   refine bc (fun _=> ?_) (fun c=>by rw [lw] at c;simp at c)
   refine ⟨_,rfl,a,C,dx,_,_,_,rfl,R2.obj,rfl,Ry,_,rfl,_,rfl,sa,_,_,_,rfl,rfl,tO,ib,_,rfl,sa,_,_,_,rfl,rfl,tO,iV,?_⟩
   dsimp only [fN]
   refine fin .cv H2 _ _ (au.refl _) (.inl ⟨rfl,hw⟩) fun H' qd iT s' l' R' W' Va => ?_
   have l' :=a8.of (K:=K) l'
   refine ⟨_,rfl,l,_,rfl,.inl l',rfl,_,rfl,?_⟩
   refine bc (fun c=>by rw [lw] at c;simp at c) (fun _=> ?_)
   refine ⟨_,rfl,l,_,rfl,.inl l',rfl,_,rfl,?_⟩
   refine bc (fun c=>by rw [lw] at c;simp at c) (fun _=> ?_)
   exact ⟨_,_,_,qd,iT,rfl,s',R',W',Va⟩
  ·rw [hw] at lw h4
   obtain ⟨w0,rfl⟩:∃w0,ws=[w0]:=by
    match ws,lw with
    | [w0],_=>exact ⟨w0,rfl⟩
   have hw0:ff K H2 w0 (wx,wy):=by
    cases h4 with
    | cons h _=>exact h
   obtain ⟨wa,y2,y3,rfl,GN,HA,Vb⟩:=hw0
   refine bc (fun c=>by simp at c) (fun _=> ?_)
   refine ⟨_,rfl,l,_,rfl,.inl l2,rfl,_,rfl,?_⟩
   refine bc (fun _=> ?_) (fun c=>absurd rfl c)
   refine ⟨_,rfl,a,C,dx,_,_,_,rfl,R2.obj,rfl,N2,_,rfl,_,rfl,sa,_,_,_,rfl,rfl,tO,ib,_,rfl,sa,_,_,_,rfl,rfl,tO,iV,?_⟩
   refine ⟨_,rfl,l,_,_,_,rfl,rfl,l2,rfl,wa,_,_,_,rfl,rfl,GN,ib,_,rfl,l,_,_,_,rfl,rfl,l2,rfl,wa,_,_,_,rfl,rfl,GN,iV,?_⟩
   intro du d1 Mh Qv ne1
   have s4:au H2 (upd (upd H2 d1 (.own du)) du (.ins CR d1 [])):=fun b o e=>by rw [ao (aq e Mh),ao (aq e Qv)];exact e
   have e4:(upd (upd H2 d1 (.own du)) du (.ins CR d1 [])) du =some (.ins CR d1 []):=ah
   generalize upd (upd H2 d1 (.own du)) du (.ins CR d1 [])=H4 at s4 e4 ⊢
   refine ⟨du,d1,y2,y3,wx,wy,rfl,e4,HA.same s4,Vb.same s4,wn,fun p5 n5=>⟨rfl,?_⟩⟩
   have ED:p5≠du :=fun z=>by rw [z,e4] at n5;cases n5
   have s5:au H2 (upd (upd H4 p5 (.tup [y2,y3])) du (.ins CR d1 [("way",.ref p5)])):=fun b o e=>by
    have z:b≠du :=fun z=>by rw [z,Mh] at e;cases e
    rw [ao z]
    exact aG n5 _ _ _ (s4 _ _ e)
   have e5:(upd (upd H4 p5 (.tup [y2,y3])) du (.ins CR d1 [("way",.ref p5)])) du =some (.ins CR d1 [("way",.ref p5)]):=ah
   have t5:(upd (upd H4 p5 (.tup [y2,y3])) du (.ins CR d1 [("way",.ref p5)])) p5=some (.tup [y2,y3]):=by rw [ao ED,ah]
   generalize upd (upd H4 p5 (.tup [y2,y3])) du (.ins CR d1 [("way",.ref p5)])=H5 at s5 e5 t5 ⊢
   have Qw:ff K H5 (.ref p5) (wx,wy):=jY t5 (HA.same s5) (Vb.same s5)
   dsimp only [fN]
   refine fin (.ref du) H5 _ _ s5 (.inr ⟨du,CR,d1,_,["self"],gM K CR,rfl,e5,ze _,wR,fun H6 e6 t6 Q' an=>⟨du,d1,p5,(wx,wy),rfl,e6,Qw.aX t6,by rw [hw] at an;exact an⟩⟩) fun H' qd iT s' l' R' W' Va => ?_
   refine ⟨_,rfl,l,_,rfl,.inl (a8.of (K:=K) l'),rfl,_,rfl,?_⟩
   refine bc (fun c=>by simp at c) (fun _=> ?_)
   exact ⟨_,_,_,qd,iT,rfl,s',R',W',Va⟩
  ·rw [hw] at lw
   refine bc (fun c=>by rw [lw] at c;simp at c) (fun _=> ?_)
   refine ⟨_,rfl,l,_,rfl,.inl l2,rfl,_,rfl,?_⟩
   refine bc (fun c=>by rw [lw] at c;simp at c) (fun _=> ?_)
   refine ⟨_,rfl,l,_,rfl,.inl l2,rfl,_,rfl,?_⟩
   refine bc (fun _=> ?_) (fun c=>by rw [lw] at c;simp at c)
   refine ⟨_,rfl,a,C,dx,_,_,_,rfl,R2.obj,rfl,N2,_,rfl,_,rfl,sa,_,_,_,rfl,rfl,tO,ib,_,rfl,sa,_,_,_,rfl,rfl,tO,iV,?_⟩
   intro du d1 Mh Qv ne1
   have s4:au H2 (upd (upd H2 d1 (.own du)) du (.ins CF d1 [])):=fun b o e=>by rw [ao (aq e Mh),ao (aq e Qv)];exact e
   have e4:(upd (upd H2 d1 (.own du)) du (.ins CF d1 [])) du =some (.ins CF d1 []):=ah
   generalize upd (upd H2 d1 (.own du)) du (.ins CF d1 [])=H4 at s4 e4 ⊢
   dsimp only [fN]
   refine fin (.ref du) H4 _ _ s4 (.inr ⟨du,CF,d1,_,["self"],gN K,rfl,e4,rfl,wF,fun H6 _ _ Q' an=>⟨du,rfl,by rw [hw] at an;exact an⟩⟩) fun H' qd iT s' l' R' W' Va => ?_
   exact ⟨_,_,_,qd,iT,rfl,s',R',W',Va⟩
 ·rintro σ H2 ⟨o4,o5,o6,kP,kW,rfl,s2,R2,W2,nw⟩
  rw [lu,aa5] at R2 W2
  have lv:dj.length=bars.length:=Paired.length pb
  refine ⟨_,rfl,bA,rfl,⟨_,a8.of (s2 _ _ hb)⟩,bO (K:=K) (a:=bA) (xs:=dj) (fun i σ H' =>∃(o3 o7 o8:Option V) (kB:γ),σ=[some (.ref pA),some (.ref bA),some (.ref a),o3,o5,o6,o7,o8]/\au H H' /\d_ K H' C a dx pP pW pB (pins.map fun p=>(p.nm,mY p.sp)) ((bars.take i).map fun b=>(b.nm,b.one.nm,b.other.nm)) kP kW kB/\qc K H' (pins.map fun p=>(p.nm,p.ws)) kW) ⟨_,none,none,[],rfl,s2,R2,W2⟩ (fun i σ H' _ h=>by
    obtain ⟨_,_,_,_,_,s,_⟩:=h
    exact a8.of (s _ _ hb)) ?_ ?_⟩
  ·rintro i u σ H3 hu ⟨o3,o7,o8,kB,rfl,s3,R3,W3⟩
   obtain ⟨b,Za,Vc⟩:=aH pb hu
   have mb:b∈bars:=ir Za
   obtain ⟨ta,i1,j1,rfl,h1,g1,g2⟩:=Vc.same s3
   obtain ⟨m1,m2,m3⟩:=gb.ends b mb
   have tk:=take_snoc Za
   have il:i < bars.length:=(be.mp Za).1
   have Vd :∀(k:Nat) (p:aE),pins[k]? =some p->∃(c la:Addr) (sv:V),jr us (k:Int)=some (.ref c)/\bN K H3 c [.str p.nm,sv,.ref la]:=fun k p ek=>by
    obtain ⟨u',N3,Ve⟩:=aH (bU pp) ek
    obtain ⟨c,la,sv,ws,rfl,q1,_⟩:=gZ.same Ve s3
    exact ⟨c,la,sv,cE N3,q1⟩
   obtain ⟨c1,la1,sv1,Qx,q1⟩:=Vd _ _ g1
   obtain ⟨c2,la2,sv2,Qy,q2⟩:=Vd _ _ g2
   refine ⟨ta,_,rfl,h1,rfl,_,_,rfl,_,_,rfl,_,_,rfl,rfl,?_⟩
   have lp3:=a8.of (K:=K) (s3 _ _ hp)
   refine ⟨_,rfl,a,C,dx,_,_,_,rfl,R3.obj,rfl,Rx,_,rfl,_,rfl,_,rfl,pA,_,_,_,rfl,rfl,lp3,Qx,c1,_,_,_,rfl,rfl,q1,rfl,_,rfl,_,rfl,pA,_,_,_,rfl,rfl,lp3,Qy,c2,_,_,_,rfl,rfl,q2,rfl,?_⟩
   refine ⟨a,dx,pP,pW,pB,_,_,kP,kW,kB,b.nm,b.one.nm,b.other.nm,rfl,R3,fun z=> ?_,?_,?_,m3,?_,fun H' NQ k' R' => ?_⟩
   ·rw [aay] at z
    obtain ⟨b',iQ,e'⟩:=aab.mp z
    exact gm (nm:=aU.nm) gb.nb Za iQ e'
   ·rw [aay]
    exact aab.mpr ⟨_,m1,rfl⟩
   ·rw [aay]
    exact aab.mpr ⟨_,m2,rfl⟩
   ·rw [aaa,aaW]
    omega
   ·refine ⟨_,_,_,NQ,rfl,fun c o z=>k' c o (aq z nB) (s3 _ _ z),?_,?_⟩
    ·rw [tk,aaK]
     exact R'
    ·refine Paired.bM W3 fun p' kv z=>⟨z.1,?_⟩
     obtain ⟨l',iW,z1,z2,z3⟩:=z.2
     refine ⟨l',iW,z1,k' _ _ (fun z=>by rw [z,R3.br] at z2;cases z2) z2,z3.aX fun c xs r=> ?_⟩
     rcases r with r | ⟨o',r⟩
     ·exact .inl (k' _ _ (fun e=>by rw [e,R3.br] at r;cases r) r)
     ·exact .inr ⟨o',k' _ _ (fun e=>by rw [e,R3.br] at r;cases r) r⟩
  ·rintro σ H3 ⟨o3,o7,o8,kB,rfl,s3,R3,W3⟩
   rw [lv,aa5] at R3
   exact ⟨_,rfl,q a dx pP pW pB kP kW kB H3 s3 R3 W3 nw nP nW nB⟩
def ax (k:Int)(p:Rat×Rat):Rat:=if k=0 then p.1 else p.2
theorem zf {K:Frag}{H:Hp}{v:V}{p:Rat×Rat}{k:Int}(hk:k=0\/k=1)(h:ff K H v p):∃(a:Addr) (xs:η) (u:V),v=.ref a/\bN K H a xs/\jr xs k=some u/\f' K H u (ax k p):=by
 obtain ⟨a,u1,u2,rfl,hq,h1,h2⟩:=h
 rcases hk with rfl | rfl
 ·exact ⟨a,_,u1,rfl,hq,rfl,h1⟩
 ·exact ⟨a,_,u2,rfl,hq,rfl,h2⟩
theorem N4 {n:Nat}{p:Rat×Rat}{k:Int}(h:Sz n p.1/\Sz n p.2):Sz n (ax k p):=by
 unfold ax
 split
 ·exact h.1
 ·exact h.2
theorem tQ {K:Frag}{H:Hp}{us:η}{pins:ν}{k:Nat}{p:aE}(pp:Paired (gZ K H) us pins)(e:pins[k]? =some p):∃(c la:Addr) (sv:V),jr us (k:Int)=some (.ref c)/\bN K H c [.str p.nm,sv,.ref la]/\ff K H sv p.sp:=by
 obtain ⟨u',N3,Ve⟩:=aH (bU pp) e
 obtain ⟨c,la,sv,ws,rfl,q1,q2,_⟩:gZ K H u' p:=Ve
 exact ⟨c,la,sv,cE N3,q1,q2⟩
inductive xR (K:Frag)(vs:η)(H:Hp)(Q:VK)(E_:XK):Prop where
 | mk (pA:Addr) (us:η) (pins:ν) (u:V) (b:aU) (k:Int) (_:vs=[.ref pA,u,.int k]) (_:H pA=some (.lst us)) (_:Paired (gZ K H) us pins) (_:eY pins) (_:g7 K H pins u b) (_:(k=0\/k=1)) (_:∀(v:V) (H' :Hp),au H H' ->kL K H' v 89 (ax k b.other.sp - ax k b.one.sp)->Q v H'):xR K vs H Q E_
theorem Vf:aD ["_law_pins_here","_law_bar","_law_axis"] ["_law_pins_here","_law_bar","_law_axis"] (ag CA):=sq
theorem Vg (D:Def K mg "_law_arm" CA ["_law_pins_here","_law_bar","_law_axis"])(tK:Fn P w K mg base (aY P w) 1 "_law_sum" ["_law_one","_law_other"] (dq K f9))(Qz:Fn P w K mg base (aY P w) 1 "_law_turned" ["_law_one"] (gX K)):
  Fn P w K mg base (aY P w) 2 "_law_arm" ["_law_pins_here","_law_bar","_law_axis"] (xR K):=by
 refine D.ok Vf (fun vs H Q E h=> ?_) (fun f bE A outer s H vs Q E hr h=> ?_)
 ·obtain ⟨pA,us,pins,u,b,k,rfl,_⟩:=h
  rfl
 obtain ⟨pA,us,pins,u,b,k,rfl,hp,pp,gp,⟨ta,i,j,rfl,hb,e1,e2⟩,hk,q⟩:=h
 refine ⟨_,(aj (aI (aA tK hr.mo pX (ar (bq nJ (aL (bq bt (pv 0) (aL (pv 1)) (fun _ _=>rfl))) (pv 2) (fun _ _=>rfl)) (ar (aA Qz hr.mo pX (ar (bq nJ (aL (bq bt (pv 0) (aL (pv 1)) (fun _ _=>rfl))) (pv 2) (fun _ _=>rfl)) aa)) aa))))),?_⟩
 obtain ⟨c1,l1,sv1,Qx,q1,r1⟩:=tQ pp e1
 obtain ⟨c2,l2,sv2,Qy,q2,r2⟩:=tQ pp e2
 obtain ⟨a1,xs1,u1,rfl,t1,v1,n1⟩:=zf hk r1
 obtain ⟨a2,xs2,u2,rfl,t2,v2,n2⟩:=zf hk r2
 have z1:=N4 (k:=k) (gp.sz _ (ir e1))
 have z2:=N4 (k:=k) (gp.sz _ (ir e2))
 have lp:=a8.of (K:=K) hp
 refine ⟨_,rfl,_,rfl,ta,_,_,_,rfl,rfl,hb,rfl,pA,_,_,_,rfl,rfl,lp,Qy,c2,_,_,_,rfl,rfl,q2,rfl,_,rfl,a2,_,_,_,rfl,rfl,t2,v2,_,rfl,_,rfl,ta,_,_,_,rfl,rfl,hb,rfl,pA,_,_,_,rfl,rfl,lp,Qx,c1,_,_,_,rfl,rfl,q1,rfl,_,rfl,a1,_,_,_,rfl,rfl,t1,v1,?_⟩
 dsimp only [fN]
 show gX K [_] _ _ E0
 refine vR (iz n1 (y_ z1 (aah _))) fun p3 H3 s3 n3=> ?_
 show dq K f9 [_,_] _ _ E0
 refine tF ((iz n2 (y_ z2 (aah _))).same s3) n3 (by decide) fun p4 H4 s4 n4=> ?_
 refine q (.ref p4) H4 (s3.trans s4) ?_
 rw [aiB]
 exact n4
inductive tR (K:Frag)(vs:η)(H:Hp)(Q:VK)(E_:XK):Prop where
 | mk (l1 l2:Addr) (u1 u2 v1 v2:V) (x1 x2 y1 y2:Rat) (m n:Nat) (_:vs=[.ref l1,.ref l2]) (_:(a8 K H l1 [u1,u2]\/bN K H l1 [u1,u2])) (_:(a8 K H l2 [v1,v2]\/bN K H l2 [v1,v2])) (_:kL K H u1 m x1) (_:kL K H u2 m x2) (_:kL K H v1 n y1) (_:kL K H v2 n y2) (_:m+n<=30000000) (_:∀(v:V) (H' :Hp),au H H' ->kL K H' v (m+n+(m+n)+1) (x1*y1+x2*y2)->Q v H'):tR K vs H Q E_
theorem Vh:aD ["_law_one","_law_other"] ["_law_one","_law_other"] (ag CD):=sq
theorem Vi (D:Def K mg "_law_dot" CD ["_law_one","_law_other"])(tK:Fn P w K mg base (aY P w) 1 "_law_sum" ["_law_one","_law_other"] (dq K f9))(Vj:Fn P w K mg base (aY P w) 1 "_law_times" ["_law_one","_law_other"] (dq K qA)):
  Fn P w K mg base (aY P w) 2 "_law_dot" ["_law_one","_law_other"] (tR K):=by
 refine D.ok Vh (fun vs H Q E h=> ?_) (fun f bE A outer s H vs Q E hr h=> ?_)
 ·obtain ⟨l1,l2,u1,u2,v1,v2,x1,x2,y1,y2,m,n,rfl,_⟩:=h
  rfl
 obtain ⟨l1,l2,u1,u2,v1,v2,x1,x2,y1,y2,m,n,rfl,h1,h2,a1,a2,b1,b2,le,q⟩:=h
 refine ⟨_,(aj (aI (aA tK hr.mo pX (ar (aA Vj hr.mo pX (ar (bq yA (pv 0) ak (fun _ _=>rfl)) (ar (bq yA (pv 1) ak (fun _ _=>rfl)) aa))) (ar (aA Vj hr.mo pX (ar (bq yA (pv 0) ak (fun _ _=>rfl)) (ar (bq yA (pv 1) ak (fun _ _=>rfl)) aa))) aa))))),?_⟩
 refine ⟨_,rfl,l1,_,_,_,rfl,rfl,h1,rfl,_,rfl,l2,_,_,_,rfl,rfl,h2,rfl,?_⟩
 dsimp only [fN]
 show dq K qA [_,_] _ _ E0
 refine zc a1 b1 (by omega) fun p3 H3 s3 n3=> ?_
 refine ⟨_,rfl,l1,_,_,_,rfl,rfl,(h1.imp s3.seq (Ty.au.cG s3)),rfl,_,rfl,l2,_,_,_,rfl,rfl,(h2.imp s3.seq (Ty.au.cG s3)),rfl,?_⟩
 dsimp only [fN]
 show dq K qA [_,_] _ _ E0
 refine zc (a2.same s3) (b2.same s3) (by omega) fun p4 H4 s4 n4=> ?_
 show dq K f9 [_,_] _ _ E0
 refine tF (n3.same s4) n4 (by omega) fun p5 H5 s5 n5=> ?_
 exact q (.ref p5) H5 (s3.trans (s4.trans s5)) n5
theorem DJ.get {H:Hp}{pins:ν}{d:Addr}{kM:γ}{M:Str->Rat×Rat}{N:Nat}(h:DJ K H pins d kM M N){p:aE}(hp:p∈pins):∃t v1 v2,d5 H d (.str p.nm) (some (.ref t))/\H t=some (.tup [v1,v2])/\f' K H v1 (M p.nm).1/\f' K H v2 (M p.nm).2:=by
 obtain ⟨t,v1,v2,a,b,c,d⟩:=h.tM p hp
 refine ⟨t,v1,v2,?_,b,c,d⟩
 have:=d5.k (k:=.inr p.nm) h.hM
 rw [a] at this
 exact this
theorem N5 {n:Nat}{p:Rat×Rat}{k:Int}(h:Zb n p.1/\Zb n p.2):Zb n (ax k p):=by
 unfold ax
 split
 ·exact h.1
 ·exact h.2
inductive pE (K:Frag)(vs:η)(H:Hp)(Q:VK)(E_:XK):Prop where
 | mk (pA dM:Addr) (us:η) (pins:ν) (u:V) (b:aU) (kM:γ) (M:Str->Rat×Rat) (N:Nat) (_:vs=[.ref pA,u,.ref dM]) (_:H pA=some (.lst us)) (_:Paired (gZ K H) us pins) (_:eY pins) (_:g7 K H pins u b) (_:DJ K H pins dM kM M N) (_:∀(v:V) (H' :Hp),au H H' ->kL K H' v (4*N+200) (IS M b)->Q v H'):pE K vs H Q E_
theorem zg:aD ["_law_pins_here","_law_bar","_law_motion","_law_here","_law_there","_law_more"] ["_law_pins_here","_law_bar","_law_motion"] (ag CG):=sq
theorem Vk (D:Def K mg "_law_longer" CG ["_law_pins_here","_law_bar","_law_motion"])(bL:mg "range"=none)(tK:Fn P w K mg base (aY P w) 1 "_law_sum" ["_law_one","_law_other"] (dq K f9))(Qz:Fn P w K mg base (aY P w) 1 "_law_turned" ["_law_one"] (gX K))(Vl:Fn P w K mg base (aY P w) 2 "_law_arm" ["_law_pins_here","_law_bar","_law_axis"] (xR K))(QC:Fn P w K mg base (aY P w) 2 "_law_dot" ["_law_one","_law_other"] (tR K)):
  Fn P w K mg base (aY P w) 3 "_law_longer" ["_law_pins_here","_law_bar","_law_motion"] (pE K):=by
 refine D.ok zg (fun vs H Q E h=> ?_) (fun f bE A outer s H vs Q E hr h=> ?_)
 ·obtain ⟨pA,dM,us,pins,u,b,kM,M,N,rfl,_⟩:=h
  rfl
 obtain ⟨pA,dM,us,pins,u,b,kM,M,N,rfl,hp,pp,gp,Vc,mo,q⟩:=h
 have hN:=mo.hN
 have L2:2<=sizeLine:=by decide
 refine ⟨_,(ae (aF (i:=3) zg.nd rfl (aa2 rfl) (dD (bR hr) (pv 2) (aL (bq bt (pv 0) (aL (pv 1)) (fun _ _=>rfl))) (fun _ _=>rfl)))
  (ae (aF (i:=4) zg.nd rfl (aa2 rfl) (dD (bR hr) (pv 2) (aL (bq bt (pv 0) (aL (pv 1)) (fun _ _=>rfl))) (fun _ _=>rfl)))
  (ae (mS (i:=5) zg.nd rfl (aai rfl) (tn:=["_law_axis"]) (fr:=["_law_there","_law_here"]) (caps:=[4,3]) rfl ⟨rfl,by decide+kernel,rfl,by decide+kernel,by decide+kernel,rfl,⟨(by first | exact aai rfl | exact aa2 rfl),⟨(by first | exact aai rfl | exact aa2 rfl),trivial⟩⟩,⟨(by first | exact aai rfl | exact aa2 rfl),⟨(by first | exact aai rfl | exact aa2 rfl),trivial⟩⟩⟩ (dJ rfl bL (ar ak aa)) (fun _ _ _ _=>(aC (i:=0) (show (["_law_axis","_law_there","_law_here"]:List Str).Nodup from by decide+kernel) rfl (aai rfl))) (fun _ _ _ _=>dG) (fun _ _ _ _=>(aA tK hr.mo (n_ (by first | assumption | exact aY.nX) rfl) (ar (bq (c9 (K:=K) rfl) (pv 1) (pv 0) (fun _ _=>rfl)) (ar (aA Qz hr.mo (n_ (by first | assumption | exact aY.nX) rfl) (ar (bq (c9 (K:=K) rfl) (pv 2) (pv 0) (fun _ _=>rfl)) aa)) aa)))))
  (aj (aI (aA QC hr.mo pX (ar (dk (ar (aA Vl hr.mo pX (ar (pv 0) (ar (pv 1) (ar ak aa)))) (ar (aA Vl hr.mo pX (ar (pv 0) (ar (pv 1) (ar ak aa)))) aa))) (ar (pv 5) aa)))))))),?_⟩
 obtain ⟨ta,i,j,rfl,hb,e1,e2⟩:=id Vc
 obtain ⟨c1,l1,sv1,Qx,q1,_⟩:=tQ pp e1
 obtain ⟨c2,l2,sv2,Qy,q2,_⟩:=tQ pp e2
 obtain ⟨t1,y1,y1',dg1,et1,m11,m12⟩:=mo.get (ir e1)
 obtain ⟨t2,y2,y2',dg2,et2,m21,m22⟩:=mo.get (ir e2)
 have hw1:ff K H (.ref t1) (M b.one.nm):=⟨t1,y1,y1',rfl,bN.of et1,m11,m12⟩
 have hw2:ff K H (.ref t2) (M b.other.nm):=⟨t2,y2,y2',rfl,bN.of et2,m21,m22⟩
 have lp:=a8.of (K:=K) hp
 refine ⟨_,rfl,_,rfl,_,rfl,ta,_,_,_,rfl,rfl,hb,rfl,pA,_,_,_,rfl,rfl,lp,Qx,c1,_,_,_,rfl,rfl,q1,rfl,dM,_,rfl,dg1,?_⟩
 refine ⟨_,rfl,_,rfl,_,rfl,ta,_,_,_,rfl,rfl,hb,rfl,pA,_,_,_,rfl,rfl,lp,Qy,c2,_,_,_,rfl,rfl,q2,rfl,dM,_,rfl,dg2,?_⟩
 have z1:=mo.zb _ (ir e1)
 have z2:=mo.zb _ (ir e2)
 refine ⟨(2:Int),rfl,by decide,by decide,fun D1 n1=> ?_⟩
 refine w8 (lo:=0) (n:=2) (cap:=[some (.ref t2),some (.ref t1)]) (fun k v H=>kL K H v (N+N+1) (ax (k:Int) (M b.other.nm) - ax (k:Int) (M b.one.nm))) n1 (by decide) (fun _ _ _ _ _ h0 ks h=>by
   refine kL.aX h fun b xs r=> ?_
   rcases r with r | ⟨o',r⟩
   ·exact .inl (ks _ _ (fun e=>by rw [e,h0] at r;cases r) r)
   ·exact .inr ⟨o',ks _ _ (fun e=>by rw [e,h0] at r;cases r) r⟩) ?_ ?_
 ·intro k H3 R hk s3 kk
  have ek:(0:Int)+(k:Int)=(k:Int):=abo _
  rw [ek]
  have hk2:(k:Int)=0\/(k:Int)=1:=by omega
  obtain ⟨a1,xs1,u1,Qx,t1,v1,m1⟩:=zf hk2 (hw1.same s3)
  obtain ⟨a2,xs2,u2,Qy,t2,v2,m2⟩:=zf hk2 (hw2.same s3)
  cases Qx
  cases Qy
  refine ⟨_,rfl,_,rfl,_,_,_,_,rfl,rfl,t2,v2,_,rfl,_,rfl,_,_,_,_,rfl,rfl,t1,v1,?_⟩
  dsimp only [fN]
  show gX K [_] _ _ E0
  refine vR (iz m1 (N5 z1)) fun p4 H4 s4 n4=> ?_
  show dq K f9 [_,_] _ _ E0
  refine tF ((iz m2 (N5 z2)).same s4) n4 (by omega) fun p5 H5 s5 n5=> ?_
  refine kk _ _ (s4.trans s5) ?_
  rw [aiB]
  exact n5
 intro ys H3 ly hy s3 hD
 obtain ⟨y1,y2,rfl⟩:∃y1 y2,ys=[y1,y2]:=by
  match ys,ly with
  | [y1,y2],_=>exact ⟨y1,y2,rfl⟩
 have k1:=hy 0 y1 rfl
 have k2:=hy 1 y2 rfl
 refine ⟨_,rfl,_,rfl,pA,us,pins,_,b,0,rfl,s3 _ _ hp,Paired.bM pp fun _ _ z=>z.same s3,gp,Vc.same s3,.inl rfl,fun v4 H4 s4 n4=> ?_⟩
 have EI:=s3.trans s4
 refine ⟨_,rfl,_,rfl,pA,us,pins,_,b,1,rfl,EI _ _ hp,Paired.bM pp fun _ _ z=>z.same EI,gp,Vc.same EI,.inr rfl,fun v5 H5 s5 n5=>⟨L2,?_⟩⟩
 intro l6 m6;generalize eX:upd _ l6 _=H6;have ⟨s6,e6⟩:=nw m6 eX;clear eX
 have QD:=s4.trans (s5.trans s6)
 refine ⟨_,rfl,l6,D1,_,_,_,_,_,_,_,_,89,N+N+1,rfl,.inl (a8.of e6),.inl (a8.of (QD _ _ hD)),(n4.same (s5.trans s6)),n5.same s6,k1.same QD,k2.same QD,by omega,fun v H7 s7 n7=> ?_⟩
 exact q v H7 (s3.trans (QD.trans s7)) (n7.up (by omega))
inductive tS (K:Frag)(vs:η)(H:Hp)(Q:VK)(E_:XK):Prop where
 | mk (pA dM:Addr) (us:η) (pins:ν) (kM:γ) (M:Str->Rat×Rat) (N:Nat) (_:vs=[.ref pA,.ref dM]) (_:H pA=some (.lst us)) (_:Paired (gZ K H) us pins) (_:eY pins) (_:DJ K H pins dM kM M N) (_:(∀p∈pins,∀w∈p.ws,dt w (M p.nm)=0)) (_:∀(H' :Hp),au H H' ->Q (.bl true) H'):tS K vs H Q E_
theorem vV:aD ["_law_pins_here","_law_motion","_law_name_here","_law_spot_here","_law_ways_here","_law_way"] ["_law_pins_here","_law_motion"] (ag CH):=sq
theorem Vm (D:Def K mg "_law_keeps" CH ["_law_pins_here","_law_motion"])(QC:Fn P w K mg base (aY P w) 2 "_law_dot" ["_law_one","_law_other"] (tR K)):
  Fn P w K mg base (aY P w) 3 "_law_keeps" ["_law_pins_here","_law_motion"] (tS K):=by
 refine D.ok vV (fun vs H Q E h=> ?_) (fun f bE A outer s H vs Q E hr h=> ?_)
 ·obtain ⟨pA,dM,us,pins,kM,M,N,rfl,_⟩:=h
  rfl
 obtain ⟨pA,dM,us,pins,kM,M,N,rfl,hp,pp,gp,mo,ke,q⟩:=h
 have hN:=mo.hN
 refine ⟨_,(ae (bD PassesOwn.never rfl (bu (pv 0)) (dF rfl (aS (aC (i:=2) vV.nd rfl (aai rfl)) (aS (aC (i:=3) vV.nd rfl (aai rfl)) (aS (aC (i:=4) vV.nd rfl (aai rfl)) b_)))) (aj (bD PassesOwn.never rfl (bu (pv 4)) (aC (i:=5) vV.nd rfl (aai rfl)) (aj (bo (aR lE (aL (aA QC hr.mo pX (ar (pv 5) (ar (dD (bR hr) (pv 1) (pv 2) (fun _ _=>rfl)) aa)))) ak (aZ _)) (aj (aI dW)) aQ)))))
  (aj (aI dW))),?_⟩
 refine ⟨_,rfl,pA,rfl,⟨_,a8.of hp⟩,bO (K:=K) (a:=pA) (xs:=us) (fun i σ H' =>∃(o2 o3 o4 o5:Option V),σ=[some (.ref pA),some (.ref dM),o2,o3,o4,o5]/\au H H') ⟨none,none,none,none,rfl,au.refl _⟩ (fun i σ H' _ h=>by
   obtain ⟨_,_,_,_,_,s⟩:=h
   exact a8.of (s _ _ hp)) ?_ ?_⟩
 ·rintro i u σ H4 hu ⟨o2,o3,o4,o5,rfl,s4⟩
  obtain ⟨p,ep,U_⟩:=aH pp hu
  have mp:p∈pins:=ir ep
  obtain ⟨ta,l,sv,ws,rfl,h1,h2,h3,h4⟩:=U_.same s4
  refine ⟨ta,_,rfl,h1,rfl,_,_,rfl,_,_,rfl,_,_,rfl,rfl,?_⟩
  refine ⟨_,rfl,l,rfl,⟨_,a8.of h3⟩,bO (K:=K) (a:=l) (xs:=ws) (fun j σ H' =>∃(o5:Option V),σ=[some (.ref pA),some (.ref dM),some (.str p.nm),some sv,some (.ref l),o5]/\au H4 H') ⟨o5,rfl,au.refl _⟩ (fun j σ H' _ h=>by
     obtain ⟨_,_,s⟩:=h
     exact a8.of (s _ _ h3)) ?_ ?_⟩
  ·rintro j wv σ H5 hwv ⟨o5,rfl,s5⟩
   obtain ⟨wq,ewq,hwq⟩:=aH h4 hwv
   have mw:wq∈p.ws:=ir ewq
   have zw:=(gp.ws p mp).sz wq mw
   obtain ⟨wa,y1,y2,rfl,GN,b1,b2⟩:=hwq.same s5
   have LU:=s4.trans s5
   obtain ⟨t,v1,v2,dg,et,m1,m2⟩:=(mo.same LU).get mp
   have zp:=mo.zb p mp
   refine ⟨_,rfl,_,rfl,_,rfl,dM,_,rfl,dg,?_⟩
   dsimp only [fN]
   refine ⟨wa,t,y1,y2,v1,v2,_,_,_,_,22,N,rfl,.inr GN,.inr (bN.of et),iz b1 (y_ zw.1 (aah _)),iz b2 (y_ zw.2 (aah _)),iz m1 zp.1,iz m2 zp.2,by omega,fun v H6 s6 n6=> ?_⟩
   obtain ⟨x,⟨p6,rfl,k1⟩,k2,k3,k4⟩:=n6
   refine ⟨p6,_,_,_,rfl,rfl,k1,ib,rfl,_,rfl,?_⟩
   have e0:x.1=0:=(za k2).mpr (by rw [k3];exact ke p mp wq mw)
   rw [e0]
   refine bc (fun c=>by simp at c) (fun _=> ?_)
   exact ⟨_,rfl,s5.trans s6⟩
  ·rintro σ H5 ⟨o5,rfl,s5⟩
   exact ⟨_,_,_,_,rfl,s4.trans s5⟩
 ·rintro σ H4 ⟨o2,o3,o4,o5,rfl,s4⟩
  exact q H4 s4
theorem abC:PySem.W.kitOne K (.type "int") (.type "int")=some true:=by unfold PySem.W.kitOne;rw [if_pos (by decide)]
theorem abD:PySem.W.kitOne K (.type "int") (.type "bool")=some false:=FY ⟨by decide,fun _=>⟨by decide+kernel,by decide+kernel⟩⟩
theorem Mi (x:Int×Int):cC [.v (.int x.1),.v (.int x.2)] [.v (.int x.1),.v (.int x.2)]=true:=by
 simp [cC,fY,p_]
inductive pF (K:Frag)(vs:η)(H:Hp)(Q:VK)(E_:XK):Prop where
 | mk (u:V) (r:Rat) (_:vs=[u]) (_:f' K H u r) (_:∀H',au H H' ->Q (.bl true) H'):pF K vs H Q E_
theorem N6:aD ["_law_x","_law_part"] ["_law_x"] (ag CB):=sq
theorem Vn (D:Def K mg "_law_number" CB ["_law_x"])(ba:mg "len"=none)(bF:mg "isinstance"=none)(pG:mg "int"=none)(xS:mg "bool"=none)(iO:mg "tuple"=none)
  (tI:Fn P w K mg base (aY P w) 33 "_law_lowest" ["_law_top","_law_bottom"] dA):Fn P w K mg base (aY P w) 34 "_law_number" ["_law_x"] (pF K):=by
 refine D.ok N6 (fun vs H Q E h=> ?_) (fun f bE A outer s H vs Q E hr h=> ?_)
 ·obtain ⟨u,r,rfl,_⟩:=h
  rfl
 obtain ⟨_,r,rfl,⟨p1,rfl,h1⟩,q⟩:=h
 have hp:=cX r
 have hg:=kA r
 generalize qr r=x at h1 hp hg
 refine ⟨_,(ae (bo (PW.pt (hJ (cS (cP (aT AQ rfl bF c8 (ar (pv 0) (ar (ra rfl iO yr) aa))))) (ft (aR lE (aT aJ rfl ba cf (ar (pv 0) aa)) ak (aZ _))))) (aj (aI dW)) aQ)
  (ae (bD PassesOwn.never rfl (OI (pv 0)) (aC (i:=1) N6.nd rfl (aai rfl)) (aj (bo (PW.pt (hJ (cS (cP (aT h_ rfl bF c8 (ar (pv 1) (ar (ra rfl pG FZ) aa))))) (ft (cP (aT h_ rfl bF c8 (ar (pv 1) (ar (ra rfl xS O1) aa))))))) (aj (aI dW)) aQ)))
  (aj (aI (ET (jv uO (aL (pv 0)) ak (aZ _)) (ES (jv (mQ hr.units) (aA tI hr.mo pX (ar (aL (pv 0)) (ar (aL (pv 0)) aa))) (pv 0) (aZ _)))))))),?_⟩
 refine ⟨_,rfl,p1,_,rfl,h1,_,rfl,?_⟩
 refine bc (fun c=>nomatch c) (fun _=> ?_)
 refine ⟨_,rfl,p1,_,rfl,.inr h1,rfl,_,rfl,?_⟩
 refine Ny rfl ?_
 refine ⟨_,rfl,p1,rfl,⟨_,h1⟩,K2 (K:=K) (a:=p1) (xs:=[.int x.1,.int x.2]) (fun i σ H' =>∃o,σ=[some (.ref p1),o]/\H' =H) ⟨none,rfl,rfl⟩ (fun i σ H' _ ⟨o,_,e⟩=>by rw [e];exact h1) ?_ ?_⟩
 ·rintro i z σ H' hi ⟨o,rfl,rfl⟩
  obtain ⟨n,rfl⟩:∃n,z=V.int n:=by
   match i,hi with
   | 0,hi=>exact ⟨_,(aaM hi).symm⟩
   | 1,hi=>exact ⟨_,(aaM hi).symm⟩
  refine ⟨_,rfl,_,_,_,true,rfl,rfl,.int n,abC,_,rfl,?_⟩
  refine bc (fun c=>nomatch c) (fun _=> ?_)
  refine ⟨_,rfl,_,_,_,false,rfl,rfl,.int n,abD,_,rfl,?_⟩
  refine bc (fun c=>nomatch c) (fun _=> ?_)
  exact ⟨_,rfl,rfl⟩
 ·rintro σ H' ⟨o,rfl,rfl⟩
  refine ⟨_,rfl,p1,_,_,_,rfl,rfl,h1,iV,_,_,rfl,rfl,_,rfl,?_⟩
  refine bc (fun _=> ?_) (fun c=>absurd (decide_eq_true hp) c)
  refine ⟨_,rfl,p1,_,_,_,rfl,rfl,h1,ib,_,rfl,p1,_,_,_,rfl,rfl,h1,iV,_,_,rfl,hp,fun p2 H2 s2 e2=> ?_⟩
  rw [nR hp hg] at e2
  refine ⟨_,rfl,_,_,.inl ⟨mX (q:=x) ⟨p2,rfl,bN.of e2⟩,mX (q:=x) ⟨p1,rfl,Ty.au.cG s2 h1⟩⟩,rfl,Lh,?_⟩
  rw [Mi x]
  exact q _ s2
theorem abE:PySem.W.kitOne K (.type "tuple") (.type "tuple")=some true:=by unfold PySem.W.kitOne;rw [if_pos (by decide)]
theorem Vo:PySem.W.kitOne K (.type "dict") (.type "dict")=some true:=by unfold PySem.W.kitOne;rw [if_pos (by decide)]
theorem pH {K:Frag}{H:Hp}:∀ws:List Str,fj K H (ws.map fun w=>Da.v (.str w)) (ws.map V.str)
 | []=>by unfold fj;trivial
 | w::ws=>by
  rw [aac,aac]
  unfold fj
  refine ⟨?_,pH ws⟩
  unfold Is
  exact ⟨rfl,rfl⟩
theorem zh:∀ws:List Str,cC (ws.map fun w=>Da.v (.str w)) (ws.map fun w=>Da.v (.str w))=true
 | []=>by simp [cC]
 | w::ws=>by
  rw [aac]
  unfold cC
  rw [zh ws]
  simp [fY,p_]
theorem zi:∀ws:List Str,cV (ws.map fun w=>Da.v (.str w)) (ws.map fun w=>Da.v (.str w))=true
 | []=>by simp [cV]
 | w::ws=>by
  rw [aac]
  unfold cV
  rw [zi ws]
  simp [alike]
theorem vW:∀ws:List Str,fO (ws.map fun w=>Da.v (.str w))<=60
 | []=>by simp [fO]
 | w::ws=>by
  rw [aac]
  unfold fO
  have:=vW ws
  simp only [dep]
  omega
theorem Mj {K:Frag}{H:Hp}{p p2:Addr}{ws:List Str}{Q:VK}(e1:H p=some (.lst (ws.map V.str)))(e2:H p2=some (.lst (ws.map V.str)))(q:Q (.bl false) H):u0 K (.ref p) (.ref p2) H Q:=by
 refine ⟨ws.map fun w=>Da.v (.str w),ws.map fun w=>Da.v (.str w),.inr ⟨?_,?_⟩,zi ws,vW ws,by rw [zh];exact q⟩
 ·unfold Is
  exact ⟨p,_,rfl,a8.of e1,pH ws⟩
 ·unfold Is
  exact ⟨p2,_,rfl,a8.of e2,pH ws⟩
theorem pI {x:V}{ys:η}:jr (x::ys) 0=some x:=cE (xs:=x::ys) (j:=0) rfl
theorem Jq {α:Type}{D1 a:Addr}{H:Hp}{us:η}{zs:List α}{nm:α->Str}{cap:L2.St}{R:VK}(n1:H D1=none)(ha:H a=some (.lst us))(pr:Paired (fun u z=>∃c ys,u=.ref c/\bN K H c (.str (nm z)::ys)) us zs)(l:zs.length<=1000)(k:∀H',au H H' ->H' D1=some (.lst ((zs.map nm).map V.str))->R (.ref D1) H'):
  jE D1 (cI 0) kr (OK (FL K) (KW 0) (tC (V.int 0))) (K1 K a) (none::cap) H R:=by
 have lu:us.length=zs.length:=Paired.length pr
 refine dN (K:=K) (a:=a) (xs:=us) (fun i v _=>∃z,zs[i]? =some z/\v=.str (nm z)) n1 (by rw [lu];exact aar l (by decide)) (fun H2 s2=>a8.of (s2 _ _ ha)) (fun _ _ _ _ _ _ _ h=>h) ?_ ?_
 ·intro i u H2 R hu s2 k
  obtain ⟨z,ez,c,ys,rfl,h1⟩:=aH pr hu
  exact ⟨_,rfl,c,_,_,_,rfl,rfl,Ty.au.cG s2 h1,pI,k _ _ (au.refl _) ⟨z,ez,rfl⟩⟩
 ·intro ys H2 hy ie s2 hD
  refine k H2 s2 ?_
  rw [hD]
  congr 2
  refine aa8 fun i=> ?_
  rw [aay,Wp]
  by_cases c:i < ys.length
  ·obtain ⟨p,e1,e2⟩:=ie i ys[i] (gE c)
   rw [gE c,e1,e2]
   rfl
  ·rw [aae (by omega),aae (by omega)]
   rfl
theorem oF {α:Type}{nm:α->Str}{kM:γ}{zs:List α}(h:kM.map (·.1)=zs.map (fun p=>(aa6 (nm p):Key))):(kM.map fun kv=>kV kv.1)=(zs.map nm).map V.str:=by
 have:(kM.map fun kv=>kV kv.1)=(kM.map (·.1)).map kV:=by rw [aay];rfl
 rw [this,h,aay,aay]
 rfl
theorem xT {H:Hp}{us:η}{pins:ν}(h:Paired (gZ K H) us pins):Paired (fun u (z:aE)=>∃c ys,u=.ref c/\bN K H c (.str z.nm::ys)) us pins:=Paired.bM h fun _ _ ⟨a,l,s,us,e,h1,_,_,_⟩=>⟨a,_,e,h1⟩
inductive Jr (K:Frag)(vs:η)(H:Hp)(Q:VK)(E_:XK):Prop where
 | mk (pA dM:Addr) (us:η) (pins:ν) (kM:γ) (M:Str->Rat×Rat) (N:Nat) (_:vs=[.ref pA,.ref dM]) (_:H pA=some (.lst us)) (_:Paired (gZ K H) us pins) (_:pins.length<=100) (_:DJ K H pins dM kM M N) (_:∀H',au H H' ->Q (.bl true) H'):Jr K vs H Q E_
theorem zk:aD ["_law_pins_here","_law_motion","_law_name_here","_law_spot_here","_law_ways_here"] ["_law_pins_here","_law_motion"] (ag CC):=sq
theorem Vp (D:Def K mg "_law_is_motion" CC ["_law_pins_here","_law_motion"])(bF:mg "isinstance"=none)(gS:mg "dict"=none)(bP:mg "list"=none)(iO:mg "tuple"=none)(ba:mg "len"=none)(Vq:Fn P w K mg base (aY P w) 34 "_law_number" ["_law_x"] (pF K)):
  Fn P w K mg base (aY P w) 35 "_law_is_motion" ["_law_pins_here","_law_motion"] (Jr K):=by
 refine D.ok zk (fun vs H Q E h=> ?_) (fun f bE A outer s H vs Q E hr h=> ?_)
 ·obtain ⟨pA,dM,us,pins,kM,M,N,rfl,_⟩:=h
  rfl
 obtain ⟨pA,dM,us,pins,kM,M,N,rfl,hp,pp,lp,mo,q⟩:=h
 refine ⟨_,(ae (bo (PW.pt (hJ (cS (cP (aT h_ rfl bF c8 (ar (pv 1) (ar (ra rfl gS F_) aa))))) (ft (aR (mR hr.units) (b7 (dH rfl) rfl bP gH (ar (pv 1) aa)) (dC (tn:=["_law_pin"]) (fr:=[]) (caps:=[]) rfl ⟨rfl,by decide+kernel,rfl,by decide+kernel,by decide+kernel,rfl,trivial,trivial⟩ (bu (pv 0)) (fun _ _ _ _=>(aC (i:=0) (show (["_law_pin"]:List Str).Nodup from by decide+kernel) rfl (aai rfl))) (fun _ _ _ _=>dG) (fun _ _ _ _=>(bq (c9 (K:=K) rfl) (pv 0) ak (fun _ _=>rfl)))) (aZ _))))) (aj (aI dW)) aQ)
  (ae (bD PassesOwn.never rfl (bu (pv 0)) (dF rfl (aS (aC (i:=2) zk.nd rfl (aai rfl)) (aS (aC (i:=3) zk.nd rfl (aai rfl)) (aS (aC (i:=4) zk.nd rfl (aai rfl)) b_)))) (ae (bo (PW.pt (hJ (cS (cP (aT h_ rfl bF c8 (ar (dD (bR hr) (pv 1) (pv 2) (fun _ _=>rfl)) (ar (ra rfl iO yr) aa))))) (ft (aR lE (aT aJ rfl ba cf (ar (dD (bR hr) (pv 1) (pv 2) (fun _ _=>rfl)) aa)) ak (aZ _))))) (aj (aI dW)) aQ)
   (aj (bo (PW.pt (hJ (cS (cP (aA Vq hr.mo pX (ar (aL (dD (bR hr) (pv 1) (pv 2) (fun _ _=>rfl))) aa)))) (ft (cS (cP (aA Vq hr.mo pX (ar (aL (dD (bR hr) (pv 1) (pv 2) (fun _ _=>rfl))) aa))))))) (aj (aI dW)) aQ))))
  (aj (aI dW)))),?_⟩
 refine ⟨_,rfl,_,_,_,true,rfl,rfl,.dK mo.hM,Vo,_,rfl,?_⟩
 refine bc (fun c=>nomatch c) (fun _=> ?_)
 refine ⟨_,rfl,dM,_,rfl,.inl mo.hM,?_⟩
 intro l1 n1;generalize eX:upd _ l1 _=H1;have ⟨s1,e1⟩:=nw n1 eX;clear eX
 rw [oF (nm:=aE.nm) mo.keys] at e1
 have pp1:Paired (gZ K H1) us pins:=Paired.bM pp fun _ _ z=>z.same s1
 refine ⟨_,rfl,pA,rfl,⟨_,a8.of (s1 _ _ hp)⟩,fun D2 n2=> ?_⟩
 refine Jq (nm:=aE.nm) n2 (s1 _ _ hp) (xT pp1) (by omega) fun H2 s2 e2=> ?_
 refine Mj (s2 _ _ e1) e2 ?_
 refine ⟨_,rfl,?_⟩
 refine bc (fun c=>nomatch c) (fun _=> ?_)
 have yN:=s1.trans s2
 refine ⟨_,rfl,pA,rfl,⟨_,a8.of (yN _ _ hp)⟩,bO (K:=K) (a:=pA) (xs:=us) (fun i σ H' =>∃(o2 o3 o4:Option V),σ=[some (.ref pA),some (.ref dM),o2,o3,o4]/\au H H') ⟨none,none,none,rfl,yN⟩ (fun i σ H' _ h=>by
   obtain ⟨_,_,_,_,s⟩:=h
   exact a8.of (s _ _ hp)) ?_ ?_⟩
 ·rintro i u σ H4 hu ⟨o2,o3,o4,rfl,s4⟩
  obtain ⟨p,ep,U_⟩:=aH pp hu
  have mp:p∈pins:=ir ep
  obtain ⟨ta,l,sv,ws,rfl,h1,h2,h3,h4⟩:=U_.same s4
  refine ⟨ta,_,rfl,h1,rfl,_,_,rfl,_,_,rfl,_,_,rfl,rfl,?_⟩
  obtain ⟨t,v1,v2,dg,et,m1,m2⟩:=(mo.same s4).get mp
  refine ⟨_,rfl,_,rfl,dM,_,rfl,dg,?_⟩
  refine ⟨_,_,_,true,rfl,rfl,.tup et,abE,_,rfl,?_⟩
  refine bc (fun c=>nomatch c) (fun _=> ?_)
  refine ⟨_,rfl,_,rfl,dM,_,rfl,dg,t,_,rfl,.inr (bN.of et),rfl,_,rfl,?_⟩
  refine Ny rfl ?_
  refine ⟨_,rfl,_,rfl,dM,_,rfl,dg,t,_,_,_,rfl,rfl,bN.of et,ib,_,_,rfl,m1,fun H5 s5=> ?_⟩
  refine ⟨_,rfl,?_⟩
  refine bc (fun c=>nomatch c) (fun _=> ?_)
  obtain ⟨t,v1,v2,dg,et,m1,m2⟩:=(mo.same (s4.trans s5)).get mp
  refine ⟨_,rfl,_,rfl,dM,_,rfl,dg,t,_,_,_,rfl,rfl,bN.of et,iV,_,_,rfl,m2,fun H6 s6=> ?_⟩
  refine ⟨_,rfl,?_⟩
  refine bc (fun c=>nomatch c) (fun _=> ?_)
  exact ⟨_,_,_,rfl,s4.trans (s5.trans s6)⟩
 ·rintro σ H4 ⟨o2,o3,o4,rfl,s4⟩
  exact q H4 s4
abbrev Kl (pins:ν):List (Str×Pt):=pins.map fun p=>(p.nm,mY p.sp)
abbrev Zc (pins:ν):List (Str×List (Rat×Rat)):=pins.map fun p=>(p.nm,p.ws)
abbrev wH (bars:List aU):List (Str×Str×Str):=bars.map fun b=>(b.nm,b.one.nm,b.other.nm)
def jo (K:Frag)(H:Hp)(d e:Addr)(v:V)(p:aE):Prop:=∃(a l:Addr) (s:V) (us:η),v=.ref a/\bN K H a [.str p.nm,s,.ref l]/\ff K H s p.sp/\H l=some (.lst us)/\g_ K H us p.ws/\l≠d/\l≠e
theorem jo.same {H H' :Hp}{d e:Addr}{v:V}{p:aE}(h:jo K H d e v p)(s:au H H'):jo K H' d e v p:=by
 obtain ⟨a,l,sv,us,ev,h1,h2,h3,h4,h5⟩:=h
 exact ⟨a,l,sv,us,ev,Ty.au.cG s h1,h2.same s,s _ _ h3,h4.same s,h5⟩
theorem jo.r {H:Hp}{d e:Addr}{v:V}{p:aE}(h:jo K H d e v p):gZ K H v p:=by
 obtain ⟨a,l,sv,us,ev,h1,h2,h3,h4,_⟩:=h
 exact ⟨a,l,sv,us,ev,h1,h2,h3,h4⟩
def KO (pP pW pB lP lB:Addr)(H H' :Hp):Prop:=∀b o,b≠pP->b≠pW->b≠pB->b≠lP->b≠lB->H b=some o->H' b=some o
theorem KO.trans {pP pW pB lP lB:Addr}{H H1 H2:Hp}(a:KO pP pW pB lP lB H H1)(b:KO pP pW pB lP lB H1 H2):KO pP pW pB lP lB H H2:=fun c o n1 n2 n3 n4 n5 e=>b c o n1 n2 n3 n4 n5 (a c o n1 n2 n3 n4 n5 e)
theorem KO.of {pP pW pB lP lB:Addr}{H H1:Hp}(a:au H H1):KO pP pW pB lP lB H H1:=fun c o _ _ _ _ _ e=>a c o e
structure WS (K:Frag)(H:Hp)(C fA dx pP pW pB lP lB:Addr)(us vs:η)(pins:ν)(bars:List aU):Prop where
 fr:∃kP kW kB,d_ K H C fA dx pP pW pB (Kl pins) (wH bars) kP kW kB/\qc K H (Zc pins) kW/\∀kv∈kW,kv.2≠.ref lP/\kv.2≠.ref lB
 hp:H lP=some (.lst us)
 pp:Paired (jo K H lP lB) us pins
 hb:H lB=some (.lst vs)
 pb:Paired (g7 K H pins) vs bars
 gp:eY pins
 gb:j0 pins bars
 lp:pins.length<=8
 lb:bars.length<=8
 ne:lP≠lB
section
variable {H H' :Hp}{C fA dx pP pW pB lP lB:Addr}{us vs:η}{pins:ν}{bars:List aU}
theorem WS.same (h:WS K H C fA dx pP pW pB lP lB us vs pins bars)(s:au H H'):WS K H' C fA dx pP pW pB lP lB us vs pins bars:=by
 obtain ⟨kP,kW,kB,R,W,n⟩:=h.fr
 exact ⟨⟨kP,kW,kB,R.same s,W.same s,n⟩,s _ _ h.hp,Paired.bM h.pp fun _ _ z=>z.same s,s _ _ h.hb,Paired.bM h.pb fun _ _ z=>z.same s,h.gp,h.gb,h.lp,h.lb,h.ne⟩
theorem WS.fa (h:WS K H C fA dx pP pW pB lP lB us vs pins bars):EE K H C fA pins bars:=by
 obtain ⟨kP,kW,kB,R,W,n⟩:=h.fr
 exact ⟨dx,pP,pW,pB,kP,kW,kB,R,W⟩
theorem WS.g (h:WS K H C fA dx pP pW pB lP lB us vs pins bars):dz pins bars:=U2 h.gp h.gb (by have:=h.lp;omega) (by have:=h.lb;omega)
theorem WS.pr (h:WS K H C fA dx pP pW pB lP lB us vs pins bars):Paired (gZ K H) us pins:=Paired.bM h.pp fun _ _ z=>z.r
theorem WS.away (h:WS K H C fA dx pP pW pB lP lB us vs pins bars){b:Addr}{o:HO}(e:H b=some o)(n1:∀kvs,o≠.dK kvs)(n2:∀xs,o≠.lst xs):b≠pP/\b≠pW/\b≠pB/\b≠lP/\b≠lB:=by
 obtain ⟨kP,kW,kB,R,W,_⟩:=h.fr
 refine ⟨fun z=> ?_,fun z=> ?_,fun z=> ?_,fun z=> ?_,fun z=> ?_⟩
 ·rw [z,R.pl] at e
  exact n1 _ (aaM e).symm
 ·rw [z,R.wy] at e
  exact n1 _ (aaM e).symm
 ·rw [z,R.br] at e
  exact n1 _ (aaM e).symm
 ·rw [z,h.hp] at e
  exact n2 _ (aaM e).symm
 ·rw [z,h.hb] at e
  exact n2 _ (aaM e).symm
theorem WS.fresh (h:WS K H C fA dx pP pW pB lP lB us vs pins bars){b:Addr}(e:H b=none):b≠pP/\b≠pW/\b≠pB/\b≠lP/\b≠lB:=by
 obtain ⟨kP,kW,kB,R,W,_⟩:=h.fr
 refine ⟨fun z=> ?_,fun z=> ?_,fun z=> ?_,fun z=> ?_,fun z=> ?_⟩
 ·rw [z,R.pl] at e
  cases e
 ·rw [z,R.wy] at e
  cases e
 ·rw [z,R.br] at e
  cases e
 ·rw [z,h.hp] at e
  cases e
 ·rw [z,h.hb] at e
  cases e
theorem KO.at (k:KO pP pW pB lP lB H H'){b:Addr}{o:HO}(n:b≠pP/\b≠pW/\b≠pB/\b≠lP/\b≠lB)(e:H b=some o):H' b=some o:=k b o n.1 n.2.1 n.2.2.1 n.2.2.2.1 n.2.2.2.2 e
theorem WS.t (h:WS K H C fA dx pP pW pB lP lB us vs pins bars)(k:KO pP pW pB lP lB H H'):bg H H' :=fun b xs r=>by
 rcases r with r | ⟨o',r⟩
 ·exact .inl (k.at (h.away r (fun _ z=>nomatch z) fun _ z=>nomatch z) r)
 ·exact .inr ⟨o',k.at (h.away r (fun _ z=>nomatch z) fun _ z=>nomatch z) r⟩
theorem WS.way (h:WS K H C fA dx pP pW pB lP lB us vs pins bars){l:Addr}{xs:η}(e:H l=some (.lst xs))(n1:l≠lP)(n2:l≠lB):l≠pP/\l≠pW/\l≠pB/\l≠lP/\l≠lB:=by
 obtain ⟨kP,kW,kB,R,W,_⟩:=h.fr
 refine ⟨fun z=> ?_,fun z=> ?_,fun z=> ?_,n1,n2⟩
 ·rw [z,R.pl] at e
  cases e
 ·rw [z,R.wy] at e
  cases e
 ·rw [z,R.br] at e
  cases e
theorem WS.DS (h:WS K H C fA dx pP pW pB lP lB us vs pins bars)(k:KO pP pW pB lP lB H H'){v:V}{p:aE}(y:jo K H lP lB v p):jo K H' lP lB v p:=by
 obtain ⟨a,l,sv,ws,ev,h1,h2,h3,h4,h5,h6⟩:=y
 have t:=h.t k
 exact ⟨a,l,sv,ws,ev,t.cG h1,h2.aX t,k.at (h.way h3 h5 h6) h3,h4.aX t,h5,h6⟩
theorem WS.wys (h:WS K H C fA dx pP pW pB lP lB us vs pins bars)(k:KO pP pW pB lP lB H H'){kW:γ}{pw:List (Str×List (Rat×Rat))}(W:qc K H pw kW)(n:∀kv∈kW,kv.2≠.ref lP/\kv.2≠.ref lB):qc K H' pw kW:=by
 have t:=h.t k
 refine eG (Paired.length W) fun i p kv e1 e2=> ?_
 obtain ⟨kv',e3,z1,l,iW,z2,z3,z4⟩:=aH W e1
 rw [e2] at e3
 cases e3
 have nn:=n _ (ir e2)
 exact ⟨z1,l,iW,z2,k.at (h.way z3 (fun z=>nn.1 (by rw [z2,z])) (fun z=>nn.2 (by rw [z2,z]))) z3,z4.aX t⟩
end
inductive xU (K:Frag)(C:Addr)(vs:η)(H:Hp)(Q:VK)(E_:XK):Prop where
 | mk (fA dx pP pW pB lP lB:Addr) (us dj :η) (pins:ν) (bars:List aU) (sv:V) (lw:Addr) (ws:η) (p:aE) (_:vs=[.ref fA,.ref lP,.str p.nm,sv,.ref lw]) (_:WS K H C fA dx pP pW pB lP lB us dj pins bars) (_:ff K H sv p.sp) (_:H lw=some (.lst ws)) (_:g_ K H ws p.ws) (_:(lw≠lP/\lw≠lB)) (_:p.nm∉pins.map (·.nm)) (_:p.sp∉pins.map (·.sp)) (_:(Sz 44 p.sp.1/\Sz 44 p.sp.2)) (_:gY p.ws) (_:pins.length<=7) (_:∀(iW :η) (H' :Hp),KO pP pW pB lP lB H H' ->WS K H' C fA dx pP pW pB lP lB iW dj (pins++[p]) bars->Q .cv H'):xU K C vs H Q E_
theorem pJ:aD ["_law_frame_here","_law_pins_here","_law_name_here","_law_spot_here","_law_ways_here"] ["_law_frame_here","_law_pins_here","_law_name_here","_law_spot_here","_law_ways_here"] (ag cM):=sq
theorem pK {C CR CF fR:Addr}{U9:FuncData}(D:Def K mg "_law_put_pin" cM ["_law_frame_here","_law_pins_here","_law_name_here","_law_spot_here","_law_ways_here"])(ba:mg "len"=none)
  (DN:mg "Roller"=some (.ref CR)) (DO:mg "Fixed"=some (.ref CF)) (DP:Q9 K CF) (DQ:Mk K CR fR) (Qu:cB P w K mg base (aY P w) 1 fR U9 ["self","x","y"] (m8 K CR)) (DR:Binds K U9 ["self","x","y"] [])
  (wR:bx P w K mg base (aY P w) 2 CR "ways" ["self"] (gM K CR)) (wF:bx P w K mg base (aY P w) 2 CF "ways" ["self"] (gN K))
  (N2:bx P w K mg base (aY P w) 3 C "put_pin" ["self","name","x","y","hold"] (cO P w K mg base C)) (Ry:sH P w K mg base (aY P w) 3 C "put_pin" ["self","name","x","y","hold"] [.none] (cO P w K mg base C)):
  Fn P w K mg base (aY P w) 4 "_law_put_pin" ["_law_frame_here","_law_pins_here","_law_name_here","_law_spot_here","_law_ways_here"] (xU K C):=by
 refine D.ok pJ (fun vs H Q E h=> ?_) (fun f bE A outer s H vs Q E hr h=> ?_)
 ·obtain ⟨fA,dx,pP,pW,pB,lP,lB,us,dj,pins,bars,sv,lw,ws,p,rfl,_⟩:=h
  rfl
 obtain ⟨fA,dx,pP,pW,pB,lP,lB,us,dj,pins,bars,sv,lw,ws,p,rfl,st,hsv,hlw,hws,⟨nl1,Zd⟩,Ze,qj,hsz,wk,lp7,q⟩:=h
 have L3:3<=sizeLine:=by decide
 have lu:us.length=pins.length:=Paired.length st.pp
 obtain ⟨kP,kW,kB,R,W,nW⟩:=st.fr
 refine ⟨_,(ae (bf (i0 PySem.F.plainAttrs_list PySem.F.slot_list_append PySem.F.type_list_append c7 (pv 1) (ar (a9 (ar (pv 2) (ar (pv 3) (ar (pv 4) aa)))) aa)))
  (aj (bo (aR eC (aT aJ rfl ba cf (ar (pv 4) aa)) ak (aZ _)) (aj (bf (yx (k:=3) (pv 0) hr.mo (pY P w) (ar (pv 2) (ar (aL (pv 3)) (ar (aL (pv 3)) aa)))))) (aj (bo (aR eC (aT aJ rfl ba cf (ar (pv 4) aa)) ak (aZ _)) (aj (bf (cF (k:=3) (pv 0) hr.mo (pY P w) (ar (pv 2) (ar (aL (pv 3)) (ar (aL (pv 3)) (ar (yj DQ Qu hr.mo rfl DN DR .nil (pY P w) (ar (aL (yG (pv 4))) (ar (aL (yG (pv 4))) aa))) aa))))))) (aj (bf (cF (k:=3) (pv 0) hr.mo (pY P w) (ar (pv 2) (ar (aL (pv 3)) (ar (aL (pv 3)) (ar (GP DP rfl DO) aa)))))))))))),?_⟩
 refine ⟨_,rfl,.inl ⟨rfl,_,a8.of st.hp⟩,_,rfl,_,rfl,_,rfl,L3,?_⟩
 intro t1 n1;generalize eX:upd _ t1 _=H1;have ⟨s1,e1⟩:=nw n1 eX;clear eX
 refine ⟨lP,_,_,rfl,rfl,s1 _ _ st.hp,(by rw [lu];exact aar (show pins.length<=1000 by omega) (by decide)),?_⟩
 have st1:=st.same s1
 have k2:KO pP pW pB lP lB H (upd H1 lP (.lst (us++[.ref t1]))):=fun b o _ _ _ n4 _ e=>by rw [ao n4];exact s1 _ _ e
 have e2:(upd H1 lP (.lst (us++[.ref t1]))) lP=some (.lst (us++[.ref t1])):=ah
 have nP:pP≠lP:=fun z=>by have h:=R.pl;rw [z,st.hp] at h;cases h
 have Vr:pW≠lP:=fun z=>by have h:=R.wy;rw [z,st.hp] at h;cases h
 have nB:pB≠lP:=fun z=>by have h:=R.br;rw [z,st.hp] at h;cases h
 have Zf :pP≠lB:=fun z=>by have h:=R.pl;rw [z,st.hb] at h;cases h
 have Zg :pW≠lB:=fun z=>by have h:=R.wy;rw [z,st.hb] at h;cases h
 have ot:∀b o,b≠lP->H b=some o->(upd H1 lP (.lst (us++[.ref t1]))) b=some o:=fun b o n e=>by rw [ao n];exact s1 _ _ e
 have nt:t1≠lP:=fun z=>by rw [z,st.hp] at n1;cases n1
 have et:(upd H1 lP (.lst (us++[.ref t1]))) t1=some (.tup [.str p.nm,sv,.ref lw]):=by rw [ao nt];exact e1
 generalize upd H1 lP (.lst (us++[.ref t1]))=H2 at k2 e2 ot et ⊢
 have t2:=st.t k2
 have R2:d_ K H2 C fA dx pP pW pB (Kl pins) (wH bars) kP kW kB:=R.eg t2 ((k2.at (st.away R.obj (fun _ z=>nomatch z) fun _ z=>nomatch z) R.obj).trans R.obj.symm) ((ot _ _ nP R.pl).trans R.pl.symm) ((ot _ _ Vr R.wy).trans R.wy.symm) ((ot _ _ nB R.br).trans R.br.symm)
 have W2:=st.wys k2 W nW
 have abL:=ot _ _ nl1 hlw
 have abM:=hsv.aX t2
 have Vs:=hws.aX t2
 obtain ⟨sa,x1,y1,rfl,tO,Qq,J_⟩:=id abM
 have fin:∀(hv:V) (H5:Hp) (Q5:VK) (E5:XK),au H2 H5->IK P w K mg base H5 hv p.ws->(∀H',KO pP pW pB lP lB H H' ->WS K H' C fA dx pP pW pB lP lB (us++[.ref t1]) dj (pins++[p]) bars->Q5 .cv H')->cO P w K mg base C [.ref fA,.str p.nm,x1,y1,hv] H5 Q5 E5:=fun hv H5 Q5 E5 s5 hY fin=>by
  refine ⟨fA,dx,pP,pW,pB,_,_,kP,kW,_,_,p.nm,x1,y1,hv,mY p.sp,p.ws,rfl,R2.same s5,W2.same s5,by rw [aay,aay];rfl,Qq.same s5,J_.same s5,fun z=>Ze ?_,fun z hz e=>qj ?_,?_,hY,fun H' qd iT k' R' W' nl=> ?_⟩
  ·rw [aay] at z
   exact z
  ·obtain ⟨p',hG,e'⟩:=aab.mp hz
   rw [<- e'] at e
   exact aab.mpr ⟨p',hG,ahS (gJ (congrArg apP e)) (gJ (congrArg apQ e))⟩
  ·rw [aaa]
   omega
  have k0:KO pP pW pB lP lB H H' :=fun b o m1 m2 m3 m4 m5 e=>k' b o m1 m2 (s5 _ _ (k2 b o m1 m2 m3 m4 m5 e))
  have t0:=st.t k0
  have fr:=st.fresh n1
  refine fin H' k0 ⟨⟨qd,iT,kB,?_,?_,fun kv DL=> ?_⟩,k' _ _ (aaO nP) (aaO Vr) (s5 _ _ e2),eZ (Paired.bM st.pp fun _ _ z=>st.DS k0 z) ⟨t1,lw,_,ws,rfl,bN.of (k' _ _ fr.1 fr.2.1 (s5 _ _ et)),hsv.aX t0,k0.at (st.way hlw nl1 Zd) hlw,hws.aX t0,nl1,Zd⟩,k' _ _ (aaO Zf) (aaO Zg) (s5 _ _ (ot _ _ (aaO st.ne) st.hb)),Paired.bM st.pb fun u b z=> ?_,st.gp.snoc Ze qj hsz wk,⟨st.gb.nb,fun b hb=> ?_⟩,by rw [aas];simp;omega,st.lb,st.ne⟩
  ·rw [show Kl (pins++[p])=Kl pins++[(p.nm,mY p.sp)] from aaK]
   exact R'
  ·rw [show Zc (pins++[p])=Zc pins++[(p.nm,p.ws)] from aaK]
   exact W'
  ·obtain ⟨l9,e9,n9⟩:=nl
   rw [e9] at DL
   rcases aaF.mp DL with h | h
   ·exact nW kv h
   ·rw [aaw.mp h]
    refine ⟨fun z=> ?_,fun z=> ?_⟩
    ·injection z with z
     rw [z,s5 _ _ e2] at n9
     cases n9
    ·injection z with z
     rw [z,s5 _ _ (ot _ _ (aaO st.ne) st.hb)] at n9
     cases n9
  ·obtain ⟨a,i,j,e,h1,g1,g2⟩:=z
   exact ⟨a,i,j,e,t0.cG h1,by rw [aat (be.mp g1).1];exact g1,by rw [aat (be.mp g2).1];exact g2⟩
  ·obtain ⟨m1,m2,m3⟩:=st.gb.ends b hb
   exact ⟨aaZ _ m1,aaZ _ m2,m3⟩
 have l2:=a8.of (K:=K) abL
 have QE :ws.length=p.ws.length:=Paired.length hws
 refine ⟨_,rfl,lw,_,rfl,.inl l2,rfl,_,rfl,?_⟩
 rcases wk with hw | ⟨wx,wy,hw,wn,_,_⟩ | hw
 ·rw [hw] at QE
  refine bc (fun _=> ?_) (fun c=>by rw [QE] at c;simp at c)
  refine ⟨_,rfl,fA,C,dx,_,_,_,rfl,R2.obj,rfl,Ry,_,rfl,_,rfl,sa,_,_,_,rfl,rfl,tO,ib,_,rfl,sa,_,_,_,rfl,rfl,tO,iV,?_⟩
  dsimp only [fN]
  exact fin .cv H2 _ _ (au.refl _) (.inl ⟨rfl,hw⟩) fun H' k' W' =>q _ H' k' W'
 ·rw [hw] at QE Vs
  obtain ⟨w0,rfl⟩:∃w0,ws=[w0]:=by
   match ws,QE with
   | [w0],_=>exact ⟨w0,rfl⟩
  have hw0:ff K H2 w0 (wx,wy):=by
   cases Vs with
   | cons h _=>exact h
  obtain ⟨wa,y2,y3,rfl,GN,HA,Vb⟩:=hw0
  refine bc (fun c=>by simp at c) (fun _=> ?_)
  refine ⟨_,rfl,lw,_,rfl,.inl l2,rfl,_,rfl,?_⟩
  refine bc (fun _=> ?_) (fun c=>absurd rfl c)
  refine ⟨_,rfl,fA,C,dx,_,_,_,rfl,R2.obj,rfl,N2,_,rfl,_,rfl,sa,_,_,_,rfl,rfl,tO,ib,_,rfl,sa,_,_,_,rfl,rfl,tO,iV,?_⟩
  refine ⟨_,rfl,lw,_,_,_,rfl,rfl,l2,rfl,wa,_,_,_,rfl,rfl,GN,ib,_,rfl,lw,_,_,_,rfl,rfl,l2,rfl,wa,_,_,_,rfl,rfl,GN,iV,?_⟩
  intro du d1 Mh Qv ne1
  have s4:au H2 (upd (upd H2 d1 (.own du)) du (.ins CR d1 [])):=fun b o e=>by rw [ao (aq e Mh),ao (aq e Qv)];exact e
  have e4:(upd (upd H2 d1 (.own du)) du (.ins CR d1 [])) du =some (.ins CR d1 []):=ah
  generalize upd (upd H2 d1 (.own du)) du (.ins CR d1 [])=H4 at s4 e4 ⊢
  refine ⟨du,d1,y2,y3,wx,wy,rfl,e4,HA.same s4,Vb.same s4,wn,fun p5 n5=>⟨rfl,?_⟩⟩
  have ED:p5≠du :=fun z=>by rw [z,e4] at n5;cases n5
  have s5:au H2 (upd (upd H4 p5 (.tup [y2,y3])) du (.ins CR d1 [("way",.ref p5)])):=fun b o e=>by
   have z:b≠du :=fun z=>by rw [z,Mh] at e;cases e
   rw [ao z]
   exact aG n5 _ _ _ (s4 _ _ e)
  have e5:(upd (upd H4 p5 (.tup [y2,y3])) du (.ins CR d1 [("way",.ref p5)])) du =some (.ins CR d1 [("way",.ref p5)]):=ah
  have t5:(upd (upd H4 p5 (.tup [y2,y3])) du (.ins CR d1 [("way",.ref p5)])) p5=some (.tup [y2,y3]):=by rw [ao ED,ah]
  generalize upd (upd H4 p5 (.tup [y2,y3])) du (.ins CR d1 [("way",.ref p5)])=H5 at s5 e5 t5 ⊢
  have Qw:ff K H5 (.ref p5) (wx,wy):=jY t5 (HA.same s5) (Vb.same s5)
  dsimp only [fN]
  exact fin (.ref du) H5 _ _ s5 (.inr ⟨du,CR,d1,_,["self"],gM K CR,rfl,e5,ze _,wR,fun H6 e6 t6 Q' an=>⟨du,d1,p5,(wx,wy),rfl,e6,Qw.aX t6,by rw [hw] at an;exact an⟩⟩) fun H' k' W' =>q _ H' k' W'
 ·rw [hw] at QE
  refine bc (fun c=>by rw [QE] at c;simp at c) (fun _=> ?_)
  refine ⟨_,rfl,lw,_,rfl,.inl l2,rfl,_,rfl,?_⟩
  refine bc (fun c=>by rw [QE] at c;simp at c) (fun _=> ?_)
  refine ⟨_,rfl,fA,C,dx,_,_,_,rfl,R2.obj,rfl,N2,_,rfl,_,rfl,sa,_,_,_,rfl,rfl,tO,ib,_,rfl,sa,_,_,_,rfl,rfl,tO,iV,?_⟩
  intro du d1 Mh Qv ne1
  have s4:au H2 (upd (upd H2 d1 (.own du)) du (.ins CF d1 [])):=fun b o e=>by rw [ao (aq e Mh),ao (aq e Qv)];exact e
  have e4:(upd (upd H2 d1 (.own du)) du (.ins CF d1 [])) du =some (.ins CF d1 []):=ah
  generalize upd (upd H2 d1 (.own du)) du (.ins CF d1 [])=H4 at s4 e4 ⊢
  dsimp only [fN]
  exact fin (.ref du) H4 _ _ s4 (.inr ⟨du,CF,d1,_,["self"],gN K,rfl,e4,rfl,wF,fun H6 _ _ Q' an=>⟨du,rfl,by rw [hw] at an;exact an⟩⟩) fun H' k' W' =>q _ H' k' W'
def Ml (pins:ν)(i:Nat)(b:aU):Bool:=decide ((pins[i]?).map (·.nm)=some b.one.nm) || decide ((pins[i]?).map (·.nm)=some b.other.nm)
def Mm (pins:ν)(bars:List aU)(i:Nat):Bool:= !(bars.any (Ml pins i))
theorem N7 {pins:ν}(np:(pins.map (·.nm)).Nodup){i j:Nat}{p:aE}(e:pins[j]? =some p):(pins[i]?).map (·.nm)=some p.nm ↔ i=j:=by
 constructor
 ·intro h
  have e1:(pins.map (·.nm))[i]? =some p.nm:=by rw [Wp];exact h
  have e2:(pins.map (·.nm))[j]? =some p.nm:=by rw [Wp,e];rfl
  exact cy np e1 e2
 ·rintro rfl
  rw [e]
  rfl
theorem kN {α:Type}(g:aE->Str×α)(hg:∀p,(g p).1=p.nm):∀{pins:ν} {k:Nat} {p:aE},(pins.map (·.nm)).Nodup->pins[k]? =some p->(pins.map g).filter (fun b=>decide (b.1≠p.nm))=(pins.eraseIdx k).map g
 | q::ps,0,p,nd,e=>by
  cases e
  rw [aac,aaU] at nd
  rw [aac,abS (by rw [hg];simp),List.eraseIdx_cons_zero,ait]
  intro b hb
  obtain ⟨r,hr,rfl⟩:=aab.mp hb
  rw [hg]
  exact decide_eq_true (fun z=>nd.1 (by rw [<- z];exact aab.mpr ⟨r,hr,rfl⟩))
 | q::ps,k+1,p,nd,e=>by
  rw [aac,aaU] at nd
  have e' :ps[k]? =some p:=by simpa using e
  have ne:q.nm≠p.nm:=fun z=>nd.1 (by rw [z];exact aab.mpr ⟨p,ir e',rfl⟩)
  rw [aac,abR (by rw [hg];exact decide_eq_true ne),List.eraseIdx_cons_succ,aac,kN g hg nd.2 e']
theorem pM {pins:ν}{k i:Nat}(h:i≠k):(pins.eraseIdx k)[if k < i then i - 1 else i]? =pins[i]? :=by
 rw [abB]
 by_cases c:k < i
 ·rw [if_pos c,if_neg (by omega),show i - 1+1=i by omega]
 ·rw [if_neg c,if_pos (by omega)]
theorem eY.erase {pins:ν}(g:eY pins)(k:Nat):eY (pins.eraseIdx k):=by
 have sub:ahu (pins.eraseIdx k) pins:=ahN _ _
 exact ⟨g.np.sublist (sub.map _),g.ns.sublist (sub.map _),fun p hp=>g.sz p (sub.subset hp),fun p hp=>g.ws p (sub.subset hp)⟩
theorem vX {H:Hp}:∀fs:List Nat,fj K H (fs.map fun i:Nat=>Da.v (.int (i:Int))) (fs.map fun i:Nat=>V.int (i:Int))
 | []=>by
  unfold fj
  trivial
 | i::fs=>by
  show fj K H (_::_) (_::_)
  unfold fj
  refine ⟨?_,vX fs⟩
  unfold Is
  exact ⟨rfl,rfl⟩
theorem N8 {x y z:V}:fD [x,y,z] (some 1) (some 3)=[y,z]:=rfl
theorem abN {x y z:V}:fD [x,y,z] (some 3) none=[]:=rfl
theorem xV {X:Cx}{K:Frag}(h:X.K=K)(hc:X.calm=true):fw X (.builtin "any") (Pk K):=by subst h;exact AO hc
inductive Js (K:Frag)(C:Addr)(vs:η)(H:Hp)(Q:VK)(E_:XK):Prop where
 | mk (fA dx pP pW pB lP lB:Addr) (us dj :η) (pins:ν) (bars:List aU) (c:Int) (_:vs=[.ref fA,.ref lP,.ref lB,.int c]) (_:WS K H C fA dx pP pW pB lP lB us dj pins bars) (_:(∀H',au H H' ->Q .cv H')) (_:∀(k:Nat) (p:aE) (y:V) (iW Zh:η) (H' :Hp),pins[k]? =some p->KO pP pW pB lP lB H H' ->WS K H' C fA dx pP pW pB lP lB iW Zh (pins.eraseIdx k) bars->jo K H' lP lB y p->Q y H'):Js K C vs H Q E_
theorem bY:aD ["_law_frame_here","_law_pins_here","_law_bars_here","_law_cell","_law_free","_law_at","_law_gone","_law_k","_law_one","_law_other"] ["_law_frame_here","_law_pins_here","_law_bars_here","_law_cell"] (ag cN):=sq
theorem pO {C:Addr}(D:Def K mg "_law_pin_out" cN ["_law_frame_here","_law_pins_here","_law_bars_here","_law_cell"])(ba:mg "len"=none)(bL:mg "range"=none)(Jt:mg "any"=none)(pG:mg "int"=none)(dr:Fn P w K mg base (aY P w) 1 "_law_field" ["_law_cell","_law_prime","_law_many"] eQ)
  (MTk:bx P w K mg base (aY P w) 2 C "take_pin" ["self","name"] (gP K C)):
  Fn P w K mg base (aY P w) 3 "_law_pin_out" ["_law_frame_here","_law_pins_here","_law_bars_here","_law_cell"] (Js K C):=by
 refine D.ok bY (fun vs H Q E h=> ?_) (fun f bE A outer s H vs Q E hr h=> ?_)
 ·obtain ⟨fA,dx,pP,pW,pB,lP,lB,us,dj,pins,bars,c,rfl,_⟩:=h
  rfl
 obtain ⟨fA,dx,pP,pW,pB,lP,lB,us,dj,pins,bars,c,rfl,st,q0,q⟩:=h
 have L3:3<=sizeLine:=by decide
 have lu:us.length=pins.length:=Paired.length st.pp
 have lv:dj.length=bars.length:=Paired.length st.pb
 have lp8:=st.lp
 have lb8:=st.lb
 obtain ⟨kP,kW,kB,R,W,nW⟩:=st.fr
 refine ⟨_,(ae (HY (i:=4) bY.nd rfl (aai rfl) (yc:="_law_k") (tn:=["_law_k"]) (fr:=["_law_bars_here"]) (caps:=[2]) rfl ⟨rfl,rfl,by decide+kernel,by decide+kernel,rfl,⟨(by first | exact aai rfl | exact aa2 rfl),trivial⟩,⟨(by first | exact aai rfl | exact aa2 rfl),trivial⟩,fun _ _=>rfl,fun _=>rfl,by decide+kernel,by decide+kernel⟩ (dJ rfl bL (ar (aT aJ rfl ba cf (ar (pv 1) aa)) aa)) (fun _ _ _ _=>(aC (i:=0) (show (["_law_k","_law_bars_here"]:List Str).Nodup from by decide+kernel) rfl (aa2 rfl))) (fun _ _ _ _=>(GB (cS (cP (aT (xV (K:=K) rfl rfl) rfl Jt SY (ar (dC (tn:=["_law_bar"]) (fr:=["_law_k"]) (caps:=[0]) rfl ⟨rfl,by decide+kernel,rfl,by decide+kernel,by decide+kernel,rfl,⟨(by first | exact aai rfl | exact aa2 rfl),trivial⟩,⟨(by first | exact aai rfl | exact aa2 rfl),trivial⟩⟩ (GX (K:=K) rfl (pv 1)) (fun _ _ _ _=>(aC (i:=0) (show (["_law_bar","_law_k"]:List Str).Nodup from by decide+kernel) rfl (aai rfl))) (fun _ _ _ _=>dG) (fun _ _ _ _=>(jv (xo (K:=K) rfl) (pv 1) (dY (LD (K:=K) rfl) (pv 0) (dB ak) (dB ak)) rfl))) aa)))))) (fun _ _ _ _=>(pv 0)))
  (ae (bo (aR (mQ hr.units) (pv 4) (dk aa) (aZ _)) (aj (aI nA)) aQ)
  (ae (aF (i:=5) bY.nd rfl (aai rfl) (bq bt (pv 4) (aA dr hr.mo (pY P w) (ar (pv 3) (ar ak (ar (aT aJ rfl ba cf (ar (pv 4) aa)) aa)))) (fun _ _=>rfl)))
  (ae (aF (i:=6) bY.nd rfl (aai rfl) (i0 PySem.F.plainAttrs_list PySem.F.slot_list_pop PySem.F.type_list_pop uV (pv 1) (ar (pv 5) aa)))
  (ae (bf (cF (k:=2) (pv 0) hr.mo (pY P w) (ar (aL (pv 6)) aa)))
  (ae (bD PassesOwn.never rfl (dJ rfl bL (ar (aT aJ rfl ba cf (ar (pv 2) aa)) aa)) (aC (i:=7) bY.nd rfl (aai rfl)) (ae (nC (dY wZ (bq bt (pv 2) (pv 7) (fun _ _=>rfl)) (dB ak) (dB ak)) (dF rfl (aS (aC (i:=8) bY.nd rfl (aai rfl)) (aS (aC (i:=9) bY.nd rfl (aai rfl)) b_))))
   (aj (nC (aK La (a9 (ar (aL (bq bt (pv 2) (pv 7) (fun _ _=>rfl))) (ar (aK cU (pv 8) (b7 qS rfl pG FZ (ar (jv uO (pv 8) (pv 5) (aZ _)) aa))) (ar (aK cU (pv 9) (b7 qS rfl pG FZ (ar (jv uO (pv 9) (pv 5) (aZ _)) aa))) aa)))) (dY wZ (bq bt (pv 2) (pv 7) (fun _ _=>rfl)) (dB ak) iB)) (rX (pv 2) (pv 7) set_list)))))
  (aj (aI (pv 6))))))))),?_⟩
 refine ⟨_,rfl,lP,_,rfl,.inl (a8.of st.hp),((us.length:Nat):Int),rfl,by omega,by omega,fun lF nF=> ?_⟩
 refine vB (n:=us.length) (cap:=[some (.ref lB)]) (Mm pins bars) nF (aar (show us.length<=1000 by omega) (by decide)) (fun i H1 RR hi s1 kk=> ?_) (fun i H1 RR r=>⟨_,rfl,r⟩) fun H1 s1 eF=> ?_
 ·have Tj:=s1 _ _ st.hb
  refine ⟨_,rfl,lB,rfl,⟨_,a8.of Tj⟩,fun D2 n2=> ?_⟩
  refine dN (cap:=[some (.int (i:Int))]) (K:=K) (a:=lB) (xs:=dj) (fun j v _=>∀b,bars[j]? =some b->v=.bl (Ml pins i b)) n2 (aar (show dj.length<=1000 by omega) (by decide)) (fun H2 s2=>a8.of (s2 _ _ Tj)) (fun _ _ _ _ _ _ _ h=>h) ?_ ?_
  ·intro j u H2 R2 hu s2 k2
   obtain ⟨b,eb,a,i1,j1,rfl,h1,g1,g2⟩:=aH st.pb hu
   have h2:=Ty.au.cG (s1.trans s2) h1
   refine ⟨_,rfl,_,rfl,1,rfl,3,rfl,a,_,rfl,h2,(by show ¬ (HT.dX 3 0 (some 1)=0/\HT.dX 3 3 (some 3)=3);decide),?_⟩
   rw [N8]
   intro p3 n3;generalize eX:upd _ p3 _=H3;have ⟨s3,e3⟩:=nw n3 eX;clear eX
   refine ⟨p3,_,rfl,.inr (bN.of e3),rfl,rfl,k2 _ _ s3 fun b' qe => ?_⟩
   rw [eb] at qe
   cases qe
   congr 1
   have a1:=N7 st.gp.np (i:=i) g1
   have a2:=N7 st.gp.np (i:=i) g2
   show Q7 (.int (i:Int)) [.int (i1:Int),.int (j1:Int)]=Ml pins i b
   unfold Ml Q7
   simp only [ahx,List.any_nil,p_,aiu]
   have d1:((i1:Int)==(i:Int))=decide ((pins[i]?).map (·.nm)=some b.one.nm):=by
    rw [abj,decide_eq_true_iff,a1,beq_iff_eq]
    omega
   have d2:((j1:Int)==(i:Int))=decide ((pins[i]?).map (·.nm)=some b.other.nm):=by
    rw [abj,decide_eq_true_iff,a2,beq_iff_eq]
    omega
   rw [d1,d2]
  ·intro zs H2 lz hz s2 hD
   have ez:zs=(bars.map (Ml pins i)).map V.bl:=by
    refine aa8 fun j=> ?_
    by_cases cj:j < zs.length
    ·obtain ⟨b,eb⟩:∃b,bars[j]? =some b:=⟨_,gE (by omega)⟩
     have e1:zs[j]? =some zs[j]:=gE cj
     rw [e1,hz j _ e1 b eb,Wp,Wp,eb]
     rfl
    ·rw [aae (by omega),aae (by rw [aaa,aaa];omega)]
   rw [ez] at hD
   refine ⟨D2,_,rfl,a8.of hD,_,rfl,?_⟩
   have:=kk _ s2
   unfold Mm at this
   rw [List.any_map]
   exact this
 have st1:=st.same s1
 have R1:=R.same s1
 have W1:=W.same s1
 generalize ef:(aa_ us.length).filter (Mm pins bars)=fs at eF
 dsimp only [cI]
 refine e_ (fun σ' H' =>σ' =[some (.ref fA),some (.ref lP),some (.ref lB),some (.int c),some (.ref lF),none,none,none,none,none]/\au H1 H' /\fs≠[]) (fun Nx tL=> ?_) ?_
 ·refine ⟨_,rfl,(by show 0<=sizeLine;decide),?_⟩
  intro l2 n2;generalize eX:upd _ l2 _=H2;have ⟨s2,e2⟩:=nw n2 eX;clear eX
  refine ⟨fs.map fun i:Nat=>Da.v (.int (i:Int)),[],.inr ⟨?_,?_⟩,by cases fs <;> rfl,?_,_,rfl,?_⟩
  ·unfold Is
   exact ⟨lF,_,rfl,a8.of (s2 _ _ eF),vX fs⟩
  ·unfold Is
   refine ⟨l2,_,rfl,a8.of e2,?_⟩
   unfold fj
   trivial
  ·have:∀l:List Nat,fO (l.map fun i:Nat=>Da.v (.int (i:Int)))<=60:=fun l=>by
    induction l with
    | nil=>exact aaX _
    | cons i l ih=>
     show max (dep (Da.v (.int (i:Int)))) (fO (l.map fun i:Nat=>Da.v (.int (i:Int))))<=60
     have:dep (Da.v (.int (i:Int)))=0:=rfl
     omega
   exact this fs
  ·refine bc (fun _=> ?_) (fun cc=> ?_)
   ·exact q0 _ (s1.trans s2)
   ·refine tL _ _ ⟨rfl,s2,fun z=>cc ?_⟩
    rw [z]
    rfl
 rintro σ' H2 ⟨rfl,s2,nfs⟩
 have eF2:=s2 _ _ eF
 have iP:=st1.same s2
 have R2:=R1.same s2
 have W2:=W1.same s2
 have lf:0 < fs.length:=by
  cases fs with
  | nil=>exact absurd rfl nfs
  | cons a l=>exact Nat.succ_pos _
 refine ⟨_,rfl,_,rfl,_,rfl,lF,_,rfl,.inl (a8.of eF2),_,_,_,rfl,by decide,by decide,(by rw [aaa];omega),?_⟩
 have fi:=a_ (c:=c) (p:=7001) (m:=(((fs.map fun i:Nat=>V.int (i:Int)).length:Nat):Int)) (by rw [aaa];omega)
 generalize field c 7001 (((fs.map fun i:Nat=>V.int (i:Int)).length:Nat):Int)=fv at fi ⊢
 rw [aaa] at fi
 obtain ⟨fn,rfl⟩:∃n:Nat,fv=(n:Int):=⟨fv.toNat,by omega⟩
 have RJ:fn < fs.length:=by omega
 obtain ⟨k,ek⟩:∃k,fs[fn]? =some k:=⟨_,gE RJ⟩
 have mk:=ir ek
 rw [<- ef] at mk
 obtain ⟨mk1,mk2⟩:=aa4.mp mk
 have hk:k < us.length:=abb.mp mk1
 have af:jr (fs.map fun i:Nat=>V.int (i:Int)) (fn:Int)=some (.int (k:Int)):=cE (by rw [Wp,ek];rfl)
 refine ⟨lF,_,_,_,rfl,rfl,a8.of eF2,af,?_⟩
 obtain ⟨p,ep⟩:∃p,pins[k]? =some p:=⟨_,gE (by omega)⟩
 have mp:=ir ep
 obtain ⟨y,ey,hy⟩:=aH (bU iP.pp) ep
 have hy:jo K H2 lP lB y p:=hy
 have free:∀b∈bars,p.nm≠b.one.nm/\p.nm≠b.other.nm:=fun b hb=>by
  have h1:Ml pins k b=false:=by
   cases hc:Ml pins k b with
   | false=>rfl
   | true=>
    have:(bars.any (Ml pins k))=true:=ahP.mpr ⟨b,hb,hc⟩
    unfold Mm at mk2
    rw [this] at mk2
    cases mk2
  unfold Ml at h1
  rw [Bool.or_eq_false_iff] at h1
  have e1:(pins[k]?).map (·.nm)=some p.nm:=by rw [ep];rfl
  refine ⟨fun z=> ?_,fun z=> ?_⟩
  ·exact absurd (by rw [e1,z]) (of_decide_eq_false h1.1)
  ·exact absurd (by rw [e1,z]) (of_decide_eq_false h1.2)
 refine ⟨_,rfl,.inl ⟨rfl,_,a8.of iP.hp⟩,_,rfl,lP,us,(k:Int),k,y,rfl,rfl,iP.hp,by omega,by omega,HM hk,ey,?_⟩
 have k3:KO pP pW pB lP lB H2 (upd H2 lP (.lst (us.eraseIdx k))):=fun b o _ _ _ n4 _ e=>by rw [ao n4];exact e
 have e3:(upd H2 lP (.lst (us.eraseIdx k))) lP=some (.lst (us.eraseIdx k)):=ah
 have nP:pP≠lP:=fun z=>by have h:=R2.pl;rw [z,iP.hp] at h;cases h
 have Vr:pW≠lP:=fun z=>by have h:=R2.wy;rw [z,iP.hp] at h;cases h
 have nB:pB≠lP:=fun z=>by have h:=R2.br;rw [z,iP.hp] at h;cases h
 have Zf :pP≠lB:=fun z=>by have h:=R2.pl;rw [z,iP.hb] at h;cases h
 have Zg :pW≠lB:=fun z=>by have h:=R2.wy;rw [z,iP.hb] at h;cases h
 have nB' :pB≠lB:=fun z=>by have h:=R2.br;rw [z,iP.hb] at h;cases h
 have ot:∀b o,b≠lP->H2 b=some o->(upd H2 lP (.lst (us.eraseIdx k))) b=some o:=fun b o n e=>by rw [ao n];exact e
 generalize upd H2 lP (.lst (us.eraseIdx k))=H3 at k3 e3 ot ⊢
 have t3:=iP.t k3
 have R3:d_ K H3 C fA dx pP pW pB (Kl pins) (wH bars) kP kW kB:=R2.eg t3 ((k3.at (iP.away R2.obj (fun _ z=>nomatch z) fun _ z=>nomatch z) R2.obj).trans R2.obj.symm) ((ot _ _ nP R2.pl).trans R2.pl.symm) ((ot _ _ Vr R2.wy).trans R2.wy.symm) ((ot _ _ nB R2.br).trans R2.br.symm)
 have W3:=iP.wys k3 W2 nW
 have hy3:=iP.DS k3 hy
 obtain ⟨ta,la,sv,ws,rfl,h1,h2,h3,h4,h5,h6⟩:=id hy3
 refine ⟨_,rfl,fA,C,dx,_,_,_,rfl,R3.obj,rfl,MTk,_,rfl,ta,_,_,_,rfl,rfl,h1,rfl,?_⟩
 dsimp only [fN]
 refine ⟨fA,dx,pP,pW,pB,Kl pins,wH bars,kP,kW,kB,Zc pins,p.nm,rfl,R3,W3,by rw [aay,aay];rfl,by rw [aay];exact aab.mpr ⟨p,mp,rfl⟩,fun b hb=> ?_,fun H4 qd iT k4 R4 W4 sub=> ?_⟩
 ·obtain ⟨b',iQ,rfl⟩:=aab.mp hb
  exact free b' iQ
 rw [kN (fun p=>(p.nm,mY p.sp)) (fun _=>rfl) st.gp.np ep] at R4
 rw [kN (fun p=>(p.nm,p.ws)) (fun _=>rfl) st.gp.np ep] at W4
 have Zi:KO pP pW pB lP lB H2 H4:=fun b o m1 m2 m3 m4 m5 e=>k4 b o m1 m2 (k3 b o m1 m2 m3 m4 m5 e)
 have Mn:H4 lB=some (.lst dj):=k4 _ _ (aaO Zf) (aaO Zg) (ot _ _ (aaO st.ne) iP.hb)
 have hp4:H4 lP=some (.lst (us.eraseIdx k)):=k4 _ _ (aaO nP) (aaO Vr) e3
 have t24:=iP.t Zi
 have pe:∀{us:η} {l:ν} {j:Nat},Paired (jo K H4 lP lB) us l->Paired (jo K H4 lP lB) (us.eraseIdx j) (l.eraseIdx j):=fun {us l j} h=>by
  induction h generalizing j with
  | nil=>exact .nil
  | cons x t ih=>
   cases j with
   | zero=>exact t
   | succ j=>exact .cons x ih
 have Kb:∀(H5:Hp) (Zj:η),(∀b o,b≠lB->H4 b=some o->H5 b=some o)->H5 lB=some (.lst Zj)->Paired (g7 K H5 (pins.eraseIdx k)) Zj bars->WS K H5 C fA dx pP pW pB lP lB (us.eraseIdx k) Zj (pins.eraseIdx k) bars/\KO pP pW pB lP lB H H5:=fun H5 Zj k5 N9 pb5=>by
  have k25:KO pP pW pB lP lB H2 H5:=fun b o m1 m2 m3 m4 m5 e=>k5 b o m5 (Zi b o m1 m2 m3 m4 m5 e)
  have t5:bg H4 H5:=fun b xs r=>by
   rcases r with r | ⟨o',r⟩
   ·exact .inl (k5 _ _ (fun z=>by rw [z,Mn] at r;cases r) r)
   ·exact .inr ⟨o',k5 _ _ (fun z=>by rw [z,Mn] at r;cases r) r⟩
  have nw:∀kv∈iT,kv.2≠.ref lP/\kv.2≠.ref lB:=fun kv DL=>nW kv (sub kv DL)
  refine ⟨⟨⟨qd,iT,kB,R4.eg t5 ((k5 _ _ (fun z=>by have h:=R4.obj;rw [z,Mn] at h;cases h) R4.obj).trans R4.obj.symm) ((k5 _ _ Zf R4.pl).trans R4.pl.symm) ((k5 _ _ Zg R4.wy).trans R4.wy.symm) ((k5 _ _ nB' R4.br).trans R4.br.symm),?_,nw⟩,k5 _ _ st.ne hp4,Paired.bM (pe (j:=k) (Paired.bM iP.pp fun _ _ z=>iP.DS Zi z)) fun _ _ z=> ?_,N9,pb5,st.gp.erase k,⟨st.gb.nb,fun b hb=> ?_⟩,?_,st.lb,st.ne⟩,(KO.of (s1.trans s2)).trans k25⟩
  ·refine eG (Paired.length W4) fun i p' kv e1 e2=> ?_
   obtain ⟨kv',e3',z1,l,iW,z2,z3,z4⟩:=aH W4 e1
   rw [e2] at e3'
   cases e3'
   exact ⟨z1,l,iW,z2,k5 _ _ (fun z=>(nw _ (ir e2)).2 (by rw [z2,z])) z3,z4.aX t5⟩
  ·obtain ⟨a',l',U5,ws',ev',c1,c2,c3,c4,c5,c6⟩:=z
   exact ⟨a',l',U5,ws',ev',t5.cG c1,c2.aX t5,k5 _ _ c6 c3,c4.aX t5,c5,c6⟩
  ·obtain ⟨m1,m2,m3⟩:=st.gb.ends b hb
   obtain ⟨f1,f2⟩:=free b hb
   have ins:∀r∈pins,p.nm≠r.nm->r∈pins.eraseIdx k:=fun r hr ne=>by
    obtain ⟨i,ei⟩:=aad hr
    have ik:i≠k:=fun z=>by
     rw [z,ep] at ei
     cases ei
     exact ne rfl
    exact ir ((pM ik).trans ei)
   exact ⟨ins _ m1 f1,ins _ m2 f2,m3⟩
  ·rw [abO]
   split <;> omega
 refine ⟨_,rfl,lB,_,rfl,.inl (a8.of Mn),((dj.length:Nat):Int),rfl,by omega,by omega,fo (lo:=0) (n:=((dj.length:Nat):Int).toNat) (fun i σ H' =>∃(o7 o8 o9:Option V) (xs:η),σ=[some (.ref fA),some (.ref lP),some (.ref lB),some (.int c),some (.ref lF),some (.int (k:Int)),some (.ref ta),o7,o8,o9]/\(∀b o,b≠lB->H4 b=some o->H' b=some o)/\H' lB=some (.lst xs)/\xs.length=dj.length/\(∀(j:Nat) (u:V) (b:aU),j < i->xs[j]? =some u->bars[j]? =some b->g7 K H' (pins.eraseIdx k) u b)/\∀j,i<=j->xs[j]? =dj[j]?) ⟨none,none,none,dj,rfl,fun _ _ _ e=>e,Mn,rfl,fun j u b h=>absurd h (abG _),fun _ _=>rfl⟩ ?_ ?_⟩
 ·rintro i σ H5 hi ⟨o7,o8,o9,xs,rfl,k5,N9,lx,Zk,rest⟩
  have ei:(0:Int)+(i:Int)=(i:Int):=abo _
  rw [ei]
  have SE:i < dj.length:=by omega
  obtain ⟨u,eu⟩:∃u,dj[i]? =some u:=⟨_,gE SE⟩
  obtain ⟨b,eb,a,i1,j1,rfl,Tj,g1,g2⟩:=aH iP.pb eu
  obtain ⟨f1,f2⟩:=free b (ir eb)
  have t5:bg H4 H5:=fun b xs r=>by
   rcases r with r | ⟨o',r⟩
   ·exact .inl (k5 _ _ (fun z=>by rw [z,Mn] at r;cases r) r)
   ·exact .inr ⟨o',k5 _ _ (fun z=>by rw [z,Mn] at r;cases r) r⟩
  have ha5:bN K H5 a [.str b.nm,.int (i1:Int),.int (j1:Int)]:=t5.cG (t24.cG Tj)
  have ax:jr xs (i:Int)=some (.ref a):=cE (by rw [rest i (aah _)];exact eu)
  have n1k:i1≠k:=fun z=>by rw [z,ep] at g1;cases g1;exact f1 rfl
  have n2k:j1≠k:=fun z=>by rw [z,ep] at g2;cases g2;exact f2 rfl
  refine ⟨_,rfl,_,rfl,lB,_,_,_,rfl,rfl,a8.of N9,ax,1,rfl,3,rfl,a,_,rfl,ha5,(by show ¬ (HT.dX 3 0 (some 1)=0/\HT.dX 3 3 (some 3)=3);decide),?_⟩
  rw [N8]
  intro p6 n6;generalize eX:upd _ p6 _=H6;have ⟨s6,e6⟩:=nw n6 eX;clear eX
  refine ⟨p6,_,rfl,bN.of e6,rfl,_,_,rfl,_,_,rfl,rfl,?_⟩
  have hb6:=s6 _ _ N9
  have ha6:=Ty.au.cG s6 ha5
  refine ⟨_,rfl,_,rfl,lB,_,_,_,rfl,rfl,a8.of hb6,ax,a,_,_,_,rfl,rfl,ha6,pI,?_⟩
  refine ⟨_,rfl,_,rfl,_,rfl,_,_,rfl,rfl,.inr ⟨_,rfl,_,_,rfl,rfl,?_⟩⟩
  refine ⟨_,rfl,_,rfl,_,rfl,_,_,rfl,rfl,.inr ⟨_,rfl,_,_,rfl,rfl,L3,?_⟩⟩
  intro p7 n7;generalize eX:upd _ p7 _=H7;have ⟨s7,e7⟩:=nw n7 eX;clear eX
  have NY:=s7 _ _ hb6
  have ha7:=Ty.au.cG s7 ha6
  refine ⟨_,rfl,_,rfl,lB,_,_,_,rfl,rfl,a8.of NY,ax,3,rfl,a,_,rfl,ha7,(by show ¬ (HT.dX 3 0 (some 3)=0/\HT.dX 3 3 none=3);decide),?_⟩
  rw [abN]
  intro p8 n8;generalize eX:upd _ p8 _=H8;have ⟨s8,e8⟩:=nw n8 eX;clear eX
  have e78:=s8 _ _ e7
  have hb8:=s8 _ _ NY
  refine ⟨p7,p8,_,_,rfl,rfl,bN.of e78,bN.of e8,by simp,(by show 3<=sizeLine;decide),fun _=> ?_,fun z=>absurd rfl z⟩
  have ixn:Ka xs.length (i:Int)=some i:=sT (by omega)
  refine ⟨_,rfl,_,rfl,lB,_,_,i,rfl,rfl,hb8,ixn,?_⟩
  have Rn:=s6.trans (s7.trans s8)
  have sh:∀m:Nat,((m:Int) - (if decide ((k:Int) < (m:Int))=true then 1 else 0))=(((if k < m then m - 1 else m:Nat)):Int):=fun m=>by
   by_cases cm:k < m
   ·rw [if_pos (decide_eq_true (by omega)),if_pos cm]
    omega
   ·rw [if_neg (by simpa using cm),if_neg cm]
    omega
  have k9:∀b o,b≠lB->H5 b=some o->(upd H8 lB (.lst (xs.set i (.ref p7)))) b=some o:=fun b o n e=>by rw [ao n];exact Rn _ _ e
  have np7:p7≠lB:=fun z=>by rw [z,hb6] at n7;cases n7
  have e79:(upd H8 lB (.lst (xs.set i (.ref p7)))) p7=some (.tup [.str b.nm,.int (((if k < i1 then i1 - 1 else i1:Nat)):Int),.int (((if k < j1 then j1 - 1 else j1:Nat)):Int)]):=by
   rw [ao np7,e78, <- sh i1, <- sh j1]
  have t9:bg H5 (upd H8 lB (.lst (xs.set i (.ref p7)))):=fun b' ys r=>by
   rcases r with r | ⟨o',r⟩
   ·exact .inl (k9 _ _ (fun z=>by rw [z,N9] at r;cases r) r)
   ·exact .inr ⟨o',k9 _ _ (fun z=>by rw [z,N9] at r;cases r) r⟩
  refine ⟨_,_,_,xs.set i (.ref p7),rfl,fun b' o' n e=>k9 _ _ n (k5 _ _ n e),ah,by rw [anX];exact lx,fun j u' b' hj N3 qe => ?_,fun j hj=> ?_⟩
  ·by_cases cj:j=i
   ·subst cj
    rw [ahD (by omega)] at N3
    cases N3
    rw [eb] at qe
    cases qe
    exact ⟨p7,_,_,rfl,bN.of e79,(pM n1k).trans g1,(pM n2k).trans g2⟩
   ·rw [ahq (aaO cj)] at N3
    obtain ⟨a',i',j',e',c1,c2,c3⟩:=Zk j u' b' (by omega) N3 qe
    exact ⟨a',i',j',e',t9.cG c1,c2,c3⟩
  ·rw [ahq (by omega)]
   exact rest j (by omega)
 ·rintro σ H5 ⟨o7,o8,o9,xs,rfl,k5,N9,lx,Zk,rest⟩
  have en:((dj.length:Nat):Int).toNat=dj.length:=by omega
  rw [en] at Zk
  have pb5:Paired (g7 K H5 (pins.eraseIdx k)) xs bars:=eG (by omega) fun j u b e1 e2=>Zk j u b (by have:=(be.mp e1).1;omega) e1 e2
  obtain ⟨w5,ko⟩:=Kb H5 xs k5 N9 pb5
  refine ⟨_,rfl,q k p (.ref ta) _ xs H5 ep ko w5 ?_⟩
  have ta4:=iP.DS Zi hy
  obtain ⟨a',l',U5,ws',ev',c1,c2,c3,c4,c5,c6⟩:=ta4
  have t5:bg H4 H5:=fun b xs r=>by
   rcases r with r | ⟨o',r⟩
   ·exact .inl (k5 _ _ (fun z=>by rw [z,Mn] at r;cases r) r)
   ·exact .inr ⟨o',k5 _ _ (fun z=>by rw [z,Mn] at r;cases r) r⟩
  exact ⟨a',l',U5,ws',ev',t5.cG c1,c2.aX t5,k5 _ _ c6 c3,c4.aX t5,c5,c6⟩
theorem Mo (r:Rat)(n:Int):f9 (qr r) (n,1)=qr (r+(n:Rat)):=by
 have e:f9 (qr r) (n,1)=((qr r).1+n*(qr r).2,(qr r).2):=by
  unfold f9
  simp
 have g:aa' ((qr r).1+n*(qr r).2) (qr r).2=1:=by
  have:=kA r
  rw [<- this]
  simp
 rw [e,oG (q:=((qr r).1+n*(qr r).2,(qr r).2)) (cX r) g]
 congr 1
 have z:=xj (r:=r)
 have v:=fG r
 unfold vl at v ⊢
 push_cast
 grind
inductive QF (K:Frag)(C:Addr)(vs:η)(H:Hp)(Q:VK)(E_:XK):Prop where
 | mk (fA dx pP pW pB lP lB:Addr) (us dj :η) (pins:ν) (bars:List aU) (g:V) (c:Int) (_:vs=[.ref fA,.ref lP,g,.int c]) (_:WS K H C fA dx pP pW pB lP lB us dj pins bars) (_:pins.length<=7) (_:((g=.cv/\∀p∈pins,p.nm≠ "far"/\p.sp.1<=1000001)\/∃p,jo K H lP lB g p/\p.nm∉pins.map (·.nm)/\p.sp∉pins.map (·.sp)/\Sz 44 p.sp.1/\Sz 20 p.sp.2/\ -500002<=p.sp.2/\∀q∈pins,q.sp.2<=500002)) (_:∀(p:aE) (iW :η) (H' :Hp),KO pP pW pB lP lB H H' ->WS K H' C fA dx pP pW pB lP lB iW dj (pins++[p]) bars->Q .cv H'):QF K C vs H Q E_
theorem f_:aD ["_law_frame_here","_law_pins_here","_law_gone","_law_cell","_law_spot_here","_law_up"] ["_law_frame_here","_law_pins_here","_law_gone","_law_cell"] (ag df):=sq
theorem qB {C:Addr}(D:Def K mg "_law_pin_in" df ["_law_frame_here","_law_pins_here","_law_gone","_law_cell"])(dr:Fn P w K mg base (aY P w) 1 "_law_field" ["_law_cell","_law_prime","_law_many"] eQ)(Mf:Fn P w K mg base (aY P w) 34 "_law_ways" ["_law_cell"] (nj K))(tK:Fn P w K mg base (aY P w) 1 "_law_sum" ["_law_one","_law_other"] (dq K f9))
  (i8:Fn P w K mg base (aY P w) 4 "_law_put_pin" ["_law_frame_here","_law_pins_here","_law_name_here","_law_spot_here","_law_ways_here"] (xU K C)):
  Fn P w K mg base (aY P w) 35 "_law_pin_in" ["_law_frame_here","_law_pins_here","_law_gone","_law_cell"] (QF K C):=by
 refine D.ok f_ (fun vs H Q E h=> ?_) (fun f bE A outer s H vs Q E hr h=> ?_)
 ·obtain ⟨fA,dx,pP,pW,pB,lP,lB,us,dj,pins,bars,g,c,rfl,_⟩:=h
  rfl
 obtain ⟨fA,dx,pP,pW,pB,lP,lB,us,dj,pins,bars,g,c,rfl,st,lp7,hg,q⟩:=h
 have L2:2<=sizeLine:=by decide
 refine ⟨_,(aj (bo (aR wM (pv 2) nA (aZ _)) (ae (aF (i:=4) f_.nd rfl (aai rfl) (a9 (ar (a9 (ar ak (ar ak aa))) (ar (a9 (ar (aA dr hr.mo pX (ar (pv 3) (ar ak (ar ak aa)))) (ar ak aa))) aa))))
   (aj (bf (aA i8 hr.mo pX (ar (pv 0) (ar (pv 1) (ar kh (ar (pv 4) (ar (aA Mf hr.mo pX (ar (pv 3) aa)) aa))))))))) (ae (aF (i:=5) f_.nd rfl (aai rfl) (aA tK hr.mo pX (ar (aL (aL (pv 2))) (ar (a9 (ar (aK cu ak (aA dr hr.mo pX (ar (pv 3) (ar ak (ar ak aa))))) (ar ak aa))) aa))))
   (aj (bf (aA i8 hr.mo pX (ar (pv 0) (ar (pv 1) (ar (aL (pv 2)) (ar (a9 (ar (aL (aL (pv 2))) (ar (pv 5) aa))) (ar (aA Mf hr.mo pX (ar (pv 3) aa)) aa))))))))))),?_⟩
 refine ⟨_,rfl,rfl,_,rfl,?_⟩
 rcases hg with ⟨rfl,hf⟩ | ⟨p,hy,Ze,qj,z1,z2,yb,qb⟩
 ·refine bc (fun _=> ?_) (fun cc=>absurd (by decide) cc)
  have i2:=a_ (c:=c) (p:=2003) (m:=99) (by decide)
  refine ⟨L2,?_⟩
  intro p1 n1;generalize eX:upd _ p1 _=H1;have ⟨s1,e1⟩:=nw n1 eX;clear eX
  refine ⟨_,rfl,_,_,_,rfl,by decide,by decide,by decide,L2,?_⟩
  intro p2 n2;generalize eX:upd _ p2 _=H2;have ⟨s2,e2⟩:=nw n2 eX;clear eX
  refine ⟨L2,?_⟩
  intro p3 n3;generalize eX:upd _ p3 _=H3;have ⟨s3,e3⟩:=nw n3 eX;clear eX
  have uG:=s1.trans (s2.trans s3)
  refine ⟨_,rfl,_,rfl,_,rfl,_,rfl,_,rfl,fun l8 U6 ws H8 wk s8 n8 e8 p8=> ?_⟩
  try dsimp only [fN]
  have hpt:ff K H3 (.ref p3) (((2000003:Int):Rat),((field c 2003 99:Int):Rat)):=jY e3 ((pj _ e1).same (s2.trans s3)) ((pj _ e2).same s3)
  have fr:=(st.same uG).fresh n8
  refine ⟨fA,dx,pP,pW,pB,lP,lB,us,dj,pins,bars,.ref p3,l8,U6,⟨"far",(((2000003:Int):Rat),((field c 2003 99:Int):Rat)),ws⟩,rfl,st.same (uG.trans s8),hpt.same s8,e8,p8,⟨fr.2.2.2.1,fr.2.2.2.2⟩,fun z=> ?_,fun z=> ?_,⟨?_,?_⟩,wk,lp7,fun iW H' k' W' =>q _ iW H' ((KO.of (uG.trans s8)).trans k') W'⟩
  ·obtain ⟨p',hG,e'⟩:=aab.mp z
   exact (hf p' hG).1 e'
  ·obtain ⟨p',hG,e'⟩:=aab.mp z
   have h1:=(hf p' hG).2
   rw [e'] at h1
   have h2:((2000003:Int):Rat)<=1000001:=h1
   exact absurd h2 (by decide+kernel)
  ·exact kC (by decide) (by decide)
  ·exact kC (aaD (show _ < 128 by omega) (by decide)) (by decide)
 ·obtain ⟨ta,la,sv,ws0,rfl,h1,h2,h3,h4,h5,h6⟩:=id hy
  obtain ⟨sa,x1,y1,rfl,tO,Qq,J_⟩:=h2
  refine bc (fun cc=>absurd (of_decide_eq_true cc) (fun z=>nomatch z)) (fun _=> ?_)
  have i2:=a_ (c:=c) (p:=3001) (m:=2) (by decide)
  refine ⟨_,rfl,ta,_,_,_,rfl,rfl,h1,rfl,sa,_,_,_,rfl,rfl,tO,iV,_,rfl,_,_,_,rfl,by decide,by decide,by decide,_,_,rfl,rfl,⟨by decide+kernel,aaf (intBits_le_64 (by omega) (by omega)) (by decide)⟩,L2,?_⟩
  intro p2 n2;generalize eX:upd _ p2 _=H2;have ⟨s2,e2⟩:=nw n2 eX;clear eX
  try dsimp only [fN]
  generalize field c 3001 2=fv at i2 e2 ⊢
  have nb:Ns 22 (4000037*fv,(1:Int)):=⟨by show (4000037*fv).natAbs<=4194304;omega,by show 1<=2^22;decide⟩
  refine ⟨y1,.ref p2,qr p.sp.2,(4000037*fv,1),20,22,rfl,J_.same s2,⟨p2,rfl,bN.of e2⟩,N1 z2,nb,by decide,fun p5 H5 s5 e5=> ?_⟩
  rw [Mo] at e5
  have LU:=s2.trans s5
  have du :=Ty.au.cG LU h1
  have abV :=Ty.au.cG LU tO
  refine ⟨_,rfl,_,rfl,_,rfl,ta,_,_,_,rfl,rfl,du,pI,_,rfl,ta,_,_,_,rfl,rfl,du,rfl,sa,_,_,_,rfl,rfl,abV,ib,_,rfl,L2,?_⟩
  intro p6 n6;generalize eX:upd _ p6 _=H6;have ⟨s6,e6⟩:=nw n6 eX;clear eX
  have y6:=LU.trans s6
  refine ⟨_,rfl,_,rfl,fun l8 U6 ws H8 wk s8 n8 e8 p8=> ?_⟩
  try dsimp only [fN]
  have hpt:ff K H6 (.ref p6) (p.sp.1,p.sp.2+((4000037*fv:Int):Rat)):=jY e6 (Qq.same y6) ((jX e5).same s6)
  have fr:=(st.same y6).fresh n8
  refine ⟨fA,dx,pP,pW,pB,lP,lB,us,dj,pins,bars,.ref p6,l8,U6,⟨p.nm,(p.sp.1,p.sp.2+((4000037*fv:Int):Rat)),ws⟩,rfl,st.same (y6.trans s8),hpt.same s8,e8,p8,⟨fr.2.2.2.1,fr.2.2.2.2⟩,Ze,fun z=> ?_,⟨z1,?_⟩,wk,lp7,fun iW H' k' W' =>q _ iW H' ((KO.of (y6.trans s8)).trans k') W'⟩
  ·obtain ⟨p',hG,e'⟩:=aab.mp z
   have two:fv=0\/fv=1:=by omega
   rcases two with rfl | rfl
   ·refine qj (aab.mpr ⟨p',hG,e'.trans ?_⟩)
    refine ahS rfl ?_
    show p.sp.2+((4000037*0:Int):Rat)=p.sp.2
    have:((4000037*0:Int):Rat)=0:=by decide+kernel
    rw [this]
    grind
   ·have h1:=qb p' hG
    rw [e'] at h1
    have h2:p.sp.2+((4000037*1:Int):Rat)<=500002:=h1
    have:((4000037*1:Int):Rat)=4000037:=by decide+kernel
    rw [this] at h2
    grind
  ·exact (z2.add (kC (i:=4000037*fv) (k:=22) (by show _ < 4194304;omega) (by decide))).up (by decide)
mutual
theorem Mp {H:Hp}:∀(d:Da) (x:V),Is K H d x->alike d d=true/\fY d d=true
 | .v a,x,h=>by
  unfold Is at h
  unfold alike fY
  exact ⟨rfl,uZ h.2⟩
 | .t ds,x,h=>by
  unfold Is at h
  unfold alike fY
  obtain ⟨p,xs,_,_,k⟩:=h
  exact j5 ds xs k
 | .l ds,x,h=>by
  unfold Is at h
  unfold alike fY
  obtain ⟨p,xs,_,_,k⟩:=h
  exact j5 ds xs k
theorem j5 {H:Hp}:∀(ds:List Da) (xs:η),fj K H ds xs->cV ds ds=true/\cC ds ds=true
 | [],_,_=>⟨rfl,rfl⟩
 | d::ds,[],h=>by unfold fj at h;exact h.elim
 | d::ds,x::xs,h=>by
  unfold fj at h
  unfold cV cC
  obtain ⟨a1,a2⟩:=Mp d x h.1
  obtain ⟨b1,b2⟩:=j5 ds xs h.2
  rw [a1,a2,b1,b2]
  exact ⟨rfl,rfl⟩
end
theorem pQ {α:Type}{f:α->Da}(h:∀a,dep (f a)<=60):∀l:List α,fO (l.map f)<=60
 | []=>aaX _
 | a::l=>by
  show max (dep (f a)) (fO (l.map f))<=60
  have h1:=h a
  have h2:=pQ h l
  omega
theorem zl {α:Type}{H:Hp}{f:α->Da}{R:V->α->Prop}(h:∀u a,R u a->Is K H (f a) u):∀{us:η} {l:List α},Paired R us l->fj K H (l.map f) us
 | [],[],.nil=>by
  unfold fj
  trivial
 | _::_,_::_,.cons z t=>by
  show fj K H (_::_) _
  unfold fj
  exact ⟨h _ _ z,zl h t⟩
theorem QG {H:Hp}(x:Str):Is K H (.v (.str x)) (.str x):=by
 unfold Is
 exact ⟨rfl,rfl⟩
theorem DT (xs:List Str):Paired (fun u (x:Str)=>u=V.str x) (xs.map V.str) xs:=by
 induction xs with
 | nil=>exact .nil
 | cons x xs ih=>exact .cons rfl ih
theorem nq {H:Hp}{l:Addr}{xs:List Str}(h:a8 K H l (xs.map V.str)):Is K H (.l (xs.map fun x=>.v (.str x))) (.ref l):=by
 unfold Is
 exact ⟨l,_,rfl,h,zl (fun u a z=>by rw [z];exact QG a) (DT xs)⟩
theorem Vt {H:Hp}{ds:List Da}{x y:V}{Q:VK}(h1:Is K H (.l ds) x)(h2:Is K H (.l ds) y)(hd:fO ds<=60)(q:Q (.bl false) H):u0 K x y H Q:=by
 have h:=h1
 unfold Is at h
 obtain ⟨p,xs,_,_,k⟩:=h
 obtain ⟨b1,b2⟩:=j5 ds xs k
 refine ⟨ds,ds,.inr ⟨h1,h2⟩,b1,hd,?_⟩
 rw [b2]
 exact q
inductive xW (K:Frag)(vs:η)(H:Hp)(Q:VK)(E_:XK):Prop where
 | mk (lB dT dS:Addr) (dj :η) (pins:ν) (bars:List aU) (kT kS:γ) (_:vs=[.ref lB,.ref dT,.ref dS]) (_:H lB=some (.lst dj)) (_:Paired (g7 K H pins) dj bars) (_:H dT=some (.dK kT)) (_:H dS=some (.dK kS)) (_:(∀b∈bars,(bB kT (.inr b.nm)).isSome≠(bB kS (.inr b.nm)).isSome)) (_:∀H',au H H' ->Q (.bl true) H'):xW K vs H Q E_
theorem eR:aD ["_law_bars_here","_law_told","_law_spare","_law_name_here","_law_one","_law_other"] ["_law_bars_here","_law_told","_law_spare"] (ag de):=sq
theorem qC (D:Def K mg "_law_parted" de ["_law_bars_here","_law_told","_law_spare"]):
  Fn P w K mg base (aY P w) 1 "_law_parted" ["_law_bars_here","_law_told","_law_spare"] (xW K):=by
 refine D.ok eR (fun vs H Q E h=> ?_) (fun f bE A outer s H vs Q E hr h=> ?_)
 ·obtain ⟨lB,dT,dS,dj,pins,bars,kT,kS,rfl,_⟩:=h
  rfl
 obtain ⟨lB,dT,dS,dj,pins,bars,kT,kS,rfl,hB,pb,hT,hS,ne,q⟩:=h
 refine ⟨_,(ae (bD PassesOwn.never rfl (bu (pv 0)) (dF rfl (aS (aC (i:=3) eR.nd rfl (aai rfl)) (aS (aC (i:=4) eR.nd rfl (aai rfl)) (aS (aC (i:=5) eR.nd rfl (aai rfl)) b_)))) (aj (bo (aR eC (ER (oj (bR hr) (pv 3) (pv 1))) (ER (oj (bR hr) (pv 3) (pv 2))) (aZ _)) (aj (aI dW)) aQ)))
  (aj (aI dW))),?_⟩
 refine ⟨_,rfl,lB,rfl,⟨_,a8.of hB⟩,bO (K:=K) (a:=lB) (xs:=dj) (fun i σ H' =>∃(o3 o4 o5:Option V),σ=[some (.ref lB),some (.ref dT),some (.ref dS),o3,o4,o5]/\H' =H) ⟨none,none,none,rfl,rfl⟩ (fun i σ H' _ h=>by
   obtain ⟨_,_,_,_,rfl⟩:=h
   exact a8.of hB) ?_ ?_⟩
 ·rintro i u σ H1 hu ⟨o3,o4,o5,rfl,rfl⟩
  obtain ⟨b,eb,a,i1,i2,rfl,h1,_⟩:=aH pb hu
  refine ⟨a,_,rfl,h1,rfl,_,_,rfl,_,_,rfl,_,_,rfl,rfl,?_⟩
  have n:=ne b (ir eb)
  refine ⟨_,rfl,_,rfl,dT,_,rfl,d5.k (k:=.inr b.nm) hT,_,rfl,_,rfl,dS,_,rfl,d5.k (k:=.inr b.nm) hS,?_⟩
  refine ⟨rfl,_,rfl,?_⟩
  refine bc (fun c=>absurd (of_decide_eq_true c) fun z=>n (by injection z)) (fun _=> ?_)
  exact ⟨_,_,_,rfl,rfl⟩
 ·rintro σ H1 ⟨o3,o4,o5,rfl,rfl⟩
  exact q _ (au.refl _)
theorem tW {bars:List aU}(nb:(bars.map (·.nm)).Nodup){b c:aU}(hb:b∈bars)(hc:c∈bars)(e:b.nm=c.nm):b=c:=by
 obtain ⟨i,ei⟩:=aad hb
 obtain ⟨j,ej⟩:=aad hc
 have f1:(bars.map (·.nm))[i]? =some b.nm:=by rw [Wp,ei];rfl
 have f2:(bars.map (·.nm))[j]? =some b.nm:=by rw [Wp,ej,e];rfl
 have:=cy nb f1 f2
 rw [this,ej] at ei
 cases ei
 rfl
theorem xX {α:Type}[DecidableEq α]:∀{l' l:List α},ahu l' l->l.Nodup->l.filter (fun x=>decide (x∈l'))=l' :=by
 intro l' l h
 induction h with
 | slnil=>
  intro _
  rfl
 | @cons l1 l2 a hs ih=>
  intro nd
  rw [aaU] at nd
  rw [abS (by simpa using fun z=>nd.1 (hs.subset z)),ih nd.2]
 | @cons_cons l1 l2 a hs ih=>
  intro nd
  rw [aaU] at nd
  rw [abR (by simp)]
  congr 1
  have e:l2.filter (fun x=>decide (x∈a::l1))=l2.filter (fun x=>decide (x∈l1)):=ah_ fun x hx=>by
   rw [abj,decide_eq_true_iff,decide_eq_true_iff]
   constructor
   ·intro z
    rcases aaN.mp z with z | z
    ·exact absurd (by rw [<- z];exact hx) nd.1
    ·exact z
   ·exact fun z=>aag _ z
  rw [e,ih nd.2]
theorem Ju {α:Type}[DecidableEq α]{l' l:List α}(h:ahu l' l)(nd:l.Nodup){p:α->Bool}(hp:∀x,p x=true ↔ x∈l'):l.filter p=l' :=
 (ah_ fun x _=>by rw [abj,hp,decide_eq_true_iff]).trans (xX h nd)
theorem tX {α:Type}:∀(l:List α) (o:Nat) (ys:List (Nat×α)),(ys.map (·.1)).Pairwise (· < ·)->(∀y∈ys,o<=y.1/\l[y.1 - o]? =some y.2)->ahu (ys.map (·.2)) l
 | l,o,[],_,_=>List.nil_sublist _
 | [],o,y::ys,_,h=>by
  have:=(h y aaq).2
  simp at this
 | a::l,o,y::ys,p,h=>by
  rw [aac,ahB] at p
  have up:∀z∈ys,y.1 < z.1:=fun z hz=>p.1 _ (aab.mpr ⟨z,hz,rfl⟩)
  obtain ⟨h1,h2⟩:=h y aaq
  have st:∀z:Nat×α,o < z.1->(o<=z.1/\(a::l)[z.1 - o]? =some z.2)->o+1<=z.1/\l[z.1 - (o+1)]? =some z.2:=fun z hz hh=>by
   refine ⟨hz,?_⟩
   have e:=hh.2
   rw [show z.1 - o=(z.1 - (o+1))+1 by omega,List.getElem?_cons_succ] at e
   exact e
  by_cases c:y.1=o
  ·rw [c,Nat.sub_self] at h2
   cases h2
   rw [aac]
   exact (tX l (o+1) ys p.2 fun z hz=>st z (by have:=up z hz;omega) (h z (aag _ hz))).cons_cons _
  ·refine (tX l (o+1) (y::ys) (by rw [aac,ahB];exact p) fun z hz=> ?_).cons _
   refine st z ?_ (h z hz)
   rcases aaN.mp hz with e | e
   ·rw [e]
    omega
   ·have:=up z e
    omega
section
variable {H:Hp}{pins:ν}{bars:List aU}{d:Addr}{kT:γ}{ns:List DK}{N:Nat}
theorem zo:∀{kT:γ} {ns:List DK},Paired (L8 K H pins bars d N) kT ns->∃ys:List (Nat×aU),ys.map (·.1)=ns.map (·.1)/\(∀y∈ys,0<=y.1/\bars[y.1 - 0]? =some y.2)/\kT.map (·.1)=(ys.map (·.2)).map (fun b=>(aa6 b.nm:Key))
 | _,_,.nil=>⟨[],rfl,(fun y h=>nomatch h),rfl⟩
 | _,_,.cons (b:=n) h t=>by
  obtain ⟨b,dM,kM,e1,e2,_⟩:=h
  obtain ⟨ys,h1,h2,h3⟩:=zo t
  refine ⟨(n.1,b)::ys,by rw [aac,aac,h1],fun y hy=> ?_,by rw [aac,aac,aac,h3,e2]⟩
  rcases aaN.mp hy with z | z
  ·rw [z]
   exact ⟨aaX _,e1⟩
  ·exact h2 y z
theorem fV.names (h:fV K H pins bars d kT ns N)(nb:(bars.map (·.nm)).Nodup):kT.map (·.1)=((bars.filter fun b=>(bB kT (.inr b.nm)).isSome).map (·.nm)).map (fun x=>(aa6 x:Key)):=by
 obtain ⟨ys,h1,h2,h3⟩:=zo h.pr
 have sb:ahu (ys.map (·.2)) bars:=tX bars 0 ys (by rw [h1];exact h.asc) h2
 have sn:ahu ((ys.map (·.2)).map (·.nm)) (bars.map (·.nm)):=sb.map _
 have kn:kT.map (·.1)=((ys.map (·.2)).map (·.nm)).map (fun x=>(aa6 x:Key)):=by rw [h3,aay,aay,aay];rfl
 have pe:∀x:Str,(bB kT (.inr x)).isSome=true ↔ x∈(ys.map (·.2)).map (·.nm):=fun x=>by
  rw [<- dE, <- kn]
  constructor
  ·intro z
   obtain ⟨v,e⟩:=ac_.mp z
   exact aab.mpr ⟨_,oE e,rfl⟩
  ·intro z
   obtain ⟨v,e⟩:=dO z
   rw [e]
   rfl
 have fe:=Ju sn nb (p:=fun x=>(bB kT (.inr x)).isSome) pe
 rw [List.filter_map] at fe
 rw [kn, <- fe]
 rfl
theorem fV.at (h:fV K H pins bars d kT ns N)(nb:(bars.map (·.nm)).Nodup){b:aU}(hb:b∈bars)(e:(bB kT (.inr b.nm)).isSome=true):∃n dM kM,n∈ns/\bars[n.1]? =some b/\bB kT (.inr b.nm)=some (.ref dM)/\DJ K H pins dM kM n.2 N:=by
 obtain ⟨v,ev⟩:=ac_.mp e
 obtain ⟨i,ei⟩:=aad (oE ev)
 obtain ⟨n,en,b',dM,kM,eb,ek,_,hM⟩:=aH h.pr ei
 obtain ⟨e1,rfl⟩:=Prod.mk.inj ek
 have:=tW nb hb (ir eb) (aba e1)
 exact ⟨n,dM,kM,ir en,by rw [this];exact eb,ev,hM⟩
end
def Rz (b:aU)(i j:Nat):List Da:=[.v (.str b.nm),.v (.int (i:Int)),.v (.int (j:Int))]
theorem tY {H:Hp}{a:Addr}{b:aU}{i j:Nat}(h:bN K H a [.str b.nm,.int (i:Int),.int (j:Int)]):Is K H (.t (Rz b i j)) (.ref a):=by
 unfold Is
 refine ⟨a,_,rfl,h,?_⟩
 unfold Rz
 unfold fj
 refine ⟨by unfold Is;exact ⟨rfl,rfl⟩,?_⟩
 unfold fj
 refine ⟨by unfold Is;exact ⟨rfl,rfl⟩,?_⟩
 unfold fj
 refine ⟨by unfold Is;exact ⟨rfl,rfl⟩,?_⟩
 unfold fj
 trivial
theorem QH {pins:ν}{bars:List aU}(np:(pins.map (·.nm)).Nodup)(nb:(bars.map (·.nm)).Nodup){b c:aU}{i j k l:Nat}(hb:b∈bars)(hc:c∈bars)(e1:pins[i]? =some b.one)(e2:pins[j]? =some b.other)(e3:pins[k]? =some c.one)(e4:pins[l]? =some c.other):cC (Rz b i j) (Rz c k l)=decide (b.nm=c.nm):=by
 simp only [Rz,cC,fY,p_,aia]
 by_cases z:b.nm=c.nm
 ·have:=tW nb hb hc z
  subst this
  have at' :∀{i k:Nat} {p:aE},pins[i]? =some p->pins[k]? =some p->i=k:=fun {i k p} f1 f2=>cy np (x:=p.nm) (by rw [Wp,f1];rfl) (by rw [Wp,f2];rfl)
  rw [at' e1 e3,at' e2 e4]
  simp
 ·simp [z]
inductive nv (K:Frag)(vs:η)(H:Hp)(Q:VK)(E_:XK):Prop where
 | mk (lP lB dm:Addr) (us dj :η) (pins:ν) (bars:List aU) (kT:γ) (ns:List DK) (_:vs=[.ref lP,.ref lB,.ref dm]) (_:H lP=some (.lst us)) (_:Paired (gZ K H) us pins) (_:eY pins) (_:H lB=some (.lst dj)) (_:Paired (g7 K H pins) dj bars) (_:(bars.map (·.nm)).Nodup) (_:pins.length<=9) (_:bars.length<=14) (_:H dm=some (.dK kT)) (_:fV K H pins bars dm kT ns 63000) (_:∀H',au H H' ->Q (.bl true) H'):nv K vs H Q E_
theorem rO:aD ["_law_pins_here","_law_bars_here","_law_told","_law_needed","_law_one","_law_motion","_law_bar","_law_longer_here"] ["_law_pins_here","_law_bars_here","_law_told"] (ag CI):=sq
theorem Vu (D:Def K mg "_law_right" CI ["_law_pins_here","_law_bars_here","_law_told"])(bF:mg "isinstance"=none)(gS:mg "dict"=none)(bP:mg "list"=none)
  (abW:Fn P w K mg base (aY P w) 35 "_law_is_motion" ["_law_pins_here","_law_motion"] (Jr K)) (abX:Fn P w K mg base (aY P w) 3 "_law_longer" ["_law_pins_here","_law_bar","_law_motion"] (pE K)) (abY:Fn P w K mg base (aY P w) 3 "_law_keeps" ["_law_pins_here","_law_motion"] (tS K)):
  Fn P w K mg base (aY P w) 36 "_law_right" ["_law_pins_here","_law_bars_here","_law_told"] (nv K):=by
 refine D.ok rO (fun vs H Q E h=> ?_) (fun f bE A outer s H vs Q E hr h=> ?_)
 ·obtain ⟨lP,lB,dm,us,dj,pins,bars,kT,ns,rfl,_⟩:=h
  rfl
 obtain ⟨lP,lB,dm,us,dj,pins,bars,kT,ns,rfl,hp,pp,gp,hb,pb,nb,lp,lbn,hm,mo,q⟩:=h
 have lvb:dj.length=bars.length:=Paired.length pb
 refine ⟨_,(ae (bo (cS (cP (aT h_ rfl bF c8 (ar (pv 2) (ar (ra rfl gS F_) aa))))) (aj (aI dW)) aQ)
  (ae (mS (i:=3) rO.nd rfl (aai rfl) (tn:=["_law_bar"]) (fr:=["_law_told"]) (caps:=[2]) rfl ⟨rfl,by decide+kernel,rfl,by decide+kernel,by decide+kernel,rfl,⟨(by first | exact aai rfl | exact aa2 rfl),trivial⟩,⟨(by first | exact aai rfl | exact aa2 rfl),trivial⟩⟩ (bu (pv 1)) (fun _ _ _ _=>(aC (i:=0) (show (["_law_bar","_law_told"]:List Str).Nodup from by decide+kernel) rfl (aai rfl))) (fun _ _ _ _=>(GB (jb (oj (bR hr) (bq (c9 (K:=K) rfl) (pv 0) ak (fun _ _=>rfl)) (pv 1))))) (fun _ _ _ _=>(pv 0)))
  (ae (bo (aR (mR hr.units) (b7 (dH rfl) rfl bP gH (ar (pv 2) aa)) (dC (tn:=["_law_bar"]) (fr:=[]) (caps:=[]) rfl ⟨rfl,by decide+kernel,rfl,by decide+kernel,by decide+kernel,rfl,trivial,trivial⟩ (bu (pv 3)) (fun _ _ _ _=>(aC (i:=0) (show (["_law_bar"]:List Str).Nodup from by decide+kernel) rfl (aai rfl))) (fun _ _ _ _=>dG) (fun _ _ _ _=>(bq (c9 (K:=K) rfl) (pv 0) ak (fun _ _=>rfl)))) (aZ _)) (aj (aI dW)) aQ)
  (ae (bD PassesOwn.never rfl (bu (pv 3)) (aC (i:=4) rO.nd rfl (aai rfl)) (ae (aF (i:=5) rO.nd rfl (aai rfl) (dD (bR hr) (pv 2) (aL (pv 4)) (fun _ _=>rfl)))
   (ae (bo (PW.pt (hJ (cS (cP (aA abW hr.mo pX (ar (pv 0) (ar (pv 5) aa))))) (ft (cS (cP (aA abY hr.mo pX (ar (pv 0) (ar (pv 5) aa)))))))) (aj (aI dW)) aQ)
   (aj (bD PassesOwn.never rfl (bu (pv 3)) (aC (i:=6) rO.nd rfl (aai rfl)) (ae (aF (i:=7) rO.nd rfl (aai rfl) (aA abX hr.mo pX (ar (pv 0) (ar (pv 6) (ar (pv 5) aa)))))
    (aj (bo (PW.pt (hJ (PW.pt (rW (aR (mQ hr.units) (pv 6) (pv 4) (aZ _)) (mJ (aR lE (aL (pv 7)) (aL (pv 7)) (aZ _))))) (ft (PW.pt (rW (aR (mR hr.units) (pv 6) (pv 4) (aZ _)) (mJ (aR lE (aL (pv 7)) ak (aZ _)))))))) (aj (aI dW)) aQ))))))))
  (aj (aI dW)))))),?_⟩
 refine ⟨_,rfl,_,_,_,true,rfl,rfl,.dK hm,Vo,_,rfl,?_⟩
 refine bc (fun c=>nomatch c) (fun _=> ?_)
 refine ⟨_,rfl,lB,rfl,⟨_,a8.of hb⟩,fun D1 n1=> ?_⟩
 refine xp (K:=K) (a:=lB) (cap:=[some (.ref dm)]) (Rl:=g7 K H pins) (fun b=>(bB kT (.inr b.nm)).isSome) pb n1 (aar (show dj.length<=1000 by omega) (by decide)) (fun H6 s6=>a8.of (s6 _ _ hb)) (fun u b H6 R6 hx _ s6 k6=> ?_) (fun u x H6 R6 _ _ r=>⟨_,rfl,r⟩) fun ys H1 py s1 Kh=> ?_
 ·obtain ⟨a,i,j,rfl,h1,_⟩:=hx.same s6
  refine ⟨_,rfl,a,_,_,_,rfl,rfl,h1,rfl,_,rfl,dm,_,rfl,d5.k (k:=.inr b.nm) (s6 _ _ hm),_,rfl,?_⟩
  exact k6 _ (au.refl _)
 have lys:ys.length<=14:=by
  have h1:=Paired.length py
  have h2:=abi (fun b:aU=>(bB kT (.inr b.nm)).isSome) bars
  omega
 have HA:=s1 _ _ hm
 refine ⟨_,rfl,dm,kT,rfl,.inl HA,fun l2 Zd=> ?_⟩
 have sa:=aG Zd (.lst (kT.map fun kv=>kV kv.1))
 have e2:(upd H1 l2 (.lst (kT.map fun kv=>kV kv.1))) l2=some (.lst (kT.map fun kv=>kV kv.1)):=ah
 generalize upd H1 l2 (.lst (kT.map fun kv=>kV kv.1))=Ha at sa e2 ⊢
 refine ⟨_,rfl,D1,rfl,⟨_,a8.of (sa _ _ Kh)⟩,fun D3 n3=> ?_⟩
 refine dN (K:=K) (a:=D1) (xs:=ys) (cap:=[]) (fun i v _=>∃b,(bars.filter fun b=>(bB kT (.inr b.nm)).isSome)[i]? =some b/\v=.str b.nm) n3 (aar (show ys.length<=1000 by omega) (by decide)) (fun H6 s6=>a8.of (s6 _ _ (sa _ _ Kh))) (fun _ _ _ _ _ _ _ h=>h) (fun i u H6 R6 hu s6 k6=> ?_) fun zs H2 lz hz sb hD3=> ?_
 ·obtain ⟨b,eb,hx⟩:=aH py hu
  obtain ⟨a,i',j',rfl,h1,_⟩:=hx.same (s1.trans (sa.trans s6))
  exact ⟨_,rfl,a,_,_,_,rfl,rfl,h1,rfl,k6 _ _ (au.refl _) ⟨b,eb,rfl⟩⟩
 have ez:zs=((bars.filter fun b=>(bB kT (.inr b.nm)).isSome).map (·.nm)).map V.str:=by
  have lpy:=Paired.length py
  refine aa8 fun i=> ?_
  by_cases hi:i < zs.length
  ·obtain ⟨b,eb,e⟩:=hz i _ (gE hi)
   rw [gE hi,e,Wp,Wp,eb]
   rfl
  ·rw [aae (by omega),aae (by rw [aaa,aaa];omega)]
 have ek:(kT.map fun kv=>kV kv.1)=((bars.filter fun b=>(bB kT (.inr b.nm)).isSome).map (·.nm)).map V.str:=by
  rw [show (kT.map fun kv=>kV kv.1)=(kT.map (·.1)).map kV by rw [aay];rfl,mo.names nb,aay]
  rfl
 rw [ez] at hD3
 rw [ek] at e2
 refine Vt (nq (a8.of (sb _ _ e2))) (nq (a8.of hD3)) (pQ (fun _=>by show 0<=60;decide) _) ⟨_,rfl,?_⟩
 refine bc (fun c=>nomatch c) (fun _=> ?_)
 have s2:=sa.trans sb
 have yN:=s1.trans s2
 have LA:=s2 _ _ Kh
 refine ⟨_,rfl,D1,rfl,⟨_,a8.of LA⟩,bO (K:=K) (a:=D1) (xs:=ys) (fun i σ H' =>∃(o4 o5 o6 o7:Option V),σ=[some (.ref lP),some (.ref lB),some (.ref dm),some (.ref D1),o4,o5,o6,o7]/\au H2 H') ⟨none,none,none,none,rfl,au.refl _⟩ (fun i σ H' _ h=>by
   obtain ⟨_,_,_,_,_,s⟩:=h
   exact a8.of (s _ _ LA)) ?_ ?_⟩
 ·rintro i u σ H3 hu ⟨o4,o5,o6,o7,rfl,s3⟩
  have uG:=yN.trans s3
  obtain ⟨b,eb,hx⟩:=aH py hu
  obtain ⟨mb,qe⟩:=aa4.mp (ir eb)
  obtain ⟨n,dM,kM,mn,en,ev,hM⟩:=mo.at nb mb qe
  obtain ⟨a,i1,j1,rfl,h1,g1,g2⟩:=hx.same uG
  have dg:d5 H3 dm (.str b.nm) (some (.ref dM)):=by
   have:=d5.k (k:=.inr b.nm) (uG _ _ hm)
   rw [ev] at this
   exact this
  refine ⟨_,rfl,_,rfl,a,_,_,_,rfl,rfl,h1,rfl,dm,_,rfl,dg,?_⟩
  refine ⟨_,rfl,_,rfl,lP,dM,us,pins,kM,n.2,63000,rfl,uG _ _ hp,Paired.bM pp fun _ _ z=>z.same uG,by omega,hM.same uG,fun H4 s4=>⟨_,rfl,?_⟩⟩
  refine bc (fun c=>nomatch c) (fun _=> ?_)
  have EI:=uG.trans s4
  refine ⟨_,rfl,_,rfl,lP,dM,us,pins,kM,n.2,63000,rfl,EI _ _ hp,Paired.bM pp fun _ _ z=>z.same EI,gp,hM.same EI,mo.keeps n mn,fun H5 s5=>⟨_,rfl,?_⟩⟩
  refine bc (fun c=>nomatch c) (fun _=> ?_)
  have uF:=s3.trans (s4.trans s5)
  refine ⟨_,rfl,D1,rfl,⟨_,a8.of (uF _ _ LA)⟩,bO (K:=K) (a:=D1) (xs:=ys) (fun i σ H' =>∃(o6 o7:Option V),σ=[some (.ref lP),some (.ref lB),some (.ref dm),some (.ref D1),some (.ref a),some (.ref dM),o6,o7]/\au H2 H') ⟨_,_,rfl,uF⟩ (fun i σ H' _ h=>by
   obtain ⟨_,_,_,s⟩:=h
   exact a8.of (s _ _ LA)) ?_ ?_⟩
  ·rintro i' u' σ H6 Ve ⟨o6,o7,rfl,s6⟩
   have y6:=yN.trans s6
   obtain ⟨c,ec,hy⟩:=aH py Ve
   obtain ⟨mc,ec'⟩:=aa4.mp (ir ec)
   obtain ⟨n',_,_,mn',Vv,_⟩:=mo.at nb mc ec'
   refine ⟨_,rfl,_,rfl,_,rfl,lP,dM,us,pins,u',c,kM,n.2,63000,rfl,y6 _ _ hp,Paired.bM pp fun _ _ z=>z.same y6,gp,hy.same y6,hM.same y6,fun v H7 s7 n7=> ?_⟩
   have s07:=y6.trans s7
   obtain ⟨z,⟨pz,rfl,k1⟩,k2,k3,_⟩:=n7
   rw [mo.len n mn n' mn' c Vv] at k3
   obtain ⟨a',i2,j2,rfl,h2,g3,g4⟩:=hy.same s07
   obtain ⟨a3,i3,j3,ea,h3,g5,g6⟩:=hx.same s07
   injection ea with ea
   subst ea
   have eqb:=QH gp.np nb mc mb g3 g4 g5 g6
   have dp:fO (Rz c i2 j2)<=60:=by
    show max 0 (max 0 (max 0 0))<=60
    decide
   have en1:(n'.1=n.1) ↔ c.nm=b.nm:=by
    constructor
    ·intro y
     rw [y,en] at Vv
     cases Vv
     rfl
    ·intro y
     have:=tW nb mc mb y
     rw [this] at Vv
     have f1:(bars.map (·.nm))[n'.1]? =some b.nm:=by rw [Wp,Vv];rfl
     have f2:(bars.map (·.nm))[n.1]? =some b.nm:=by rw [Wp,en];rfl
     exact cy nb f1 f2
   have e1:∀{Q' :VK},Q' (.bl (decide (c.nm=b.nm))) H7->FX K (.ref a') (.ref a) H7 Q' :=fun {Q'} k=>⟨_,_,.inl ⟨tY h2,tY h3⟩,rfl,dp,by rw [eqb];exact k⟩
   have e2:∀{Q' :VK},Q' (.bl (!decide (c.nm=b.nm))) H7->u0 K (.ref a') (.ref a) H7 Q' :=fun {Q'} k=>⟨_,_,.inl ⟨tY h2,tY h3⟩,rfl,dp,by rw [eqb];exact k⟩
   by_cases same:c.nm=b.nm
   ·rw [if_pos (en1.mpr same)] at k3
    have z1:z.1=z.2:=by
     unfold vl at k3
     have h0:=cq (show z.2≠0 by omega)
     have:(z.1:Rat)=(z.2:Rat):=by grind
     exact ahy.mp this
    refine ⟨_,rfl,_,rfl,e1 ⟨_,rfl,?_⟩⟩
    rw [decide_eq_true same]
    refine bc (fun _=> ?_) (fun c=>absurd rfl c)
    refine ⟨_,rfl,pz,_,_,_,rfl,rfl,k1,ib,_,rfl,pz,_,_,_,rfl,rfl,k1,iV,rfl,_,rfl,?_⟩
    rw [z1,decide_eq_true rfl]
    refine bc (fun c=>nomatch c) (fun _=> ?_)
    refine ⟨_,rfl,_,rfl,e2 ⟨_,rfl,?_⟩⟩
    rw [decide_eq_true same]
    refine bc (fun c=>nomatch c) (fun _=> ?_)
    refine bc (fun c=>nomatch c) (fun _=> ?_)
    exact ⟨_,_,rfl,s6.trans s7⟩
   ·rw [if_neg (fun y=>same (en1.mp y))] at k3
    have z0:z.1=0:=(za k2).mpr k3
    rw [z0] at k1
    refine ⟨_,rfl,_,rfl,e1 ⟨_,rfl,?_⟩⟩
    rw [decide_eq_false same]
    refine bc (fun c=>nomatch c) (fun _=> ?_)
    refine ⟨_,rfl,_,rfl,e2 ⟨_,rfl,?_⟩⟩
    rw [decide_eq_false same]
    refine bc (fun _=> ?_) (fun c=>absurd rfl c)
    refine ⟨_,rfl,pz,_,_,_,rfl,rfl,k1,ib,rfl,_,rfl,?_⟩
    refine bc (fun c=>by simp at c) (fun _=> ?_)
    exact ⟨_,_,rfl,s6.trans s7⟩
  ·rintro σ H6 ⟨o6,o7,rfl,s6⟩
   exact ⟨_,_,_,_,rfl,s6⟩
 ·rintro σ H3 ⟨o4,o5,o6,o7,rfl,s3⟩
  exact q _ (yN.trans s3)
theorem Mq {ws:List (Rat×Rat)}(h:gY ws):xJ ws:=fun us hl h1 h2 u hu=>by
 rcases h with rfl | ⟨x,y,rfl,ne,_,_⟩ | rfl
 ·rw [abT.mp hl] at hu
  cases hu
 ·obtain ⟨a,rfl⟩:=List.length_eq_one_iff.mp hl
  have e:u=a:=by simpa using hu
  have e1:a*x=0:=by
   have:=h1
   rw [aac,ach,ck,iw] at this
   grind
  have e2:a*y=0:=by
   have:=h2
   rw [aac,ach,ck,iw] at this
   grind
  rw [e]
  by_cases c:x=0
  ·have:y≠0:=fun z=>ne ⟨c,z⟩
   grind
  ·grind
 ·match us,hl with
  | [a,b],_=>
   rw [aac,aac,ach,ck,ck,iw] at h1 h2
   have ea:a=0:=by grind
   have eb:b=0:=by grind
   rcases aaN.mp hu with z | z
   ·rw [z];exact ea
   ·rw [aaw.mp z];exact eb
theorem eY.un {pins:ν}(g:eY pins){k:Nat}{p:aE}(e:pins[k]? =some p):p.nm∉(pins.eraseIdx k).map (·.nm)/\p.sp∉(pins.eraseIdx k).map (·.sp):=by
 have hk:=(be.mp e).1
 have at' :∀q∈pins.eraseIdx k,∃i,i≠k/\pins[i]? =some q:=fun q hq=>by
  obtain ⟨j,ej⟩:=aad hq
  rw [abB] at ej
  by_cases c:j < k
  ·rw [if_pos c] at ej
   exact ⟨j,by omega,ej⟩
  ·rw [if_neg c] at ej
   exact ⟨j+1,by omega,ej⟩
 refine ⟨fun z=> ?_,fun z=> ?_⟩
 ·obtain ⟨q,hq,en⟩:=aab.mp z
  obtain ⟨i,ni,ei⟩:=at' q hq
  have e1:(pins.map (·.nm))[i]? =some p.nm:=by rw [Wp,ei, <- en];rfl
  have e2:(pins.map (·.nm))[k]? =some p.nm:=by rw [Wp,e];rfl
  exact ni (cy g.np e1 e2)
 ·obtain ⟨q,hq,en⟩:=aab.mp z
  obtain ⟨i,ni,ei⟩:=at' q hq
  have e1:(pins.map (·.sp))[i]? =some p.sp:=by rw [Wp,ei, <- en];rfl
  have e2:(pins.map (·.sp))[k]? =some p.sp:=by rw [Wp,e];rfl
  exact ni (cy g.ns e1 e2)
section
variable {H:Hp}{pins:ν}{bars:List aU}{d:Addr}{kT:γ}{ns:List DK}{N:Nat}
theorem fV.isn (h:fV K H pins bars d kT ns N)(nb:(bars.map (·.nm)).Nodup){k:Nat}{b:aU}(e:bars[k]? =some b):(bB kT (.inr b.nm)).isSome=true ↔ ¬ jW pins bars (av pins+k):=by
 rw [<- h.cols k b e]
 constructor
 ·intro z
  obtain ⟨n,_,_,mn,en,_⟩:=h.at nb (ir e) z
  refine ⟨n,mn,?_⟩
  have f1:(bars.map (·.nm))[n.1]? =some b.nm:=by rw [Wp,en];rfl
  have f2:(bars.map (·.nm))[k]? =some b.nm:=by rw [Wp,e];rfl
  exact cy nb f1 f2
 ·rintro ⟨n,mn,rfl⟩
  obtain ⟨i,ei⟩:=aad mn
  obtain ⟨kv,ek,b',dM,kM,eb,rH,_⟩:=jk h.pr ei
  rw [e] at eb
  cases eb
  obtain ⟨v,ev⟩:=dO (kvs:=kT) (k:=.inr b.nm) (aab.mpr ⟨kv,ir ek,by rw [rH]⟩)
  rw [ev]
  rfl
theorem fV.part (h:fV K H pins bars d kT ns N)(nb:(bars.map (·.nm)).Nodup){kS:γ}(sp:∀k b,bars[k]? =some b->((bB kS (.inr b.nm)).isSome=true ↔ jW pins bars (av pins+k))):∀b∈bars,(bB kT (.inr b.nm)).isSome≠(bB kS (.inr b.nm)).isSome:=fun b hb z=>by
 obtain ⟨k,ek⟩:=aad hb
 have h1:=h.isn nb ek
 have h2:=sp k b ek
 rw [z] at h1
 by_cases c:jW pins bars (av pins+k)
 ·exact h1.mp (h2.mpr c) c
 ·exact c (h2.mp (h1.mpr c))
theorem fV.strs (h:fV K H pins bars d kT ns N)(nb:(bars.map (·.nm)).Nodup){Vw :γ}{H' :Hp}{d' :Addr}{ns' :List DK}(h' :fV K H' pins bars d' Vw ns' N):(Vw.map fun kv=>kV kv.1)=((bars.filter fun b=>(bB kT (.inr b.nm)).isSome).map (·.nm)).map V.str:=by
 have e:(bars.filter fun b=>(bB kT (.inr b.nm)).isSome)=bars.filter fun b=>(bB Vw (.inr b.nm)).isSome:=ah_ fun b hb=>by
  obtain ⟨k,ek⟩:=aad hb
  rw [abj,h.isn nb ek,h'.isn nb ek]
 rw [e,show (Vw.map fun kv=>kV kv.1)=(Vw.map (·.1)).map kV by rw [aay];rfl,h'.names nb,aay]
 rfl
end
theorem j6 {α β:Type}{R:α->β->Prop}:∀{us:List α} {l:List β} {j:Nat},Paired R us l->Paired R (us.eraseIdx j) (l.eraseIdx j)
 | _,_,_,.nil=>.nil
 | _,_,0,.cons _ t=>t
 | _,_,_+1,.cons h t=>.cons h (j6 t)
theorem pR:∀{bars:List aU} {k:Nat} {b:aU},(bars.map (·.nm)).Nodup->bars[k]? =some b->(wH bars).filter (fun x=>decide (x.1≠b.nm))=wH (bars.eraseIdx k)
 | q::ps,0,p,nd,e=>by
  cases e
  rw [aac,aaU] at nd
  show ((q.nm,q.one.nm,q.other.nm)::wH ps).filter _=wH ps
  rw [abS (by simp),ait]
  intro b hb
  obtain ⟨r,hr,rfl⟩:=aab.mp hb
  exact decide_eq_true (fun z=>nd.1 (by rw [<- z];exact aab.mpr ⟨r,hr,rfl⟩))
 | q::ps,k+1,p,nd,e=>by
  rw [aac,aaU] at nd
  have e' :ps[k]? =some p:=by simpa using e
  have ne:q.nm≠p.nm:=fun z=>nd.1 (by rw [z];exact aab.mpr ⟨p,ir e',rfl⟩)
  show ((q.nm,q.one.nm,q.other.nm)::wH ps).filter _=(q.nm,q.one.nm,q.other.nm)::wH (ps.eraseIdx k)
  rw [abR (by simpa using ne),pR nd.2 e']
theorem eL:aD ["_law_script","_law_pins_here","_law_bars_here","_law_frame_here","_law_told","_law_names","_law_motion","_law_again","_law_bar","_law_gone"] ["_law_script"] (ag jJ):=sq
theorem QI {f:Addr}{fd:FuncData}{C:Addr}(F:mN K "law" "law" jJ f fd)(bP:mg "list"=none)(ba:mg "len"=none)
  (pC:Fn P w K mg base (aY P w) 1 "_law_cell_at" ["_law_script","_law_k"] (ph K)) (dr:Fn P w K mg base (aY P w) 1 "_law_field" ["_law_cell","_law_prime","_law_many"] eQ)
  (ab0:Fn P w K mg base (aY P w) 35 "_law_pins" ["_law_script"] (tJ K)) (ab1:Fn P w K mg base (aY P w) 3 "_law_bars" ["_law_script","_law_pins_here"] (tP K)) (ab2:Fn P w K mg base (aY P w) 4 "_law_frame" ["_law_pins_here","_law_bars_here"] (pD K C))
  (fL:Fn P w K mg base (aY P w) 39 "needs_of" ["F"] (tE K C)) (fW:Fn P w K mg base (aY P w) 39 "spares_of" ["F"] (Jg K C)) (Jv:Fn P w K mg base (aY P w) 36 "_law_right" ["_law_pins_here","_law_bars_here","_law_told"] (nv K)) (fm:Fn P w K mg base (aY P w) 1 "_law_parted" ["_law_bars_here","_law_told","_law_spare"] (xW K))
  (MTb:bx P w K mg base (aY P w) 1 C "take_bar" ["self","name"] (iJ K C)) (Rx:bx P w K mg base (aY P w) 3 C "put_bar" ["self","name","one","other"] (ig K C))
  (qD:Fn P w K mg base (aY P w) 3 "_law_pin_out" ["_law_frame_here","_law_pins_here","_law_bars_here","_law_cell"] (Js K C)) (tZ:Fn P w K mg base (aY P w) 35 "_law_pin_in" ["_law_frame_here","_law_pins_here","_law_gone","_law_cell"] (QF K C)):
  cB P w K mg base (aY P w) 42 f fd ["_law_script"] (F' K):=by
 refine F.okG eL (fun vs H Q E h=> ?_) (fun bE A outer s H vs Q E hr h=> ?_)
 ·obtain ⟨a,ns,rfl,_⟩:=h
  rfl
 obtain ⟨sA,ns,rfl,hS,hn,hb,q⟩:=h
 have L3:3<=sizeLine:=by decide
 refine ⟨_,(ae (aF (i:=1) eL.nd rfl (aai rfl) (aA ab0 hr.mo (pY P w) (ar (pv 0) aa)))
  (ae (aF (i:=2) eL.nd rfl (aai rfl) (aA ab1 hr.mo (pY P w) (ar (pv 0) (ar (pv 1) aa))))
  (ae (aF (i:=3) eL.nd rfl (aai rfl) (aA ab2 hr.mo (pY P w) (ar (pv 1) (ar (pv 2) aa))))
  (ae (aF (i:=4) eL.nd rfl (aai rfl) (aA fL hr.mo (pY P w) (ar (pv 3) aa)))
  (ae (bo (PW.pt (hJ (cS (cP (aA Jv hr.mo (pY P w) (ar (pv 1) (ar (pv 2) (ar (pv 4) aa)))))) (ft (cS (cP (aA fm hr.mo (pY P w) (ar (pv 2) (ar (pv 4) (ar (aA fW hr.mo (pY P w) (ar (pv 3) aa)) aa))))))))) (aj (aI dW)) aQ)
  (ae (aF (i:=5) eL.nd rfl (aai rfl) (b7 (dH rfl) rfl bP gH (ar (pv 4) aa)))
  (ae (bD PassesOwn.never rfl (bu (BB rfl rfl bP (pv 4))) (aC (i:=6) eL.nd rfl (aai rfl)) (aj (bf (rB (pv 6)))))
  (ae (bf (rB (pv 4)))
  (ae (aF (i:=7) eL.nd rfl (aai rfl) (aA fL hr.mo (pY P w) (ar (pv 3) aa)))
  (ae (bo (PW.pt (hJ (cS (cP (aA Jv hr.mo (pY P w) (ar (pv 1) (ar (pv 2) (ar (pv 7) aa)))))) (ft (aR (mR hr.units) (b7 (dH rfl) rfl bP gH (ar (pv 7) aa)) (pv 5) (aZ _))))) (aj (aI dW)) aQ)
  (ae (bo (aR uO (aT aJ rfl ba cf (ar (pv 2) aa)) ak (aZ _)) (ae (aF (i:=8) eL.nd rfl (aai rfl) (i0 PySem.F.plainAttrs_list PySem.F.slot_list_pop PySem.F.type_list_pop uV (pv 2) (ar (aA dr hr.mo (pY P w) (ar (aA pC hr.mo (pY P w) (ar (pv 0) (ar ak aa))) (ar ak (ar (aT aJ rfl ba cf (ar (pv 2) aa)) aa)))) aa)))
   (ae (bf (cF (k:=1) (pv 3) hr.mo (pY P w) (ar (aL (pv 8)) aa)))
   (ae (bf (i0 PySem.F.plainAttrs_list PySem.F.slot_list_append PySem.F.type_list_append c7 (pv 2) (ar (a9 (ar (aL (pv 8)) (ar (aL (pv 8)) (ar (aL (pv 8)) aa)))) aa)))
   (ae (bf (cF (k:=3) (pv 3) hr.mo (pY P w) (ar (aL (pv 8)) (ar (aL (bq bt (pv 1) (aL (pv 8)) (fun _ _=>rfl))) (ar (aL (bq bt (pv 1) (aL (pv 8)) (fun _ _=>rfl))) aa)))))
   (ae (aF (i:=4) eL.nd rfl (aai rfl) (aA fL hr.mo (pY P w) (ar (pv 3) aa)))
   (aj (bo (PW.pt (hJ (cS (cP (aA Jv hr.mo (pY P w) (ar (pv 1) (ar (pv 2) (ar (pv 4) aa)))))) (ft (cS (cP (aA fm hr.mo (pY P w) (ar (pv 2) (ar (pv 4) (ar (aA fW hr.mo (pY P w) (ar (pv 3) aa)) aa))))))))) (aj (aI dW)) aQ))))))) aQ)
  (ae (aF (i:=9) eL.nd rfl (aai rfl) (aA qD hr.mo (pY P w) (ar (pv 3) (ar (pv 1) (ar (pv 2) (ar (aA pC hr.mo (pY P w) (ar (pv 0) (ar ak aa))) aa))))))
  (ae (aF (i:=4) eL.nd rfl (aai rfl) (aA fL hr.mo (pY P w) (ar (pv 3) aa)))
  (ae (bo (PW.pt (hJ (cS (cP (aA Jv hr.mo (pY P w) (ar (pv 1) (ar (pv 2) (ar (pv 4) aa)))))) (ft (cS (cP (aA fm hr.mo (pY P w) (ar (pv 2) (ar (pv 4) (ar (aA fW hr.mo (pY P w) (ar (pv 3) aa)) aa))))))))) (aj (aI dW)) aQ)
  (ae (bf (aA tZ hr.mo (pY P w) (ar (pv 3) (ar (pv 1) (ar (pv 9) (ar (aA pC hr.mo (pY P w) (ar (pv 0) (ar ak aa))) aa))))))
  (ae (aF (i:=4) eL.nd rfl (aai rfl) (aA fL hr.mo (pY P w) (ar (pv 3) aa)))
  (aj (aI (ET (aA Jv hr.mo (pY P w) (ar (pv 1) (ar (pv 2) (ar (pv 4) aa)))) (ES (aA fm hr.mo (pY P w) (ar (pv 2) (ar (pv 4) (ar (aA fW hr.mo (pY P w) (ar (pv 3) aa)) aa)))))))))))))))))))))))),?_⟩
 refine ⟨_,rfl,sA,ns,rfl,hS,fun lP us pins H1 s1 nP eP pp gp lp pn=> ?_⟩
 have lu:us.length=pins.length:=Paired.length pp
 refine ⟨_,rfl,_,rfl,sA,lP,ns,us,pins,rfl,s1.seq hS,eP,lu,gp.np,by omega,fun lB vs bars H2 s2 nB eB pb gb lb=> ?_⟩
 have ab4:Paired (gZ K H2) us pins:=Paired.bM pp fun _ _ z=>z.r.same s2
 have eP2:=s2 _ _ eP
 refine ⟨_,rfl,_,rfl,lP,lB,us,vs,pins,bars,rfl,eP2,ab4,eB,pb,gp,gb,by omega,by omega,fun fA dx pP pW pB kP kW kB H3 s3 R3 W3 nwq nP3 nW3 nB3=> ?_⟩
 have uG:=s1.trans (s2.trans s3)
 have OC:lP≠lB:=fun z=>by rw [<- z,eP] at nB;cases nB
 have wz:WS K H3 C fA dx pP pW pB lP lB us vs pins bars:=⟨⟨kP,kW,kB,R3,W3,fun kv h=>⟨nwq kv h _ _ eP2,nwq kv h _ _ eB⟩⟩,s3 _ _ eP2,Paired.bM pp fun u p z=>by
  obtain ⟨a,l,sv,xs,e,h1,h2,h3,h4,h5⟩:=z
  have sL:=s2.trans s3
  exact ⟨a,l,sv,xs,e,Ty.au.cG sL h1,h2.same sL,sL _ _ h3,h4.same sL,h5,fun y=>by rw [y,nB] at h3;cases h3⟩,s3 _ _ eB,Paired.bM pb fun _ _ z=>z.same s3,gp,gb,by omega,by omega,OC⟩
 have np0:=(s1.trans s2).free nP3
 have nw0:=(s1.trans s2).free nW3
 have nb0:=(s1.trans s2).free nB3
 have ab6:=s1.free nB
 have xY:∀{Hx:Hp},KO pP pW pB lP lB H Hx->a8 K Hx sA (ns.map V.int):=fun {Hx} k=>by
  rcases hS with r | r
  ·have ne:∀{o:HO},H sA=some o->sA≠pP/\sA≠pW/\sA≠pB/\sA≠lP/\sA≠lB:=fun {o} e=>⟨aq e np0,aq e nw0,aq e nb0,aq e nP,aq e ab6⟩
   rcases r with r | ⟨o,r⟩
   ·exact .inl (.inl (k.at (ne r) r))
   ·exact .inl (.inr ⟨o,k.at (ne r) r⟩)
  ·exact .inr r
 have Mr:∀{Hx:Hp} {us vs:η} {pins:ν} {bars:List aU},WS K Hx C fA dx pP pW pB lP lB us vs pins bars->∀p∈pins,xJ p.ws:=fun st p hp=>Mq (st.gp.ws p hp)
 have ri:∀{Hx:Hp} {us vs:η} {pins:ν} {bars:List aU} {dm:Addr} {kT:γ} {ns:List DK} {Q' :VK} {E' :XK},WS K Hx C fA dx pP pW pB lP lB us vs pins bars->Hx dm=some (.dK kT)->fV K Hx pins bars dm kT ns 63000->(∀H',au Hx H' ->Q' (.bl true) H')->nv K [.ref lP,.ref lB,.ref dm] Hx Q' E' :=fun {Hx us vs pins bars dm kT ns Q' E'} st hm mo k=>⟨lP,lB,dm,us,vs,pins,bars,kT,ns,rfl,st.hp,st.pr,st.gp,st.hb,st.pb,st.gb.nb,by have:=st.lp;omega,by have:=st.lb;omega,hm,mo,k⟩
 refine ⟨_,rfl,fA,pins,bars,rfl,wz.fa,wz.g,Mr wz,fun dm kT ms H4 s4 nm4 em4 RA fr4=> ?_⟩
 have Kb:=wz.same s4
 refine ⟨_,rfl,_,rfl,_,rfl,ri Kb em4 RA fun H5 s5=>⟨_,rfl,?_⟩⟩
 refine bc (fun c=>nomatch c) (fun _=> ?_)
 have zV:=Kb.same s5
 refine ⟨_,rfl,_,rfl,_,rfl,fA,pins,bars,rfl,zV.fa,zV.g,Mr zV,fun dS kS H6 s6 eS spS=> ?_⟩
 have QD:=s4.trans (s5.trans s6)
 have st6:=wz.same QD
 refine ⟨lB,dm,dS,vs,pins,bars,kT,kS,rfl,st6.hb,st6.pb,(s5.trans s6) _ _ em4,eS,RA.part gb.nb spS,fun H7 s7=>⟨_,rfl,?_⟩⟩
 refine bc (fun c=>nomatch c) (fun _=> ?_)
 have s37:=QD.trans s7
 have em7:=(s5.trans (s6.trans s7)) _ _ em4
 refine ⟨_,rfl,dm,kT,rfl,.inl em7,fun lN nN=> ?_⟩
 have tN:=aG nN (.lst (kT.map fun kv=>kV kv.1))
 have eN:(upd H7 lN (.lst (kT.map fun kv=>kV kv.1))) lN=some (.lst (kT.map fun kv=>kV kv.1)):=ah
 generalize upd H7 lN (.lst (kT.map fun kv=>kV kv.1))=H8 at tN eN ⊢
 refine ⟨_,rfl,dm,kT,rfl,tN _ _ em7,fun lV nV=> ?_⟩
 have tV:=aG nV (.lst (kT.map fun kv=>kv.2))
 have eV:(upd H8 lV (.lst (kT.map fun kv=>kv.2))) lV=some (.lst (kT.map fun kv=>kv.2)):=ah
 generalize upd H8 lV (.lst (kT.map fun kv=>kv.2))=H9 at tV eV ⊢
 have xM:=tN.trans tV
 have s39:=s37.trans xM
 refine ⟨lV,rfl,⟨_,a8.of eV⟩,bO (K:=K) (a:=lV) (xs:=kT.map fun kv=>kv.2) (fun i σ H' =>∃(o6:Option V),σ=[some (.ref sA),some (.ref lP),some (.ref lB),some (.ref fA),some (.ref dm),some (.ref lN),o6,none,none,none]/\au H3 H' /\H' lV=some (.lst (kT.map fun kv=>kv.2))/\H' lN=some (.lst (kT.map fun kv=>kV kv.1))/\(∃k,H' dm=some (.dK k))/\∀kv∈kT,∃dM kM,kv.2=.ref dM/\H3 dM=none/\H' dM=some (.dK kM)) ⟨none,rfl,s39,eV,tV _ _ eN,⟨_,xM _ _ em7⟩,fun kv DL=> ?_⟩ (fun i σ H' _ h=>by
   obtain ⟨_,_,_,h,_⟩:=h
   exact a8.of h) ?_ ?_⟩
 ·obtain ⟨dM,e,n⟩:=fr4 kv DL
  obtain ⟨i,ei⟩:=aad DL
  obtain ⟨m,em,b',Kk,kM,_,ekm,_,hM⟩:=aH RA.pr ei
  rw [ekm] at e
  have e' :Kk =dM:=by injection e
  exact ⟨dM,kM,by rw [ekm,e'],n,(s5.trans (s6.trans (s7.trans xM))) _ _ (by rw [<- e'];exact hM.hM)⟩
 ·rintro i u σ wC hu ⟨o6,rfl,Lj,v10,Vx,⟨k10,Zl⟩,d10⟩
  rw [Wp] at hu
  obtain ⟨kv,ek,rfl⟩:=aal.mp hu
  obtain ⟨dM,kM,e,n,hd⟩:=d10 kv (ir ek)
  rw [e]
  have nl:∀{b:Addr} {xs:η},wC b=some (.lst xs)->(upd wC dM (.dK [])) b=some (.lst xs):=fun {b xs} z=>by
   rw [ao (fun y=>by rw [y,hd] at z;cases z)]
   exact z
  refine ⟨_,rfl,dM,kM,rfl,hd,?_⟩
  refine ⟨_,rfl,fun b o z=> ?_,nl v10,nl Vx,?_,fun kv' ab' => ?_⟩
  ·rw [ao (aq z n)]
   exact Lj _ _ z
  ·by_cases c:dm=dM
   ·exact ⟨[],by rw [c,ah]⟩
   ·exact ⟨k10,by rw [ao c];exact Zl⟩
  ·obtain ⟨Kk,Rw,e',n',EN⟩:=d10 kv' ab'
   by_cases c:Kk =dM
   ·exact ⟨Kk,[],e',n',by rw [c,ah]⟩
   ·exact ⟨Kk,Rw,e',n',by rw [ao c];exact EN⟩
 rintro σ wC ⟨o6,rfl,Lj,_,Vx,⟨k10,Zl⟩,_⟩
 refine ⟨_,rfl,dm,k10,rfl,Zl,?_⟩
 have Su:au H3 (upd wC dm (.dK [])):=fun b o z=>by
  rw [ao (aq z nm4)]
  exact Lj _ _ z
 have n11:(upd wC dm (.dK [])) lN=some (.lst (kT.map fun kv=>kV kv.1)):=by
  rw [ao (fun y=>by rw [y,Zl] at Vx;cases Vx)]
  exact Vx
 generalize upd wC dm (.dK [])=YN at Su n11 ⊢
 have Ms:=wz.same Su
 refine ⟨_,rfl,fA,pins,bars,rfl,Ms.fa,Ms.g,Mr Ms,fun Vy Vz ms2 H12 BA asN VA VB asO=> ?_⟩
 have VC:=Ms.same BA
 dsimp only [cI]
 refine e_ (fun σ' H' =>σ' =[some (.ref sA),some (.ref lP),some (.ref lB),some (.ref fA),some (.ref dm),some (.ref lN),o6,some (.ref Vy),none,none]/\au H12 H') (fun Nx tL=> ?_) ?_
 ·refine ⟨_,rfl,_,rfl,_,rfl,ri VC VA VB fun DU sL=>⟨_,rfl,?_⟩⟩
  refine bc (fun c=>nomatch c) (fun _=> ?_)
  refine ⟨_,rfl,Vy,Vz,rfl,.inl (sL _ _ VA),fun l4 n4=> ?_⟩
  have t4:=aG n4 (.lst (Vz.map fun kv=>kV kv.1))
  have e4:(upd DU l4 (.lst (Vz.map fun kv=>kV kv.1))) l4=some (.lst (Vz.map fun kv=>kV kv.1)):=ah
  generalize upd DU l4 (.lst (Vz.map fun kv=>kV kv.1))=H14 at t4 e4 ⊢
  have VD:=t4 _ _ (sL _ _ (BA _ _ n11))
  rw [RA.strs gb.nb VB] at e4
  rw [RA.strs gb.nb RA] at VD
  refine ⟨_,rfl,Vt (nq (a8.of e4)) (nq (a8.of VD)) (pQ (fun _=>by show 0<=60;decide) _) ⟨_,rfl,?_⟩⟩
  refine bc (fun c=>nomatch c) (fun _=> ?_)
  exact tL _ _ ⟨rfl,sL.trans t4⟩
 rintro σ' DU ⟨rfl,sL⟩
 have s0:=uG.trans (Su.trans (BA.trans sL))
 have fh:=VC.same sL
 refine e_ (fun σ' H' =>∃(t4:Addr) (o8:Option V) (dj :η) (VE :List aU),σ' =[some (.ref sA),some (.ref lP),some (.ref lB),some (.ref fA),some (.ref t4),some (.ref lN),o6,some (.ref Vy),o8,none]/\KO pP pW pB lP lB H H' /\WS K H' C fA dx pP pW pB lP lB us dj pins VE) (fun Nx tL=> ?_) ?_
 ·have lvb:vs.length=bars.length:=Paired.length fh.pb
  refine ⟨_,rfl,lB,_,rfl,.inl (a8.of fh.hb),_,_,rfl,rfl,_,rfl,?_⟩
  refine bc (fun cl=> ?_) (fun cl=> ?_)
  ·have cl' :=of_decide_eq_true cl
   refine ⟨_,rfl,.inl ⟨rfl,_,a8.of fh.hb⟩,_,rfl,sA,ns,2,rfl,xY (KO.of s0),by decide,by decide,_,rfl,lB,_,rfl,.inl (a8.of fh.hb),_,_,_,rfl,by decide,by decide,by omega,?_⟩
   have fi:=a_ (c:=cell ns 2) (p:=1009) (m:=((vs.length:Nat):Int)) (by omega)
   generalize field (cell ns 2) 1009 ((vs.length:Nat):Int)=fv at fi ⊢
   obtain ⟨k,rfl⟩:∃n:Nat,fv=(n:Int):=⟨fv.toNat,by omega⟩
   have hk:k < vs.length:=by omega
   obtain ⟨b,eb⟩:∃b,bars[k]? =some b:=⟨_,gE (by omega)⟩
   have mb:=ir eb
   obtain ⟨y,ey,hy⟩:=aH (bU fh.pb) eb
   have hy:g7 K DU pins y b:=hy
   obtain ⟨ta,i,j,rfl,h1,g1,g2⟩:=hy
   obtain ⟨qd,iT,NQ,R,W,nW⟩:=fh.fr
   refine ⟨lB,vs,(k:Int),k,.ref ta,rfl,rfl,fh.hb,by omega,by omega,HM hk,ey,?_⟩
   have xZ:∀b o,b≠lB->DU b=some o->(upd DU lB (.lst (vs.eraseIdx k))) b=some o:=fun b o n e=>by rw [ao n];exact e
   have VF:(upd DU lB (.lst (vs.eraseIdx k))) lB=some (.lst (vs.eraseIdx k)):=ah
   generalize upd DU lB (.lst (vs.eraseIdx k))=H14 at xZ VF ⊢
   have k14:KO pP pW pB lP lB DU H14:=fun b o _ _ _ _ n5 e=>xZ b o n5 e
   have t14:=fh.t k14
   have nPb:pP≠lB:=fun z=>by have h:=R.pl;rw [z,fh.hb] at h;cases h
   have nWb:pW≠lB:=fun z=>by have h:=R.wy;rw [z,fh.hb] at h;cases h
   have Zm:pB≠lB:=fun z=>by have h:=R.br;rw [z,fh.hb] at h;cases h
   have nBp:pB≠lP:=fun z=>by have h:=R.br;rw [z,fh.hp] at h;cases h
   have fb:fA≠lB:=fun z=>by have h:=R.obj;rw [z,fh.hb] at h;cases h
   have fB:fA≠pB:=fun z=>by have h:=R.obj;rw [z,R.br] at h;cases h
   have R14:d_ K H14 C fA dx pP pW pB (Kl pins) (wH bars) qd iT NQ :=R.eg t14 ((xZ _ _ fb R.obj).trans R.obj.symm) ((xZ _ _ nPb R.pl).trans R.pl.symm) ((xZ _ _ nWb R.wy).trans R.wy.symm) ((xZ _ _ Zm R.br).trans R.br.symm)
   refine ⟨_,rfl,fA,C,dx,_,_,_,rfl,R14.obj,rfl,MTb,_,rfl,ta,_,_,_,rfl,rfl,t14.cG h1,rfl,?_⟩
   dsimp only [fN]
   refine ⟨fA,dx,pP,pW,pB,Kl pins,wH bars,qd,iT,NQ,b.nm,rfl,R14,by rw [aay];exact aab.mpr ⟨b,mb,rfl⟩,fun Zn kB1 k15 Km=> ?_⟩
   have em:=pR gb.nb eb
   have nob:b.nm∉(bars.eraseIdx k).map (·.nm):=fun z=>by
    obtain ⟨c,hc,e⟩:=aab.mp z
    have mc:(c.nm,c.one.nm,c.other.nm)∈wH (bars.eraseIdx k):=aab.mpr ⟨c,hc,rfl⟩
    rw [<- em] at mc
    exact (of_decide_eq_true (aa4.mp mc).2) e
   rw [em] at Km
   have QJ:∀b o,b≠lB->b≠pB->DU b=some o->Zn b=some o:=fun b o n n' e=>k15 _ _ n' (xZ b o n e)
   have Jw:=k15 _ _ (aaO Zm) VF
   have VG:KO pP pW pB lP lB DU Zn:=fun b o _ _ n3 _ n5 e=>QJ b o n5 n3 e
   have SS:=(fh.t VG).cG h1
   refine ⟨_,rfl,.inl ⟨rfl,_,a8.of Jw⟩,_,rfl,ta,_,_,_,rfl,rfl,SS,rfl,_,rfl,ta,_,_,_,rfl,rfl,SS,rfl,_,rfl,ta,_,_,_,rfl,rfl,SS,rfl,L3,?_⟩
   intro Mt n16;generalize eX:upd _ Mt _=Zo;have ⟨T6,e16⟩:=nw n16 eX;clear eX
   refine ⟨lB,_,_,rfl,rfl,T6 _ _ Jw,(aar (show (vs.eraseIdx k).length<=1000 by have:=abU vs k;omega) (by decide)),?_⟩
   have t_:∀b o,b≠lB->Zn b=some o->(upd Zo lB (.lst (vs.eraseIdx k++[.ref Mt]))) b=some o:=fun b o n e=>by rw [ao n];exact T6 _ _ e
   have VH:(upd Zo lB (.lst (vs.eraseIdx k++[.ref Mt]))) lB=some (.lst (vs.eraseIdx k++[.ref Mt])):=ah
   have Zp:(upd Zo lB (.lst (vs.eraseIdx k++[.ref Mt]))) Mt=some (.tup [.str b.nm,.int (j:Int),.int (i:Int)]):=by rw [ao (fun z=>by rw [z,Jw] at n16;cases n16)];exact e16
   generalize upd Zo lB (.lst (vs.eraseIdx k++[.ref Mt]))=Zq at t_ VH Zp ⊢
   have Jx:KO pP pW pB lP lB DU Zq:=fun b o _ _ n3 _ n5 e=>t_ b o n5 (QJ b o n5 n3 e)
   have VI:bg Zn Zq:=fun b xs r=>by
    rcases r with r | ⟨o',r⟩
    ·exact .inl (t_ _ _ (fun z=>by rw [z,Jw] at r;cases r) r)
    ·exact .inr ⟨o',t_ _ _ (fun z=>by rw [z,Jw] at r;cases r) r⟩
   have R17:=Km.eg VI ((t_ _ _ fb Km.obj).trans Km.obj.symm) ((t_ _ _ nPb Km.pl).trans Km.pl.symm) ((t_ _ _ nWb Km.wy).trans Km.wy.symm) ((t_ _ _ Zm Km.br).trans Km.br.symm)
   have h17:=(fh.t Jx).cG h1
   have QK:Zq lP=some (.lst us):=t_ _ _ OC (QJ _ _ OC (aaO nBp) fh.hp)
   have VJ:Paired (jo K Zq lP lB) us pins:=Paired.bM fh.pp fun _ _ z=>fh.DS Jx z
   obtain ⟨u1,eu1,p1,_,_,_,rfl,c1,_⟩:=aH (bU VJ) g1
   obtain ⟨u2,eu2,p2,_,_,_,rfl,c2,_⟩:=aH (bU VJ) g2
   refine ⟨_,rfl,fA,C,dx,_,_,_,rfl,R17.obj,rfl,Rx,_,rfl,ta,_,_,_,rfl,rfl,h17,rfl,_,rfl,_,rfl,ta,_,_,_,rfl,rfl,h17,rfl,lP,_,_,_,rfl,rfl,a8.of QK,cE eu2,p2,_,_,_,rfl,rfl,c2,rfl,_,rfl,_,rfl,ta,_,_,_,rfl,rfl,h17,rfl,lP,_,_,_,rfl,rfl,a8.of QK,cE eu1,p1,_,_,_,rfl,rfl,c1,rfl,?_⟩
   dsimp only [fN]
   obtain ⟨m1,m2,m3⟩:=gb.ends b mb
   have len:=abU bars k
   have nmP:(Kl pins).map (·.1)=pins.map (·.nm):=by rw [aay];rfl
   refine ⟨fA,dx,pP,pW,pB,Kl pins,wH (bars.eraseIdx k),qd,iT,kB1,b.nm,b.other.nm,b.one.nm,rfl,R17,by rw [aay];exact nob,by rw [nmP];exact aab.mpr ⟨_,m2,rfl⟩,by rw [nmP];exact aab.mpr ⟨_,m1,rfl⟩,aaO m3,by rw [aaa];omega,fun H18 kB2 Zr R18=> ?_⟩
   have zq:KO pP pW pB lP lB DU H18:=fun b o n1 n2 n3 n4 n5 e=>Zr _ _ n3 (Jx b o n1 n2 n3 n4 n5 e)
   have VL:=fh.t zq
   have sub:ahu (bars.eraseIdx k) bars:=ahN _ _
   have Jy:WS K H18 C fA dx pP pW pB lP lB us (vs.eraseIdx k++[.ref Mt]) pins (bars.eraseIdx k++[⟨b.nm,b.other,b.one⟩]):=by
    refine ⟨⟨qd,iT,kB2,?_,fh.wys zq W nW,nW⟩,Zr _ _ (aaO nBp) QK,Paired.bM fh.pp fun _ _ z=>fh.DS zq z,Zr _ _ (aaO Zm) VH,eZ (j6 (Paired.bM fh.pb fun u b z=> ?_)) ⟨Mt,j,i,rfl,bN.of (Zr _ _ (fun z=>by rw [z,R17.br] at Zp;cases Zp) Zp),g2,g1⟩,gp,j0.snoc ⟨gb.nb.sublist (sub.map _),fun c hc=>gb.ends c (sub.subset hc)⟩ nob ⟨m2,m1,aaO m3⟩,fh.lp,?_,OC⟩
    ·rw [show wH (bars.eraseIdx k++[⟨b.nm,b.other,b.one⟩])=wH (bars.eraseIdx k)++[(b.nm,b.other.nm,b.one.nm)] from aaK]
     exact R18
    ·obtain ⟨a,i,j,e,h1,g1,g2⟩:=z
     exact ⟨a,i,j,e,VL.cG h1,g1,g2⟩
    ·rw [aas,ail]
     omega
   have acg:KO pP pW pB lP lB H H18:=(KO.of s0).trans zq
   refine ⟨_,rfl,fA,pins,_,rfl,Jy.fa,Jy.g,Mr Jy,fun VM kT5 ms5 H24 Mg _ Jz JA _=> ?_⟩
   have JB:=Jy.same Mg
   refine ⟨_,rfl,_,rfl,_,rfl,ri JB Jz JA fun H25 uF=>⟨_,rfl,?_⟩⟩
   refine bc (fun c=>nomatch c) (fun _=> ?_)
   have pS:=JB.same uF
   refine ⟨_,rfl,_,rfl,_,rfl,fA,pins,_,rfl,pS.fa,pS.g,Mr pS,fun dS kS H26 QL eS spS=> ?_⟩
   have mC:=pS.same QL
   refine ⟨lB,VM,dS,_,pins,_,kT5,kS,rfl,mC.hb,mC.pb,(uF.trans QL) _ _ Jz,eS,JA.part Jy.gb.nb spS,fun H27 RB=>⟨_,rfl,?_⟩⟩
   refine bc (fun c=>nomatch c) (fun _=> ?_)
   exact tL _ _ ⟨VM,_,_,_,rfl,acg.trans (KO.of (Mg.trans (uF.trans (QL.trans RB)))),mC.same RB⟩
  ·exact tL _ _ ⟨dm,none,vs,bars,rfl,KO.of s0,fh⟩
 rintro σ' H20 ⟨t4,o8,Zh,j7,rfl,QM,QN⟩
 refine e_ (fun σ' H' =>∃(g:V) (iA:ν) (usG VN:η),σ' =[some (.ref sA),some (.ref lP),some (.ref lB),some (.ref fA),some (.ref t4),some (.ref lN),o6,some (.ref Vy),o8,some g]/\KO pP pW pB lP lB H H' /\WS K H' C fA dx pP pW pB lP lB usG VN iA j7/\iA.length<=7/\((g=.cv/\∀p∈iA,p.nm≠ "far"/\p.sp.1<=1000001)\/∃p,jo K H' lP lB g p/\p.nm∉iA.map (·.nm)/\p.sp∉iA.map (·.sp)/\Sz 44 p.sp.1/\Sz 20 p.sp.2/\ -500002<=p.sp.2/\∀q∈iA,q.sp.2<=500002)) (fun Nx tL=> ?_) ?_
 ·refine ⟨_,rfl,_,rfl,_,rfl,_,rfl,sA,ns,15,rfl,xY QM,by decide,by decide,?_⟩
  try dsimp only [fN]
  refine ⟨fA,dx,pP,pW,pB,lP,lB,_,Zh,_,j7,_,rfl,QN,fun H23 s23=> ?_,fun k p y iW vs3 H23 ek ko vY py=> ?_⟩
  ·exact tL _ _ ⟨.cv,_,_,Zh,rfl,QM.trans (KO.of s23),QN.same s23,by omega,.inl ⟨rfl,fun p hp=>⟨(pn p hp).1.2,by have:=(pn p hp).2.1;grind⟩⟩⟩
  ·have mp:=ir ek
   obtain ⟨u1,u2⟩:=QN.gp.un ek
   have sub:∀q∈pins.eraseIdx k,q∈pins:=fun q hq=>(ahN _ _).subset hq
   refine tL _ _ ⟨y,_,iW,vs3,rfl,QM.trans ko,vY,?_,.inr ⟨p,py,u1,u2,(gp.sz p mp).1,(pn p mp).2.2.1,(pn p mp).2.2.2.1,fun q hq=>(pn q (sub q hq)).2.2.2.2⟩⟩
   have:=abU pins k
   omega
 rintro σ' H23 ⟨g,iA,usG,VN,rfl,ack,vY,lG,alt⟩
 refine ⟨_,rfl,fA,iA,j7,rfl,vY.fa,vY.g,Mr vY,fun VM kT5 ms5 H24 Mg _ Jz JA _=> ?_⟩
 dsimp only [cI]
 refine e_ (fun σ' H' =>σ' =[some (.ref sA),some (.ref lP),some (.ref lB),some (.ref fA),some (.ref VM),some (.ref lN),o6,some (.ref Vy),o8,some g]/\au H23 H') (fun Nx tL=> ?_) ?_
 ·have JB:=vY.same Mg
  refine ⟨_,rfl,_,rfl,_,rfl,ri JB Jz JA fun H25 uF=>⟨_,rfl,?_⟩⟩
  refine bc (fun c=>nomatch c) (fun _=> ?_)
  have pS:=JB.same uF
  refine ⟨_,rfl,_,rfl,_,rfl,fA,iA,j7,rfl,pS.fa,pS.g,Mr pS,fun dS kS H26 QL eS spS=> ?_⟩
  have mC:=pS.same QL
  refine ⟨lB,VM,dS,VN,iA,j7,kT5,kS,rfl,mC.hb,mC.pb,(uF.trans QL) _ _ Jz,eS,JA.part vY.gb.nb spS,fun H27 RB=>⟨_,rfl,?_⟩⟩
  refine bc (fun c=>nomatch c) (fun _=> ?_)
  exact tL _ _ ⟨rfl,Mg.trans (uF.trans (QL.trans RB))⟩
 rintro σ' H25 ⟨rfl,uF⟩
 have pS:=vY.same uF
 have acm:=ack.trans (KO.of (pP:=pP) (pW:=pW) (pB:=pB) (lP:=lP) (lB:=lB) uF)
 refine ⟨_,rfl,_,rfl,_,rfl,_,rfl,sA,ns,15,rfl,xY acm,by decide,by decide,?_⟩
 try dsimp only [fN]
 refine ⟨fA,dx,pP,pW,pB,lP,lB,usG,VN,iA,j7,g,_,rfl,pS,lG,alt.imp id (fun ⟨p,a,b⟩=>⟨p,a.same uF,b⟩),fun p iW H26 ko mC=> ?_⟩
 refine ⟨_,rfl,fA,_,j7,rfl,mC.fa,mC.g,Mr mC,fun dm6 kT6 ms6 H27 RB _ VO VP _=> ?_⟩
 have VQ:=mC.same RB
 refine ⟨_,rfl,_,rfl,_,rfl,ri VQ VO VP fun H28 s28=>⟨_,rfl,?_⟩⟩
 refine bc (fun _=> ?_) (fun c=>absurd rfl c)
 have Mu:=VQ.same s28
 refine ⟨_,rfl,_,rfl,_,rfl,fA,_,j7,rfl,Mu.fa,Mu.g,Mr Mu,fun dS kS H29 s29 eS spS=> ?_⟩
 have VR:=Mu.same s29
 exact ⟨lB,dm6,dS,VN,_,j7,kT6,kS,rfl,VR.hb,VR.pb,(s28.trans s29) _ _ VO,eS,VP.part mC.gb.nb spS,fun H30 s30=>q _⟩
end
theorem all_mk {l:PySem.W.OpenLaw}{w:World}{K:Frag}{h:Heap}{mg:ι}{fa:Addr}(X:K.In h)(G:h.Ns mainGlobals mg)(hfa:mg "law"=some (.ref fa))
  (acn:nsIn K mainGlobals "difference_of"=some (some (.ref VS))) (aco:K.lookup VS=some ⟨aiR,aiS,.func (fnOf "difference_of" "difference_of" (ay xu) (aw xu) (ag xu) .none aiT aiU aiV aiW VT aiX),aiY⟩) (acp:codeIn K VT "difference_of"=true) (acq:keepIn K (.ref VS)=true) (acr:nsIn K mainGlobals "lowest_terms"=some (some (.ref VU))) (acs:K.lookup VU=some ⟨aiZ,ai0,.func (fnOf "lowest_terms" "lowest_terms" (ay vD) (aw vD) (ag vD) .none ai1 ai2 ai3 ai4 VW ai5),ai6⟩) (acu:codeIn K VW "lowest_terms"=true) (acv:keepIn K (.ref VU)=true) (acw:nsIn K mainGlobals "greatest_shared"=some (some (.ref VX))) (acx:K.lookup VX=some ⟨ai7,ai8,.func (fnOf "greatest_shared" "greatest_shared" (ay BC) (aw BC) (ag BC) .none ai9 ai' aja ajb VY ajc),ajd⟩) (acy:codeIn K VY "greatest_shared"=true) (acz:keepIn K (.ref VX)=true) (acA:nsIn K mainGlobals "arm_between"=some (some (.ref VZ))) (acB:K.lookup VZ=some ⟨aje,ajf,.func (fnOf "arm_between" "arm_between" (ay BD) (aw BD) (ag BD) .none ajg ajh aji ajj V0 ajk),ajl⟩) (acC:codeIn K V0 "arm_between"=true) (acD:keepIn K (.ref VZ)=true) (acE:nsIn K mainGlobals "pair_difference"=some (some (.ref V1))) (acF:K.lookup V1=some ⟨ajm,ajn,.func (fnOf "pair_difference" "pair_difference" (ay xv) (aw xv) (ag xv) .none ajo ajp ajq ajr V2 ajs),ajt⟩) (acG:codeIn K V2 "pair_difference"=true) (acH:keepIn K (.ref V1)=true) (acI:nsIn K mainGlobals "pair_row"=some (some (.ref V3))) (acJ:K.lookup V3=some ⟨aju,ajv,.func (fnOf "pair_row" "pair_row" (ay BE) (aw BE) (ag BE) .none ajw ajx ajy ajz V4 ajA),ajB⟩) (acK:codeIn K V4 "pair_row"=true) (acL:keepIn K (.ref V3)=true) (acM:nsIn K mainGlobals "bar_row"=some (some (.ref V5))) (acN:K.lookup V5=some ⟨ajC,ajD,.func (fnOf "bar_row" "bar_row" (ay BF) (aw BF) (ag BF) .none ajE ajF ajG ajH V6 ajI),ajJ⟩) (acO:codeIn K V6 "bar_row"=true) (acP:keepIn K (.ref V5)=true) (acQ:nsIn K mainGlobals "draw_rows"=some (some (.ref V7))) (acR:K.lookup V7=some ⟨ajK,ajL,.func (fnOf "draw_rows" "draw_rows" (ay BG) (aw BG) (ag BG) .none ajM ajN ajO ajP V8 ajQ),ajR⟩) (acS:codeIn K V8 "draw_rows"=true) (acT:keepIn K (.ref V7)=true) (acU:nsIn K mainGlobals "pulls_and_pushes"=some (some (.ref V9))) (acV:K.lookup V9=some ⟨ajS,ajT,.func (fnOf "pulls_and_pushes" "pulls_and_pushes" (ay BH) (aw BH) (ag BH) .none ajU ajV ajW ajX V_ ajY),ajZ⟩) (acW:codeIn K V_ "pulls_and_pushes"=true) (acX:keepIn K (.ref V9)=true) (acY:nsIn K mainGlobals "motion_from"=some (some (.ref V'))) (acZ:K.lookup V'=some ⟨aj0,aj1,.func (fnOf "motion_from" "motion_from" (ay BI) (aw BI) (ag BI) .none aj2 aj3 aj4 aj5 Wa aj6),aj7⟩) (ac0:codeIn K Wa "motion_from"=true) (ac1:keepIn K (.ref V')=true) (ac2:nsIn K mainGlobals "signs_turned"=some (some (.ref Wb))) (ac3:K.lookup Wb=some ⟨aj8,aj9,.func (fnOf "signs_turned" "signs_turned" (ay BJ) (aw BJ) (ag BJ) .none aj' aka akb akc Wc akd),ake⟩) (ac4:codeIn K Wc "signs_turned"=true) (ac5:keepIn K (.ref Wb)=true) (mD:nsIn K mainGlobals "spare_columns"=some (some (.ref g9))) (mE:K.lookup g9=some ⟨DV,DW,.func (fnOf "spare_columns" "spare_columns" (ay b9) (aw b9) (ag b9) .none DX DY DZ D_ kO D'),EA⟩) (mF:codeIn K kO "spare_columns"=true) (mG:keepIn K (.ref g9)=true) (ua:nsIn K mainGlobals "spare_list"=some (some (.ref j8))) (ub:K.lookup j8=some ⟨Kn,Ko,.func (fnOf "spare_list" "spare_list" (ay dc) (aw dc) (ag dc) .none Kp Kq Kr Ks qE Kt),Ku⟩) (uc:codeIn K qE "spare_list"=true) (ud:keepIn K (.ref j8)=true) (kQ:nsIn K mainGlobals "needed_columns"=some (some (.ref gA))) (kR:K.lookup gA=some ⟨zu,zv,.func (fnOf "needed_columns" "needed_columns" (ay bV) (aw bV) (ag bV) .none zz zA zB zC j9 zD),zE⟩) (kX:codeIn K j9 "needed_columns"=true) (kY:keepIn K (.ref gA)=true) (ac6:nsIn K mainGlobals "turned"=some (some (.ref Wd))) (ac7:K.lookup Wd=some ⟨akf,akg,.func (fnOf "turned" "turned" (ay BK) (aw BK) (ag BK) .none akh aki akj akk We akl),akm⟩) (ac8:codeIn K We "turned"=true) (ac9:keepIn K (.ref Wd)=true) (ac':nsIn K mainGlobals "whole_row"=some (some (.ref Wf))) (ada:K.lookup Wf=some ⟨akn,ako,.func (fnOf "whole_row" "whole_row" (ay BL) (aw BL) (ag BL) .none akp akq akr aks Wg akt),aku⟩) (adb:codeIn K Wg "whole_row"=true) (ade:keepIn K (.ref Wf)=true) (vZ:nsIn K mainGlobals "unit_line"=some (some (.ref lZ))) (v3:K.lookup lZ=some ⟨Mv,Mw,.func (fnOf "unit_line" "unit_line" (ay dP) (aw dP) (ag dP) .none Mx My Mz MA ue MD),MF⟩) (v7:codeIn K ue "unit_line"=true) (v8:keepIn K (.ref lZ)=true) (adf:nsIn K mainGlobals "reduced"=some (some (.ref Wh))) (adg:K.lookup Wh=some ⟨akv,akw,.func (fnOf "reduced" "reduced" (ay BM) (aw BM) (ag BM) .none akx aky akz akA Wi akB),akC⟩) (adh:codeIn K Wi "reduced"=true) (adi:keepIn K (.ref Wh)=true) (adj:nsIn K mainGlobals "first_not_nought"=some (some (.ref Wj))) (adk:K.lookup Wj=some ⟨akD,akE,.func (fnOf "first_not_nought" "first_not_nought" (ay BN) (aw BN) (ag BN) .none akF akG akH akI Wk akJ),akK⟩) (adl:codeIn K Wk "first_not_nought"=true) (adm:keepIn K (.ref Wj)=true) (adn:nsIn K mainGlobals "cleared"=some (some (.ref Wm))) (ado:K.lookup Wm=some ⟨akL,akM,.func (fnOf "cleared" "cleared" (ay BO) (aw BO) (ag BO) .none akN akO akP akQ Wn akR),akS⟩) (adp:codeIn K Wn "cleared"=true) (adq:keepIn K (.ref Wm)=true) (ads:nsIn K mainGlobals "divided"=some (some (.ref Wo))) (adt:K.lookup Wo=some ⟨akT,akU,.func (fnOf "divided" "divided" (ay BP) (aw BP) (ag BP) .none akV akW akX akY Wq akZ),ak0⟩) (adu:codeIn K Wq "divided"=true) (adv:keepIn K (.ref Wo)=true) (v9:nsIn K mainGlobals "spares_of"=some (some (.ref l0))) (v_:K.lookup l0=some ⟨MG,MI,.func (fnOf "spares_of" "spares_of" (ay dQ) (aw dQ) (ag dQ) .none MJ MK MM MO uf MQ),MR⟩) (wd:codeIn K uf "spares_of"=true) (we:keepIn K (.ref l0)=true) (x3:nsIn K mainGlobals "needs_of"=some (some (.ref pT))) (x4:K.lookup pT=some ⟨N_,N',.func (fnOf "needs_of" "needs_of" (ay eJ) (aw eJ) (ag eJ) .none Oa Ob Oc Od wg Oe),Of⟩) (x6:codeIn K wg "needs_of"=true) (x8:keepIn K (.ref pT)=true) (adw:nsIn K mainGlobals "_law_cell_at"=some (some (.ref Wr))) (adx:K.lookup Wr=some ⟨ak1,ak2,.func (fnOf "_law_cell_at" "_law_cell_at" (ay BQ) (aw BQ) (ag BQ) .none ak3 ak4 ak5 ak6 Ws ak7),ak8⟩) (ady:codeIn K Ws "_law_cell_at"=true) (adz:keepIn K (.ref Wr)=true) (adA:nsIn K mainGlobals "_law_field"=some (some (.ref Wt))) (adB:K.lookup Wt=some ⟨ak9,ak',.func (fnOf "_law_field" "_law_field" (ay BR) (aw BR) (ag BR) .none ala alb alc ald Wu ale),alf⟩) (adC:codeIn K Wu "_law_field"=true) (adD:keepIn K (.ref Wt)=true) (adE:nsIn K mainGlobals "_law_lowest"=some (some (.ref Wv))) (adF:K.lookup Wv=some ⟨alg,alh,.func (fnOf "_law_lowest" "_law_lowest" (ay BS) (aw BS) (ag BS) .none ali alj alk alm Ww aln),alo⟩) (adG:codeIn K Ww "_law_lowest"=true) (adH:keepIn K (.ref Wv)=true) (adI:nsIn K mainGlobals "_law_sum"=some (some (.ref Wx))) (adJ:K.lookup Wx=some ⟨alp,alq,.func (fnOf "_law_sum" "_law_sum" (ay BU) (aw BU) (ag BU) .none alr als alu alv Wy alw),alx⟩) (adK:codeIn K Wy "_law_sum"=true) (adL:keepIn K (.ref Wx)=true) (adM:nsIn K mainGlobals "_law_times"=some (some (.ref Wz))) (adN:K.lookup Wz=some ⟨aly,alz,.func (fnOf "_law_times" "_law_times" (ay BV) (aw BV) (ag BV) .none alA alB alC alD WA alE),alF⟩) (adO:codeIn K WA "_law_times"=true) (adP:keepIn K (.ref Wz)=true) (adQ:nsIn K mainGlobals "_law_turned"=some (some (.ref WC))) (adR:K.lookup WC=some ⟨alG,alH,.func (fnOf "_law_turned" "_law_turned" (ay BW) (aw BW) (ag BW) .none alI alJ alK alL WD alM),alN⟩) (adS:codeIn K WD "_law_turned"=true) (adT:keepIn K (.ref WC)=true) (adU:nsIn K mainGlobals "_law_name"=some (some (.ref WE))) (adV:K.lookup WE=some ⟨alO,alP,.func (fnOf "_law_name" "_law_name" (ay xw) (aw xw) (ag xw) .none alQ alR alS alT WG alU),alV⟩) (adW:codeIn K WG "_law_name"=true) (adX:keepIn K (.ref WE)=true) (adY:nsIn K mainGlobals "_law_spot"=some (some (.ref WH))) (adZ:K.lookup WH=some ⟨alW,alX,.func (fnOf "_law_spot" "_law_spot" (ay BX) (aw BX) (ag BX) .none alY alZ al0 al1 WI al2),al3⟩) (ad0:codeIn K WI "_law_spot"=true) (ad1:keepIn K (.ref WH)=true) (ad2:nsIn K mainGlobals "_law_ways"=some (some (.ref WJ))) (ad3:K.lookup WJ=some ⟨al4,al5,.func (fnOf "_law_ways" "_law_ways" (ay BY) (aw BY) (ag BY) .none al6 al7 al8 al9 WK al'),ama⟩) (ad4:codeIn K WK "_law_ways"=true) (ad5:keepIn K (.ref WJ)=true) (ad6:nsIn K mainGlobals "_law_pins"=some (some (.ref WL))) (ad7:K.lookup WL=some ⟨amb,amc,.func (fnOf "_law_pins" "_law_pins" (ay BZ) (aw BZ) (ag BZ) .none amd ame amf amg WM amh),ami⟩) (ad8:codeIn K WM "_law_pins"=true) (ad9:keepIn K (.ref WL)=true) (ad':nsIn K mainGlobals "_law_bars"=some (some (.ref WN))) (aea:K.lookup WN=some ⟨amj,amk,.func (fnOf "_law_bars" "_law_bars" (ay B_) (aw B_) (ag B_) .none aml amm amn amo WO amq),amr⟩) (aeb:codeIn K WO "_law_bars"=true) (aec:keepIn K (.ref WN)=true) (aed:nsIn K mainGlobals "_law_frame"=some (some (.ref WQ))) (aee:K.lookup WQ=some ⟨ams,amt,.func (fnOf "_law_frame" "_law_frame" (ay B') (aw B') (ag B') .none amu amv amw amx WR amy),amz⟩) (aef:codeIn K WR "_law_frame"=true) (aeg:keepIn K (.ref WQ)=true) (aeh:nsIn K mainGlobals "_law_arm"=some (some (.ref WT))) (aei:K.lookup WT=some ⟨amA,amB,.func (fnOf "_law_arm" "_law_arm" (ay CA) (aw CA) (ag CA) .none amC amD amE amF WU amG),amH⟩) (aej:codeIn K WU "_law_arm"=true) (aek:keepIn K (.ref WT)=true) (ael:nsIn K mainGlobals "_law_number"=some (some (.ref WV))) (aem:K.lookup WV=some ⟨amI,amJ,.func (fnOf "_law_number" "_law_number" (ay CB) (aw CB) (ag CB) .none amK amL amM amN WW amO),amP⟩) (aen:codeIn K WW "_law_number"=true) (aeo:keepIn K (.ref WV)=true) (aep:nsIn K mainGlobals "_law_is_motion"=some (some (.ref WX))) (aeq:K.lookup WX=some ⟨amQ,amR,.func (fnOf "_law_is_motion" "_law_is_motion" (ay CC) (aw CC) (ag CC) .none amS amT amU amV WY amW),amX⟩) (aer:codeIn K WY "_law_is_motion"=true) (aes:keepIn K (.ref WX)=true) (aet:nsIn K mainGlobals "_law_dot"=some (some (.ref WZ))) (aeu:K.lookup WZ=some ⟨amY,amZ,.func (fnOf "_law_dot" "_law_dot" (ay CD) (aw CD) (ag CD) .none am0 am1 am2 am3 W5 am4),am5⟩) (aev:codeIn K W5 "_law_dot"=true) (aew:keepIn K (.ref WZ)=true) (aex:nsIn K mainGlobals "_law_longer"=some (some (.ref W7))) (aey:K.lookup W7=some ⟨am6,am7,.func (fnOf "_law_longer" "_law_longer" (ay CG) (aw CG) (ag CG) .none am8 am9 am' ana W8 anb),anc⟩) (aez:codeIn K W8 "_law_longer"=true) (aeA:keepIn K (.ref W7)=true) (aeB:nsIn K mainGlobals "_law_keeps"=some (some (.ref W9))) (aeC:K.lookup W9=some ⟨ane,anf,.func (fnOf "_law_keeps" "_law_keeps" (ay CH) (aw CH) (ag CH) .none ang anh ani anj W_ ank),anl⟩) (aeD:codeIn K W_ "_law_keeps"=true) (aeE:keepIn K (.ref W9)=true) (aeF:nsIn K mainGlobals "_law_right"=some (some (.ref Xa))) (aeG:K.lookup Xa=some ⟨anm,ano,.func (fnOf "_law_right" "_law_right" (ay CI) (aw CI) (ag CI) .none anp anq anr ans Xb ant),anu⟩) (aeH:codeIn K Xb "_law_right"=true) (aeI:keepIn K (.ref Xa)=true) (ug:nsIn K mainGlobals "_law_parted"=some (some (.ref j_))) (uh:K.lookup j_=some ⟨Kv,Kw,.func (fnOf "_law_parted" "_law_parted" (ay de) (aw de) (ag de) .none Kx Ky Kz KA qF KC),KD⟩) (uk:codeIn K qF "_law_parted"=true) (um:keepIn K (.ref j_)=true) (qG:nsIn K mainGlobals "_law_put_pin"=some (some (.ref i9))) (qH:K.lookup i9=some ⟨JC,JD,.func (fnOf "_law_put_pin" "_law_put_pin" (ay cM) (aw cM) (ag cM) .none JE JF JG JH pU JI),JJ⟩) (qI:codeIn K pU "_law_put_pin"=true) (qJ:keepIn K (.ref i9)=true) (qK:nsIn K mainGlobals "_law_pin_out"=some (some (.ref i_))) (qL:K.lookup i_=some ⟨JK,JL,.func (fnOf "_law_pin_out" "_law_pin_out" (ay cN) (aw cN) (ag cN) .none JM JN JO JP pV JQ),JR⟩) (qM:codeIn K pV "_law_pin_out"=true) (qN:keepIn K (.ref i_)=true) (uo:nsIn K mainGlobals "_law_pin_in"=some (some (.ref ka))) (uq:K.lookup ka=some ⟨KG,KH,.func (fnOf "_law_pin_in" "_law_pin_in" (ay df) (aw df) (ag df) .none KI KJ KL KN qO KP),KQ⟩) (ur:codeIn K qO "_law_pin_in"=true) (uu:keepIn K (.ref ka)=true) (Xc:nsIn K mainGlobals "law"=some (some (.ref Og))) (Xd:K.lookup Og=some ⟨aeJ,aeK,.func (fnOf "law" "law" (ay jJ) (aw jJ) (ag jJ) .none QO QP QQ QR JS QS),aeL⟩) (Xe:codeIn K JS "law"=true) (Xf:keepIn K (.ref Og)=true) (aeM:nsIn K mainGlobals "MOST_PINS"=some (some (.int 24 anv))) (aeN:nsIn K mainGlobals "MOST_BARS"=some (some (.int 60 anw))) (aeO:nsIn K mainGlobals "NOUGHT"=some (some (.ref QT))) (aeP:K.lookup QT=some ⟨.type "tuple",anx,.seq #[.int 0 aeQ,.int 1 aeR] anz,anA⟩) (aeS:nsIn K mainGlobals "ONE"=some (some (.ref QU))) (aeT:K.lookup QU=some ⟨.type "tuple",anB,.seq #[.int 1 aeU,.int 1 aeV] anC,anD⟩) (aeW:nsIn K mainGlobals "NO_MOVE"=some (some (.ref QV))) (aeX:K.lookup QV=some ⟨.type "tuple",anE,.seq #[.ref Xg,.ref Xh] anF,anG⟩) (aeY:K.lookup Xg=some ⟨.type "tuple",anH,.seq #[.int 0 aeZ,.int 1 ae0] anI,anJ⟩) (ae1:K.lookup Xh=some ⟨.type "tuple",anK,.seq #[.int 0 ae2,.int 1 ae3] anL,anM⟩) (uv:nsIn K mainGlobals "ValueError"=some none) (Xi:nsIn K mainGlobals "abs"=some none) (Xj:nsIn K mainGlobals "any"=some none) (QW:nsIn K mainGlobals "bool"=some none) (QX:nsIn K mainGlobals "dict"=some none) (wj:nsIn K mainGlobals "enumerate"=some none) (Xk:nsIn K mainGlobals "int"=some none) (uw:nsIn K mainGlobals "isinstance"=some none) (Xl:nsIn K mainGlobals "len"=some none) (QY:nsIn K mainGlobals "list"=some none) (Xm:nsIn K mainGlobals "min"=some none) (MS:nsIn K mainGlobals "range"=some none) (Xn:nsIn K mainGlobals "str"=some none) (MT:nsIn K mainGlobals "tuple"=some none) (Xo:nsIn K mainGlobals "zip"=some none) (ae4:nsIn K mainGlobals "YardError"=some (some (.ref ae5))) (ae6:nsIn K mainGlobals "NoWay"=some (some (.ref ae7))) (ae8:nsIn K mainGlobals "PinThere"=some (some (.ref ae9))) (ae':nsIn K mainGlobals "SpotTaken"=some (some (.ref afa))) (afb:nsIn K mainGlobals "NoPin"=some (some (.ref afc))) (EB:nsIn K mainGlobals "PinBusy"=some (some (.ref EC))) (afd:nsIn K mainGlobals "BarThere"=some (some (.ref afe))) (aff:nsIn K mainGlobals "NoBar"=some (some (.ref afg))) (afh:nsIn K mainGlobals "NoLength"=some (some (.ref afi))) (afj:nsIn K mainGlobals "TooMany"=some (some (.ref afk))) (afl:nsIn K mainGlobals "Frame"=some (some (.ref bI))) (afm:nsIn K mainGlobals "Hold"=some (some (.ref mH))) (afn:nsIn K mainGlobals "Roller"=some (some (.ref iX))) (afo:nsIn K mainGlobals "Fixed"=some (some (.ref kZ))) (Xp:PySem.W.plainGet K bI Str.empty=true) (Xq:PySem.W.hasDictIn K bI=true) (Xr:PySem.W.plainOver K bI=true) (Xs:PySem.W.findIn K (.ref bI) "__setattr__"=some (some (.builtin "object.__setattr__"))) (Xt:PySem.W.makesIn K bI=true) (Xu:keepIn K (.ref bI)=true) (Xv:PySem.W.findIn K (.ref bI) "__init__"=some (some (.ref JT))) (Xw:PySem.W.isFn K (.ref JT)=true) (afp:K.lookup JT=some ⟨anN,anO,.func (fnOf "__init__" "Frame.__init__" (ay CJ) (aw CJ) (ag CJ) .none anP anQ anR anS Xx anT),anU⟩) (afq:codeIn K Xx "Frame.__init__"=true) (Xy:keepIn K (.ref JT)=true) (afr:PySem.W.findIn K (.ref bI) "put_pin"=some (some (.ref MU))) (afs:PySem.W.isFn K (.ref MU)=true) (aft:K.lookup MU=some ⟨anV,anW,.func (fnOf "put_pin" "Frame.put_pin" (ay mh) (aw mh) (ag mh) (.ref JU) Oh Oi Oj Ol JV Om),anY⟩) (Xz:K.lookup JU=some ⟨anZ,afu,.seq #[.none] an0,afv⟩) (afw:codeIn K JV "Frame.put_pin"=true) (XA:keepIn K (.ref MU)=true) (afx:PySem.W.findIn K (.ref bI) "put_bar"=some (some (.ref MV))) (afy:PySem.W.isFn K (.ref MV)=true) (afz:K.lookup MV=some ⟨an1,an2,.func (fnOf "put_bar" "Frame.put_bar" (ay CK) (aw CK) (ag CK) .none an3 an4 an5 an6 XB an7),an8⟩) (afA:codeIn K XB "Frame.put_bar"=true) (XC:keepIn K (.ref MV)=true) (afB:PySem.W.findIn K (.ref bI) "check_bar"=some (some (.ref MX))) (afC:PySem.W.isFn K (.ref MX)=true) (afD:K.lookup MX=some ⟨an9,an',.func (fnOf "check_bar" "Frame.check_bar" (ay CL) (aw CL) (ag CL) .none aoa aob aoc aod XD aoe),aof⟩) (afE:codeIn K XD "Frame.check_bar"=true) (XE:keepIn K (.ref MX)=true) (afF:PySem.W.findIn K (.ref bI) "check_pin"=some (some (.ref MY))) (afG:PySem.W.isFn K (.ref MY)=true) (afH:K.lookup MY=some ⟨aog,aoh,.func (fnOf "check_pin" "Frame.check_pin" (ay CM) (aw CM) (ag CM) .none aoi aoj aok aol XF aom),aon⟩) (afI:codeIn K XF "Frame.check_pin"=true) (XG:keepIn K (.ref MY)=true) (afJ:PySem.W.findIn K (.ref bI) "take_bar"=some (some (.ref MZ))) (afK:PySem.W.isFn K (.ref MZ)=true) (afL:K.lookup MZ=some ⟨aoo,aop,.func (fnOf "take_bar" "Frame.take_bar" (ay CN) (aw CN) (ag CN) .none aoq aor aos aot XH aou),aov⟩) (afM:codeIn K XH "Frame.take_bar"=true) (XI:keepIn K (.ref MZ)=true) (k7:PySem.W.findIn K (.ref bI) "take_pin"=some (some (.ref di))) (k8:PySem.W.isFn K (.ref di)=true) (k_:K.lookup di=some ⟨zF,zG,.func (fnOf "take_pin" "Frame.take_pin" (ay bW) (aw bW) (ag bW) .none zH zI zJ zK kb zL),zM⟩) (lh:codeIn K kb "Frame.take_pin"=true) (gB:keepIn K (.ref di)=true) (afN:PySem.W.findIn K (.ref bI) "pins"=some (some (.ref M0))) (afO:PySem.W.isFn K (.ref M0)=true) (afP:K.lookup M0=some ⟨aow,aox,.func (fnOf "pins" "Frame.pins" (ay CO) (aw CO) (ag CO) .none aoy aoz aoA aoB XJ aoC),aoD⟩) (afQ:codeIn K XJ "Frame.pins"=true) (XM:keepIn K (.ref M0)=true) (afR:PySem.W.findIn K (.ref bI) "bars"=some (some (.ref M3))) (afS:PySem.W.isFn K (.ref M3)=true) (afT:K.lookup M3=some ⟨aoE,aoF,.func (fnOf "bars" "Frame.bars" (ay CP) (aw CP) (ag CP) .none aoG aoH aoI aoJ XN aoK),aoL⟩) (afU:codeIn K XN "Frame.bars"=true) (XO:keepIn K (.ref M3)=true) (afV:PySem.W.findIn K (.ref bI) "place"=some (some (.ref M4))) (afW:PySem.W.isFn K (.ref M4)=true) (afX:K.lookup M4=some ⟨aoM,aoN,.func (fnOf "place" "Frame.place" (ay CQ) (aw CQ) (ag CQ) .none aoO aoP aoQ aoR XQ aoS),aoT⟩) (afY:codeIn K XQ "Frame.place"=true) (XR:keepIn K (.ref M4)=true) (afZ:PySem.W.findIn K (.ref bI) "ways"=some (some (.ref M6))) (af0:PySem.W.isFn K (.ref M6)=true) (af1:K.lookup M6=some ⟨aoU,aoV,.func (fnOf "ways" "Frame.ways" (ay CS) (aw CS) (ag CS) .none aoW aoX aoY aoZ XS ao0),ao1⟩) (af2:codeIn K XS "Frame.ways"=true) (XT:keepIn K (.ref M6)=true) (af3:PySem.W.findIn K (.ref bI) "ends"=some (some (.ref M7))) (af4:PySem.W.isFn K (.ref M7)=true) (af5:K.lookup M7=some ⟨ao2,ao3,.func (fnOf "ends" "Frame.ends" (ay CT) (aw CT) (ag CT) .none ao4 ao5 ao6 ao7 XU ao8),ao9⟩) (af6:codeIn K XU "Frame.ends"=true) (XW:keepIn K (.ref M7)=true) (XX:PySem.W.plainGet K mH Str.empty=true) (XY:PySem.W.hasDictIn K mH=true) (XZ:PySem.W.plainOver K mH=true) (X0:PySem.W.findIn K (.ref mH) "__setattr__"=some (some (.builtin "object.__setattr__"))) (X1:PySem.W.makesIn K mH=true) (X2:keepIn K (.ref mH)=true) (X3:PySem.W.findIn K (.ref mH) "__init__"=some (some (.builtin "object.__init__"))) (af7:PySem.W.findIn K (.ref mH) "ways"=some (some (.ref M8))) (af8:PySem.W.isFn K (.ref M8)=true) (af9:K.lookup M8=some ⟨ao',apa,.func (fnOf "ways" "Hold.ways" (ay LG) (aw LG) (ag LG) .none apb apc apd ape X4 apf),apg⟩) (af':codeIn K X4 "Hold.ways"=true) (X5:keepIn K (.ref M8)=true) (X6:PySem.W.plainGet K iX Str.empty=true) (X7:PySem.W.hasDictIn K iX=true) (X8:PySem.W.plainOver K iX=true) (X9:PySem.W.findIn K (.ref iX) "__setattr__"=some (some (.builtin "object.__setattr__"))) (X_:PySem.W.makesIn K iX=true) (X':keepIn K (.ref iX)=true) (Ya:PySem.W.findIn K (.ref iX) "__init__"=some (some (.ref JW))) (Yb:PySem.W.isFn K (.ref JW)=true) (aga:K.lookup JW=some ⟨aph,api,.func (fnOf "__init__" "Roller.__init__" (ay CU) (aw CU) (ag CU) .none apj apk apl apm Yc apn),apo⟩) (agb:codeIn K Yc "Roller.__init__"=true) (Yd:keepIn K (.ref JW)=true) (agc:PySem.W.findIn K (.ref iX) "ways"=some (some (.ref M9))) (agd:PySem.W.isFn K (.ref M9)=true) (age:K.lookup M9=some ⟨apq,apr,.func (fnOf "ways" "Roller.ways" (ay CV) (aw CV) (ag CV) .none aps apt apu apv Ye apw),apx⟩) (agf:codeIn K Ye "Roller.ways"=true) (Yf:keepIn K (.ref M9)=true) (Yg:PySem.W.plainGet K kZ Str.empty=true) (Yh:PySem.W.hasDictIn K kZ=true) (Yi:PySem.W.plainOver K kZ=true) (Yj:PySem.W.findIn K (.ref kZ) "__setattr__"=some (some (.builtin "object.__setattr__"))) (Yk:PySem.W.makesIn K kZ=true) (Yl:keepIn K (.ref kZ)=true) (Ym:PySem.W.findIn K (.ref kZ) "__init__"=some (some (.builtin "object.__init__"))) (agg:PySem.W.findIn K (.ref kZ) "ways"=some (some (.ref M_))) (agh:PySem.W.isFn K (.ref M_)=true) (agi:K.lookup M_=some ⟨apy,apz,.func (fnOf "ways" "Fixed.ways" (ay CW) (aw CW) (ag CW) .none apA apB apC apD Yn apE),apF⟩) (agj:codeIn K Yn "Fixed.ways"=true) (Yo:keepIn K (.ref M_)=true) (JX:PySem.W.findIn K (.ref bI) "pin_places"=some none) (QZ:PySem.W.findIn K (.ref bI) "pin_ways"=some none) (Q0:PySem.W.findIn K (.ref bI) "bar_ends"=some none) (Oo:PySem.W.findIn K (.ref iX) "way"=some none) (ht:l.prog.given.tree=none):
  ∃fd:FuncData,(∀(s:Shared) (v:Value),BindsTo s fd ⟨[v],[]⟩ [("_law_script",v)])/\∀base:Heap,K.In base->base.Ns mainGlobals mg->cB l.prog w K mg base (aY l.prog w) 42 fa fd ["_law_script"] (F' K):=by
 have e:=hfa.symm.trans (mg_of X G Xc)
 cases e
 have agk:Def K mg "difference_of" xu ["one","other"]:=fM X G aco acp acq acn
 have agl:Def K mg "lowest_terms" vD ["top","bottom"]:=fM X G acs acu acv acr
 have agm:Def K mg "greatest_shared" BC ["one","other"]:=fM X G acx acy acz acw
 have agn:Def K mg "arm_between" BD ["F","one","other"]:=fM X G acB acC acD acA
 have ago:Def K mg "pair_difference" xv ["one","other"]:=fM X G acF acG acH acE
 have agp:Def K mg "pair_row" BE ["F","draws"]:=fM X G acJ acK acL acI
 have agq:Def K mg "bar_row" BF ["F","one","other"]:=fM X G acN acO acP acM
 have agr:Def K mg "draw_rows" BG ["F"]:=fM X G acR acS acT acQ
 have ags:Def K mg "pulls_and_pushes" BH ["F","numbers"]:=fM X G acV acW acX acU
 have agt:Def K mg "motion_from" BI ["F","numbers"]:=fM X G acZ ac0 ac1 acY
 have agu:Def K mg "signs_turned" BJ ["numbers"]:=fM X G ac3 ac4 ac5 ac2
 have mI:Def K mg "spare_columns" b9 ["rows","many"]:=fM X G mE mF mG mD
 have uA:Def K mg "spare_list" dc ["needed","column","many"]:=fM X G ub uc ud ua
 have lj:Def K mg "needed_columns" bV ["rows","many"]:=fM X G kR kX kY kQ
 have agv:Def K mg "turned" BK ["rows","many"]:=fM X G ac7 ac8 ac9 ac6
 have agw:Def K mg "whole_row" BL ["row"]:=fM X G ada adb ade ac'
 have wm:Def K mg "unit_line" dP ["at","many"]:=fM X G v3 v7 v8 vZ
 have agx:Def K mg "reduced" BM ["lines","many"]:=fM X G adg adh adi adf
 have agy:Def K mg "first_not_nought" BN ["lines","column"]:=fM X G adk adl adm adj
 have agz:Def K mg "cleared" BO ["line","lead","column"]:=fM X G ado adp adq adn
 have agA:Def K mg "divided" BP ["line"]:=fM X G adt adu adv ads
 have wo:Def K mg "spares_of" dQ ["F"]:=fM X G v_ wd we v9
 have x9:Def K mg "needs_of" eJ ["F"]:=fM X G x4 x6 x8 x3
 have agB:Def K mg "_law_cell_at" BQ ["_law_script","_law_k"]:=fM X G adx ady adz adw
 have agC:Def K mg "_law_field" BR ["_law_cell","_law_prime","_law_many"]:=fM X G adB adC adD adA
 have agD:Def K mg "_law_lowest" BS ["_law_top","_law_bottom"]:=fM X G adF adG adH adE
 have agE:Def K mg "_law_sum" BU ["_law_one","_law_other"]:=fM X G adJ adK adL adI
 have agF:Def K mg "_law_times" BV ["_law_one","_law_other"]:=fM X G adN adO adP adM
 have agG:Def K mg "_law_turned" BW ["_law_one"]:=fM X G adR adS adT adQ
 have agH:Def K mg "_law_name" xw ["_law_cell","_law_k"]:=fM X G adV adW adX adU
 have agI:Def K mg "_law_spot" BX ["_law_cell","_law_kind"]:=fM X G adZ ad0 ad1 adY
 have agJ:Def K mg "_law_ways" BY ["_law_cell"]:=fM X G ad3 ad4 ad5 ad2
 have agK:Def K mg "_law_pins" BZ ["_law_script"]:=fM X G ad7 ad8 ad9 ad6
 have agL:Def K mg "_law_bars" B_ ["_law_script","_law_pins_here"]:=fM X G aea aeb aec ad'
 have agM:Def K mg "_law_frame" B' ["_law_pins_here","_law_bars_here"]:=fM X G aee aef aeg aed
 have agN:Def K mg "_law_arm" CA ["_law_pins_here","_law_bar","_law_axis"]:=fM X G aei aej aek aeh
 have agO:Def K mg "_law_number" CB ["_law_x"]:=fM X G aem aen aeo ael
 have agP:Def K mg "_law_is_motion" CC ["_law_pins_here","_law_motion"]:=fM X G aeq aer aes aep
 have agQ:Def K mg "_law_dot" CD ["_law_one","_law_other"]:=fM X G aeu aev aew aet
 have agR:Def K mg "_law_longer" CG ["_law_pins_here","_law_bar","_law_motion"]:=fM X G aey aez aeA aex
 have agS:Def K mg "_law_keeps" CH ["_law_pins_here","_law_motion"]:=fM X G aeC aeD aeE aeB
 have agT:Def K mg "_law_right" CI ["_law_pins_here","_law_bars_here","_law_told"]:=fM X G aeG aeH aeI aeF
 have uB:Def K mg "_law_parted" de ["_law_bars_here","_law_told","_law_spare"]:=fM X G uh uk um ug
 have qP:Def K mg "_law_put_pin" cM ["_law_frame_here","_law_pins_here","_law_name_here","_law_spot_here","_law_ways_here"]:=fM X G qH qI qJ qG
 have qQ:Def K mg "_law_pin_out" cN ["_law_frame_here","_law_pins_here","_law_bars_here","_law_cell"]:=fM X G qL qM qN qK
 have uC:Def K mg "_law_pin_in" df ["_law_frame_here","_law_pins_here","_law_gone","_law_cell"]:=fM X G uq ur uu uo
 have eM:uQ K bI:=⟨Xp,Xq,Xr,Xs⟩
 have Qr:Mk K bI JT:=⟨Xt,Xv,Xw,Xu⟩
 have Yp:=cQ (st:=CJ) afp afq Xy
 have Qt:=Yp.xt (ps:=["self"])
 have as2:Meth K bI "__init__" JT:=⟨Xv,Xw,Xy⟩
 have agU:=Lv (st:=mh) aft afw XA
 have agV:Binds K (fnOf "put_pin" "Frame.put_pin" (ay mh) (aw mh) (ag mh) (.ref JU) Oh Oi Oj Ol JV Om) ["self","name","x","y","hold"] []:=fun s us X hl=>match us,hl with | [_,_,_,_,_],_=>BindsTo.of_defaults rfl (X _ _ Xz) rfl rfl rfl
 have Yq:Binds K (fnOf "put_pin" "Frame.put_pin" (ay mh) (aw mh) (ag mh) (.ref JU) Oh Oi Oj Ol JV Om) ["self","name","x","y","hold"] [.none]:=fun s us X hl=>match us,(show us.length=4 by simpa using hl) with | [_,_,_,_],_=>BindsTo.of_defaults rfl (X _ _ Xz) rfl rfl rfl
 have Yr:Meth K bI "put_pin" MU:=⟨afr,afs,XA⟩
 have Ys:=cQ (st:=CK) afz afA XC
 have agW:=Ys.xt (ps:=["self","name","one","other"])
 have agX:Meth K bI "put_bar" MV:=⟨afx,afy,XC⟩
 have Yt:=cQ (st:=CL) afD afE XE
 have agY:=Yt.xt (ps:=["self","name","one","other"])
 have agZ:Meth K bI "check_bar" MX:=⟨afB,afC,XE⟩
 have Yu:=cQ (st:=CM) afH afI XG
 have ag0:=Yu.xt (ps:=["self","pin"])
 have ag1:Meth K bI "check_pin" MY:=⟨afF,afG,XG⟩
 have Yv:=cQ (st:=CN) afL afM XI
 have ag2:=Yv.xt (ps:=["self","name"])
 have ag3:Meth K bI "take_bar" MZ:=⟨afJ,afK,XI⟩
 have gC:=cQ (st:=bW) k_ lh gB
 have lC:=gC.xt (ps:=["self","name"])
 have lD:Meth K bI "take_pin" di:=⟨k7,k8,gB⟩
 have Yw:=cQ (st:=CO) afP afQ XM
 have ag4:=Yw.xt (ps:=["self"])
 have ag5:Meth K bI "pins" M0:=⟨afN,afO,XM⟩
 have Yx:=cQ (st:=CP) afT afU XO
 have ag6:=Yx.xt (ps:=["self"])
 have ag7:Meth K bI "bars" M3:=⟨afR,afS,XO⟩
 have Yy:=cQ (st:=CQ) afX afY XR
 have ag8:=Yy.xt (ps:=["self","pin"])
 have ag9:Meth K bI "place" M4:=⟨afV,afW,XR⟩
 have Yz:=cQ (st:=CS) af1 af2 XT
 have ag':=Yz.xt (ps:=["self","pin"])
 have aha:Meth K bI "ways" M6:=⟨afZ,af0,XT⟩
 have YA:=cQ (st:=CT) af5 af6 XW
 have ahb:=YA.xt (ps:=["self","bar"])
 have ahc:Meth K bI "ends" M7:=⟨af3,af4,XW⟩
 have cls_cm:uQ K mH:=⟨XX,XY,XZ,X0⟩
 have as3:Q9 K mH:=⟨X1,X3,X2⟩
 have ahd:=cQ (st:=LG) af9 af' X5
 have as4:=ahd.xt (ps:=["self"])
 have as5:Meth K mH "ways" M8:=⟨af7,af8,X5⟩
 have x_:uQ K iX:=⟨X6,X7,X8,X9⟩
 have DQ:Mk K iX JW:=⟨X_,Ya,Yb,X'⟩
 have YB:=cQ (st:=CU) aga agb Yd
 have DR:=YB.xt (ps:=["self","x","y"])
 have as6:Meth K iX "__init__" JW:=⟨Ya,Yb,Yd⟩
 have YC:=cQ (st:=CV) age agf Yf
 have ahe:=YC.xt (ps:=["self"])
 have ahf:Meth K iX "ways" M9:=⟨agc,agd,Yf⟩
 have Q3:uQ K kZ:=⟨Yg,Yh,Yi,Yj⟩
 have DP:Q9 K kZ:=⟨Yk,Ym,Yl⟩
 have YD:=cQ (st:=CW) agi agj Yo
 have ahg:=YD.xt (ps:=["self"])
 have ahh:Meth K kZ "ways" M_:=⟨agg,agh,Yo⟩
 have PR:=mg_of X G aeM
 have PV:=mg_of X G aeN
 have P7:mg "NOUGHT"=some (.ref QT):=mg_of X G aeO
 have P8:mg "ONE"=some (.ref QU):=mg_of X G aeS
 have PX:mg "NO_MOVE"=some (.ref QV):=mg_of X G aeW
 have as7:mg "YardError"=some (.ref ae5):=mg_of X G ae4
 have as8:mg "NoWay"=some (.ref ae7):=mg_of X G ae6
 have as9:mg "PinThere"=some (.ref ae9):=mg_of X G ae8
 have as':mg "SpotTaken"=some (.ref afa):=mg_of X G ae'
 have ata:mg "NoPin"=some (.ref afc):=mg_of X G afb
 have RC:mg "PinBusy"=some (.ref EC):=mg_of X G EB
 have atb:mg "BarThere"=some (.ref afe):=mg_of X G afd
 have atc:mg "NoBar"=some (.ref afg):=mg_of X G aff
 have atd:mg "NoLength"=some (.ref afi):=mg_of X G afh
 have ate:mg "TooMany"=some (.ref afk):=mg_of X G afj
 have Qs:mg "Frame"=some (.ref bI):=mg_of X G afl
 have atf:mg "Hold"=some (.ref mH):=mg_of X G afm
 have DN:mg "Roller"=some (.ref iX):=mg_of X G afn
 have DO:mg "Fixed"=some (.ref kZ):=mg_of X G afo
 have Na:mg "ValueError"=none:=mg_none_of X G uv
 have rF:mg "abs"=none:=mg_none_of X G Xi
 have Jt:mg "any"=none:=mg_none_of X G Xj
 have xS:mg "bool"=none:=mg_none_of X G QW
 have gS:mg "dict"=none:=mg_none_of X G QX
 have cg:mg "enumerate"=none:=mg_none_of X G wj
 have pG:mg "int"=none:=mg_none_of X G Xk
 have bF:mg "isinstance"=none:=mg_none_of X G uw
 have ba:mg "len"=none:=mg_none_of X G Xl
 have bP:mg "list"=none:=mg_none_of X G QY
 have Jp:mg "min"=none:=mg_none_of X G Xm
 have bL:mg "range"=none:=mg_none_of X G MS
 have Jk:mg "str"=none:=mg_none_of X G Xn
 have iO:mg "tuple"=none:=mg_none_of X G MT
 have jK:mg "zip"=none:=mg_none_of X G Xo
 have F:=cQ (st:=jJ) Xd Xe Xf
 refine ⟨fnOf "law" "law" (ay jJ) (aw jJ) (ag jJ) .none QO QP QQ QR JS QS,fun s v=>.of_eq rfl,fun base _ _=> ?_⟩
 have hM:u4 (aY l.prog w):=aY.nX
 have hN:∀H:Hp,bN K H QT [.int 0,.int 1]:=fun H=>.inr ⟨_,_,_,aeP,rfl,rfl,(by show 2<=sizeLine;decide),.cons ⟨_,rfl⟩ (.cons ⟨_,rfl⟩ .nil)⟩
 have hO:∀H:Hp,bN K H QU [.int 1,.int 1]:=fun H=>.inr ⟨_,_,_,aeT,rfl,rfl,(by show 2<=sizeLine;decide),.cons ⟨_,rfl⟩ (.cons ⟨_,rfl⟩ .nil)⟩
 have nm:∀{c:Addr} {o:Option Addr} {k0 k1:Tok} {n:Nat} {sl:Array (Option Value)},K.lookup c=some ⟨.type "tuple",o,.seq #[.int 0 k0,.int 1 k1] n,sl⟩->∀H:Hp,f' K H (.ref c) 0:=fun t H=>⟨_,rfl,by rw [dR];exact .inr ⟨_,_,_,t,rfl,rfl,(by show 2<=sizeLine;decide),.cons ⟨_,rfl⟩ (.cons ⟨_,rfl⟩ .nil)⟩⟩
 have hMo:∀H:Hp,ff K H (.ref QV) (0,0):=fun H=>⟨_,.ref Xg,.ref Xh,rfl,.inr ⟨_,_,_,aeX,rfl,rfl,(by show 2<=sizeLine;decide),.cons rfl (.cons rfl .nil)⟩,nm aeY H,nm ae1 H⟩
 have fc:AR K bI:=⟨eM,JX,QZ,Q0⟩
 have G1:=Td (P:=l.prog) (w:=w) (base:=base) (CX:=aY l.prog w) agm rF
 have G2:=Te ht agl G1
 have GW:=Tg agw G1
 have GDv:=Th ht agA G1
 have GCl:=Ti ht agz jK G1 GDv
 have GF:=Tn (P:=l.prog) (w:=w) (base:=base) agy cg
 have GR:=Tp agx bL bP GF GCl
 have GD:=PM (Tw hM agk G2)
 have GPD:=Tz hM ago GD
 have GI:=TF (P:=l.prog) (w:=w) (mg:=mg) (base:=base) Yp fc
 have Zs:bx l.prog w K mg base (aY l.prog w) 1 bI "bars" ["self"] (jh K bI):=⟨_,_,eM,ag7,TJ Yx fc bP,ag6⟩
 have RD:bx l.prog w K mg base (aY l.prog w) 1 bI "pins" ["self"] (gL K bI):=⟨_,_,eM,ag5,TL Yw fc bP,ag4⟩
 have Zt:bx l.prog w K mg base (aY l.prog w) 1 bI "check_pin" ["self","pin"] (dI K bI):=⟨_,_,eM,ag1,TN Yu fc,ag0⟩
 have MCb:bx l.prog w K mg base (aY l.prog w) 2 bI "check_bar" ["self","name","one","other"] (gO K bI):=⟨_,_,eM,agZ,T_ Yt fc PV ba Zt,agY⟩
 have Rx:bx l.prog w K mg base (aY l.prog w) 3 bI "put_bar" ["self","name","one","other"] (ig K bI):=⟨_,_,eM,agX,Ub Ys fc MCb,agW⟩
 have okP:=T8 (P:=l.prog) (w:=w) (mg:=mg) (base:=base) agU fc PR ba bP
 have N2:bx l.prog w K mg base (aY l.prog w) 3 bI "put_pin" ["self","name","x","y","hold"] (cO l.prog w K mg base bI):=⟨_,_,eM,Yr,okP,agV⟩
 have Ry:sH l.prog w K mg base (aY l.prog w) 3 bI "put_pin" ["self","name","x","y","hold"] [.none] (cO l.prog w K mg base bI):=⟨_,_,eM,Yr,okP,Yq⟩
 have MPl:bx l.prog w K mg base (aY l.prog w) 2 bI "place" ["self","pin"] (m7 K bI):=⟨_,_,eM,ag9,TR Yy fc Zt,ag8⟩
 have ME:bx l.prog w K mg base (aY l.prog w) 1 bI "ends" ["self","bar"] (sV K bI):=⟨_,_,eM,ahc,TV YA fc,ahb⟩
 have MW:bx l.prog w K mg base (aY l.prog w) 2 bI "ways" ["self","pin"] (oK K bI):=⟨_,_,eM,aha,TY Yz fc bP Zt,ag'⟩
 have wR:bx l.prog w K mg base (aY l.prog w) 1 iX "ways" ["self"] (gM K iX):=⟨_,_,x_,ahf,T3 YC x_ Oo,ahe⟩
 have wF:bx l.prog w K mg base (aY l.prog w) 1 kZ "ways" ["self"] (gN K):=⟨_,_,Q3,ahh,T5 YD,ahg⟩
 have GRI:=T1 (P:=l.prog) (w:=w) (mg:=mg) (base:=base) YB x_ Oo
 have GA:=Uh agn MPl GPD
 have GPR:=Ui hMo PX agp RD
 have GBR:=Uk agq GA GPR
 have GDR:=Um agr RD MW Zs ME GPR GBR
 have GMF:=Ur agt cg RD
 have GC:=UO (P:=l.prog) (w:=w) (base:=base) (CX:=aY l.prog w) agB ba
 have Oq:=UQ (P:=l.prog) (w:=w) (base:=base) (CX:=aY l.prog w) agC
 have GLo:=UR (w:=w) (base:=base) ht agD rF
 have YE:=UT (P:=l.prog) (w:=w) (base:=base) agE
 have GTi:=UW (P:=l.prog) (w:=w) (base:=base) agF
 have GTu:=UY (P:=l.prog) (w:=w) (base:=base) agG
 have GNa:=UZ hM agH Jk Oq
 have GSp:=U0 agI Oq GLo
 have GWy:=U1 agJ Oq GLo
 have GPi:=U4 agK bL Jp GC Oq GSp GWy GNa YE
 have GBa:=U7 agL bL ba GC Oq GNa
 have GFr:=U8 agM ba Qr Qs GI Qt DN DO DP DQ GRI DR (wR.mono (by decide)) (wF.mono (by decide)) Rx N2 Ry
 have MTk:bx l.prog w K mg base (aY l.prog w) 2 bI "take_pin" ["self","name"] (gP K bI):=⟨_,_,eM,lD,jN gC fc Zt,lC⟩
 have GAr:=Vg agN YE GTu
 have GDo:=Vi agQ YE GTi
 have GLg:=Vk agR bL YE GTu GAr GDo
 have GKp:=Vm agS GDo
 have GNu:=Vn agO ba bF pG xS iO GLo
 have GIM:=Vp agP bF gS bP iO ba GNu
 have GSL:=qw hN P7 hO P8 uA G2
 have GSC:=kJ mI bL GW GR GSL
 have GTn:=Tu (P:=l.prog) (w:=w) (base:=base) agv bL
 have GPP:=Up ags ba gS jK RD MW Zs
 have GUn:=tu (P:=l.prog) (w:=w) (base:=base) wm
 have GNC:=jV lj ba jK cg GW GUn GR G2
 have GST:=UH (P:=l.prog) (w:=w) (base:=base) agu
 have GSO:=tD wo ba RD Zs GDR GTn GSC GPP
 have GNO:=vQ x9 ba RD Zs GDR GTn GNC GMF GST
 have GPt:=pK qP ba DN DO DP DQ GRI DR (wR.mono (by decide)) (wF.mono (by decide)) N2 Ry
 have GPo:=pO qQ ba bL Jt pG Oq MTk
 have GPn:=qB uC Oq GWy YE GPt
 have MTb:bx l.prog w K mg base (aY l.prog w) 1 bI "take_bar" ["self","name"] (iJ K bI):=⟨_,_,eM,ag3,Ud Yv fc,ag2⟩
 have GRi:=Vu agT bF gS bP GIM GLg GKp
 have GPa:=qC (P:=l.prog) (w:=w) (base:=base) uB
 exact QI F bP ba GC Oq GPi GBa GFr GNO GSO GRi GPa MTb Rx GPo GPn
end T_k42
open PySem PySem.W PyProof.Rows
set_option maxRecDepth 100000 in
set_option maxHeartbeats 0 in
theorem PySem.Challenge.cw_trussyard_k42_needed_bars_holds : PySem.Challenge.rw_trussyard_k42_needed_bars.Holds := by
 w_on;o_law;k_head;(case hw=>w_witness2)
 k_fill
 refine Ty.walk (l:=PySem.Challenge.rw_trussyard_k42_needed_bars) (x:="_law_script") (k:=42) (CX:=fun w=>Ty.aY (PySem.Challenge.rw_trussyard_k42_needed_bars).prog w) rfl rfl (by first | rfl | decide+kernel) ⟨rfl,by decide,by decide⟩ (fun w h Y=>PySem.W.kIn_of Y) (fun w=>Ty.aY.nX) ?F
 case F=>
  intro w mg fa h KX G Sq
  refine' T_k42.all_mk KX G Sq ?A0 ?A1 ?A2 ?A3 ?A4 ?A5 ?A6 ?A7 ?A8 ?A9 ?Aa ?Ab ?Ac ?Ad ?Ae ?Af ?Ag ?Ah ?Ai ?Aj ?Ak ?Al ?Am ?An ?Ao ?Ap ?Aq ?Ar ?As ?At ?Au ?Av ?Aw ?Ax ?Ay ?Az ?B0 ?B1 ?B2 ?B3 ?B4 ?B5 ?B6 ?B7 ?B8 ?B9 ?Ba ?Bb ?Bc ?Bd ?Be ?Bf ?Bg ?Bh ?Bi ?Bj ?Bk ?Bl ?Bm ?Bn ?Bo ?Bp ?Bq ?Br ?Bs ?Bt ?Bu ?Bv ?Bw ?Bx ?By ?Bz ?C0 ?C1 ?C2 ?C3 ?C4 ?C5 ?C6 ?C7 ?C8 ?C9 ?Ca ?Cb ?Cc ?Cd ?Ce ?Cf ?Cg ?Ch ?Ci ?Cj ?Ck ?Cl ?Cm ?Cn ?Co ?Cp ?Cq ?Cr ?Cs ?Ct ?Cu ?Cv ?Cw ?Cx ?Cy ?Cz ?D0 ?D1 ?D2 ?D3 ?D4 ?D5 ?D6 ?D7 ?D8 ?D9 ?Da ?Db ?Dc ?Dd ?De ?Df ?Dg ?Dh ?Di ?Dj ?Dk ?Dl ?Dm ?Dn ?Do ?Dp ?Dq ?Dr ?Ds ?Dt ?Du ?Dv ?Dw ?Dx ?Dy ?Dz ?E0 ?E1 ?E2 ?E3 ?E4 ?E5 ?E6 ?E7 ?E8 ?E9 ?Ea ?Eb ?Ec ?Ed ?Ee ?Ef ?Eg ?Eh ?Ei ?Ej ?Ek ?El ?Em ?En ?Eo ?Ep ?Eq ?Er ?Es ?Et ?Eu ?Ev ?Ew ?Ex ?Ey ?Ez ?F0 ?F1 ?F2 ?F3 ?F4 ?F5 ?F6 ?F7 ?F8 ?F9 ?Fa ?Fb ?Fc ?Fd ?Fe ?Ff ?Fg ?Fh ?Fi ?Fj ?Fk ?Fl ?Fm ?Fn ?Fo ?Fp ?Fq ?Fr ?Fs ?Ft ?Fu ?Fv ?Fw ?Fx ?Fy ?Fz ?G0 ?G1 ?G2 ?G3 ?G4 ?G5 ?G6 ?G7 ?G8 ?G9 ?Ga ?Gb ?Gc ?Gd ?Ge ?Gf ?Gg ?Gh ?Gi ?Gj ?Gk ?Gl ?Gm ?Gn ?Go ?Gp ?Gq ?Gr ?Gs ?Gt ?Gu ?Gv ?Gw ?Gx ?Gy ?Gz ?H0 ?H1 ?H2 ?H3 ?H4 ?H5 ?H6 ?H7 ?H8 ?H9 ?Ha ?Hb ?Hc ?Hd ?He ?Hf ?Hg ?Hh ?Hi ?Hj ?Hk ?Hl ?Hm ?Hn ?Ho ?Hp ?Hq ?Hr ?Hs ?Ht ?Hu ?Hv ?Hw ?Hx ?Hy ?Hz ?I0 ?I1 ?I2 ?I3 ?I4 ?I5 ?I6 ?I7 ?I8 ?I9 ?Ia ?Ib ?Ic ?Id ?Ie ?If ?Ig ?Ih ?Ii ?Ij ?Ik ?Il ?Im ?In ?Io ?Ip ?Iq ?Ir ?Is ?It ?Iu ?Iv ?Iw ?Ix ?Iy ?Iz ?J0 ?J1 ?J2 ?J3 ?J4 ?J5 ?J6 ?J7 ?J8 ?J9 ?Ja ?Jb ?Jc ?Jd ?Je
  (case A0|A1|A2|A3|A4|A5|A6|A7|A8|A9|Aa|Ab|Ac|Ad|Ae|Af|Ag|Ah|Ai|Aj|Ak|Al|Am|An|Ao|Ap|Aq|Ar|As|At|Au|Av|Aw|Ax|Ay|Az|B0|B1|B2|B3|B4|B5|B6|B7|B8|B9|Ba|Bb|Bc|Bd|Be|Bf|Bg|Bh|Bi|Bj|Bk|Bl|Bm|Bn|Bo|Bp|Bq|Br|Bs|Bt|Bu|Bv|Bw|Bx|By|Bz|C0|C1|C2|C3|C4|C5|C6|C7|C8|C9|Ca|Cb|Cc|Cd|Ce|Cf|Cg|Ch|Ci|Cj|Ck|Cl|Cm|Cn|Co|Cp|Cq|Cr|Cs|Ct|Cu|Cv|Cw|Cx|Cy|Cz|D0|D1|D2|D3|D4|D5|D6|D7|D8|D9|Da|Db|Dc|Dd|De|Df|Dg|Dh|Di|Dj|Dk|Dl|Dm|Dn|Do|Dp|Dq|Dr|Ds|Dt|Du|Dv|Dw|Dx|Dy|Dz|E0|E1|E2|E3|E4|E5|E6|E7|E8|E9|Ea|Eb|Ec|Ed|Ee|Ef|Eg|Eh|Ei|Ej|Ek|El|Em|En|Eo|Ep|Eq|Er|Es|Et|Eu|Ev|Ew|Ex|Ey|Ez|F0|F1|F2|F3|F4|F5|F6|F7|F8|F9|Fa|Fb|Fc|Fd|Fe|Ff|Fg|Fh|Fi|Fj|Fk|Fl|Fm|Fn|Fo|Fp|Fq|Fr|Fs|Ft|Fu|Fv|Fw|Fx|Fy|Fz|G0|G1|G2|G3|G4|G5|G6|G7|G8|G9|Ga|Gb|Gc|Gd|Ge|Gf|Gg|Gh|Gi|Gj|Gk|Gl|Gm|Gn|Go|Gp|Gq|Gr|Gs|Gt|Gu|Gv|Gw|Gx|Gy|Gz|H0|H1|H2|H3|H4|H5|H6|H7|H8|H9|Ha|Hb|Hc|Hd|He|Hf|Hg|Hh|Hi|Hj|Hk|Hl|Hm|Hn|Ho|Hp|Hq|Hr|Hs|Ht|Hu|Hv|Hw|Hx|Hy|Hz|I0|I1|I2|I3|I4|I5|I6|I7|I8|I9|Ia|Ib|Ic|Id|Ie|If|Ig|Ih|Ii|Ij|Ik|Il|Im|In|Io|Ip|Iq|Ir|Is|It|Iu|Iv|Iw|Ix|Iy|Iz|J0|J1|J2|J3|J4|J5|J6|J7|J8|J9|Ja|Jb|Jc|Jd=>k_is);(case Je=>rfl)
#print axioms PySem.Challenge.cw_trussyard_k42_needed_bars_holds
