import PyProof.Rows.All
import Wide.All
import OpenK.AllK
import Wide.FinOn
import Lean
import PyProof.EqAt
import PyProof.EqKinds
import PyProof.TupleCall
import PyProof.ZipIter
import PyProof.SumWalkG
import PyProof.ListCopy
import PyProof.ListStr
import PyProof.DictItems
import PyProof.DictWalks
import PyProof.DictTruth
import PyProof.EnumMake
import PyProof.InstStoreFacts
import PyProof.Rows.SortWalk
import PyProof.ListRange
import PyProof.DictValues
import KE.KRevSl
import KE.KDictOf
import PyProof.DictIter
import PyProof.FactsAll.dict_1
import KE.KDictList
import KE.KItemsList
import PyProof.StrLawsTight
import PyProof.StrCalls2
import PyProof.Rows.StrItems
import PyProof.AttrMissHeap
import KE.KEqDict
import PySem.Challenge.RW_trussyard_k82_rows_that_are_none
set_option Elab.async false
set_option linter.all false
set_option maxRecDepth 100000
theorem gE.{u}{α:Type u}{l:List α}{i:Nat}(h:i < l.length):l[i]? =some l[i]:=List.getElem?_eq_getElem h
namespace PySem.W.Fast
def tw12877466813128752805:=()
def tw2874824124942502608:=()
def tw676244353461621574:=()
def tw17955401885646429888:=()
def tw9443962195515485347:=()
def tw7066722990476770414:=()
def tw11090321576054460217:=()
def tw10751316201307514478:=()
def tw14637365761859663879:=()
def tw1748004436028097487:=()
def tw16383599652212714885:=()
def tw3487891108937345743:=()
def tw6772739978794173335:=()
def tw17691475516557383663:=()
def tw2160424362942173237:=()
def tw8410554223275896794:=()
def tw14134125396644357325:=()
def tw12679122445763579049:=()
def tw8878009127209565896:=()
def tw11563775639740991508:=()
def tw6699243197865000968:=()
def tw8238418337602679358:=()
def tw4796008504028970751:=()
def tw16461923961043717160:=()
def tw16165706901559367333:=()
def tw13300018351494649289:=()
def tw17139041672467361046:=()
def tw2493088585570574805:=()
def tw7063201800531524453:=()
def tw3279284138990072910:=()
def tw13488331138528152565:=()
def tw16043145641491976731:=()
def tw1703094837367115851:=()
def tw10082780124467032637:=()
def tw7803752276433571871:=()
def tw10896603368360525021:=()
def tw16636982982814824108:=()
def tw9261719923317412728:=()
def tw6945485877022695839:=()
def tw14476226603055870549:=()
def tw5417932556933056569:=()
def tw1513062000195653958:=()
def tw5079387897932621779:=()
def tw15995567600263601309:=()
def tw2007865239537019481:=()
def tw13599373239520354420:=()
def tw7632977909474165595:=()
def tw11443798332609595432:=()
def tw1407915604232453063:=()
def tw11544749773813144365:=()
def tw9314699225715502553:=()
def tw11895686522297391940:=()
def tw18049901978614968319:=()
def tw17934464586100335155:=()
def tw15158146524557349469:=()
def tw3792507729578883470:=()
def tw8627933426508584489:=()
def tw17163153470384942635:=()
def tw16230815444237207004:=()
def tw13829141144879513559:=()
def tw16267916794315426796:=()
def tw3300671562124626175:=()
def tw8105576487195296193:=()
def tw16775400658273754659:=()
def tw3475372874833374964:=()
def tw808037537855005031:=()
def tw16190143786840165590:=()
def tw16411352217269281549:=()
def tw10777025549658544218:=()
def tw1071306940927561311:=()
def tw14546335188932892623:=()
def tw18398303888428101427:=()
def tw6491803160348847461:=()
def tw9964671422898696600:=()
def tw6085605984550269416:=()
def tw4704381915312707881:=()
def tw15475923936021162258:=()
def tw3377565011739854868:=()
def tw8433839250696257212:=()
def tw10467523733829448825:=()
def tw18164523724284078686:=()
def tw10365192163252175213:=()
def tw13871862608722090405:=()
def tw8621383832389367506:=()
def tw8002631241016607342:=()
def tw15684881999342331189:=()
def tw6487889875996185934:=()
def tw3445669351591642972:=()
def tw15558917610181660900:=()
def tw11413155526444871346:=()
def tw18149436287543199709:=()
def tw9826811949258480239:=()
def tw7062991022508775213:=()
def tw3192272018049042516:=()
def tw3500669531946269583:=()
def tw17225434301418904104:=()
def tw9510740978687253205:=()
def tw1752283744419977050:=()
def tw5554047870156843123:=()
def tw8058039717927806382:=()
def tw17468070033655756929:=()
def tw14369074709730001585:=()
def tw16681891832495092784:=()
def tw16190789229748257154:=()
def tw14030161931970879877:=()
def tw17881748723375370314:=()
def tw18117529453052112694:=()
def tw15511713928050688984:=()
def tw3646192507491855404:=()
def tw18439512810149003483:=()
def tw13564987403352487873:=()
def tw11031044888811852803:=()
def tw4587760154303730573:=()
def tw6109206944208424594:=()
def tw14143017430263521964:=()
def tw4108684681984229311:=()
def tw14951445038856255355:=()
def tw1728525717288297992:=()
def tw16794624299927654696:=()
def tw13629489703334199706:=()
def tw8576042534065008867:=()
def tw18403684764382256094:=()
def tw10551261702499471056:=()
def tw15704322741982375918:=()
def tw7253860520354292984:=()
def tw8889482718782308283:=()
def tw15524098147418373989:=()
def tw16754072143201855237:=()
def tw14260506644569904238:=()
def tw17172582304698251101:=()
def tw15979229168556196509:=()
def tw15710850563481379849:=()
def tw17961094477642700014:=()
def tw13887376103211753389:=()
def tw15126868214311155021:=()
def tw17723725349994516497:=()
def tw7656765549667320170:=()
def tw10127727902652830316:=()
def tw4587023742920256778:=()
def tw12056868863396967925:=()
def tw10821590140289433391:=()
def tw2040749523850483874:=()
def tw7955319021452700200:=()
def tw10116340991823914986:=()
def tw7899772118098183565:=()
def tw6282353034356377059:=()
def tw14300026999773822202:=()
def tw8603282676459239031:=()
def tw2139903376431285227:=()
def tw10018556552551148558:=()
def tw3405970301439769887:=()
def tw8407162606274606682:=()
def tw15621774809912788996:=()
def tw12839055570698108032:=()
def tw106768918284645606:=()
def tw15161549750019053784:=()
def tw11598101018570828418:=()
def tw5919242009228406663:=()
def tw13744765795020363255:=()
def tw8809536790421012688:=()
def tw15594989906249943312:=()
def tw17014865182159466330:=()
def tw5570632340513219690:=()
def tw13211176733287543461:=()
def tw7244222040552479143:=()
def tw12984681810467285966:=()
def tw4467549489694420179:=()
def tw18234089533187938889:=()
def tw11692690748876214856:=()
def tw16415247993057939674:=()
def tw11612505511895902542:=()
def tw1526080816422858548:=()
def tw2816221263667522855:=()
def tw6556588897073853827:=()
def tw5606833748054037710:=()
def tw9192053141808955460:=()
def tw12247452717619493608:=()
def tw8063625342996678865:=()
def tw18003823575389315224:=()
def tw8627518361537611541:=()
def tw12247211143113781904:=()
def tw1732598320863670484:=()
def tw1373656816917069239:=()
def tw3937779877311514794:=()
def tw3656097085735911630:=()
def tw10448900292734777376:=()
def tw1045649759400278244:=()
def tw10657106475701759203:=()
def tw13331808673370388078:=()
def tw7349760184889121368:=()
def tw8059802017532004847:=()
def tw1779278496077505884:=()
def tw16381289274057787574:=()
def tw325238169593537811:=()
def tw13277736306917720745:=()
def tw14584231650622027857:=()
def tw8254838479033687868:=()
def tw1362972118570348404:=()
def tw5831211448133273332:=()
def tw17909680959381367036:=()
def tw16643698005339685386:=()
def tw17120285893785254300:=()
def tw10452370724489457264:=()
def tw3804089436349192136:=()
def tw17220027084078118674:=()
def tw1971412407919671124:=()
def tw14075958947660118758:=()
def tw12980264014513791291:=()
def tw12106089364368831522:=()
def tw8417753333557837035:=()
def tw3326696379521910478:=()
def tw16386683531828060717:=()
def tw8381502850899616774:=()
def tw8479465661063197705:=()
def tw6445830956635916836:=()
def tw16387587200972573625:=()
def tw8211825736154714749:=()
def tw16674140821845904134:=()
def tw2147873846328620138:=()
def tw9909460692694733097:=()
def tw12437237525429077984:=()
def tw8955405995360907732:=()
def tw8951017322644023082:=()
def tw10071749660169805265:=()
def tw9326386490538847030:=()
def tw5780105313537948262:=()
def tw17099976396147666353:=()
def tw7489901321918817588:=()
def tw13551778123024721759:=()
def tw10856983804811247538:=()
def tw11075389708567523718:=()
def tw7855342392335042517:=()
def tw5797126368548967795:=()
def tw6427618307217796720:=()
def tw10015390235300310980:=()
def tw12650304195647493737:=()
def tw5230598518927915280:=()
def tw10963717945517254459:=()
def tw1700872703764185448:=()
def tw1940919424526976735:=()
def tw8970682881831548316:=()
def tw15858056832287137663:=()
def tw8863822843372371708:=()
def tw15618304057188740117:=()
def tw14608432633331976478:=()
def tw8305642460572854559:=()
def tw3075062075003716080:=()
def tw6843810487668489852:=()
def tw18437309296093716700:=()
def tw636046471646072506:=()
def tw12897798717157567090:=()
def tw10180495325694446659:=()
def tw11725729365143737085:=()
def tw9400285949345918948:=()
def tw10497027162093481516:=()
def tw9013168829549115705:=()
def tw10806299217156663412:=()
def tw13024740264694959922:=()
def tw6995260724823263135:=()
def tw13587131870233158381:=()
def tw2382498476048607217:=()
def tw9073469199030785427:=()
def tw8932780819870723804:=()
def tw18119226864277069578:=()
def tw6791316446495064024:=()
def tw13636647477087918234:=()
def tw11757766138011163725:=()
def tw2236542847491896530:=()
def tw18240098825270778577:=()
def tw15986123330453428080:=()
def tw11663813728862376479:=()
def tw2953398060813103952:=()
def tw15701402463312794247:=()
def tw12995140535614657658:=()
def tw10773604534902116233:=()
def tw5323522339947499962:=()
def tw13495182160430070288:=()
def tw11698288428028830986:=()
def tw8547571659644672414:=()
def tw14164181866683445223:=()
def tw1159136112639767662:=()
def tw6378602646597407379:=()
def tw14090755899067182450:=()
def tw5549018562828834769:=()
def tw17499145265796743363:=()
def tw5481679062033058163:=()
def tw2256535487097953730:=()
def tw4704175658100902856:=()
def tw12943883063550131627:=()
end PySem.W.Fast
open Array renaming length_toList->alE, getElem?_eq_getElem->alQ, toList_extract->am8, toList_append->ani, append_assoc->anB, toList_inj->aos, toList->as4
open Bool renaming false_ne_true->abr, and_eq_true->abA, eq_false_iff->adv, not_eq_true'->ae_, eq_iff_iff->agO, and_true->aly, and_false->alL, false_and->am5, false_eq_true->anC, true_and->asX, false_or->asY, or_false->asZ
open Int renaming gcd->af1, fdiv_eq_of_eq_mul_right->aid, fmod_nonneg_of_pos->ajC, ne_of_gt->ajE, fmod_lt_of_pos->alK, fdiv_eq_ediv_of_nonneg->alP, mul_pos->alT, mul_comm->amF, mul_assoc->anz, fmod_def->anE, lt_trichotomy->anJ, gcd_dvd_right->anL, gcd_dvd_left->aom, gcd_mul_left->aon, gcd_pos_iff->aoI, mul_ne_zero->aoK, natAbs_neg->asc
open List renaming length_map->Wp, getElem?_eq_some_iff->W1, length_append->aa_, mem_singleton->abv, mem_of_getElem?->abw, getElem?_map->abx, mem_cons->aby, mem_cons_of_mem->abz, mem_append->abB, length_cons->abC, mem_cons_self->abE, lookup->ady, map_cons->adA, length_singleton->adL, append_nil->ad_, getElem?_append_right->aea, size_toArray->aei, mem_map->aeu, mem_append_right->aeB, getElem?_eq_none->aeD, getElem?_append_left->aeE, mem_nil_iff->aeS, map_append->aeU, getElem?_of_mem->aeV, drop_eq_getElem_cons->afZ, mem_filterMap->af6, mem_append_left->af_, nodup_cons->agf, length_nil->agh, map_nil->agj, find?_eq_none->agG, map_map->agJ, drop_length->agM, take_of_length_le->agN, find?_cons->agP, all_cons->ag_, any_cons->ah_, sum_cons->aic, nodup_append->aie, mem_iff_getElem->aim, length_take->aiC, sum_nil->aiG, filterMap_cons->aiK, getElem?_take_of_lt->ai3, range->ai_, getElem?_set_self->ajo, append_assoc->ajD, ext_getElem?->ajW, zipWith->aj3, find?_cons_of_pos->aj4, find?_cons_of_neg->aj6, any_eq_true->ak_, getElem_mem->alw, all_eq_true->alx, map_take->alz, getElem?_set_ne->alA, length->alB, mem_of_mem_take->alC, of_mem_zip->alD, map_eq_nil_iff->alF, all_map->alI, mem_range->alJ, lookup_append->alM, extract_eq_drop_take'->alN, getElem?_inj->alU, getElem?_replicate->alW, take_length->amx, range_succ_eq_map->amH, getElem_cons_drop->amO, drop_of_length_le->amP, zipWith_cons_cons->amS, length_replicate->amT, take_append_drop->amU, getElem?_zipWith->am0, mem_of_mem_drop->am9, nodup_nil->am_, length_pos_iff->anh, length_zipWith->anj, find?_append->anP, length_drop->an_, lookup_cons->aoo, cons_append->aov, mem_filter->aoE, take_left'->aoS, replicate->ap_
open List.cons renaming inj->af5
open Nat renaming le_trans->ir, le_refl->abt, lt_of_lt_of_le->abu, lt_of_le_of_lt->abF, ne_of_lt->ab_, zero_le->af0, lt_irrefl->af3, pow_le_pow_right->af', le_succ_of_le->aga, le_succ->agl, mul_le_mul_right->agI, lt_succ_self->ais, le_of_lt->alH, add_le_add->alO, le_of_not_lt->alX, toDigits_of_lt_base->alY, ne_of_gt->amz, le_of_eq->amA, toDigits->amN, digitChar->anA, add_sub_cancel->anD, min_self->anN, succ_ne_zero->aot, not_lt_zero->aoQ, min_eq_left->aoT
open Nat.succ renaming inj->an3
open Ne renaming symm->ac_
open Option renaming map_eq_some_iff->abD, map_eq_none_iff->aj_, isSome_map->alS, isSome_iff_exists->alV, getD_none->aoj, none->atd
open Option.some renaming inj->abq
open Or renaming inr->aol, inl->aq_
open Prod renaming ext->agx, fst->al_
open Prod.mk renaming inj->aox
open Rat renaming intCast_natCast->alG
open Sum renaming inr->agK, inl->anf
open Sum.inr renaming inj->alR
open PySem.W (Frag nsIn codeIn keepIn fnOf mg_of mg_none_of)
namespace L2
open PySem PySem.Spec PyProof.Rows
abbrev _root_.γ:=Value->Shared->Prop
abbrev _root_.δ:=List (Addr×Obj)
abbrev _root_.ε:=Str->Option Value
abbrev _root_.ζ:=List Str
abbrev _root_.θ:=List Value
abbrev _root_.ξ:=Option Addr
abbrev _root_.ο:=List Expr
abbrev _root_.π:=List Addr
abbrev _root_.ρ:=List (Str×Str×Str)
abbrev _root_.ς:=Result->Shared->Prop
abbrev _root_.τ:=Array (Option Value)
abbrev _root_.χ:=List (Rat×Rat)
abbrev _root_.ω:=Unit->Shared->Prop
abbrev _root_.Α:=List Nat
abbrev _root_.Β:=Option Str
abbrev _root_.Ι:=Option Value
abbrev _root_.Κ:=Option (Nat×(Rat×Rat))
abbrev _root_.Μ:=Array Value
abbrev _root_.Ν:=List (Str×Value)
abbrev Key:=Sum Int Str
abbrev _root_.Λ:=List (List Key×Addr×Value)
def AS:Key->Value->Bool
 | .inl k,v=>Value.isInt k v
 | .inr x,v=>Value.isStrOf x v
def atw (w:World):Key->Int
 | .inl k=>hashInt k
 | .inr x=>hashStr w x
theorem cJ:∀{k:Key} {v:Value},AS k v=true->(∃i t,k=anf i/\v=Value.int i t)\/(∃x t,k=agK x/\v=Value.str x t)
 | .inl i,v,h=>by
  obtain ⟨t,e⟩:=Value.isInt_shape (k:=i) (v:=v) h
  exact .inl ⟨i,t,rfl,e⟩
 | .inr x,v,h=>by
  obtain ⟨t,e⟩:=Value.isStrOf_shape (x:=x) (v:=v) h
  exact .inr ⟨x,t,rfl,e⟩
theorem Uo (i:Int)(t:Tok):AS (.inl i) (.int i t)=true:=by simp [AS,Value.isInt]
theorem Up (x:Str)(t:Tok):AS (.inr x) (.str x t)=true:=by simp [AS,Value.isStrOf]
theorem ah9 (a b:Int):decide ((anf a:Key)=anf b)=(a==b):=by
 by_cases e:a=b
 ·subst e;simp
 ·have h:¬ (anf a:Key)=anf b:=fun q=>e (Sum.inl.inj q)
  rw [decide_eq_false h]
  exact (beq_eq_false_iff_ne.mpr e).symm
theorem ah' (a b:Str):decide ((agK a:Key)=agK b)=decide (a=b):=by
 by_cases e:a=b
 ·subst e;simp
 ·have h:¬ (agK a:Key)=agK b:=fun q=>e (alR q)
  rw [decide_eq_false h,decide_eq_false e]
theorem aia (a:Int)(b:Str):decide ((anf a:Key)=agK b)=false:=decide_eq_false (fun q=>nomatch q)
theorem aib (a:Str)(b:Int):decide ((agK a:Key)=anf b)=false:=decide_eq_false (fun q=>nomatch q)
def cE (prog:Program)(w:World):PySem.KeyKind prog w Key where
 is:=AS
 hash:=atw w
 inj:=fun v a b ha hb=>by
  rcases cJ ha with ⟨i,t,rfl,rfl⟩ | ⟨x,t,rfl,rfl⟩
  ·rcases cJ hb with ⟨j,u,rfl,e⟩ | ⟨y,u,rfl,e⟩
   ·injection e with e1 _;rw [e1]
   ·exact nomatch e
  ·rcases cJ hb with ⟨j,u,rfl,e⟩ | ⟨y,u,rfl,e⟩
   ·exact nomatch e
   ·injection e with e1 _;rw [e1]
 byValue:=fun k v h=>by
  rcases cJ h with ⟨i,t,rfl,rfl⟩ | ⟨x,t,rfl,rfl⟩ <;> rfl
 pyHash:=fun hv h=>by
  rcases cJ hv with ⟨i,t,rfl,rfl⟩ | ⟨x,t,rfl,rfl⟩
  ·exact wpAny_pyHash_int h
  ·exact wpAny_pyHash_str h
 eqBool:=fun hu hv h=>by
  rcases cJ hu with ⟨i,t,rfl,rfl⟩ | ⟨x,t,rfl,rfl⟩
  ·rcases cJ hv with ⟨j,u,rfl,rfl⟩ | ⟨y,u,rfl,rfl⟩
   ·rw [ah9] at h;exact wpAny_eqBool_int h
   ·rw [aia] at h;exact SeqAt.EqAt.int_str i t y u _ _ _ _ h
  ·rcases cJ hv with ⟨j,u,rfl,rfl⟩ | ⟨y,u,rfl,rfl⟩
   ·rw [aib] at h;exact SeqAt.EqAt.str_int x t j u _ _ _ _ h
   ·rw [ah'] at h;exact wpAny_eqBool_str h
 «strs»:=fun k x t v h=>by
  rcases cJ h with ⟨i,u,rfl,e⟩ | ⟨y,u,rfl,e⟩
  ·exact nomatch e
  ·injection e with e1 _
   subst e1
   cases v <;> rfl
theorem KH (prog:Program)(w:World)(i:Int)(t:Tok):(cE prog w).is (.inl i) (.int i t)=true:=Uo i t
theorem KI (prog:Program)(w:World)(x:Str)(t:Tok):(cE prog w).is (.inr x) (.str x t)=true:=Up x t
end L2
namespace L2
open PySem PySem.Spec PyProof.Rows
inductive V where
 | bN | bl (b:Bool) | int (i:Int) | str (x:Str) | byt (b:Array UInt8) | flt (b:UInt64) | ref (a:Addr) | ty (n:String)
 deriving DecidableEq
abbrev _root_.η:=List V
abbrev _root_.ι:=List (Key×V)
abbrev _root_.Δ:=List (List Key×V)
abbrev _root_.Ζ:=List (Str×V)
abbrev _root_.Η:=Option V
def RelV:V->Value->Prop
 | .bN,u=>u=Value.none
 | .bl b,u=>u=Value.bool b
 | .int i,u=>∃t,u=Value.int i t
 | .str x,u=>∃t,u=Value.str x t
 | .byt b,u=>∃t,u=Value.bytes b t
 | .flt b,u=>∃t,u=Value.float b t
 | .ref a,u=>u=Value.ref a
 | .ty n,u=>u=Value.type n
abbrev Vals:List V->List Value->Prop:=Paired RelV
theorem Vals.length {xs:η}{us:θ}(r:Vals xs us):xs.length=us.length:=Paired.length r
theorem Vals.get:∀{xs:η} {us:θ} {i:Nat} {x:V},Vals xs us->xs[i]? =some x->∃u,us[i]? =some u/\RelV x u
 | _,_,_,_,.nil,e=>by simp at e
 | _,_,0,_,.cons r _,e=>by simp at e;subst e;exact ⟨_,rfl,r⟩
 | _,_,i+1,x,.cons _ t,e=>by
  obtain ⟨u,h1,h2⟩:=Vals.get (i:=i) (x:=x) t (by simpa using e)
  exact ⟨u,by simpa using h1,h2⟩
theorem Vals.append:∀{xs ys:η} {us ws:θ},Vals xs us->Vals ys ws->Vals (xs++ys) (us++ws)
 | _,_,_,_,.nil,s=>s
 | _,_,_,_,.cons r t,s=>.cons r (Vals.append t s)
theorem Vals.take:∀{xs:η} {us:θ} (n:Nat),Vals xs us->Vals (xs.take n) (us.take n)
 | _,_,0,_=>.nil
 | _,_,_+1,.nil=>.nil
 | _,_,n+1,.cons r t=>.cons r (Vals.take n t)
theorem Vals.drop:∀{xs:η} {us:θ} (n:Nat),Vals xs us->Vals (xs.drop n) (us.drop n)
 | _,_,0,r=>r
 | _,_,_+1,.nil=>.nil
 | _,_,n+1,.cons _ t=>Vals.drop n t
def jD:Option V->Option Value->Prop
 | some v,some u=>RelV v u
 | none,none=>True
 | _,_=>False
def KV {κ:Type}:List (κ×V)->List (κ×Value)->Prop:=Paired fun (p:κ×V) (q:κ×Value)=>p.1=q.1/\RelV p.2 q.2
def kV:Key->V
 | .inl i=>.int i
 | .inr x=>.str x
inductive HO where
 | lst (xs:η)
 | tup (xs:η)
 | dK (kvs:ι) | dT (kvs:Δ)
 | set (S:Int->Bool) (n:Nat)
 | ins (C dx:Addr) (fs:Ζ)
 | own (x:Addr)
 | xd (fs:Ζ)
 | met (f x:Addr)
 | rng (lo hi:Int)
 | j8 (o:Obj) (u:HO)
 | tbl (ps:Μ)
 | ext (φ:Heap->Prop)
abbrev Hp:=Addr->Option HO
def upd (H:Hp)(a:Addr)(o:HO):Hp:=fun b=>if b=a then some o else H b
theorem aj {H:Hp}{a:Addr}{o:HO}:upd H a o a=some o:=by unfold upd;rw [if_pos rfl]
theorem ah {H:Hp}{a b:Addr}{o:HO}(h:b≠a):upd H a o b=H b:=by unfold upd;rw [if_neg h]
theorem amw {H:Hp}{a b:Addr}{o u:HO}(h:H a=some o)(h' :H b=some u)(d:o≠u):a≠b:=by
 intro e;subst e;rw [h] at h';exact d (abq h')
theorem ak {H:Hp}{a b:Addr}{o:HO}(h:H a=some o)(h' :H b=none):a≠b:=by
 intro e;subst e;rw [h] at h';cases h'
section
variable (P:Program)(w:World)
def bL (H:Hp)(h:Heap)(a:Addr):HO->Prop
 | .lst xs=>xs.length<=sizeLine/\∃(its:θ) (n:Nat),Vals xs its/\h.get? a=some {cls:=.type "list",data:=.seq its.toArray n}
 | .tup xs=>xs.length<=sizeLine/\∃its:List Value,Vals xs its/\IsTup h a its.toArray
 | .dK kvs=>kvs.length<=sizeLine/\(a==sysModules)=false/\∃vs,KV kvs vs/\h.DictOf (cE P w) a vs
 | .dT kvs=>kvs.length<=sizeLine/\(a==sysModules)=false/\∃xs:List (List Key×Addr×Value),
   Paired (fun (p:List Key×V) (q:List Key×Addr×Value)=>p.1=q.1/\H q.2.1=some (.tup (p.1.map kV))/\RelV p.2 q.2.2) kvs xs/\
   ∃o es ep,h.get? a=some o/\o.ExactDict/\o.data=.dict es ep/\es.toList=xs.map (entryOfKey (tupleKind (cE P w)))/\(xs.map (·.1)).Nodup
 | .set S n=>h.SetOf (intKind P w) a S n
 | .ins C dx fs=>H dx=some (.own a)/\fs.length<=1000/\dx≠a/\h.get? a=some (PySem.W.instObj C dx)/\
   ∃mA,h.Ns1 dx mA/\(∀f,jD (fs.lookup f) (mA f))/\PySem.Within mA (fs.map (·.1))
 | .own _=>∃o,h.get? a=some o
 | .xd fs=>∃mA,h.Ns1 a mA/\∀f,jD (fs.lookup f) (mA f)
 | .rng lo hi=>∃t u v,h.get? a=some {cls:=.type "range",data:=.fields #[.int lo t,.int hi u,.int 1 v]}
 | .j8 o u=>h.get? a=some o/\bL H h a u
 | .tbl ps=>h.get? a=some {cls:=.none,data:=.fields ps}
 | .met f x=>h.get? a=some (PySem.W.methodObj (.ref f) (.ref x))
 | .ext φ=>φ h/\(∃o,h.get? a=some o)/\∀h1 h2:Heap,φ h1->(∀o,h1.get? a=some o->h2.get? a=some o)->φ h2
def kQ (H:Hp)(h:Heap):Prop:=∀a o,H a=some o->bL P w H h a o
end
section
variable {P:Program}{w:World}{H H' :Hp}{h h' :Heap}{a:Addr}{o:HO}
theorem bL.lt (x:bL P w H h a o):a < h.objs.size:=by
 cases o with
 | lst xs=>obtain ⟨_,_,_,_,e⟩:=x;exact Heap.lt_size e
 | tup xs=>obtain ⟨_,_,_,p⟩:=x;exact p.lt
 | dK kvs=>obtain ⟨_,_,_,_,o,_,_,e,_⟩:=x;exact Heap.lt_size e
 | dT kvs=>obtain ⟨_,_,_,_,o,_,_,e,_⟩:=x;exact Heap.lt_size e
 | set S n=>obtain ⟨o,_,_,_,e,_⟩:=x;exact Heap.lt_size e
 | ins C dx fs=>obtain ⟨_,_,_,e,_⟩:=x;exact Heap.lt_size e
 | own y=>obtain ⟨_,e⟩:=x;exact Heap.lt_size e
 | xd fs=>obtain ⟨_,⟨_,_,_,e,_⟩,_⟩:=x;exact Heap.lt_size e
 | rng lo hi=>obtain ⟨_,_,_,e⟩:=x;exact Heap.lt_size e
 | j8 ob u=>obtain ⟨e,_⟩:=x;exact Heap.lt_size e
 | tbl ps=>exact Heap.lt_size (show h.get? a=some _ from x)
 | met f y=>exact Heap.lt_size (show h.get? a=some _ from x)
 | ext φ=>obtain ⟨_,⟨_,e⟩,_⟩:=x;exact Heap.lt_size e
theorem Paired.cy {α β:Type}{F G:α->β->Prop}:∀{l₁:List α} {l₂:List β},Paired F l₁ l₂->(∀a b,F a b->G a b)->Paired G l₁ l₂
 | _,_,.nil,_=>.nil
 | _,_,.cons r t,f=>.cons (f _ _ r) (Paired.cy t f)
theorem bL.qF (x:bL P w H h a o)(k:∀b u,(b=a\/H b=some (.own a))->h.get? b=some u->h'.get? b=some u)
  (ho:∀b,H b=some (.own a)->H' b=some (.own a)) (ht:∀b xs,H b=some (.tup xs)->H' b=some (.tup xs)):bL P w H' h' a o:=by
 induction o with
 | lst xs=>obtain ⟨z,its,n,r,e⟩:=x;exact ⟨z,its,n,r,k _ _ (.inl rfl) e⟩
 | tup xs=>obtain ⟨z,its,r,ob,e,c⟩:=x;exact ⟨z,its,r,ob,k _ _ (.inl rfl) e,c⟩
 | dK kvs=>obtain ⟨z,y,vs,r,ob,es,ep,e,c⟩:=x;exact ⟨z,y,vs,r,ob,es,ep,k _ _ (.inl rfl) e,c⟩
 | dT kvs=>
  obtain ⟨z,y,xs,r,ob,es,ep,e,c⟩:=x
  exact ⟨z,y,xs,Paired.cy r fun p q z=>⟨z.1,ht _ _ z.2.1,z.2.2⟩,ob,es,ep,k _ _ (.inl rfl) e,c⟩
 | set S n=>obtain ⟨ob,es,ep,t,e,c⟩:=x;exact ⟨ob,es,ep,t,k _ _ (.inl rfl) e,c⟩
 | ins C dx fs=>
  obtain ⟨d,z,ne,e,mA,⟨od,es,ep,e2,c⟩,r⟩:=x
  exact ⟨ho _ d,z,ne,k _ _ (.inl rfl) e,mA,⟨od,es,ep,k _ _ (.inr d) e2,c⟩,r⟩
 | own y=>obtain ⟨ob,e⟩:=x;exact ⟨ob,k _ _ (.inl rfl) e⟩
 | xd fs=>obtain ⟨mA,⟨od,es,ep,e,c⟩,r⟩:=x;exact ⟨mA,⟨od,es,ep,k _ _ (.inl rfl) e,c⟩,r⟩
 | rng lo hi=>obtain ⟨t,u,v,e⟩:=x;exact ⟨t,u,v,k _ _ (.inl rfl) e⟩
 | j8 ob u ih=>obtain ⟨e,q⟩:=x;exact ⟨k _ _ (.inl rfl) e,ih q⟩
 | tbl ps=>
  have e:h.get? a=some {cls:=.none,data:=.fields ps}:=x
  show h'.get? a=some {cls:=.none,data:=.fields ps}
  exact k a _ (.inl rfl) e
 | met f y=>
  have e:h.get? a=some (PySem.W.methodObj (.ref f) (.ref y)):=x
  show h'.get? a=some (PySem.W.methodObj (.ref f) (.ref y))
  exact k a _ (.inl rfl) e
 | ext φ=>obtain ⟨p,⟨o,e⟩,st⟩:=x;exact ⟨st _ _ p fun o q=>k _ _ (.inl rfl) q,⟨o,k _ _ (.inl rfl) e⟩,st⟩
theorem kQ.lt (x:kQ P w H h)(e:H a=some o):a < h.objs.size:=(x a o e).lt
theorem kQ.fresh (x:kQ P w H h)(e:h.objs.size<=a):H a=none:=by
 cases q:H a with
 | none=>rfl
 | some u=>exact absurd (abu (x.lt q) e) (af3 _)
theorem kQ.kept (x:kQ P w H h)(k:∀b u,h.get? b=some u->h'.get? b=some u):kQ P w H h' :=fun a o e=>
 (x a o e).qF (fun b u _ q=>k b u q) (fun _ q=>q) fun _ _ q=>q
theorem kQ.laid (x:kQ P w H h)(k:∀b u,h.get? b=some u->h'.get? b=some u)(hp:h.objs.size<=a)(new:bL P w (upd H a o) h' a o):kQ P w (upd H a o) h' :=fun b u e=>by
 have hn:=x.fresh hp
 by_cases hb:b=a
 ·subst hb;rw [aj] at e;cases e;exact new
 ·rw [ah hb] at e
  exact (x b u e).qF (fun c v _ q=>k c v q) (fun c q=>by rw [ah (ak q hn)];exact q) fun c xs q=>by rw [ah (ak q hn)];exact q
end
def Rd (H:Hp)(a:Addr)(u:HO):Prop:=H a=some u\/∃o,H a=some (.j8 o u)
theorem Rd.ok {P:Program}{w:World}{H:Hp}{h:Heap}{a:Addr}{u:HO}(r:Rd H a u)(x:kQ P w H h):bL P w H h a u:=by
 rcases r with r | ⟨o,r⟩
 ·exact x a u r
 ·obtain ⟨_,q⟩:=x a _ r
  exact q
def Mut:Option HO->Prop
 | some (.lst _)=>True
 | some (.dK _)=>True
 | some (.dT _)=>True
 | some (.set _ _)=>True
 | some (.ins _ _ _)=>True
 | some (.ext _)=>True
 | _=>False
section
variable {P:Program}{w:World}{H:Hp}{h h' :Heap}{x e:Addr}{o' :HO}
theorem kQ.write (ok:kQ P w H h)(mu:Mut (H x))(he:e=x\/H e=some (.own x))(k:∀b u,b≠e->h.get? b=some u->h'.get? b=some u)(heo:∃u,h'.get? e=some u)
  (new:bL P w (upd H x o') h' x o'):kQ P w (upd H x o') h' :=fun b u q=>by
 have amy:∀c y,H c=some (.own y)->c≠x:=fun c y r z=>by subst z;rw [r] at mu;exact mu
 have atx:∀c xs,H c=some (.tup xs)->c≠x:=fun c xs r z=>by subst z;rw [r] at mu;exact mu
 by_cases hb:b=x
 ·subst hb;rw [aj] at q;cases q;exact new
 ·rw [ah hb] at q
  by_cases hbe:b=e
  ·have q' :H b=some (.own x):=by
    rcases he with z | z
    ·exact absurd (hbe.trans z) hb
    ·rw [hbe];exact z
   rw [q] at q';cases q'
   obtain ⟨v,hv⟩:=heo
   exact ⟨v,by rw [hbe];exact hv⟩
  ·refine (ok b u q).qF (fun c v hc r=>k c v ?_ r) (fun c r=>by rw [ah (amy c b r)];exact r) fun c xs r=>by rw [ah (atx c xs r)];exact r
   rcases hc with rfl | hc
   ·exact hbe
   ·rintro rfl
    rcases he with z | z
    ·exact amy c b hc z
    ·rw [hc] at z;cases z;exact hb rfl
end
structure Un (fs ex:π)(H H' :Hp)(h h' :Heap):Prop where
 keep:∀b o,h.get? b=some o->H b=none->b∉fs->b∉ex->h'.get? b=some o
 slot:∀b o,h.get? b=some o->H b=none->b∈fs->b∉ex->∃sl,h'.get? b=some {o with slots:=sl}
 free:∀b o,h.get? b=some o->H b=none->b∉ex->H' b=none
 there:∀b o,h.get? b=some o->b∉ex->∃o',h'.get? b=some o'
 me:∀b xs,H b=some (.tup xs)->H' b=some (.tup xs)
 kR:∀b o u,H b=some (.j8 o u)->H' b=some (.j8 o u)
 mf:∀b ps,H b=some (.tbl ps)->∃more,H' b=some (.tbl (ps++more))
section
variable {fs S2 ex ex' :π}{H H1 H2:Hp}{h h1 h2 h' :Heap}{a x e:Addr}{o:HO}
theorem Un.any (u:Un fs ex H H1 h h1){b:Addr}{ob:Obj}(q:h.get? b=some ob)(n:H b=none)(hx:b∉ex):∃sl,h1.get? b=some {ob with slots:=sl}:=by
 by_cases hb:b∈fs
 ·exact u.slot b ob q n hb hx
 ·exact ⟨ob.slots,u.keep b ob q n hb hx⟩
theorem Un.trans (a:Un fs ex H H1 h h1)(b:Un fs ex H1 H2 h1 h2):Un fs ex H H2 h h2 where
 keep:=fun c ob q n hc hx=>b.keep c ob (a.keep c ob q n hc hx) (a.free c ob q n hx) hc hx
 slot:=fun c ob q n hc hx=>by
  obtain ⟨sl,e1⟩:=a.slot c ob q n hc hx
  obtain ⟨sl',e2⟩:=b.slot c _ e1 (a.free c ob q n hx) hc hx
  exact ⟨sl',e2⟩
 free:=fun c ob q n hx=>by
  obtain ⟨o',e1⟩:=a.there c ob q hx
  exact b.free c o' e1 (a.free c ob q n hx) hx
 there:=fun c ob q hx=>by
  obtain ⟨o',e1⟩:=a.there c ob q hx
  exact b.there c o' e1 hx
 me:=fun c xs q=>b.me c xs (a.me c xs q)
 kR:=fun c ob xs q=>b.kR c ob xs (a.kR c ob xs q)
 mf:=fun c ps q=>by
  obtain ⟨m1,e1⟩:=a.mf c ps q
  obtain ⟨m2,e2⟩:=b.mf c _ e1
  exact ⟨m1++m2,by rw [e2,anB]⟩
theorem Un.kept (k:∀b u,h.get? b=some u->h'.get? b=some u):Un fs ex H H h h' :=
 ⟨fun b ob q _ _ _=>k b ob q,fun b ob q _ _ _=>⟨ob.slots,k b ob q⟩,fun _ _ _ n _=>n,fun b ob q _=>⟨ob,k b ob q⟩,fun _ _ q=>q,fun _ _ _ q=>q,fun _ ps q=>⟨#[],by rw [q];simp⟩⟩
theorem Un.refl:Un fs ex H H h h:=Un.kept fun _ _ q=>q
theorem Un.laid (k:∀b u,h.get? b=some u->h'.get? b=some u)(hp:h.objs.size<=a)(hn:H a=none):Un fs ex H (upd H a o) h h' where
 keep:=fun b u q _ _ _=>k b u q
 slot:=fun b u q _ _ _=>⟨u.slots,k b u q⟩
 free:=fun b u q n _=>by rw [ah (ab_ (abu (Heap.lt_size q) hp))];exact n
 there:=fun b u q _=>⟨u,k b u q⟩
 me:=fun b xs q=>by rw [ah (ak q hn)];exact q
 kR:=fun b u xs q=>by rw [ah (ak q hn)];exact q
 mf:=fun b ps q=>⟨#[],by rw [ah (ak q hn),q];simp⟩
theorem Un.write (mu:Mut (H x))(he:e=x\/H e=some (.own x))(k:∀b u,b≠e->h.get? b=some u->h'.get? b=some u)(heo:∃u,h'.get? e=some u):Un fs ex H (upd H x o) h h' :=by
 have hx:∀b,H b=none->b≠x:=fun b n z=>by subst z;rw [n] at mu;exact mu
 have hb:∀b,H b=none->b≠e:=fun b n z=>by
  subst z
  rcases he with r | r
  ·exact hx b n r
  ·rw [n] at r;cases r
 have hm:∀b u,H b=some u->¬ Mut (some u)->b≠x:=fun b u q nm z=>by subst z;rw [q] at mu;exact nm mu
 refine ⟨fun b u q n _ _=>k b u (hb b n) q,fun b u q n _ _=>⟨u.slots,k b u (hb b n) q⟩,fun b u q n _=>by rw [ah (hx b n)];exact n,fun b u q _=>?_,
  fun b xs q=>by rw [ah (hm b _ q fun z=>z)];exact q,fun b u xs q=>by rw [ah (hm b _ q fun z=>z)];exact q,fun b ps q=>⟨#[],by rw [ah (hm b _ q fun z=>z),q];simp⟩⟩
 by_cases hbe:b=e
 ·subst hbe;exact heo
 ·exact ⟨u,k b u hbe q⟩
theorem Un.mono (u:Un fs ex H H1 h h1)(hs:∀b∈fs,b∈S2)(hx:∀b∈ex,b∈ex'):Un S2 ex' H H1 h h1:=
 ⟨fun b ob q n hb he=>u.keep b ob q n (fun z=>hb (hs b z)) fun z=>he (hx b z),fun _ _ q n _ he=>u.any q n fun z=>he (hx _ z),fun b ob q n he=>u.free b ob q n fun z=>he (hx b z),fun b ob q he=>u.there b ob q fun z=>he (hx b z),u.me,u.kR,u.mf⟩
end
def trk (h:Heap)(H:Hp):List Addr:=(ai_ h.objs.size).filter fun a=>(H a).isSome
def DG (h:Heap)(H:Hp):Heap:=PySem.W.hideAll h (trk h H)
theorem Uq (h:Heap)(H:Hp):(DG h H).objs.size=h.objs.size:=PySem.W.hideAll_size _ _
theorem XH {h:Heap}{H:Hp}{b:Addr}{o:Obj}(e:h.get? b=some o)(n:H b=none):(DG h H).get? b=some o:=
 PySem.W.hideAll_get _ e fun hm=>by
  have q:(H b).isSome=true:=(aoE.mp hm).2
  rw [n] at q;simp at q
theorem adt {h:Heap}{H:Hp}{b:Addr}{o:Obj}(e:(DG h H).get? b=some o):h.get? b=some o/\H b=none:=by
 have e' :h.get? b=some o:=PySem.W.of_hideAll (trk h H) e
 refine ⟨e',?_⟩
 cases q:H b with
 | none=>rfl
 | some x=>
  have hm:b∈trk h H:=aoE.mpr ⟨alJ.mpr (Heap.lt_size e'),by simp [q]⟩
  have z:(DG h H).get? b=none:=PySem.W.hideAll_none (trk h H) hm
  rw [z] at e;cases e
def adu (g h:Heap)(L:Addr):List (Addr×Obj):=(ai_ h.objs.size).filterMap fun a=>if a=L\/(g.get? a).isSome=true then none else (h.get? a).map fun o=>(a,o)
def rest (g h:Heap)(L d:Addr):List (Addr×Obj):=(adu g h L).filter fun p=>decide (p.1≠d)
end L2
namespace L2
open PySem PySem.Spec PyProof.Rows
structure Mod (K:Frag)(mg:ε)(base:Heap):Prop where
 XI:K.In base
 glob:base.Ns mainGlobals mg
 blt:∃mb,base.Ns builtinsNs mb/\∀x:Str,x≠ "__name__"->mb x=bootBuiltins x
 nolimit:base.NoLimit
 seer:base.NoSeer
structure Cx where
 prog:Program
 w:World
 K:Frag
 mg:Str->Option Value
 base:Heap
 A:Around
 N:List Str
 s₀:Shared
 H₀:Hp
 env:Env
 outer:List Env
 stack:List Env
 ex:List Addr
 fn:Str->Bool
 calm:Bool
 pn:List (Addr×Obj)
 xe:Value->Shared->Prop
def mx (l:List Env):List Addr:=l.filterMap (·.frame)
abbrev Cx.fs (X:Cx):List Addr:=mx X.outer
def Vis (sc:Scope)(x:Str):Prop:=sc.names.lookup x=some .local\/sc.names.lookup x=some .cell\/sc.names.lookup x=some .free
def Loc (sc:Scope)(x:Str):Prop:=sc.names.lookup x=some .local\/sc.names.lookup x=some .cell
def Look (env:Env)(h:Heap)(m:ε)(x:Str)(u:Value):Prop:=
 (env.kindOf x=some .local/\m x=some u)\/((env.kindOf x=some .cell\/env.kindOf x=some .free)/\∃c,env.cells.lookup x=some c/\h.IsCell c (some u))
structure Cx.Ok (X:Cx):Prop where
 mod:Mod X.K X.mg X.base
 kind:X.env.scope.kind=.function
 glob:X.env.globals=mainGlobals
 blt:X.env.builtins=builtinsNs
 above:X.s₀.heap.objs.size<=X.env.locals
 inj:∀x y c,X.env.cells.lookup x=some c->X.env.cells.lookup y=some c->x=y
 has:∀x,(X.env.kindOf x=some .cell\/X.env.kindOf x=some .free)->∃c,X.env.cells.lookup x=some c
 cab:∀x c,X.fn x=true->X.env.cells.lookup x=some c->X.s₀.heap.objs.size<=c
 hd:X.calm=true->X.A.handled=none
 frames:X.A.frames=some X.stack
 stk:X.stack=X.outer\/(X.stack=X.env::X.outer/\X.env.frame=some X.env.locals)
 exf:∀b∈X.ex,b≠X.env.locals/\∀x c,X.env.cells.lookup x=some c->c≠b
 bs:∀b o,X.base.get? b=some o->X.s₀.heap.get? b=some o/\X.H₀ b=none
 Xv:X.base.objs.size<=X.s₀.heap.objs.size
 Ql:∀b o,X.base.get? b=some o->b∉X.ex
 Ur:∀b∈X.ex,b∉X.fs
 ph:X.s₀.heap.FunFrames X.base X.outer
 frf:∀b∈X.fs,X.H₀ b=none
structure Inv (X:Cx)(pins:δ)(σ:List (Option V))(H:Hp)(s:Shared):Prop where
 ok:X.Ok
 os:s.os=X.s₀.os
 bare:AllBare s.gens
 base:Un X.fs X.ex X.H₀ H X.s₀.heap s.heap
 loc:∃m,s.heap.Ns X.env.locals m/\∀(i:Nat) (x:Str) (v:V),X.N[i]? =some x->σ[i]? =some (some v)->Vis X.env.scope x->∃u,RelV v u/\Look X.env s.heap m x u
 cell:∀x c,X.env.cells.lookup x=some c->∃v,s.heap.IsCell c v
 free:H X.env.locals=none
 iI:∀x c,X.env.cells.lookup x=some c->H c=none
 pin:∀p∈X.pn++pins,s.heap.get? p.1=some p.2/\H p.1=none/\p.1≠X.env.locals/\p.1∉X.fs/\∀v,p.2.data≠.cell v
 bR:kQ X.prog X.w H s.heap
 len:σ.length=X.N.length
section
variable {X:Cx}{pins:δ}{σ:List (Option V)}{H H' :Hp}{s:Shared}{h' :Heap}
theorem Cx.Ok.atz (ok:X.Ok){b:Addr}{o:Obj}(e:X.base.get? b=some o):b∉X.fs:=fun hb=>by
 have:=(ok.ph.mem hb).1
 rw [e] at this;cases this
theorem Inv.bs (I:Inv X pins σ H s):∀b o,X.base.get? b=some o->s.heap.get? b=some o/\H b=none:=fun b o e=>
 ⟨I.base.keep b o (I.ok.bs b o e).1 (I.ok.bs b o e).2 (I.ok.atz e) (I.ok.Ql b o e),I.base.free b o (I.ok.bs b o e).1 (I.ok.bs b o e).2 (I.ok.Ql b o e)⟩
theorem Inv.bk (I:Inv X pins σ H s):∀b o,X.base.get? b=some o->s.heap.get? b=some o:=fun b o e=>(I.bs b o e).1
theorem Inv.mod (I:Inv X pins σ H s):Mod X.K X.mg X.base:=I.ok.mod
theorem Inv.iB (I:Inv X pins σ H s):X.K.In s.heap:=I.ok.mod.XI.keeps I.bk
theorem Inv.nolimit (I:Inv X pins σ H s):s.heap.NoLimit:=I.ok.mod.nolimit.keeps I.bk
theorem Inv.lt (I:Inv X pins σ H s):X.env.locals < s.heap.objs.size:=let ⟨_,hn,_⟩:=I.loc;hn.lt
theorem Inv.sz (I:Inv X pins σ H s):X.s₀.heap.objs.size<=s.heap.objs.size:=ir I.ok.above (alH I.lt)
theorem Inv.atA (I:Inv X pins σ H s){a:Addr}(h:s.heap.objs.size<=a):a∉X.fs:=fun hb=>by
 obtain ⟨_,o,ho,_⟩:=I.ok.ph.mem hb
 exact absurd (abu (Heap.lt_size ho) (ir I.sz h)) (af3 _)
theorem Inv.XJ (I:Inv X pins σ H s):∀x c,X.env.cells.lookup x=some c->c≠X.env.locals:=fun x c e z=>by
 obtain ⟨v,o,ho,hd⟩:=I.cell x c e
 obtain ⟨m,⟨o',es,ep,ho',hd',_⟩,_⟩:=I.loc
 rw [z,ho'] at ho;cases ho;rw [hd'] at hd;cases hd
theorem Inv.ph (I:Inv X pins σ H s):s.heap.FunFrames X.base X.outer:=by
 have all:∀(l:List Env),(∀b∈mx l,b∈X.fs)->X.s₀.heap.FunFrames X.base l->s.heap.FunFrames X.base l:=by
  intro l
  induction l with
  | nil=>intro _ _;trivial
  | cons env r ih=>
   intro hs hl
   obtain ⟨hk,⟨L,o,hf,hn,ho,hd⟩,hr⟩:=hl
   have hL:L∈X.fs:=hs L (by unfold mx;rw [aiK,hf];exact abE)
   obtain ⟨sl,e⟩:=I.base.slot L o ho (I.ok.frf L hL) hL fun z=>I.ok.Ur L z hL
   exact ⟨hk,⟨L,_,hf,hn,e,hd⟩,ih (fun b hb=>hs b (by unfold mx;rw [aiK,hf];exact abz _ hb)) hr⟩
 exact all X.outer (fun _ hb=>hb) I.ok.ph
theorem Inv.stack (I:Inv X pins σ H s):s.heap.FunFrames X.base X.stack:=by
 rcases I.ok.stk with e | ⟨e,hf⟩
 ·rw [e];exact I.ph
 ·rw [e]
  obtain ⟨m,hn,_⟩:=I.loc
  refine .cons (by rw [I.ok.kind];decide) hf hn ?_ I.ph
  exact Heap.get?_none_of_le (ir I.ok.Xv I.ok.above)
theorem Inv.DH (I:Inv X pins σ H s):∀b∈mx X.stack,b∈X.env.locals::X.fs:=fun b hb=>by
 rcases I.ok.stk with e | ⟨e,hf⟩
 ·rw [e] at hb;exact abz _ hb
 ·rw [e] at hb
  unfold mx at hb
  rw [aiK,hf] at hb
  exact hb
theorem Inv.qG (I:Inv X pins σ H s):∀b∈mx X.stack,H b=none:=fun b hb=>by
 rcases aby.mp (I.DH b hb) with e | hb
 ·rw [e];exact I.free
 ·obtain ⟨_,o,ho,_⟩:=I.ok.ph.mem hb
  exact I.base.free b o ho (I.ok.frf b hb) fun z=>I.ok.Ur b z hb
theorem Inv.step {g' :Array GenState}{t' :Nat}{d' :Drawn}{ch:π}(I:Inv X pins σ H s)
  (hch:∀b∈ch,(b∈X.ex\/X.s₀.heap.objs.size<=b)/\b≠X.env.locals/\(∀x c,X.env.cells.lookup x=some c->c≠b)/\∀p∈X.pn++pins,p.1≠b)
  (keep:∀b o,b≠X.env.locals->b∉X.fs->b∉ch->s.heap.get? b=some o->H b=none->h'.get? b=some o)
  (slot:∀b o,b≠X.env.locals->b∈X.fs->b∉ch->s.heap.get? b=some o->H b=none->∃sl,h'.get? b=some {o with slots:=sl}) (free:∀b o,b∉ch->s.heap.get? b=some o->H b=none->H' b=none)
  (there:∀b o,b∉ch->s.heap.get? b=some o->∃o',h'.get? b=some o')
  (me:∀b xs,H b=some (.tup xs)->H' b=some (.tup xs)) (kR:∀b o u,H b=some (.j8 o u)->H' b=some (.j8 o u)) (mf:∀b ps,H b=some (.tbl ps)->∃more,H' b=some (.tbl (ps++more)))
  (ns:∀m,s.heap.Ns X.env.locals m->h'.Ns X.env.locals m) (bR:kQ X.prog X.w H' h') (hg:AllBare g'):
  Inv X pins σ H' {s with heap:=h',gens:=g',drawn:=d',toks:=t' }:=by
 have neL:∀b o,X.s₀.heap.get? b=some o->b≠X.env.locals:=fun b o e=>ab_ (abu (Heap.lt_size e) I.ok.above)
 have neC:∀b o,X.s₀.heap.get? b=some o->b∉X.ex->b∉ch:=fun b o e hx hb=>by
  rcases (hch b hb).1 with z | z
  ·exact hx z
  ·exact absurd (abu (Heap.lt_size e) z) (af3 _)
 have cellK:∀x c,X.env.cells.lookup x=some c->∀v,s.heap.IsCell c v->h'.IsCell c v:=fun x c e v ⟨o,ho,hd⟩=>by
  have nch:c∉ch:=fun z=>(hch c z).2.2.1 x c e rfl
  by_cases hc:c∈X.fs
  ·obtain ⟨sl,q⟩:=slot c o (I.XJ x c e) hc nch ho (I.iI x c e)
   exact ⟨_,q,hd⟩
  ·exact ⟨o,keep c o (I.XJ x c e) hc nch ho (I.iI x c e),hd⟩
 refine ⟨I.ok,I.os,hg,⟨fun b o e n hb hx=>?_,fun b o e n hb hx=>?_,fun b o e n hx=>?_,fun b o e hx=>?_,fun b xs e=>me b xs (I.base.me b xs e),fun b o xs e=>kR b o xs (I.base.kR b o xs e),fun b ps e=>?_⟩,?_,fun x c e=>?_,?_,fun x c e=>?_,fun p hp=>?_,bR,I.len⟩
 ·exact keep b o (neL b o e) hb (neC b o e hx) (I.base.keep b o e n hb hx) (I.base.free b o e n hx)
 ·obtain ⟨sl,e1⟩:=I.base.slot b o e n hb hx
  obtain ⟨sl',e2⟩:=slot b _ (neL b o e) hb (neC b o e hx) e1 (I.base.free b o e n hx)
  exact ⟨sl',e2⟩
 ·obtain ⟨o',e1⟩:=I.base.there b o e hx
  exact free b o' (neC b o e hx) e1 (I.base.free b o e n hx)
 ·obtain ⟨o',e1⟩:=I.base.there b o e hx
  exact there b o' (neC b o e hx) e1
 ·obtain ⟨m1,e1⟩:=I.base.mf b ps e
  obtain ⟨m2,e2⟩:=mf b _ e1
  exact ⟨m1++m2,by rw [e2,anB]⟩
 ·obtain ⟨m,hn,hl⟩:=I.loc
  refine ⟨m,ns m hn,fun i x v e1 e2 e3=>?_⟩
  obtain ⟨u,r,l⟩:=hl i x v e1 e2 e3
  refine ⟨u,r,?_⟩
  rcases l with l | ⟨k,c,e,z⟩
  ·exact .inl l
  ·exact .inr ⟨k,c,e,cellK x c e _ z⟩
 ·obtain ⟨v,z⟩:=I.cell x c e
  exact ⟨v,cellK x c e v z⟩
 ·obtain ⟨m,⟨o,_,_,ho,_⟩,_⟩:=I.loc
  exact free _ o (fun z=>(hch _ z).2.1 rfl) ho I.free
 ·obtain ⟨v,o,ho,hd⟩:=I.cell x c e
  exact free c o (fun z=>(hch c z).2.2.1 x c e rfl) ho (I.iI x c e)
 ·obtain ⟨e,n,ne,nf,d⟩:=I.pin p hp
  have nch:p.1∉ch:=fun z=>(hch p.1 z).2.2.2 p hp rfl
  exact ⟨keep p.1 p.2 ne nf nch e n,free p.1 p.2 nch e n,ne,nf,d⟩
theorem Inv.un {t' :Nat}(I:Inv X pins σ H s)(u:Un X.fs [] H H' s.heap h')(bR:kQ X.prog X.w H' h'):Inv X pins σ H' {s with heap:=h',toks:=t' }:=by
 obtain ⟨m,⟨o,es,ep,ho,r⟩,_⟩:=id I.loc
 obtain ⟨sl,hL⟩:=u.any ho I.free (by simp)
 exact I.step (g' :=s.gens) (d' :=s.drawn) (ch:=[]) (fun _ z=>nomatch z) (fun b o _ hb _ e n=>u.keep b o e n hb (by simp)) (fun b o _ hb _ e n=>u.slot b o e n hb (by simp)) (fun b o _ e n=>u.free b o e n (by simp)) (fun b o _ e=>u.there b o e (by simp)) u.me u.kR u.mf (fun m' hm=>by
  obtain ⟨o',es',Us,ho',r'⟩:=hm
  rw [ho] at ho';cases ho'
  exact ⟨_,es',Us,hL,r'⟩) bR I.bare
theorem Inv.call {g' :Array GenState}{t' :Nat}{d' :Drawn}{ch:π}(I:Inv X pins σ H s)(u:Un (mx X.stack) ch H H' s.heap h')(bR:kQ X.prog X.w H' h')(hg:AllBare g')
  (hch:∀b∈ch,(b∈X.ex\/X.s₀.heap.objs.size<=b)/\b≠X.env.locals/\(∀x c,X.env.cells.lookup x=some c->c≠b)/\∀p∈X.pn++pins,p.1≠b):
  Inv X pins σ H' {s with heap:=h',gens:=g',drawn:=d',toks:=t' }:=by
 obtain ⟨m,⟨o,es,ep,ho,r⟩,_⟩:=id I.loc
 obtain ⟨sl,hL⟩:=u.any ho I.free fun z=>(hch _ z).2.1 rfl
 exact I.step (ch:=ch) hch (fun b o hL hb hc e n=>u.keep b o e n (fun z=>(aby.mp (I.DH b z)).elim hL hb) hc) (fun b o _ _ hc e n=>u.any e n hc) (fun b o hc e n=>u.free b o e n hc) (fun b o hc e=>u.there b o e hc) u.me u.kR u.mf (fun m' hm=>by
  obtain ⟨o',es',Us,ho',r'⟩:=hm
  rw [ho] at ho';cases ho'
  exact ⟨_,es',Us,hL,r'⟩) bR hg
theorem Inv.turned {t' :Nat}{it:Addr}(I:Inv X pins σ H s)(k:∀b o,b≠it->s.heap.get? b=some o->h'.get? b=some o)(hn:H it=none)(hL:it≠X.env.locals)
  (h1:it∈X.ex\/X.s₀.heap.objs.size<=it) (h2:∀x c,X.env.cells.lookup x=some c->c≠it) (h3:∀p∈X.pn++pins,p.1≠it):Inv X pins σ H {s with heap:=h',toks:=t' }:=by
 have nit:∀b u,H b=some u->b≠it:=fun b u e z=>by rw [z,hn] at e;cases e
 refine I.step (g' :=s.gens) (d' :=s.drawn) (ch:=[it]) (fun b hb=>?_) (fun b o _ _ hc e _=>k b o (fun z=>hc (by simp [z])) e) (fun b o _ _ hc e _=>⟨o.slots,k b o (fun z=>hc (by simp [z])) e⟩) (fun _ _ _ _ n=>n)
  (fun b o hc e=>⟨o,k b o (fun z=>hc (by simp [z])) e⟩) (fun _ _ e=>e) (fun _ _ _ e=>e) (fun b ps e=>⟨#[],by rw [e];simp⟩) (fun m hm=>?_) (fun b u e=>?_) I.bare
 ·have e:b=it:=by simpa using hb
  subst e
  exact ⟨h1,hL,h2,h3⟩
 ·obtain ⟨o,es,ep,ho,r⟩:=hm
  exact ⟨o,es,ep,k _ o (ac_ hL) ho,r⟩
 ·refine (I.bR b u e).qF (fun c v hc q=>k c v ?_ q) (fun _ q=>q) fun _ _ q=>q
  rcases hc with z | z
  ·rw [z];exact nit b u e
  ·exact nit c _ z
theorem Inv.tok (I:Inv X pins σ H s)(t:Nat):Inv X pins σ H {s with toks:=t}:=I.un (h' :=s.heap) (t' :=t) Un.refl I.bR
theorem Inv.kept {t' :Nat}(I:Inv X pins σ H s)(k:∀b u,s.heap.get? b=some u->h'.get? b=some u):Inv X pins σ H {s with heap:=h',toks:=t' }:=I.un (Un.kept k) (I.bR.kept k)
theorem Inv.laid {a:Addr}{o:HO}{t' :Nat}(I:Inv X pins σ H s)(k:∀b u,s.heap.get? b=some u->h'.get? b=some u)(hp:s.heap.objs.size<=a)(new:bL X.prog X.w (upd H a o) h' a o):
  Inv X pins σ (upd H a o) {s with heap:=h',toks:=t' }:=I.un (Un.laid k hp (I.bR.fresh hp)) (I.bR.laid k hp new)
theorem Inv.write {x e:Addr}{o:HO}{t' :Nat}(I:Inv X pins σ H s)(mu:Mut (H x))(he:e=x\/H e=some (.own x))(k:∀b u,b≠e->s.heap.get? b=some u->h'.get? b=some u)(heo:∃u,h'.get? e=some u)
  (new:bL X.prog X.w (upd H x o) h' x o):Inv X pins σ (upd H x o) {s with heap:=h',toks:=t' }:=I.un (Un.write mu he k heo) (I.bR.write mu he k heo new)
theorem Inv.S3 {af2 :δ}(I:Inv X pins σ H s)(h:∀p∈af2,s.heap.get? p.1=some p.2/\H p.1=none/\p.1≠X.env.locals/\p.1∉X.fs/\∀v,p.2.data≠.cell v):Inv X af2 σ H s:=
 ⟨I.ok,I.os,I.bare,I.base,I.loc,I.cell,I.free,I.iI,fun p hp=>(abB.mp hp).elim (fun z=>I.pin p (af_ _ z)) (h p),I.bR,I.len⟩
theorem xh {N:ζ}(hN:N.Nodup){i j:Nat}{x:Str}(a:N[i]? =some x)(b:N[j]? =some x):i=j:=by
 obtain ⟨h1,e1⟩:=W1.mp a
 obtain ⟨h2,e2⟩:=W1.mp b
 exact (List.getElem_inj hN).mp (e1.trans e2.symm)
theorem AU {M:Model}{A:Around}{E:γ}{i:Nat}{x:Str}{v:V}{u:Value}{Q:ω}(I:Inv X pins σ H s)(hN:X.N.Nodup)(hi:X.N[i]? =some x)(hx:Loc X.env.scope x)(r:RelV v u)
  (h:∀s',Inv X pins (σ.set i (some v)) H s' ->(∃a,Heap.SameBut a s.heap s'.heap/\(a=X.env.locals\/X.env.cells.lookup x=some a))->Q () s') (hf:X.fn x=true\/X.env.scope.names.lookup x=some .local:=by first | exact .inl rfl | exact .inr rfl | assumption):wpAny M A (storeName X.env x u) Q E s:=by
 obtain ⟨m,hn,hl⟩:=id I.loc
 have Qm:(X.env.scope.kind==.class || (X.env.scope.kind==.module && X.env.locals !=X.env.globals))=false:=by rw [I.ok.kind];rfl
 have hiσ:i < σ.length:=by rw [I.len];exact (W1.mp hi).1
 have XJ:=I.XJ
 have tracked:∀{a:Addr} {h' :Heap},(∃o,s.heap.get? a=some o/\H a=none)->Heap.SameBut a s.heap h' ->kQ X.prog X.w H h' :=fun {a h'} ha hs b ob e=>by
  obtain ⟨_,_,KJ⟩:=ha
  refine (I.bR b ob e).qF (fun c w' hc q=>(hs.2 c ?_).trans q) (fun _ q=>q) fun _ _ q=>q
  rintro rfl
  rcases hc with rfl | hc
  ·rw [KJ] at e;cases e
  ·rw [KJ] at hc;cases hc
 rcases hx with hk | hk
 ·refine wpAny_storeName_local hk hn (fun h' hn' hs=>?_) Qm
  obtain ⟨oL,_,_,hoL,_⟩:=id hn
  refine h _ ⟨I.ok,I.os,I.bare,⟨fun b o e n hb hx=>?_,fun b o e n hb hx=>?_,I.base.free,fun b o e hx=>?_,I.base.me,I.base.kR,I.base.mf⟩,⟨_,hn',fun j y v' e1 e2 e3=>?_⟩,fun y c e=>?_,I.free,I.iI,fun p hp=>?_,tracked ⟨oL,hoL,I.free⟩ hs,by simpa using I.len⟩ ⟨_,hs,.inl rfl⟩
  ·exact (hs.2 b (ab_ (abu (Heap.lt_size e) I.ok.above))).trans (I.base.keep b o e n hb hx)
  ·obtain ⟨sl,e1⟩:=I.base.slot b o e n hb hx
   exact ⟨sl,(hs.2 b (ab_ (abu (Heap.lt_size e) I.ok.above))).trans e1⟩
  ·obtain ⟨o',e1⟩:=I.base.there b o e hx
   exact ⟨o',(hs.2 b (ab_ (abu (Heap.lt_size e) I.ok.above))).trans e1⟩
  ·by_cases hj:j=i
   ·subst hj
    rw [hi] at e1;cases e1
    rw [ajo hiσ] at e2
    cases e2
    exact ⟨u,r,.inl ⟨hk,by simp⟩⟩
   ·rw [alA (ac_ hj)] at e2
    obtain ⟨u',r',q⟩:=hl j y v' e1 e2 e3
    refine ⟨u',r',?_⟩
    rcases q with ⟨k,e⟩ | ⟨k,c,e,z⟩
    ·refine .inl ⟨k,?_⟩
     have:y≠x:=fun e=>hj (xh hN e1 (e▸hi))
     simp [this,e]
    ·exact .inr ⟨k,c,e,z.sameBut hs (XJ y c e)⟩
  ·obtain ⟨w',z⟩:=I.cell y c e
   exact ⟨w',z.sameBut hs (XJ y c e)⟩
  ·obtain ⟨e,n,ne,nf,d⟩:=I.pin p hp
   exact ⟨(hs.2 p.1 ne).trans e,n,ne,nf,d⟩
 ·have hfn:X.fn x=true:=by
   rcases hf with z | z
   ·exact z
   ·rw [z] at hk;cases hk
  obtain ⟨c,hc⟩:=I.ok.has x (.inl hk)
  obtain ⟨w',z⟩:=I.cell x c hc
  refine wpAny_storeName_cell I.ok.kind hk hc z (fun h' DI hs=>?_)
  obtain ⟨oc,hoc,atF⟩:=id z
  refine h {s with heap:=h' } ⟨I.ok,I.os,I.bare,⟨fun b o e n hb hx=>?_,fun b o e n hb hx=>?_,I.base.free,fun b o e hx=>?_,I.base.me,I.base.kR,I.base.mf⟩,⟨m,hn.sameBut hs (ac_ (XJ x c hc)),fun j y v' e1 e2 e3=>?_⟩,fun y c' e=>?_,I.free,I.iI,fun p hp=>?_,tracked ⟨oc,hoc,I.iI x c hc⟩ hs,by simpa using I.len⟩ ⟨c,hs,.inr hc⟩
  ·exact (hs.2 b (ab_ (abu (Heap.lt_size e) (I.ok.cab x c hfn hc)))).trans (I.base.keep b o e n hb hx)
  ·obtain ⟨sl,e1⟩:=I.base.slot b o e n hb hx
   exact ⟨sl,(hs.2 b (ab_ (abu (Heap.lt_size e) (I.ok.cab x c hfn hc)))).trans e1⟩
  ·obtain ⟨o',e1⟩:=I.base.there b o e hx
   exact ⟨o',(hs.2 b (ab_ (abu (Heap.lt_size e) (I.ok.cab x c hfn hc)))).trans e1⟩
  ·by_cases hj:j=i
   ·subst hj
    rw [hi] at e1;cases e1
    rw [ajo hiσ] at e2
    cases e2
    exact ⟨u,r,.inr ⟨.inl hk,c,hc,DI⟩⟩
   ·rw [alA (ac_ hj)] at e2
    obtain ⟨u',r',q⟩:=hl j y v' e1 e2 e3
    refine ⟨u',r',?_⟩
    rcases q with q | ⟨k,c',e,z'⟩
    ·exact .inl q
    ·refine .inr ⟨k,c',e,z'.sameBut hs ?_⟩
     rintro rfl
     exact hj (xh hN e1 (I.ok.inj _ _ _ e hc▸hi))
  ·by_cases hcc:c' =c
   ·subst hcc;exact ⟨_,DI⟩
   ·obtain ⟨w2,z2⟩:=I.cell y c' e
    exact ⟨w2,z2.sameBut hs hcc⟩
  ·obtain ⟨e,n,ne,nf,d⟩:=I.pin p hp
   refine ⟨(hs.2 p.1 ?_).trans e,n,ne,nf,d⟩
   intro q
   rw [q,hoc] at e
   have q' :oc=p.2:=abq e
   exact d w' (by rw [<- q'];exact atF)
theorem xi {M:Model}{A:Around}{E:γ}{i:Nat}{x:Str}{v:V}{u:Value}{Q:ω}(I:Inv X pins σ H s)(hN:X.N.Nodup)(hi:X.N[i]? =some x)(hx:Loc X.env.scope x)(r:RelV v u)
  (h:∀s',Inv X pins (σ.set i (some v)) H s' ->Q () s') (hf:X.fn x=true\/X.env.scope.names.lookup x=some .local:=by first | exact .inl rfl | exact .inr rfl | assumption):wpAny M A (storeName X.env x u) Q E s:=
 AU I hN hi hx r (fun s' I' _=>h s' I') hf
theorem Inv.KL {s' :Shared}{ch:π}(I:Inv X pins σ H s)(ho:s'.os=s.os)(u:Un (mx X.stack) ch H H' s.heap s'.heap)(bR:kQ X.prog X.w H' s'.heap)(hg:AllBare s'.gens)
  (hch:∀b∈ch,(b∈X.ex\/X.s₀.heap.objs.size<=b)/\b≠X.env.locals/\(∀x c,X.env.cells.lookup x=some c->c≠b)/\∀p∈X.pn++pins,p.1≠b):Inv X pins σ H' s' :=by
 obtain ⟨h',g',d',t',o'⟩:=s'
 have e:o' =s.os:=ho
 subst e
 exact I.call (g' :=g') (t' :=t') (d' :=d') u bR hg hch
end
abbrev XK:=Value->Option Addr->Hp->Prop
abbrev St:=List (Option V)
abbrev VK:=V->Hp->Prop
abbrev _root_.Ο:=V->List V->Hp->VK->Prop
abbrev TE:=St->Hp->VK->Prop
abbrev TT:=St->Hp->(Bool->Hp->Prop)->Prop
abbrev TA:=St->Hp->(List V->Hp->Prop)->Prop
structure Ends where
 nx:St->Hp->Prop
 rt:VK
 bk:St->Hp->Prop:=fun _ _=>False
 ct:St->Hp->Prop:=fun _ _=>False
abbrev TS:=Ends->St->Hp->Prop
def EP (X:Cx)(pins:δ)(σ:St)(Q:VK)(u:Value)(s' :Shared):Prop:=∃v H',Inv X pins σ H' s' /\RelV v u/\Q v H'
def TP (X:Cx)(pins:δ)(σ:St)(Q:Bool->Hp->Prop)(b:Bool)(s' :Shared):Prop:=∃H',Inv X pins σ H' s' /\Q b H'
def AP (X:Cx)(pins:δ)(σ:St)(Q:List V->Hp->Prop)(us:θ)(s' :Shared):Prop:=∃vs H',Inv X pins σ H' s' /\Vals vs us/\Q vs H'
def SP (X:Cx)(pins:δ)(D:Ends)(f:Flow)(s' :Shared):Prop:=
 match f with
 | .next=>∃σ' H',Inv X pins σ' H' s' /\D.nx σ' H'
 | .brk=>∃σ' H',Inv X pins σ' H' s' /\D.bk σ' H'
 | .cont=>∃σ' H',Inv X pins σ' H' s' /\D.ct σ' H'
 | .ret u=>∃v σ' H',Inv X pins σ' H' s' /\RelV v u/\D.rt v H'
def PE (X:Cx)(e:Expr)(t:TE):Prop:=
 ∀(pins:δ) (s:Shared) (σ:St) (H:Hp) (Q:VK),Inv X pins σ H s->t σ H Q->wpAny (model X.prog X.w) X.A (eval e X.env) (EP X pins σ Q) X.xe s
def PT (X:Cx)(e:Expr)(t:TT):Prop:=
 ∀(pins:δ) (s:Shared) (σ:St) (H:Hp) (Q:Bool->Hp->Prop),Inv X pins σ H s->t σ H Q->wpAny (model X.prog X.w) X.A (isTrue e X.env (eval e X.env)) (TP X pins σ Q) X.xe s
def PW (X:Cx)(e:Expr)(t:TT):Prop:=
 ∀(whole:Sem Value) (pins:δ) (s:Shared) (σ:St) (H:Hp) (Q:Bool->Hp->Prop),Inv X pins σ H s->t σ H Q->wpAny (model X.prog X.w) X.A (isTrue e X.env whole) (TP X pins σ Q) X.xe s
theorem PW.pt {X:Cx}{e:Expr}{t:TT}(h:PW X e t):PT X e t:=h _
def PA (X:Cx)(es:ο)(t:TA):Prop:=
 ∀(pos:Pos) (pins:δ) (s:Shared) (σ:St) (H:Hp) (Q:List V->Hp->Prop),Inv X pins σ H s->t σ H Q->wpAny (model X.prog X.w) X.A (spliced (backTo pos (starEach es X.env))) (AP X pins σ Q) X.xe s
def PS (X:Cx)(st:Stmt)(t:TS):Prop:=
 ∀(pins:δ) (s:Shared) (σ:St) (H:Hp) (D:Ends),Inv X pins σ H s->t D σ H->wpAny (model X.prog X.w) X.A (exec st X.env) (SP X pins D) X.xe s
def PSs (X:Cx)(st:List Stmt)(t:TS):Prop:=
 ∀(pins:δ) (s:Shared) (σ:St) (H:Hp) (D:Ends),Inv X pins σ H s->t D σ H->wpAny (model X.prog X.w) X.A (execs st X.env) (SP X pins D) X.xe s
theorem cV {α:Type}{t:Sem α}{Q Q' :α->Shared->Prop}{M:Model}{A:Around}{E:γ}{s:Shared}(h:wpAny M A t Q E s)(hQ:∀a s,Q a s->Q' a s):wpAny M A t Q' E s:=wpAny_mono h hQ fun _ _ x=>x
end L2
namespace L2
open PySem PySem.Spec PyProof.Rows
section
variable {X:Cx}
inductive aif (i:Nat)(σ:St)(H:Hp)(Q:VK):Prop where
 | mk (v:_) (_:σ[i]? =some (some v)) (_:Q v H):aif i σ H Q
def tC (v:V):TE:=fun _ H Q=>Q v H
theorem aih {i:Nat}{x:Str}{pos:Pos}(hN:X.N[i]? =some x)(hv:Vis X.env.scope x)(hd:(x==("__debug__":Str))=false:=by decide)(pj:(x==("__classdict__":Str))=false:=by decide):PE X (.Name x pos) (aif i):=by
 intro pins s σ H Q I h
 obtain ⟨v,e,h⟩:=h
 obtain ⟨m,hn,hl⟩:=I.loc
 obtain ⟨u,r,l⟩:=hl i x v hN e hv
 have fin:EP X pins σ Q u s:=⟨v,H,I,r,h⟩
 rcases l with ⟨hk,hm⟩ | ⟨hk,c,hc,hcell⟩
 ·exact wpAny_Name (wpAny_loadName_local I.ok.kind hk hn hm fin) hd
 ·rcases hk with hk | hk
  ·exact wpAny_Name (wpAny_loadName_cell I.ok.kind hk hc hcell fin) hd
  ·exact wpAny_Name (wpAny_loadName_free I.ok.kind hk hc hcell fin pj) hd
theorem ai {i j pos}:PE X (.Constant (.int i) j pos) (tC (.int i)):=fun _ _ _ H _ I h=>wpAny_Constant_int ⟨.int i,H,I.tok _,⟨_,rfl⟩,h⟩
theorem dO {b j pos}:PE X (.Constant (.bool b) j pos) (tC (.bl b)):=fun _ _ _ H _ I h=>Constant_bool ⟨.bl b,H,I,rfl,h⟩
theorem bz {j pos}:PE X (.Constant .none j pos) (tC .bN):=fun _ _ _ H _ I h=>Constant_none ⟨.bN,H,I,rfl,h⟩
theorem au {x j pos}:PE X (.Constant (.str x) j pos) (tC (.str x)):=fun _ _ _ H _ I h=>Calls.Constant_str ⟨.str x,H,I.tok _,⟨_,rfl⟩,h⟩
def Gl (X:Cx)(x:Str):Prop:=X.env.kindOf x=some .globalImplicit
theorem gf {E:γ}{pins:δ}{s:Shared}{σ:St}{H:Hp}{x:Str}{u:Value}{pos:Pos}{Q:γ}(I:Inv X pins σ H s)(hg:Gl X x)(hm:X.mg x=some u)(h:Q u s)
  (hd:(x==("__debug__":Str))=false:=by decide):wpAny (model X.prog X.w) X.A (eval (.Name x pos) X.env) Q E s:=
 Calls.Name_function_global I.ok.kind hg (Calls.loadGlobal_global (by rw [I.ok.glob];exact I.mod.glob.keeps I.bk) hm h) hd
theorem tf {E:γ}{pins:δ}{s:Shared}{σ:St}{H:Hp}{x:Str}{u:Value}{pos:Pos}{Q:γ}(I:Inv X pins σ H s)(hg:Gl X x)(hm:X.mg x=none)(hv:bootBuiltins x=some u)(h:Q u s)
  (hn:x≠ "__name__":=by decide) (hd:(x==("__debug__":Str))=false:=by decide):wpAny (model X.prog X.w) X.A (eval (.Name x pos) X.env) Q E s:=by
 obtain ⟨mb,h1,h2⟩:=I.mod.blt
 exact Calls.Name_function_global I.ok.kind hg (Calls.loadGlobal_builtin (by rw [I.ok.glob];exact I.mod.glob.keeps I.bk) hm (by rw [I.ok.blt];exact h1.keeps I.bk) ((h2 x hn).trans hv) h) hd
theorem dy {x:Str}{v:V}{u:Value}{pos:Pos}(hg:Gl X x)(hm:X.mg x=some u)(r:RelV v u)(hd:(x==("__debug__":Str))=false:=by decide):PE X (.Name x pos) (tC v):=
 fun _ _ _ H _ I h=>gf I hg hm ⟨v,H,I,r,h⟩ hd
theorem adw {x:Str}{v:V}{u:Value}{pos:Pos}(hg:Gl X x)(hm:X.mg x=none)(hv:bootBuiltins x=some u)(r:RelV v u)(hn:x≠ "__name__":=by decide)(hd:(x==("__debug__":Str))=false:=by decide):PE X (.Name x pos) (tC v):=
 fun _ _ _ H _ I h=>tf I hg hm hv ⟨v,H,I,r,h⟩ hn hd
variable {a b:Expr}{ta tb:TE}{pos:Pos}
def PC (X:Cx)(op:CmpOp)(a b:Expr)(t:TE):Prop:=
 ∀(pins:δ) (s:Shared) (σ:St) (H:Hp) (Q:VK),Inv X pins σ H s->t σ H Q->
  wpAny (model X.prog X.w) X.A (eval a X.env) (fun v s₁=>wpAny (model X.prog X.w) X.A (eval b X.env) (fun u s₂=>wpAny (model X.prog X.w) X.A (compareOp op v u) (EP X pins σ Q) X.xe s₂) X.xe s₁) X.xe s
inductive tB_ (Q:(Bool->Hp->Prop))(x:V)(H1:Hp):Prop where
 | mk (c:_) (_:x=.bl c) (_:Q c H1):tB_ Q x H1
def tB (t:TE):TT:=fun σ H Q=>t σ H fun x H1=>tB_ Q x H1
theorem XM {op:CmpOp}{t:TE}(h:PC X op a b t)(h1:behindInMarks op b=false:=by first | exact nobehind _ (by decide) (by decide) | rfl):PE X (.Compare a [op] [b] pos) t:=fun pins s σ H Q I hw=>wpAny_Compare1 (h pins s σ H Q I hw) h1
theorem xj {op:CmpOp}{t:TE}(h:PC X op a b t)(h1:behindInMarks op b=false:=by first | exact nobehind _ (by decide) (by decide) | rfl):PT X (.Compare a [op] [b] pos) (tB t):=by
 intro pins s σ H Q I hw
 refine wpAny_isTrue_Compare1 (cV (h pins s σ H _ I hw) fun v s1 h1=>cV h1 fun u s2 h2=>cV h2 fun c s3 ⟨x,H1,I1,r1,q1⟩=>?_) h1
 obtain ⟨d,rfl,q⟩:=q1
 cases r1
 exact wpAny_truthy_bool ⟨H1,I1,q⟩
theorem eU {e:Expr}{t:TE}(h:PE X e t)(he:∀whole,isTrue e X.env whole=(do let v <- whole;standAt e.pos;holding [v] (truthy v)):=by intro _;rfl):PT X e (tB t):=by
 intro pins s σ H Q I hw
 refine isTrue_plain (cV (h pins s σ H _ I hw) fun v s1 ⟨x,H1,I1,r1,q1⟩=>?_) (he _)
 obtain ⟨d,rfl,q⟩:=q1
 cases r1
 exact wpAny_truthy_bool ⟨H1,I1,q⟩
variable {tA tB' :TT}{rest:ο}
def atG (t u:TT):TT:=fun σ H Q=>t σ H fun c H1=>if c=true then u σ H1 Q else Q false H1
def tOr (t u:TT):TT:=fun σ H Q=>t σ H fun c H1=>if c=true then Q true H1 else u σ H1 Q
def atH (t:TT):TT:=fun σ H Q=>t σ H fun c H1=>Q (!c) H1
theorem gh (ha:PT X a tA):PW X (.BoolOp .And [a] pos) tA:=by
 intro wh pins s σ H Q I h
 refine isTrue_and (cV (ha pins s σ H Q I h) fun c s1 e=>?_)
 cases c with
 | true=>exact isTrue_and_nil e
 | false=>exact e
theorem iZ (ha:PT X a tA):PW X (.BoolOp .Or [a] pos) tA:=by
 intro wh pins s σ H Q I h
 refine isTrue_or (cV (ha pins s σ H Q I h) fun c s1 e=>?_)
 cases c with
 | false=>exact isTrue_or_nil e
 | true=>exact e
theorem iC (ha:PT X a tA)(hb:PW X (.BoolOp .And (b::rest) pos) tB'):PW X (.BoolOp .And (a::b::rest) pos) (atG tA tB'):=by
 intro wh pins s σ H Q I h
 refine isTrue_and (cV (ha pins s σ H _ I h) fun c s1 ⟨H1,I1,q1⟩=>?_)
 cases c with
 | true=>exact hb wh pins s1 σ H1 Q I1 q1
 | false=>exact ⟨H1,I1,q1⟩
theorem lU (ha:PT X a tA)(hb:PW X (.BoolOp .Or (b::rest) pos) tB'):PW X (.BoolOp .Or (a::b::rest) pos) (tOr tA tB'):=by
 intro wh pins s σ H Q I h
 refine isTrue_or (cV (ha pins s σ H _ I h) fun c s1 ⟨H1,I1,q1⟩=>?_)
 cases c with
 | true=>exact ⟨H1,I1,q1⟩
 | false=>exact hb wh pins s1 σ H1 Q I1 q1
theorem gN (ha:PT X a tA):PT X (.UnaryOp .Not a pos) (atH tA):=by
 intro pins s σ H Q I h
 exact isTrue_not (ha pins s σ H (fun c H1=>Q (!c) H1) I h)
def amB (ta tb:TE):TE:=fun σ H Q=>ta σ H fun x H1=>∃c,x=.bl c/\if c=true then tb σ H1 Q else Q (.bl false) H1
def atJ (ta tb:TE):TE:=fun σ H Q=>ta σ H fun x H1=>∃c,x=.bl c/\if c=true then Q (.bl true) H1 else tb σ H1 Q
inductive XO (Q:VK)(x:V)(H1:Hp):Prop where
 | mk (c:_) (_:x=.bl c) (_:Q (.bl (!c)) H1):XO Q x H1
def amC (ta:TE):TE:=fun σ H Q=>ta σ H fun x H1=>XO Q x H1
theorem kS {op}{t:TE}(h:PE X a t):PE X (.BoolOp op [a] pos) t:=fun pins s σ H Q I hw=>BoolOp_one (h pins s σ H Q I hw)
theorem ti (ha:PE X a ta)(hb:PE X (.BoolOp .And (b::rest) pos) tb):PE X (.BoolOp .And (a::b::rest) pos) (amB ta tb):=by
 intro pins s σ H Q I h
 refine BoolOp_and (cV (ha pins s σ H _ I h) fun v s1 ⟨x,H1,I1,r1,q1⟩=>?_)
 obtain ⟨c,rfl,q1⟩:=q1
 cases r1
 refine wpAny_truthy_bool ?_
 cases c with
 | true=>exact hb pins s1 σ H1 Q I1 q1
 | false=>exact ⟨.bl false,H1,I1,rfl,q1⟩
theorem XQ (ha:PE X a ta)(hb:PE X (.BoolOp .Or (b::rest) pos) tb):PE X (.BoolOp .Or (a::b::rest) pos) (atJ ta tb):=by
 intro pins s σ H Q I h
 refine BoolOp_or (cV (ha pins s σ H _ I h) fun v s1 ⟨x,H1,I1,r1,q1⟩=>?_)
 obtain ⟨c,rfl,q1⟩:=q1
 cases r1
 refine wpAny_truthy_bool ?_
 cases c with
 | false=>exact hb pins s1 σ H1 Q I1 q1
 | true=>exact ⟨.bl true,H1,I1,rfl,q1⟩
theorem xk (ha:PE X a ta):PE X (.UnaryOp .Not a pos) (amC ta):=by
 intro pins s σ H Q I h
 refine UnaryOp_ (cV (ha pins s σ H _ I h) fun v s1 ⟨x,H1,I1,r1,q1⟩=>?_)
 obtain ⟨c,rfl,q1⟩:=q1
 cases r1
 exact not_of (wpAny_truthy_bool ⟨.bl (!c),H1,I1,rfl,q1⟩)
def tIf (t:TT)(ta tb:TE):TE:=fun σ H Q=>t σ H fun c H1=>if c=true then ta σ H1 Q else tb σ H1 Q
theorem eV {c:Expr}(hc:PT X c tA)(ha:PE X a ta)(hb:PE X b tb):PE X (.IfExp c a b pos) (tIf tA ta tb):=by
 intro pins s σ H Q I h
 refine wpAny_IfExp (cV (hc pins s σ H _ I h) fun d s1 ⟨H1,I1,q1⟩=>?_)
 cases d with
 | true=>exact ha pins s1 σ H1 Q I1 q1
 | false=>exact hb pins s1 σ H1 Q I1 q1
end
end L2
namespace L2
open PySem PySem.Spec PyProof.Rows
def bq (K:Frag)(H:Hp)(a:Addr)(xs:η):Prop:=
 Rd H a (.lst xs)\/
  ∃(o:Obj) (its:Μ) (n:Nat),K.lookup a=some o/\o.cls=.type "list"/\o.dict=none/\o.data=.seq its n/\its.size<=sizeLine/\Vals xs its.toList
def cT (K:Frag)(H:Hp)(a:Addr)(xs:η):Prop:=
 Rd H a (.tup xs)\/
  ∃(o:Obj) (its:Μ) (n:Nat),K.lookup a=some o/\o.cls=.type "tuple"/\o.data=.seq its n/\its.size<=sizeLine/\Vals xs its.toList
def atL:Value->Option V
 | .none=>some .bN
 | .bool b=>some (.bl b)
 | .int i _=>some (.int i)
 | .str x _=>some (.str x)
 | .bytes b _=>some (.byt b)
 | .float b _=>some (.flt b)
 | .ref a=>some (.ref a)
 | .type n=>some (.ty n)
 | _=>none
theorem RelV.abs {x:V}{u:Value}(r:RelV x u):atL u=some x:=by
 cases x with
 | bN=>cases r;rfl
 | bl _=>cases r;rfl
 | int _=>obtain ⟨t,rfl⟩:=r;rfl
 | str _=>obtain ⟨t,rfl⟩:=r;rfl
 | byt _=>obtain ⟨t,rfl⟩:=r;rfl
 | flt _=>obtain ⟨t,rfl⟩:=r;rfl
 | ref _=>cases r;rfl
 | ty _=>cases r;rfl
theorem RelV.inj {x y:V}{u:Value}(r:RelV x u)(q:RelV y u):x=y:=abq (r.abs.symm.trans q.abs)
theorem Vals.inj:∀{xs ys:η} {us:θ},Vals xs us->Vals ys us->xs=ys
 | _,_,_,.nil,.nil=>rfl
 | _,_,_,.cons r t,.cons r' t' =>by rw [r.inj r',Vals.inj t t']
section
variable {X:Cx}{pins:δ}{σ:St}{H:Hp}{s:Shared}{a:Addr}{xs ys:η}
theorem bq.of {K:Frag}(h:H a=some (.lst xs)):bq K H a xs:=.inl (.inl h)
theorem cT.of {K:Frag}(h:H a=some (.tup xs)):cT K H a xs:=.inl (.inl h)
theorem Inv.list (I:Inv X pins σ H s)(h:bq X.K H a xs):∃its:List Value,Vals xs its/\PlainL s.heap a its.toArray/\xs.length<=sizeLine:=by
 rcases h with h | ⟨o,its,n,hk,hc,hd,hs,hz,r⟩
 ·obtain ⟨z,its,n,r,e⟩:=h.ok I.bR
  exact ⟨its,r,⟨_,n,e,rfl,rfl,rfl⟩,z⟩
 ·refine ⟨its.toList,r,⟨o,n,I.iB a o hk,hc,hd,by simpa using hs⟩,?_⟩
  have e:=r.length
  simp only [alE] at e
  omega
theorem Inv.tuple (I:Inv X pins σ H s)(h:cT X.K H a xs):∃its:List Value,Vals xs its/\IsTup s.heap a its.toArray/\xs.length<=sizeLine:=by
 rcases h with h | ⟨o,its,n,hk,hc,hs,hz,r⟩
 ·obtain ⟨z,its,r,p⟩:=h.ok I.bR
  exact ⟨its,r,p,z⟩
 ·refine ⟨its.toList,r,⟨o,I.iB a o hk,hc,n,by simpa using hs⟩,?_⟩
  have e:=r.length
  simp only [alE] at e
  omega
theorem Inv.mB (I:Inv X pins σ H s)(h:bq X.K H a xs)(h' :bq X.K H a ys):xs=ys:=by
 obtain ⟨its,r,⟨o,n,e,_,_,d⟩,_⟩:=I.list h
 obtain ⟨its',r',⟨o',n',e',_,_,d'⟩,_⟩:=I.list h'
 rw [e] at e';cases e'
 rw [d] at d'
 injection d' with d1 _
 have:its=its' :=by simpa using congrArg as4 d1
 subst this
 exact r.inj r'
theorem Inv.AV (I:Inv X pins σ H s)(h:cT X.K H a xs)(h' :cT X.K H a ys):xs=ys:=by
 obtain ⟨its,r,⟨o,e,_,n,d⟩,_⟩:=I.tuple h
 obtain ⟨its',r',⟨o',e',_,n',d'⟩,_⟩:=I.tuple h'
 rw [e] at e';cases e'
 rw [d] at d'
 injection d' with d1 _
 have:its=its' :=by simpa using congrArg as4 d1
 subst this
 exact r.inj r'
end
abbrev Cx.pk (X:Cx)(E:γ):Cx:={X with xe:=E}
abbrev Cx.pq (X:Cx):Cx:=X.pk fun _ _=>False
theorem Cx.Ok.pk {X:Cx}(ok:X.Ok)(E:γ):(X.pk E).Ok:=
 ⟨ok.mod,ok.kind,ok.glob,ok.blt,ok.above,ok.inj,ok.has,ok.cab,ok.hd,ok.frames,ok.stk,ok.exf,ok.bs,ok.Xv,ok.Ql,ok.Ur,ok.ph,ok.frf⟩
theorem Cx.Ok.hG {X:Cx}{E:γ}(ok:(X.pk E).Ok):X.Ok:=
 ⟨ok.mod,ok.kind,ok.glob,ok.blt,ok.above,ok.inj,ok.has,ok.cab,ok.hd,ok.frames,ok.stk,ok.exf,ok.bs,ok.Xv,ok.Ql,ok.Ur,ok.ph,ok.frf⟩
section
variable {X:Cx}{pins:δ}{σ:St}{H:Hp}{s:Shared}{E:γ}
theorem Inv.pk (I:Inv X pins σ H s)(E:γ):Inv (X.pk E) pins σ H s:=⟨I.ok.pk E,I.os,I.bare,I.base,I.loc,I.cell,I.free,I.iI,I.pin,I.bR,I.len⟩
theorem Inv.hG (I:Inv (X.pk E) pins σ H s):Inv X pins σ H s:=⟨I.ok.hG,I.os,I.bare,I.base,I.loc,I.cell,I.free,I.iI,I.pin,I.bR,I.len⟩
theorem SP.hG {D:Ends}{f:Flow}{s' :Shared}(h:SP (X.pk E) pins D f s'):SP X pins D f s' :=by
 cases f with
 | next=>obtain ⟨σ',H',I,q⟩:=h;exact ⟨σ',H',I.hG,q⟩
 | brk=>obtain ⟨σ',H',I,q⟩:=h;exact ⟨σ',H',I.hG,q⟩
 | cont=>obtain ⟨σ',H',I,q⟩:=h;exact ⟨σ',H',I.hG,q⟩
 | ret u=>obtain ⟨v,σ',H',I,r,q⟩:=h;exact ⟨v,σ',H',I.hG,r,q⟩
theorem PSs.pq {st:List Stmt}{t:TS}(h:PSs X.pq st t):PSs X st t:=fun pins s σ H D I hw=>
 wpAny_mono (h pins s σ H D (I.pk _) hw) (fun _ _ q=>q.hG) fun _ _ z=>False.elim z
end
section
variable {X:Cx}{st:Stmt}{rest:List Stmt}{t u:TS}{e:Expr}{te:TE}{pos:Pos}
def amD:TS:=fun D σ H=>D.nx σ H
def aii (t u:TS):TS:=fun D σ H=>t {D with nx:=u D} σ H
theorem ay:PSs X [] amD:=fun _ _ σ H _ I h=>wpAny_execs_nil ⟨σ,H,I,h⟩
theorem ae (h1:PS X st t)(h2:PSs X rest u):PSs X (st::rest) (aii t u):=by
 intro pins s σ H D I h
 refine wpAny_execs_cons (cV (h1 pins s σ H {D with nx:=u D} I h) fun f s1 q=>?_)
 cases f with
 | next=>
  obtain ⟨σ',H',I',q⟩:=q
  exact h2 pins s1 σ' H' D I' q
 | ret v=>exact q
 | brk=>exact q
 | cont=>exact q
theorem ag (h1:PS X st t):PSs X [st] t:=by
 intro pins s σ H D I h
 refine wpAny_execs_cons (cV (h1 pins s σ H D I h) fun f s1 q=>?_)
 cases f with
 | next=>exact wpAny_execs_nil q
 | ret v=>exact q
 | brk=>exact q
 | cont=>exact q
theorem Inv.quiet {pins:δ}{σ:St}{H:Hp}{s:Shared}(I:Inv X pins σ H s):interactive X.env=false:=by simp [interactive,I.ok.kind]
def amE (te:TE):TS:=fun D σ H=>te σ H fun _ H1=>D.nx σ H1
theorem bj (he:PE X e te)(hs:swapsWith e none pos.line X.env=pure false:=by rfl):PS X (.Expr e pos) (amE te):=by
 intro pins s σ H D I h
 exact wpAny_Expr_any (cV (he pins s σ H _ I h) fun v s1 ⟨x,H1,I1,r1,q1⟩=>⟨σ,H1,I1,q1⟩) I.quiet hs
def atM (te:TE):TS:=fun D σ H=>te σ H D.rt
theorem aA (he:PE X e te):PS X (.Return (some e) pos) (atM te):=by
 intro pins s σ H D I h
 exact wpAny_Return_some (cV (he pins s σ H _ I h) fun v s1 ⟨x,H1,I1,r1,q1⟩=>⟨x,σ,H1,I1,r1,q1⟩)
def atN (c:TT)(t u:TS):TS:=fun D σ H=>c σ H fun b H1=>if b=true then t D σ H1 else u D σ H1
theorem aK {c:Expr}{a b:List Stmt}{tc:TT}(hc:PT X c tc)(ha:PSs X a t)(hb:PSs X b u):PS X (.If c a b pos) (atN tc t u):=by
 intro pins s σ H D I h
 refine wpAny_If (cV (hc pins s σ H _ I h) fun d s1 ⟨H1,I1,q1⟩=>?_)
 cases d with
 | true=>exact ha pins s1 σ H1 D I1 q1
 | false=>exact hb pins s1 σ H1 D I1 q1
def aij:TS:=fun _ _ _=>False
theorem XR:PS X st aij:=fun _ _ _ _ _ _ h=>h.elim
end
abbrev TG:=V->St->Hp->(St->Hp->Prop)->Prop
abbrev TGs:=List V->St->Hp->(St->Hp->Prop)->Prop
def PG (X:Cx)(target:Expr)(t:TG):Prop:=
 ∀(pins:δ) (s:Shared) (σ:St) (H:Hp) (v:V) (u:Value) (Q:St->Hp->Prop),Inv X pins σ H s->RelV v u->t v σ H Q->
  wpAny (model X.prog X.w) X.A (assign target X.env u) (fun _ s' =>∃σ' H',Inv X pins σ' H' s' /\Q σ' H') X.xe s
def PGs (X:Cx)(ts:ο)(t:TGs):Prop:=
 ∀(pins:δ) (s:Shared) (σ:St) (H:Hp) (vs:η) (us:θ) (Q:St->Hp->Prop),Inv X pins σ H s->Vals vs us->t vs σ H Q->
  wpAny (model X.prog X.w) X.A (assignInOrder ((assignEach ts X.env).map (·.2)) us) (fun _ s' =>∃σ' H',Inv X pins σ' H' s' /\Q σ' H') X.xe s
section
variable {X:Cx}{pos:Pos}
def g9 (i:Nat):TG:=fun v σ H Q=>Q (σ.set i (some v)) H
theorem wq {i:Nat}{x:Str}(hN:X.N.Nodup)(hi:X.N[i]? =some x)(hx:Loc X.env.scope x)(hf:X.fn x=true\/X.env.scope.names.lookup x=some .local:=by first | exact .inl rfl | exact .inr rfl | assumption):PG X (.Name x pos) (g9 i):=by
 intro pins s σ H v u Q I r h
 exact wpAny_assign_Name (xi I hN hi hx r (fun s' I' =>⟨_,H,I',h⟩) hf)
def amG:TGs:=fun vs σ H Q=>vs=[]/\Q σ H
def XT (t:TG)(u:TGs):TGs:=fun vs σ H Q=>∃v r,vs=v::r/\t v σ H fun σ' H' =>u r σ' H' Q
theorem kT:PGs X [] amG:=by
 intro pins s σ H vs us Q I r h
 obtain ⟨e,h⟩:=h
 subst e
 cases r
 exact assignInOrder_nil ⟨σ,H,I,h⟩
theorem cB {e:Expr}{es:ο}{t:TG}{u:TGs}(h1:PG X e t)(h2:PGs X es u)
  (hs:(assignEach (e::es) X.env).map (·.2)=assign e X.env::(assignEach es X.env).map (·.2):=by rfl):PGs X (e::es) (XT t u):=by
 intro pins s σ H vs us Q I r h
 obtain ⟨v,vr,e1,h⟩:=h
 subst e1
 cases r with
 | cons r rr=>
  rw [hs]
  refine assignInOrder_cons (cV (h1 pins s σ H _ _ _ I r h) fun _ s1 ⟨σ1,H1,I1,q1⟩=>?_)
  exact h2 pins s1 σ1 H1 _ _ Q I1 rr q1
inductive adx (K:Frag)(n:Nat)(t:TGs)(v:V)(σ:St)(H:Hp)(Q:(St->Hp->Prop)):Prop where
 | mk (a xs:_) (_:v=.ref a) (_:cT K H a xs) (_:xs.length=n) (_:t xs σ H Q):adx K n t v σ H Q
theorem pA {es:ο}{k:Nat}{t:TGs}{n:Nat}(hc:X.calm=true)(h:PGs X es t)
  (hn:(assignEach es X.env).length=n:=by rfl) (hst:(assignEach es X.env).findIdx? (·.1)=none:=by rfl):PG X (.Tuple es k pos) (adx X.K n t):=by
 intro pins s σ H v u Q I r hw
 obtain ⟨a,xs,e1,hq,hl,hw⟩:=hw
 subst e1
 cases r
 obtain ⟨its,rv,ht,hz⟩:=I.tuple hq
 refine assign_Tuple_tuple (I.ok.hd hc) ht (by simp [hn, <- hl,rv.length]) hst fun h' hx=>?_
 have I1:Inv X pins σ H {s with heap:=h' }:=I.kept (t' :=s.toks) fun b o e=>hx b o (ab_ (Heap.lt_size e)) e
 exact h pins _ σ H xs _ Q I1 (by simpa using rv) hw
def KN (te:TE)(g:TG):TS:=fun D σ H=>te σ H fun x H1=>g x σ H1 D.nx
theorem aik {tg e:Expr}{te:TE}{g:TG}(he:PE X e te)(hg:PG X tg g)(hs:swapsWithSole [tg] e pos.line X.env=pure false:=by rfl)(hw:swappedStores [tg] e X.env=pure none:=by rfl)
  (h1:(assignEach [tg] X.env).map (·.2)=[assign tg X.env]:=by rfl):PS X (.Assign [tg] e pos) (KN te g):=by
 intro pins s σ H D I h
 refine wpAny_Assign_stores (cV (he pins s σ H _ I h) fun v s1 ⟨x,H1,I1,r1,q1⟩=>?_) hs hw
 rw [h1]
 exact cV (hg pins s1 σ H1 x v _ I1 r1 q1) fun _ s2 q=>q
theorem ail {i:Nat}{x:Str}{e:Expr}{te:TE}{pos' :Pos}(hN:X.N.Nodup)(hi:X.N[i]? =some x)(hx:Loc X.env.scope x)(he:PE X e te)(hs:swapsWith e (some (.Name x pos')) pos.line X.env=pure false:=by rfl)(hf:X.fn x=true\/X.env.scope.names.lookup x=some .local:=by first | exact .inl rfl | exact .inr rfl | assumption):
  PS X (.Assign [.Name x pos'] e pos) (KN te (g9 i)):=by
 intro pins s σ H D I h
 refine wpAny_Assign_Name (cV (he pins s σ H _ I h) fun v s1 ⟨y,H1,I1,r1,q1⟩=>?_) hs
 exact xi I1 hN hi hx r1 (fun s2 I2=>⟨_,H1,I2,q1⟩) hf
def XU (c:TT)(tb:TS):TS:=fun D σ H=>∃W:Nat->St->Hp->Prop,(∃m,W m σ H)/\∀m σ H,W m σ H->
 c σ H fun b H1=>if b=true then ∃N:St->Hp->Prop,(∀σ' H',N σ' H' ->∃m',m' < m/\W m' σ' H')/\tb {D with nx:=N,ct:=N,bk:=D.nx} σ H1 else D.nx σ H1
theorem XW {c:Expr}{body:List Stmt}{tc:TT}{tb:TS}(hp:PassesOwn (model X.prog X.w) X.A X.env X.xe)(hc:PT X c tc)(hb:PSs X body tb):PS X (.While c body [] pos) (XU tc tb):=by
 intro pins s σ H D I h
 obtain ⟨W,⟨m0,w0⟩,turn⟩:=h
 refine wpAny_While (codeAny_whileLoop (fun n s' =>∃σ' H',Inv X pins σ' H' s' /\W n σ' H') ?_ m0 ⟨σ,H,I,w0⟩)
 rintro n s1 ⟨σ1,H1,I1,w1⟩
 refine wpAny_passesOwn hp (cV (hc pins s1 σ1 H1 _ I1 (turn n σ1 H1 w1)) fun b s2 ⟨H2,I2,q2⟩=>?_)
 cases b with
 | true=>
  obtain ⟨N,hN,q2⟩:=q2
  rw [if_pos rfl]
  refine wpAny_passesOwn hp (cV (hb pins s2 σ1 H2 _ I2 q2) fun f s3 q3=>?_)
  cases f with
  | next=>
   obtain ⟨σ3,H3,I3,n3⟩:=q3
   obtain ⟨m',hm,w3⟩:=hN σ3 H3 n3
   exact ⟨m',hm,σ3,H3,I3,w3⟩
  | cont=>
   obtain ⟨σ3,H3,I3,n3⟩:=q3
   obtain ⟨m',hm,w3⟩:=hN σ3 H3 n3
   exact ⟨m',hm,σ3,H3,I3,w3⟩
  | brk=>exact q3
  | ret v=>exact q3
 | false=>
  rw [if_neg abr]
  exact wpAny_execs_nil ⟨σ1,H2,I2,q2⟩
end
structure It where
 go:Nat->Hp->Prop
 yld:Nat->Hp->V->Hp->Prop
 stop:Nat->Hp->Prop
def vE (X:Cx)(pins:δ)(H:Hp)(b:Addr):Prop:=
 H b=none/\b≠X.env.locals/\b∉X.fs/\(b∈X.ex\/X.s₀.heap.objs.size<=b)/\(∀x c,X.env.cells.lookup x=some c->c≠b)/\∀p∈X.pn++pins,p.1≠b
theorem Inv.zc {X:Cx}{pins:δ}{σ:St}{H H' :Hp}{s:Shared}{b:Addr}(I:Inv X pins σ H s)(hb:s.heap.objs.size<=b)(hn:H' b=none):vE X pins H' b:=by
 refine ⟨hn,amz (abu I.lt hb),I.atA hb,.inr (ir I.sz hb),fun x c e z=>?_,fun p hp z=>?_⟩
 ·obtain ⟨v,q⟩:=I.cell x c e
  exact absurd (abu q.lt (by rw [z];exact hb)) (af3 _)
 ·exact absurd (abu (Heap.lt_size (I.pin p hp).1) (by rw [z];exact hb)) (af3 _)
structure Turn (P:Program)(w:World)(K:Frag)(tg:Expr)(J:It)(fp:π)(it:Addr)(tn:Nat->Heap->Prop):Prop where
 mem:it∈fp
 obj:∀i h,tn i h->∀b∈fp,∃o,h.get? b=some o/\∀v,o.data≠.cell v
 keep:∀i h h',tn i h->(∀b∈fp,∀o,h.get? b=some o->h'.get? b=some o)->tn i h'
 item:∀(X:Cx),X.prog=P->X.w=w->X.K=K->X.calm=true->∀(i:Nat) (pins:δ) (s:Shared) (σ:St) (H:Hp) (E:γ),Inv X pins σ H s->(∀b∈fp,vE X pins H b)->tn i s.heap->J.go i H->
  wpAny (model P w) X.A (pyNext (.ref it)) (fun r s1=>∃u,r=some u/\
   wpAny (model P w) X.A (letOwnedTupleGo tg (.ref it) u) (fun _ s2=>∃x H',Inv X pins σ H' s2/\RelV x u/\J.yld i H x H' /\tn (i+1) s2.heap/\∀b∈fp,H' b=none) E s1) E s
 done:∀(X:Cx),X.prog=P->X.w=w->X.K=K->X.calm=true->∀(i:Nat) (pins:δ) (s:Shared) (σ:St) (H:Hp) (E:γ),Inv X pins σ H s->(∀b∈fp,vE X pins H b)->tn i s.heap->J.stop i H->
  wpAny (model P w) X.A (pyNext (.ref it)) (fun r s1=>r=none/\Inv X pins σ H s1) E s
 self:∀(A:Around) (i:Nat) (s:Shared) (Q:γ) (E:γ),tn i s.heap->Q (.ref it) s->wpAny (model P w) A (pyIter (.ref it)) Q E s
abbrev TI:=St->Hp->(It->Hp->Prop)->Prop
def PIE (X:Cx)(pins:δ)(σ:St)(tg:Expr)(R:It->Hp->Prop)(itv:Value)(s2:Shared):Prop:=
 ∃(it:Addr) (fp:π) (tn:Nat->Heap->Prop) (J:It) (H' :Hp),itv=.ref it/\Inv X pins σ H' s2/\Turn X.prog X.w X.K tg J fp it tn/\tn 0 s2.heap/\(∀b∈fp,vE X pins H' b)/\R J H'
def PI (X:Cx)(tg iter:Expr)(wi:TI):Prop:=
 ∀(pins:δ) (s:Shared) (σ:St) (H:Hp) (R:It->Hp->Prop),Inv X pins σ H s->wi σ H R->
  wpAny (model X.prog X.w) X.A (eval iter X.env) (fun v s1=>wpAny (model X.prog X.w) X.A (pyIter v) (PIE X pins σ tg R) X.xe s1) X.xe s
theorem S4 {M : Model} {A : Around} {E : Value -> Shared -> Prop} {s : Shared} {tg : Expr} {it : Addr} {u : Value} {o : Obj} {n : String} {vs : Array Value} {Q : Unit -> Shared -> Prop} (ho : s.heap.get? it = some o) (hc : o.cls = .type n) (hd : o.data = .fields vs)
    (hn : ["enumerate", "zip", "dict_itemiterator", "dict_reverseitemiterator", "odict_iterator", "itertools.zip_longest", "itertools.pairwise"].contains n = false) (hQ : Q () s) : wpAny M A (letOwnedTupleGo tg (.ref it) u) Q E s := by
  unfold letOwnedTupleGo
  cases tg <;> first
    | exact wpAny_pure hQ
    | (cases u <;> first
        | exact wpAny_pure hQ
        | (refine wpAny_bind (wpAny_load ho ?_)
           rw [hc, hd]
           show wpAny M A (if (["enumerate", "zip", "dict_itemiterator", "dict_reverseitemiterator", "odict_iterator", "itertools.zip_longest", "itertools.pairwise"].contains n && vs[0]? == some (rawInt _)) = true then _ else _) Q E s
           rw [if_neg (by intro h; rw [hn, am5] at h; cases h)]
           exact wpAny_pure hQ))
def Itl (K:Frag)(a:Addr):It:=
 ⟨fun i H=>∃xs x,bq K H a xs/\xs[i]? =some x,fun i H x H' =>H' =H/\∀xs,bq K H a xs->xs[i]? =some x,fun i H=>∃xs,bq K H a xs/\xs.length<=i⟩
def Itt (K:Frag)(a:Addr):It:=
 ⟨fun i H=>∃xs x,cT K H a xs/\xs[i]? =some x,fun i H x H' =>H' =H/\∀xs,cT K H a xs->xs[i]? =some x,fun i H=>∃xs,cT K H a xs/\xs.length<=i⟩
def Itr (lo:Int)(n:Nat):It:=⟨fun i _=>i < n,fun i H x H' =>H' =H/\x=.int (lo+i),fun i _=>n<=i⟩
theorem Ut {P:Program}{w:World}{K:Frag}{tg:Expr}(a it:Addr):Turn P w K tg (Itl K a) [it] it (fun i h=>h.IsListIter it a i) where
 mem:=by simp
 obj:=fun i h st b hb=>by
  have e:b=it:=by simpa using hb
  subst e
  obtain ⟨o,e,c,d⟩:=st
  exact ⟨o,e,fun v z=>by rw [d] at z;cases z⟩
 keep:=fun i h h' st k=>st.at fun o e=>k it (by simp) o e
 item:=by
  intro X hP hw hK hc i pins s σ H E I hf st hg
  subst hP hw hK
  obtain ⟨xs,x,hq,hx⟩:=hg
  obtain ⟨its,rv,p,hz⟩:=I.list hq
  obtain ⟨u,hu,ru⟩:=rv.get hx
  obtain ⟨f0,f1,f2,f3,f4,f5⟩:=hf it (by simp)
  refine wpAny_pyNext_list_item st p.isList (x:=u) (by simpa using hu) fun h' XY sb=>?_
  have I1:Inv X pins σ H {s with heap:=h' }:=I.turned (t' :=s.toks) (fun b o hb e=>(sb.2 b hb).trans e) f0 f1 f3 f4 f5
  obtain ⟨o,e,c,d⟩:=id XY
  exact ⟨u,rfl,S4 (s:={s with heap:=h' }) e c d (by decide) ⟨x,H,I1,ru,⟨rfl,fun ys hy=>by rw [I.mB hy hq];exact hx⟩,XY,fun b hb=>(hf b hb).1⟩⟩
 done:=by
  intro X hP hw hK hc i pins s σ H E I hf st hg
  subst hP hw hK
  obtain ⟨xs,hq,hx⟩:=hg
  obtain ⟨its,rv,p,hz⟩:=I.list hq
  obtain ⟨f0,f1,f2,f3,f4,f5⟩:=hf it (by simp)
  have hl:=rv.length
  exact wpAny_pyNext_list_end (I.ok.hd hc) st p.isList (by simp;omega) fun h' eb=>⟨rfl,I.turned (t' :=s.toks) (fun b o hb e=>eb b o hb e) f0 f1 f3 f4 f5⟩
 self:=fun _ _ _ _ _ st h=>wpAny_pyIter_listiter st h
theorem Qn {P:Program}{w:World}{K:Frag}{tg:Expr}(a it:Addr):Turn P w K tg (Itt K a) [it] it (fun i h=>h.IsTupleIter it a i) where
 mem:=by simp
 obj:=fun i h st b hb=>by
  have e:b=it:=by simpa using hb
  subst e
  obtain ⟨o,e,c,d⟩:=st
  exact ⟨o,e,fun v z=>by rw [d] at z;cases z⟩
 keep:=fun i h h' st k=>st.at fun o e=>k it (by simp) o e
 item:=by
  intro X hP hw hK hc i pins s σ H E I hf st hg
  subst hP hw hK
  obtain ⟨xs,x,hq,hx⟩:=hg
  obtain ⟨its,rv,p,hz⟩:=I.tuple hq
  obtain ⟨u,hu,ru⟩:=rv.get hx
  obtain ⟨f0,f1,f2,f3,f4,f5⟩:=hf it (by simp)
  refine wpAny_pyNext_tuple_item st (show s.heap.IsTuple a its.toArray from p) (x:=u) (by simpa using hu) fun h' XY sb=>?_
  have I1:Inv X pins σ H {s with heap:=h' }:=I.turned (t' :=s.toks) (fun b o hb e=>(sb.2 b hb).trans e) f0 f1 f3 f4 f5
  obtain ⟨o,e,c,d⟩:=id XY
  exact ⟨u,rfl,S4 (s:={s with heap:=h' }) e c d (by decide) ⟨x,H,I1,ru,⟨rfl,fun ys hy=>by rw [I.AV hy hq];exact hx⟩,XY,fun b hb=>(hf b hb).1⟩⟩
 done:=by
  intro X hP hw hK hc i pins s σ H E I hf st hg
  subst hP hw hK
  obtain ⟨xs,hq,hx⟩:=hg
  obtain ⟨its,rv,p,hz⟩:=I.tuple hq
  obtain ⟨f0,f1,f2,f3,f4,f5⟩:=hf it (by simp)
  have hl:=rv.length
  exact wpAny_pyNext_tuple_end (I.ok.hd hc) st (show s.heap.IsTuple a its.toArray from p) (by simp;omega) fun h' eb=>⟨rfl,I.turned (t' :=s.toks) (fun b o hb e=>eb b o hb e) f0 f1 f3 f4 f5⟩
 self:=fun _ _ _ _ _ st h=>wpAny_pyIter_tupleiter st h
theorem Qo {P:Program}{w:World}{K:Frag}{tg:Expr}(it:Addr)(lo:Int)(n:Nat):Turn P w K tg (Itr lo n) [it] it (fun i h=>IsRangeIter h it (lo+(i:Nat)*1) ((n:Int) - (i:Nat)) 1) where
 mem:=by simp
 obj:=fun i h st b hb=>by
  have e:b=it:=by simpa using hb
  subst e
  exact ⟨_,st,fun v z=>by
   have z' :Data.fields _=Data.cell v:=z
   cases z'⟩
 keep:=fun i h h' st k=>k it (by simp) _ st
 item:=by
  intro X hP hw hK hc i pins s σ H E I hf st hg
  subst hP hw hK
  obtain ⟨f0,f1,f2,f3,f4,f5⟩:=hf it (by simp)
  have W:=Walks.range (prog:=X.prog) (w:=X.w) (I.ok.hd hc) it lo 1 n
  refine W.item i s _ _ hg st fun v h' tk hv XY kk=>?_
  obtain ⟨t,rfl⟩:=hv
  have I1:Inv X pins σ H {s with heap:=h',toks:=tk}:=I.turned (fun b o hb e=>kk b o (by simpa using hb) e) f0 f1 f3 f4 f5
  refine ⟨_,rfl,S4 (s:={s with heap:=h',toks:=tk}) (n:="range_iterator") XY rfl rfl (by decide) ⟨.int (lo+i),H,I1,⟨t,?_⟩,⟨rfl,rfl⟩,XY,fun b hb=>(hf b hb).1⟩⟩
  rw [Int.mul_one]
 done:=by
  intro X hP hw hK hc i pins s σ H E I hf st hg
  subst hP hw hK
  obtain ⟨f0,f1,f2,f3,f4,f5⟩:=hf it (by simp)
  exact wpAny_pyNext_range_end (I.ok.hd hc) st (by have:n<=i:=hg;omega) fun h' eb=>⟨rfl,I.turned (t' :=s.toks) (fun b o hb e=>eb b o hb e) f0 f1 f3 f4 f5⟩
 self:=fun _ _ _ _ _ st h=>wpAny_pyIter_rangeiter st h
end L2
namespace L2
open PySem PySem.Spec PyProof.Rows
section
variable {X:Cx}{tg:Expr}
inductive XZ (K:Frag)(R:(It->Hp->Prop))(x:V)(H1:Hp):Prop where
 | mk (a:_) (_:x=.ref a) (_:(∃xs,bq K H1 a xs)) (_:R (Itl K a) H1):XZ K R x H1
def amI (K:Frag)(tl:TE):TI:=fun σ H R=>tl σ H fun x H1=>XZ K R x H1
inductive af4 (K:Frag)(R:(It->Hp->Prop))(x:V)(H1:Hp):Prop where
 | mk (a:_) (_:x=.ref a) (_:(∃xs,cT K H1 a xs)) (_:R (Itt K a) H1):af4 K R x H1
def atQ (K:Frag)(tl:TE):TI:=fun σ H R=>tl σ H fun x H1=>af4 K R x H1
theorem kU {l:Expr}{tl:TE}(hl:PE X l tl):PI X tg l (amI X.K tl):=by
 intro pins s σ H R I h
 refine cV (hl pins s σ H _ I h) fun v s1 ⟨x,H1,I1,r1,q1⟩=>?_
 obtain ⟨a,e,⟨xs,hq⟩,q⟩:=q1
 subst e
 cases r1
 obtain ⟨its,rv,p,hz⟩:=I1.list hq
 refine wpAny_pyIter_list p.isList ?_
 refine ⟨s1.heap.objs.size,[s1.heap.objs.size],_,_,H1,rfl,I1.kept (t' :=s1.toks) fun b o e=>Heap.get?_push_of_some _ e,Ut a _,⟨_,Heap.get?_push_size _ rfl,rfl,rfl⟩,fun b hb=>?_,q⟩
 have e:b=s1.heap.objs.size:=by simpa using hb
 subst e
 exact I1.zc (abt _) (I1.bR.fresh (abt _))
theorem ain {l:Expr}{tl:TE}(hl:PE X l tl):PI X tg l (atQ X.K tl):=by
 intro pins s σ H R I h
 refine cV (hl pins s σ H _ I h) fun v s1 ⟨x,H1,I1,r1,q1⟩=>?_
 obtain ⟨a,e,⟨xs,hq⟩,q⟩:=q1
 subst e
 cases r1
 obtain ⟨its,rv,p,hz⟩:=I1.tuple hq
 refine wpAny_pyIter_tuple (show s1.heap.IsTuple a its.toArray from p) ?_
 refine ⟨s1.heap.objs.size,[s1.heap.objs.size],_,_,H1,rfl,I1.kept (t' :=s1.toks) fun b o e=>Heap.get?_push_of_some _ e,Qn a _,⟨_,Heap.get?_push_size _ rfl,rfl,rfl⟩,fun b hb=>?_,q⟩
 have e:b=s1.heap.objs.size:=by simpa using hb
 subst e
 exact I1.zc (abt _) (I1.bR.fresh (abt _))
theorem X0 {pins:δ}{σ:St}{H:Hp}{s:Shared}{R:It->Hp->Prop}{E:γ}{lo hi:Int}{t u v:Tok}{tk:Nat}(I:Inv X pins σ H s)(h1: -(2^62)<=lo)(h2:lo < 2^62)(h3: -(2^62)<=hi)(h4:hi < 2^62)
  (q:R (Itr lo (hi - lo).toNat) H):wpAny (model X.prog X.w) X.A (pyIter (.ref s.heap.objs.size)) (PIE X pins σ tg R) E {s with heap:=s.heap.push {cls:=.type "range",data:=.fields #[.int lo t,.int hi u,.int 1 v]},toks:=tk}:=by
 refine wpAny_pyIter_range (IsRange.new ..) (small_one h1 h2 h3 h4) ?_
 have I1:Inv X pins σ H {s with heap:=s.heap.push {cls:=.type "range",data:=.fields #[.int lo t,.int hi u,.int 1 v]},toks:=tk}:=I.kept fun b o e=>Heap.get?_push_of_some _ e
 refine ⟨(s.heap.push {cls:=.type "range",data:=.fields #[.int lo t,.int hi u,.int 1 v]}).objs.size,[(s.heap.push {cls:=.type "range",data:=.fields #[.int lo t,.int hi u,.int 1 v]}).objs.size],_,_,H,rfl,
  I1.kept (t' :=tk) fun b o e=>Heap.get?_push_of_some _ e,Qo _ lo (hi - lo).toNat,?_,fun b hb=>?_,q⟩
 ·have e1:lo+((0:Nat):Int)*1=lo:=by simp
  have e2:(((hi - lo).toNat:Nat):Int) - ((0:Nat):Int)=Builtin.Range.rangeSize lo hi 1:=by rw [rangeSize_one];split <;> omega
  show IsRangeIter _ _ (lo+((0:Nat):Int)*1) ((((hi - lo).toNat:Nat):Int) - ((0:Nat):Int)) 1
  rw [e1,e2]
  exact Heap.get?_push_size _ rfl
 ·have e:b=(s.heap.push {cls:=.type "range",data:=.fields #[.int lo t,.int hi u,.int 1 v]}).objs.size:=by simpa using hb
  subst e
  exact I1.zc (abt _) (I1.bR.fresh (abt _))
inductive X2 (R:(It->Hp->Prop))(vs:η)(H1:Hp):Prop where
 | mk (j:Int) (_:vs=[.int j]) (_: -(2^62)<=j) (_:j < 2^62) (_:R (Itr 0 j.toNat) H1):X2 R vs H1
def amJ (ta:TA):TI:=fun σ H R=>ta σ H fun vs H1=>X2 R vs H1
theorem tj {a:Expr}{ta:TA}{p pos:Pos}(hg:Gl X "range")(hm:X.mg "range"=none)(ha:PA X [a] ta)(hs:starEach [a] X.env=[(false,eval a X.env)]:=by rfl):PI X tg (.Call (.Name "range" p) [a] [] pos) (amJ ta):=by
 intro pins s σ H R I h
 refine Call_ (tf I hg hm boot_range (PyProof.Rows.callWith_type1 (cV (ha pos pins s σ H _ I h) fun us s1 ⟨vs,H1,I1,r1,q1⟩=>?_) hs rfl))
 obtain ⟨j,e,q1,q2,q⟩:=q1
 subst e
 cases r1 with
 | cons r rr=>
  cases rr
  obtain ⟨t,rfl⟩:=r
  exact call_range_1 (X0 I1 (by omega) (by omega) q1 q2 (by simpa using q))
def atR (wi:TI)(g:TG)(tb:TS):TS:=fun D σ H=>wi σ H fun J H1=>∃W:Nat->Nat->St->Hp->Prop,(∃m,W 0 m σ H1)/\∀i m σ H,W i m σ H->
 (J.stop i H/\D.nx σ H)\/(J.go i H/\∃N:St->Hp->Prop,(∀σ' H',N σ' H' ->∃m',m' < m/\W (i+1) m' σ' H')/\∀x H',J.yld i H x H' ->g x σ H' fun σ2 H2=>tb {D with nx:=N,ct:=N,bk:=D.nx} σ2 H2)
def xm (fp:π)(h:Heap):List (Addr×Obj):=fp.filterMap fun b=>(h.get? b).map fun o=>(b,o)
theorem kX {fp:π}{h:Heap}{b:Addr}{o:Obj}(hb:b∈fp)(e:h.get? b=some o):(b,o)∈xm fp h:=af6.mpr ⟨b,hb,by rw [e];rfl⟩
theorem Uu {fp:π}{h:Heap}{p:Addr×Obj}(hp:p∈xm fp h):p.1∈fp/\h.get? p.1=some p.2:=by
 obtain ⟨b,hb,e⟩:=af6.mp hp
 cases q:h.get? b with
 | none=>rw [q] at e;cases e
 | some o=>
  rw [q] at e
  have e' :(b,o)=p:=abq e
  subst e'
  exact ⟨hb,q⟩
theorem Inv.pinned {pins:δ}{σ:St}{H:Hp}{s:Shared}{fp:π}(I:Inv X pins σ H s)(hf:∀b∈fp,vE X pins H b)(ho:∀b∈fp,∃o,s.heap.get? b=some o/\∀v,o.data≠.cell v):Inv X (pins++xm fp s.heap) σ H s:=
 I.S3 fun p hp=>(abB.mp hp).elim (fun z=>I.pin p (aeB _ z)) fun z=>by
  obtain ⟨hb,e⟩:=Uu z
  obtain ⟨f0,f1,f2,_⟩:=hf p.1 hb
  obtain ⟨o,e',d⟩:=ho p.1 hb
  rw [e] at e';cases e'
  exact ⟨e,f0,f1,f2,d⟩
theorem Inv.mC {pins pl:δ}{σ:St}{H:Hp}{s:Shared}(I:Inv X (pins++pl) σ H s):Inv X pins σ H s:=I.S3 fun p hp=>I.pin p (aeB _ (af_ _ hp))
theorem i8 {iter:Expr}{body:List Stmt}{wi:TI}{g:TG}{tb:TS}{pos:Pos}(hp:PassesOwn (model X.prog X.w) X.A X.env X.xe)(hc:X.calm=true)(hi:PI X tg iter wi)(hg:PG X tg g)(hb:PSs X body tb)
  (hs:∀x,foldedSetIterable iter X.env x=pure x:=by intro _;rfl):PS X (.For tg iter body [] pos) (atR wi g tb):=by
 intro pins s σ H D I h
 refine wpAny_For (cV (hi pins s σ H _ I h) fun v s1 h1=>cV h1 fun itv s2 h2=>?_) hs
 obtain ⟨it,fp,tn,J,H2,e,I2,T,st2,f2,W,⟨m0,w0⟩,turn⟩:=h2
 subst e
 have stat:∀{H' :Hp},(∀b∈fp,H' b=none)->∀b∈fp,vE X pins H' b:=fun hn b hb=>⟨hn b hb,(f2 b hb).2⟩
 refine codeAny_forLoop_any (fun n s' =>∃i σ' H',Inv X pins σ' H' s' /\tn i s'.heap/\(∀b∈fp,H' b=none)/\W i n σ' H') ?_ m0 ⟨0,σ,H2,I2,st2,fun b hb=>(f2 b hb).1,w0⟩
 rintro n s3 ⟨i,σ3,H3,I3,st3,fr3,w3⟩
 rcases turn i n σ3 H3 w3 with ⟨stop,qn⟩ | ⟨go,N,hN,step⟩
 ·refine wpAny_passesOwn hp (cV (T.done X rfl rfl rfl hc i pins s3 σ3 H3 X.xe I3 (stat fr3) st3 stop) fun r s4 ⟨hr,I4⟩=>?_)
  subst hr
  exact wpAny_execs_nil ⟨σ3,H3,I4,qn⟩
 ·refine wpAny_passesOwn hp (cV (T.item X rfl rfl rfl hc i pins s3 σ3 H3 X.xe I3 (stat fr3) st3 go) fun r s4 ⟨u,hr,h4⟩=>?_)
  subst hr
  refine wpAny_passesOwn hp (cV h4 fun _ s5 ⟨x,H5,I5,r5,y5,st5,fr5⟩=>?_)
  have I5' :=I5.pinned (stat fr5) (T.obj _ _ st5)
  refine wpAny_passesOwn hp (cV (hg _ s5 σ3 H5 x u _ I5' r5 (step x H5 y5)) fun _ s6 ⟨σ6,H6,I6,q6⟩=>?_)
  refine wpAny_passesOwn hp (cV (hb _ s6 σ6 H6 _ I6 q6) fun f s7 q7=>?_)
  have again:∀{σ7:St} {H7:Hp},Inv X (pins++xm fp s5.heap) σ7 H7 s7->N σ7 H7->∃m,m < n/\∃i σ' H',Inv X pins σ' H' s7/\tn i s7.heap/\(∀b∈fp,H' b=none)/\W i m σ' H' :=fun {σ7 H7} I7 n7=>by
   obtain ⟨m',hm,w7⟩:=hN σ7 H7 n7
   refine ⟨m',hm,i+1,σ7,H7,I7.mC,T.keep _ _ _ st5 fun b hb o e=>(I7.pin (b,o) (aeB _ (aeB _ (kX hb e)))).1,fun b hb=>?_,w7⟩
   obtain ⟨o,e,d⟩:=T.obj _ _ st5 b hb
   exact (I7.pin (b,o) (aeB _ (aeB _ (kX hb e)))).2.1
  cases f with
  | next=>obtain ⟨σ7,H7,I7,n7⟩:=q7;exact again I7 n7
  | cont=>obtain ⟨σ7,H7,I7,n7⟩:=q7;exact again I7 n7
  | brk=>obtain ⟨σ7,H7,I7,q7⟩:=q7;exact ⟨σ7,H7,I7.mC,q7⟩
  | ret v=>obtain ⟨x7,σ7,H7,I7,r7,q7⟩:=q7;exact ⟨x7,σ7,H7,I7.mC,r7,q7⟩
end
theorem qH {K:Frag}{a:Addr}{xs:η}{g:TG}{tb:TS}{D:Ends}{σ:St}{H:Hp}(Pv:Nat->St->Hp->Prop)(h0:Pv 0 σ H)(hl:∀i σ H,i<=xs.length->Pv i σ H->bq K H a xs)
  (hs:∀i x σ H,xs[i]? =some x->Pv i σ H->g x σ H fun σ2 H2=>tb {D with nx:=Pv (i+1),ct:=Pv (i+1),bk:=D.nx} σ2 H2) (hd:∀σ H,Pv xs.length σ H->D.nx σ H):
  ∃W:Nat->Nat->St->Hp->Prop,(∃m,W 0 m σ H)/\∀i m σ H,W i m σ H->
   ((Itl K a).stop i H/\D.nx σ H)\/((Itl K a).go i H/\∃N:St->Hp->Prop,(∀σ' H',N σ' H' ->∃m',m' < m/\W (i+1) m' σ' H')/\∀x H',(Itl K a).yld i H x H' ->g x σ H' fun σ2 H2=>tb {D with nx:=N,ct:=N,bk:=D.nx} σ2 H2):=by
 refine ⟨fun i m σ H=>m=xs.length - i/\i<=xs.length/\Pv i σ H,⟨xs.length,by simp,af0 _,h0⟩,?_⟩
 rintro i m σ H ⟨rfl,hi,p⟩
 have q:=hl i σ H hi p
 by_cases JT:i < xs.length
 ·refine .inr ⟨⟨xs,xs[i],q,by simp [JT]⟩,Pv (i+1),fun σ' H' p' =>⟨xs.length - (i+1),by omega,rfl,JT,p'⟩,fun x H' y=>?_⟩
  obtain ⟨e,y⟩:=y
  subst e
  exact hs i x σ _ (y xs q) p
 ·have e:i=xs.length:=by omega
  subst e
  exact .inl ⟨⟨xs,q,abt _⟩,hd σ H p⟩
theorem adz {K:Frag}{a:Addr}{xs:η}{g:TG}{tb:TS}{D:Ends}{σ:St}{H:Hp}(Pv:Nat->St->Hp->Prop)(h0:Pv 0 σ H)(hl:∀i σ H,i<=xs.length->Pv i σ H->cT K H a xs)
  (hs:∀i x σ H,xs[i]? =some x->Pv i σ H->g x σ H fun σ2 H2=>tb {D with nx:=Pv (i+1),ct:=Pv (i+1),bk:=D.nx} σ2 H2) (hd:∀σ H,Pv xs.length σ H->D.nx σ H):
  ∃W:Nat->Nat->St->Hp->Prop,(∃m,W 0 m σ H)/\∀i m σ H,W i m σ H->
   ((Itt K a).stop i H/\D.nx σ H)\/((Itt K a).go i H/\∃N:St->Hp->Prop,(∀σ' H',N σ' H' ->∃m',m' < m/\W (i+1) m' σ' H')/\∀x H',(Itt K a).yld i H x H' ->g x σ H' fun σ2 H2=>tb {D with nx:=N,ct:=N,bk:=D.nx} σ2 H2):=by
 refine ⟨fun i m σ H=>m=xs.length - i/\i<=xs.length/\Pv i σ H,⟨xs.length,by simp,af0 _,h0⟩,?_⟩
 rintro i m σ H ⟨rfl,hi,p⟩
 have q:=hl i σ H hi p
 by_cases JT:i < xs.length
 ·refine .inr ⟨⟨xs,xs[i],q,by simp [JT]⟩,Pv (i+1),fun σ' H' p' =>⟨xs.length - (i+1),by omega,rfl,JT,p'⟩,fun x H' y=>?_⟩
  obtain ⟨e,y⟩:=y
  subst e
  exact hs i x σ _ (y xs q) p
 ·have e:i=xs.length:=by omega
  subst e
  exact .inl ⟨⟨xs,q,abt _⟩,hd σ H p⟩
theorem AW {lo:Int}{n:Nat}{g:TG}{tb:TS}{D:Ends}{σ:St}{H:Hp}(Pv:Nat->St->Hp->Prop)(h0:Pv 0 σ H)
  (hs:∀i σ H,i < n->Pv i σ H->g (.int (lo+i)) σ H fun σ2 H2=>tb {D with nx:=Pv (i+1),ct:=Pv (i+1),bk:=D.nx} σ2 H2) (hd:∀σ H,Pv n σ H->D.nx σ H):
  ∃W:Nat->Nat->St->Hp->Prop,(∃m,W 0 m σ H)/\∀i m σ H,W i m σ H->
   ((Itr lo n).stop i H/\D.nx σ H)\/((Itr lo n).go i H/\∃N:St->Hp->Prop,(∀σ' H',N σ' H' ->∃m',m' < m/\W (i+1) m' σ' H')/\∀x H',(Itr lo n).yld i H x H' ->g x σ H' fun σ2 H2=>tb {D with nx:=N,ct:=N,bk:=D.nx} σ2 H2):=by
 refine ⟨fun i m σ H=>m=n - i/\i<=n/\Pv i σ H,⟨n,by simp,af0 _,h0⟩,?_⟩
 rintro i m σ H ⟨rfl,hi,p⟩
 by_cases JT:i < n
 ·refine .inr ⟨JT,Pv (i+1),fun σ' H' p' =>⟨n - (i+1),by omega,rfl,JT,p'⟩,fun x H' y=>?_⟩
  obtain ⟨e,y⟩:=y
  subst e y
  exact hs i σ _ JT p
 ·have e:i=n:=by omega
  subst e
  exact .inl ⟨abt _,hd σ H p⟩
theorem X3 {c:TT}{tb:TS}{D:Ends}{σ:St}{H:Hp}(Pv:St->Hp->Prop)(μ:St->Hp->Nat)(h0:Pv σ H)
  (hs:∀σ H,Pv σ H->c σ H fun b H1=>if b=true then tb {D with nx:=fun σ' H' =>Pv σ' H' /\μ σ' H' < μ σ H,ct:=fun σ' H' =>Pv σ' H' /\μ σ' H' < μ σ H,bk:=D.nx} σ H1 else D.nx σ H1)
  (mono:∀σ H Q Q',(∀b H1,Q b H1->Q' b H1)->c σ H Q->c σ H Q'):XU c tb D σ H:=by
 refine ⟨fun m σ H=>m=μ σ H/\Pv σ H,⟨_,rfl,h0⟩,?_⟩
 rintro m σ H ⟨rfl,p⟩
 refine mono σ H _ _ (fun b H1 q=>?_) (hs σ H p)
 cases b with
 | true=>exact ⟨_,fun σ' H' ⟨p',l⟩=>⟨_,l,rfl,p'⟩,q⟩
 | false=>exact q
end L2
namespace L2
open PySem PySem.Spec PyProof.Rows
abbrev R2:=V->V->Hp->VK->Prop
def mD (X:Cx)(f:Value->Value->Sem Value)(r:R2):Prop:=
 ∀(pins:δ) (s:Shared) (σ:St) (H:Hp) (x y:V) (v u:Value) (Q:VK),Inv X pins σ H s->RelV x v->RelV y u->r x y H Q->
  wpAny (model X.prog X.w) X.A (f v u) (EP X pins σ Q) X.xe s
def UnR (X:Cx)(f:Value->Sem Value)(r:V->Hp->VK->Prop):Prop:=
 ∀(pins:δ) (s:Shared) (σ:St) (H:Hp) (x:V) (v:Value) (Q:VK),Inv X pins σ H s->RelV x v->r x H Q->
  wpAny (model X.prog X.w) X.A (f v) (EP X pins σ Q) X.xe s
def i9 (X:Cx)(f:Value)(r:List V->Hp->VK->Prop):Prop:=
 ∀(pins:δ) (s:Shared) (σ:St) (H:Hp) (xs:η) (us:θ) (Q:VK),Inv X pins σ H s->Vals xs us->r xs H Q->
  wpAny (model X.prog X.w) X.A (call f us) (EP X pins σ Q) X.xe s
def tOp (r:R2)(ta tb:TE):TE:=fun σ H Q=>ta σ H fun x H1=>tb σ H1 fun y H2=>r x y H2 Q
def tUn (r:V->Hp->VK->Prop)(ta:TE):TE:=fun σ H Q=>ta σ H fun x H1=>r x H1 Q
inductive rI (C:Int->Int->Prop)(g:Int->Int->V)(x:V)(y:V)(H:Hp)(Q:VK):Prop where
 | mk (i j:_) (_:x=.int i) (_:y=.int j) (_:C i j) (_:Q (g i j) H):rI C g x y H Q
inductive rI0 (g:Int->Int->V)(x:V)(y:V)(H:Hp)(Q:VK):Prop where
 | mk (i j:_) (_:x=.int i) (_:y=.int j) (_:Q (g i j) H):rI0 g x y H Q
inductive rU (g:Int->V)(x:V)(H:Hp)(Q:VK):Prop where
 | mk (i:_) (_:x=.int i) (_:Q (g i) H):rU g x H Q
section
variable {X:Cx}{a b c:Expr}{ta tb tc:TE}{pos:Pos}
theorem aio (ha:PE X a ta)(hb:PE X b tb){pins:δ}{s:Shared}{σ:St}{H:Hp}{R:V->V->Hp->Prop}(I:Inv X pins σ H s)
  (h:ta σ H fun x H1=>tb σ H1 fun y H2=>R x y H2) {Q:γ} {f:Value->Value->Sem Value}
  (hf:∀v u s2 x y H2,Inv X pins σ H2 s2->RelV x v->RelV y u->R x y H2->wpAny (model X.prog X.w) X.A (f v u) Q X.xe s2):
  wpAny (model X.prog X.w) X.A (eval a X.env) (fun v s₁=>wpAny (model X.prog X.w) X.A (eval b X.env) (fun u s₂=>wpAny (model X.prog X.w) X.A (f v u) Q X.xe s₂) X.xe s₁) X.xe s:=by
 refine cV (ha pins s σ H _ I h) fun v s1 ⟨x,H1,I1,r1,q1⟩=>?_
 refine cV (hb pins s1 σ H1 _ I1 q1) fun u s2 ⟨y,H2,I2,r2,q2⟩=>?_
 exact hf v u s2 x y H2 I2 r1 r2 q2
theorem aC {op:Operator}{r:R2}(ho:mD X (binaryOp op) r)(ha:PE X a ta)(hb:PE X b tb):PE X (.BinOp a op b pos) (tOp r ta tb):=by
 intro pins s σ H Q I h
 exact wpAny_BinOp (aio ha hb I h fun v u s2 x y H2 I2 rx ry q=>ho pins s2 σ H2 x y v u Q I2 rx ry q)
theorem S5 {op:UnaryOp}{r:V->Hp->VK->Prop}(ho:UnR X (unaryOp op) r)(ha:PE X a ta):PE X (.UnaryOp op a pos) (tUn r ta):=by
 intro pins s σ H Q I h
 exact UnaryOp_ (cV (ha pins s σ H _ I h) fun v s1 ⟨x,H1,I1,r1,q1⟩=>ho pins s1 σ H1 x v Q I1 r1 q1)
theorem opI {f:Value->Value->Sem Value}{C:Int->Int->Prop}{g:Int->Int->Int}
  (rule:∀(i j:Int) (t u:Tok) (s:Shared) (Q:γ) (E:γ),C i j->Q (.int (g i j) s.toks) {s with toks:=s.toks+1}->wpAny (model X.prog X.w) X.A (f (.int i t) (.int j u)) Q E s):
  mD X f (rI C fun i j=>.int (g i j)):=by
 intro pins s σ H x y v u Q I rx ry h
 obtain ⟨i,j,rfl,rfl,hc,q⟩:=h
 obtain ⟨t,rfl⟩:=rx
 obtain ⟨t',rfl⟩:=ry
 exact rule i j t t' s _ _ hc ⟨.int (g i j),H,I.tok _,⟨_,rfl⟩,q⟩
theorem amK {f:Value->Value->Sem Value}{g:Int->Int->Int}
  (rule:∀(i j:Int) (t u:Tok) (s:Shared) (Q:γ) (E:γ),Q (.int (g i j) s.toks) {s with toks:=s.toks+1}->wpAny (model X.prog X.w) X.A (f (.int i t) (.int j u)) Q E s):
  mD X f (rI0 fun i j=>.int (g i j)):=by
 intro pins s σ H x y v u Q I rx ry h
 obtain ⟨i,j,rfl,rfl,q⟩:=h
 obtain ⟨t,rfl⟩:=rx
 obtain ⟨t',rfl⟩:=ry
 exact rule i j t t' s _ _ ⟨.int (g i j),H,I.tok _,⟨_,rfl⟩,q⟩
theorem adB {f:Value->Value->Sem Value}{g:Int->Int->Bool}
  (rule:∀(i j:Int) (t u:Tok) (s:Shared) (Q:γ) (E:γ),Q (.bool (g i j)) s->wpAny (model X.prog X.w) X.A (f (.int i t) (.int j u)) Q E s):
  mD X f (rI0 fun i j=>.bl (g i j)):=by
 intro pins s σ H x y v u Q I rx ry h
 obtain ⟨i,j,rfl,rfl,q⟩:=h
 obtain ⟨t,rfl⟩:=rx
 obtain ⟨t',rfl⟩:=ry
 exact rule i j t t' s _ _ ⟨.bl (g i j),H,I,rfl,q⟩
def amL (i j:Int):Prop:=0<=j/\j<=1000000/\i.natAbs < 2^64
theorem pC:mD X (binaryOp .Add) (rI0 fun i j=>.int (i+j)):=amK fun _ _ _ _ _ _ _ q=>add_int q
theorem aip:mD X (binaryOp .Sub) (rI0 fun i j=>.int (i - j)):=amK fun _ _ _ _ _ _ _ q=>sub_int q
theorem adC:mD X (binaryOp .Mod) (rI (fun _ j=>j≠0) fun i j=>.int (i.fmod j)):=opI fun _ _ _ _ _ _ _ hc q=>mod_int' hc q
theorem DJ:mD X (binaryOp .Pow) (rI amL fun i j=>.int (i^j.toNat)):=opI fun _ _ _ _ _ _ _ hc q=>pow_int_small hc.1 hc.2.1 hc.2.2 q
theorem unI {f:Value->Sem Value}{g:Int->Int}
  (rule:∀(i:Int) (t:Tok) (s:Shared) (Q:γ) (E:γ),Q (.int (g i) s.toks) {s with toks:=s.toks+1}->wpAny (model X.prog X.w) X.A (f (.int i t)) Q E s):
  UnR X f (rU fun i=>.int (g i)):=by
 intro pins s σ H x v Q I rx h
 obtain ⟨i,rfl,q⟩:=h
 obtain ⟨t,rfl⟩:=rx
 exact rule i t s _ _ ⟨.int (g i),H,I.tok _,⟨_,rfl⟩,q⟩
theorem DK:UnR X (unaryOp .USub) (rU fun i=>.int (-i)):=unI fun _ _ _ _ _ q=>neg_int q
end
def amM:V->V->Bool
 | .bN,.bN=>true | .bN,.int _=>true | .int _,.bN=>true | .bN,.bl _=>true | .bl _,.bN=>true | .bN,.str _=>true | .str _,.bN=>true
 | .int _,.int _=>true | .bl _,.bl _=>true | .str _,.str _=>true | .byt _,.byt _=>true
 | .int _,.str _=>true | .str _,.int _=>true | .bl _,.str _=>true | .str _,.bl _=>true
 | _,_=>false
def rEq:R2:=fun x y H Q=>amM x y=true/\Q (.bl (decide (x=y))) H
def rNe:R2:=fun x y H Q=>amM x y=true/\Q (.bl (!decide (x=y))) H
theorem S6 {i j:Int}:decide (V.int i=V.int j)=(i==j):=by
 rw [agO]
 simp
theorem X4 {i j:Bool}:decide (V.bl i=V.bl j)=(i==j):=by
 rw [agO]
 simp
theorem S7 {i j:Str}:decide (V.str i=V.str j)=(i==j):=by
 rw [agO]
 simp
theorem S8 {i j:Array UInt8}:decide (V.byt i=V.byt j)=(i.toList==j.toList):=by
 rw [agO]
 cases i
 cases j
 simp
section
variable {X:Cx}{a b c:Expr}{ta tb tc:TE}{pos:Pos}
theorem bO {pins:δ}{σ:St}{H:Hp}{s:Shared}{Q:VK}{k k' :Bool}(I:Inv X pins σ H s)(q:Q (.bl k) H)(e:k=k'):EP X pins σ Q (.bool k') s:=by
 subst e
 exact ⟨.bl k,H,I,rfl,q⟩
theorem a9:mD X (compareOp .Eq) rEq:=by
 intro pins s σ H x y v u Q I rx ry h
 obtain ⟨hs,q⟩:=h
 cases x with
 | bN=>
  cases rx
  cases y with
  | bN=>cases ry;exact PySem.EqNone.eq_none_none (bO I q (by simp))
  | bl j=>cases ry;exact PySem.EqNone.eq_none_bool (bO I q (by simp))
  | int j=>obtain ⟨t',rfl⟩:=ry;exact PySem.EqNone.eq_none_int (bO I q (by simp))
  | str j=>obtain ⟨t',rfl⟩:=ry;exact PySem.EqNone.eq_none_str (bO I q (by simp))
  | _=>exact absurd (show false=true from hs) abr
 | bl i=>
  cases rx
  cases y with
  | bN=>cases ry;exact PySem.EqNone.eq_bool_none (bO I q (by simp))
  | bl j=>cases ry;exact eq_bool (bO I q X4)
  | str j=>obtain ⟨t',rfl⟩:=ry;exact PySem.EqMixed.eq_bool_str (bO I q (by simp))
  | _=>exact absurd (show false=true from hs) abr
 | int i=>
  obtain ⟨t,rfl⟩:=rx
  cases y with
  | bN=>cases ry;exact PySem.EqNone.eq_int_none (bO I q (by simp))
  | int j=>obtain ⟨t',rfl⟩:=ry;exact eq_int (bO I q S6)
  | str j=>obtain ⟨t',rfl⟩:=ry;exact PySem.EqMixed.eq_int_str (bO I q (by simp))
  | _=>exact absurd (show false=true from hs) abr
 | str i=>
  obtain ⟨t,rfl⟩:=rx
  cases y with
  | bN=>cases ry;exact PySem.EqNone.eq_str_none (bO I q (by simp))
  | bl j=>cases ry;exact PySem.EqMixed.eq_str_bool (bO I q (by simp))
  | int j=>obtain ⟨t',rfl⟩:=ry;exact PySem.EqMixed.eq_str_int (bO I q (by simp))
  | str j=>obtain ⟨t',rfl⟩:=ry;exact eq_str (bO I q S7)
  | _=>exact absurd (show false=true from hs) abr
 | byt i=>
  obtain ⟨t,rfl⟩:=rx
  cases y with
  | byt j=>obtain ⟨t',rfl⟩:=ry;exact PySem.W.eq_bytes (bO I q S8)
  | _=>exact absurd (show false=true from hs) abr
 | _=>cases y <;> exact absurd (show false=true from hs) abr
theorem uQ:mD X (compareOp .NotEq) rNe:=by
 intro pins s σ H x y v u Q I rx ry h
 obtain ⟨hs,q⟩:=h
 cases x with
 | bN=>
  cases rx
  cases y with
  | bN=>cases ry;exact PySem.EqNone.ne_none_none (bO I q (by simp))
  | bl j=>cases ry;exact PySem.EqNone.ne_none_bool (bO I q (by simp))
  | int j=>obtain ⟨t',rfl⟩:=ry;exact PySem.EqNone.ne_none_int (bO I q (by simp))
  | str j=>obtain ⟨t',rfl⟩:=ry;exact PySem.EqNone.ne_none_str (bO I q (by simp))
  | _=>exact absurd (show false=true from hs) abr
 | bl i=>
  cases rx
  cases y with
  | bN=>cases ry;exact PySem.EqNone.ne_bool_none (bO I q (by simp))
  | bl j=>cases ry;exact ne_bool (bO I q (congrArg not X4))
  | str j=>obtain ⟨t',rfl⟩:=ry;exact PySem.EqMixed.ne_bool_str (bO I q (by simp))
  | _=>exact absurd (show false=true from hs) abr
 | int i=>
  obtain ⟨t,rfl⟩:=rx
  cases y with
  | bN=>cases ry;exact PySem.EqNone.ne_int_none (bO I q (by simp))
  | int j=>obtain ⟨t',rfl⟩:=ry;exact ne_int (bO I q (congrArg not S6))
  | str j=>obtain ⟨t',rfl⟩:=ry;exact PySem.EqMixed.ne_int_str (bO I q (by simp))
  | _=>exact absurd (show false=true from hs) abr
 | str i=>
  obtain ⟨t,rfl⟩:=rx
  cases y with
  | bN=>cases ry;exact PySem.EqNone.ne_str_none (bO I q (by simp))
  | bl j=>cases ry;exact PySem.EqMixed.ne_str_bool (bO I q (by simp))
  | int j=>obtain ⟨t',rfl⟩:=ry;exact PySem.EqMixed.ne_str_int (bO I q (by simp))
  | str j=>obtain ⟨t',rfl⟩:=ry;exact ne_str (bO I q (congrArg not S7))
  | _=>exact absurd (show false=true from hs) abr
 | byt i=>
  obtain ⟨t,rfl⟩:=rx
  cases y with
  | byt j=>obtain ⟨t',rfl⟩:=ry;exact PySem.W.ne_bytes (bO I q (congrArg not S8))
  | _=>exact absurd (show false=true from hs) abr
 | _=>cases y <;> exact absurd (show false=true from hs) abr
theorem AX:mD X (compareOp .Lt) (rI0 fun i j=>.bl (decide (i < j))):=adB fun _ _ _ _ _ _ _ q=>lt_int q
theorem AY:mD X (compareOp .LtE) (rI0 fun i j=>.bl (decide (i<=j))):=adB fun _ _ _ _ _ _ _ q=>le_int q
theorem X5:mD X (compareOp .Gt) (rI0 fun i j=>.bl (decide (j < i))):=adB fun _ _ _ _ _ _ _ q=>gt_int q
theorem X6:mD X (compareOp .GtE) (rI0 fun i j=>.bl (decide (j<=i))):=adB fun _ _ _ _ _ _ _ q=>ge_int q
theorem tm:mD X (compareOp .In) (fun x y H Q=>∃i j,x=.str i/\y=.str j/\Q (.bl (!(Builtin.Str.occurrences j i 0 j.length 1).isEmpty)) H):=by
 intro pins s σ H x y v u Q I rx ry h
 obtain ⟨i,j,rfl,rfl,q⟩:=h
 obtain ⟨t,rfl⟩:=rx
 obtain ⟨t',rfl⟩:=ry
 exact in_str (bO I q rfl)
theorem kY:mD X (compareOp .Is) (fun x y H Q=>y=.bN/\Q (.bl (decide (x=.bN))) H):=by
 intro pins s σ H x y v u Q I rx ry h
 obtain ⟨rfl,q⟩:=h
 cases ry
 refine is_none_gen (bO I q ?_)
 cases x <;> first
  | (cases rx;rfl)
  | (obtain ⟨t,rfl⟩:=rx;rfl)
theorem iK:mD X (compareOp .IsNot) (fun x y H Q=>y=.bN/\Q (.bl (!decide (x=.bN))) H):=by
 intro pins s σ H x y v u Q I rx ry h
 obtain ⟨rfl,q⟩:=h
 cases ry
 refine isnot_none_gen (bO I q ?_)
 cases x <;> first
  | (cases rx;rfl)
  | (obtain ⟨t,rfl⟩:=rx;rfl)
theorem i_ (b:Expr){op:CmpOp}(h:op≠.In:=by decide)(h2:op≠.NotIn:=by decide):behindInMarks op b=false:=by
 have e1:(op==CmpOp.In)=false:=by cases op <;> first | rfl | exact absurd rfl h
 have e2:(op==CmpOp.NotIn)=false:=by cases op <;> first | rfl | exact absurd rfl h2
 cases b <;> simp [behindInMarks,e1,e2]
theorem dz {op:CmpOp}{r:R2}(ho:mD X (compareOp op) r)(ha:PE X a ta)(hb:PE X b tb)(hm:behindInMarks op b=false):PE X (.Compare a [op] [b] pos) (tOp r ta tb):=by
 intro pins s σ H Q I h
 exact wpAny_Compare1 (aio ha hb I h fun v u s2 x y H2 I2 rx ry q=>ho pins s2 σ H2 x y v u Q I2 rx ry q) hm
inductive X7 (Q:(Bool->Hp->Prop))(x:V)(H' :Hp):Prop where
 | mk (k:_) (_:x=.bl k) (_:Q k H'):X7 Q x H'
def X8 (t:TE):TT:=fun σ H Q=>t σ H fun x H' =>X7 Q x H'
theorem wt {op:CmpOp}{r:R2}(ho:mD X (compareOp op) r)(ha:PE X a ta)(hb:PE X b tb)(hm:behindInMarks op b=false):PT X (.Compare a [op] [b] pos) (X8 (tOp r ta tb)):=by
 intro pins s σ H Q I h
 refine wpAny_isTrue_Compare1 (cV (ha pins s σ H _ I h) fun v s1 ⟨x,H1,I1,r1,q1⟩=>cV (hb pins s1 σ H1 _ I1 q1) fun u s2 ⟨y,H2,I2,r2,q2⟩=>
  cV (ho pins s2 σ H2 x y v u _ I2 r1 r2 q2) fun c s3 ⟨z,H3,I3,r3,k,e,q3⟩=>?_) hm
 subst e
 cases r3
 exact wpAny_truthy_bool ⟨H3,I3,q3⟩
def aiq (r r' :R2)(ta tb tc:TE):TE:=fun σ H Q=>ta σ H fun x H1=>tb σ H1 fun y H2=>r x y H2 fun z H3=>∃k,z=.bl k/\
 (if k=true then tc σ H3 fun w' H4=>r' y w' H4 Q else Q (.bl false) H3)
theorem xn {op JU :CmpOp}{r r' :R2}(ho:mD X (compareOp op) r)(ho' :mD X (compareOp JU) r')(ha:PE X a ta)(hb:PE X b tb)(hc:PE X c tc)
  (hm:lastMarks [op,JU] [b,c]=false:=by with_unfolding_all rfl):PT X (.Compare a [op,JU] [b,c] pos) (X8 (aiq r r' ta tb tc)):=by
 intro pins s σ H Q I h
 refine isTrue_chain (cV (ha pins s σ H _ I h) fun v s1 ⟨x,H1,I1,r1,q1⟩=>test_link (cV (hb pins s1 σ H1 _ I1 q1) fun u s2 ⟨y,H2,I2,r2,q2⟩=>
  cV (ho pins s2 σ H2 x y v u _ I2 r1 r2 q2) fun d s3 ⟨z,H3,I3,r3,k,e,q3⟩=>?_)) hm
 subst e
 cases r3
 refine wpAny_truthy_bool ?_
 cases k with
 | false=>
  obtain ⟨k',e',q'⟩:=q3
  cases e'
  exact ite_ff ⟨H3,I3,q'⟩
 | true=>
  refine ite_tt (test_last (cV (hc pins s3 σ H3 _ I3 q3) fun w' s4 ⟨z',H4,I4,r4,q4⟩=>cV (ho' pins s4 σ H4 y z' u w' _ I4 r2 r4 q4) fun d' s5 ⟨z2,H5,I5,r5,k2,e2,q5⟩=>?_))
  subst e2
  cases r5
  exact wpAny_truthy_bool ⟨H5,I5,q5⟩
theorem xo:(sizeLine:Nat) < 2^63:=by rw [sizeLine_eq];decide
theorem eY:mD X (binaryOp .Add) (fun x y H Q=>∃i j,x=.str i/\y=.str j/\i.length+j.length<=sizeLine/\Q (.str (i++j)) H):=by
 intro pins s σ H x y v u Q I rx ry h
 obtain ⟨i,j,rfl,rfl,hz,q⟩:=h
 obtain ⟨t,rfl⟩:=rx
 obtain ⟨t',rfl⟩:=ry
 exact add_str (fun t' tk=>⟨.str (i++j),H,I.tok _,⟨_,rfl⟩,q⟩) hz
theorem vals1 {x:V}{us:θ}(r:Vals [x] us):∃u,us=[u]/\RelV x u:=by
 cases r with
 | cons r1 r2=>cases r2;exact ⟨_,rfl,r1⟩
theorem vals2 {x y:V}{us:θ}(r:Vals [x,y] us):∃u w',us=[u,w']/\RelV x u/\RelV y w' :=by
 cases r with
 | cons r1 r2=>
  cases r2 with
  | cons r3 r4=>cases r4;exact ⟨_,_,rfl,r1,r3⟩
theorem X9:i9 X (.builtin "abs") (fun xs H Q=>∃i,xs=[.int i]/\Q (.int (if i < 0 then -i else i)) H):=by
 intro pins s σ H xs us Q I r h
 obtain ⟨i,rfl,q⟩:=h
 obtain ⟨u,rfl,t,rfl⟩:=vals1 r
 exact call_abs_int fun u tk=>⟨.int (if i < 0 then -i else i),H,I.tok _,⟨_,rfl⟩,q⟩
theorem AZ:i9 X (.type "int") (fun xs H Q=>(∃i,xs=[.int i]/\Q (.int i) H)\/∃k,xs=[.bl k]/\Q (.int (if k then 1 else 0)) H):=by
 intro pins s σ H xs us Q I r h
 rcases h with ⟨i,rfl,q⟩ | ⟨k,rfl,q⟩
 ·obtain ⟨u,rfl,t,rfl⟩:=vals1 r
  exact call_int_int ⟨.int i,H,I,⟨_,rfl⟩,q⟩
 ·obtain ⟨u,rfl,r1⟩:=vals1 r
  cases r1
  exact call_int_bool ⟨.int (if k then 1 else 0),H,I.tok _,⟨_,rfl⟩,q⟩
theorem kZ:i9 X (.type "str") (fun xs H Q=>∃i,xs=[.int i]/\i.natAbs.log2 < 1920/\Q (.str (toString i)) H):=by
 intro pins s σ H xs us Q I r h
 obtain ⟨i,rfl,hz,q⟩:=h
 obtain ⟨u,rfl,t,rfl⟩:=vals1 r
 exact PySem.P.str_of_int hz ⟨.str _,H,I.tok _,⟨_,rfl⟩,q⟩
end
end L2
namespace L2
open PySem PySem.Spec PyProof.Rows
structure Qp (h:Heap)(x dx C:Addr)(mA:ε):Prop where
 obj:h.get? x=some (PySem.W.instObj C dx)
 ns:h.Ns1 dx mA
 ne:dx≠x
theorem A_ {h:Heap}{dx:Addr}{mA:ε}(n:h.Ns1 dx mA):∃od,h.get? dx=some od/\∀name,PySem.W.lookIn name od=some (mA name):=by
 obtain ⟨o,es,ep,ho,hd,hk,_,hm⟩:=n
 refine ⟨o,ho,fun name=>?_⟩
 have e:=hm name
 unfold nsFind findBy at e
 rw [<- Array.find?_toList] at e
 unfold PySem.W.lookIn
 rw [hd]
 dsimp only
 split
 ·rename_i y q
  rw [q] at e
  exact congrArg some e
 ·rename_i q
  rw [q] at e
  have a:es.toList.any (·.refKey)=false:=by
   rw [List.any_eq_false]
   intro y hy
   obtain ⟨z,t,air⟩:=hk y (Array.mem_toList_iff.mp hy)
   simp [DictEntry.refKey,air]
  have a' :¬ es.toList.any (·.refKey)=true:=by rw [a];exact abr
  rw [if_neg a']
  exact congrArg some e
theorem Qp.look {h:Heap}{x dx C:Addr}{mA:ε}(I:Qp h x dx C mA):∃od,PySem.W.InstAt h x (PySem.W.instObj C dx) C (some od)/\∀name,PySem.W.lookIn name od=some (mA name):=
 let ⟨od,ho,hl⟩:=A_ I.ns
 ⟨od,⟨I.obj,rfl,rfl,ho⟩,hl⟩
section
variable {prog:Program}{w:World}{A:Around}{E:γ}{s:Shared}{K:Frag}{x dx C f:Addr}{mA:ε}{name:Str}{v:Value}
theorem get_map {expr:Bool}{Q:γ}(X:K.In s.heap)(I:Qp s.heap x dx C mA)(hg:PySem.W.plainGet K C name=true)(hh:PySem.W.hasDictIn K C=true)
  (ha:PySem.W.findIn K (.ref C) name=some none) (hv:mA name=some v) (hv' :PySem.W.handedIn v=true) (h:Q v {s with toks:=s.toks+1}):
  wpAny (model prog w) A (getAttr (.ref x) name expr) Q E s:=by
 obtain ⟨od,J,hl⟩:=I.look
 exact PySem.W.get_value X J (PySem.W.plainGet_of hg).1 (PySem.W.findObj_own hh ha rfl (by rw [hl,hv])) hv' h
theorem X_ {pl:Sem Bool}{Q:Value×List Value->Shared->Prop}(X:K.In s.heap)(I:Qp s.heap x dx C mA)(hg:PySem.W.plainGet K C name=true)
  (hf:PySem.W.findIn K (.ref C) name=some (some (.ref f))) (ht:PySem.W.isFn K (.ref f)=true) (hv:mA name=none) (h:Q (.ref f,[.ref x]) s):
  wpAny (model prog w) A (getMethod (.ref x) name pl) Q E s:=by
 obtain ⟨od,J,hl⟩:=I.look
 exact PySem.W.method_fn X J (PySem.W.plainGet_of hg).1 (PySem.W.plainGet_of hg).2 hf (beq_iff_eq.mp ht) (by show (PySem.W.lookIn name od).map (·.isSome)=some false;rw [hl,hv];rfl) h
theorem adD {ns:ζ}{Q:ω}(X:K.In s.heap)(I:Qp s.heap x dx C mA)
  (hs:PySem.W.findIn K (.ref C) "__setattr__"=some (some (.builtin "object.__setattr__"))) (hp:PySem.W.plainOver K C=true) (ht:PySem.W.takerIn K C name=some none) (hh:PySem.W.hasDictIn K C=true)
  (hw:PySem.Within mA ns) (hsz:ns.length<=sizeLine)
  (h:∀h',Qp h' x dx C (fun y=>if y=name then some v else mA y)->Heap.SameBut dx s.heap h' ->Q () {s with heap:=h',toks:=s.toks+2}):
  wpAny (model prog w) A (setAttr (.ref x) name v) Q E s:=by
 obtain ⟨od,J,hl⟩:=I.look
 refine PySem.W.set_plain X J hs (PySem.W.osa_open (s:={s with toks:=s.toks+1}) (r:=none) X J hp ht fun b=>?_)
 obtain ⟨cd,hc,hd'⟩:=PySem.W.any_some hh
 have hx:s.heap.get? x=some ⟨.ref C,some dx,.plain, #[]⟩:=I.obj
 refine wpAny_bind (wpAny_pure (wpAny_bind (wpAny_bind (wpAny_loadPart hx (wpAny_bind (PySem.W.Looks.here (s:={s with toks:=s.toks+1}) (PySem.W.looks_clsIn X hc) ?_))))))
 rw [hd']
 refine wpAny_pure (a:=some dx) (wpAny_bind (wpAny_pure (wpAny_bind ?_)))
 refine wpAny_nsSet1 (s:={s with toks:=s.toks+1}) I.ns fun h' S9 Xw=>?_
 obtain ⟨oD,esD,epD,hoD,hdD,hcD⟩:=S9.count (PySem.Within.cons name v hw)
 refine wpAny_bind (wpAny_lookBehind hoD (by rw [hdD];exact pastItsLine_dict (ir hcD (by rw [abC];omega))) ?_)
 exact wpAny_pure (h _ ⟨(Xw.2 _ (ac_ I.ne)).trans I.obj,S9,I.ne⟩ Xw)
theorem KQ {R:ς}{vs:θ}{kw:Ν}(X:K.In s.heap)(hm:PySem.W.makesIn K C=true)
  (hi:PySem.W.findIn K (.ref C) "__init__"=some (some (.ref f))) (hf:PySem.W.typeIn K (.ref f)=some (.type "function"))
  (h:codeAny (model prog w) (A.under (.builtin "type.__call__" ⟨.ref C::vs,kw⟩)) (.call (.ref f) ⟨.ref (s.heap.objs.size+1)::vs,kw⟩) (PySem.W.InitBack (s.heap.objs.size+1) R)
   {s with heap:=(s.heap.push PySem.W.emptyDict).push (PySem.W.instObj C s.heap.objs.size)}):
  codeAny (model prog w) A (.call (.ref C) ⟨vs,kw⟩) R s:=by
 obtain ⟨hh,g,d,t,os⟩:=s
 exact PySem.W.make_core (PySem.W.makes_of X hm) (PySem.W.looks_findIn X hi) (fun self=>PySem.W.bind_fn X self hf) (.inl rfl) h
theorem Uv {R:ς}(X:K.In s.heap)(hm:PySem.W.makesIn K C=true)
  (hi:PySem.W.findIn K (.ref C) "__init__"=some (some (.builtin "object.__init__")))
  (hb:∀self,PySem.W.Looks (model prog w) s.heap (bindSpecial (.builtin "object.__init__") self) (.builtin "object.__init__",[self]))
  (h:codeAny (model prog w) (A.under (.builtin "type.__call__" ⟨[.ref C],[]⟩)) (.call (.builtin "object.__init__") ⟨[.ref (s.heap.objs.size+1)],[]⟩) (PySem.W.InitBack (s.heap.objs.size+1) R)
   {s with heap:=(s.heap.push PySem.W.emptyDict).push (PySem.W.instObj C s.heap.objs.size)}):
  codeAny (model prog w) A (.call (.ref C) ⟨[],[]⟩) R s:=by
 obtain ⟨hh,g,d,t,os⟩:=s
 exact PySem.W.make_core (PySem.W.makes_of X hm) (PySem.W.looks_findIn X hi) hb (.inr ⟨rfl,rfl⟩) h
end
def cL (f:Str)(v:V):List (Str×V)->List (Str×V)
 | []=>[(f,v)]
 | (g,x)::r=>if g=f then (g,v)::r else (g,x)::cL f v r
theorem mE (f g:Str)(v:V):∀fs:List (Str×V),(cL f v fs).lookup g=if g=f then some v else fs.lookup g
 | []=>by
  show ady g [(f,v)]=_
  by_cases h:g=f
  ·have hb:(g==f)=true:=beq_iff_eq.mpr h
   simp only [ady,hb,if_pos h]
  ·have hb:(g==f)=false:=beq_eq_false_iff_ne.mpr h
   simp only [ady,hb,if_neg h]
 | (k,x)::r=>by
  have ih:=mE f g v r
  rw [show cL f v ((k,x)::r)=(if k=f then (k,v)::r else (k,x)::cL f v r) from rfl]
  by_cases hk:k=f
  ·rw [if_pos hk]
   by_cases h:g=k
   ·have hb:(g==k)=true:=beq_iff_eq.mpr h
    simp only [ady,hb,if_pos (h.trans hk)]
   ·have hb:(g==k)=false:=beq_eq_false_iff_ne.mpr h
    simp only [ady,hb,if_neg (fun e:g=f=>h (e.trans hk.symm))]
  ·rw [if_neg hk]
   by_cases h:g=k
   ·have hb:(g==k)=true:=beq_iff_eq.mpr h
    simp only [ady,hb,if_neg (fun e:g=f=>hk (h.symm.trans e))]
   ·have hb:(g==k)=false:=beq_eq_false_iff_ne.mpr h
    simp only [ady,hb]
    exact ih
theorem tq (f:Str)(v:V):∀fs:List (Str×V),f∈(cL f v fs).map (·.1)/\∀g,g∈fs.map (·.1)->g∈(cL f v fs).map (·.1)
 | []=>⟨by simp [cL],fun g h=>by simp at h⟩
 | (k,x)::r=>by
  obtain ⟨i1,i2⟩:=tq f v r
  rw [show cL f v ((k,x)::r)=(if k=f then (k,v)::r else (k,x)::cL f v r) from rfl]
  by_cases hk:k=f
  ·rw [if_pos hk]
   subst hk
   exact ⟨by simp,fun g h=>by simpa using h⟩
  ·rw [if_neg hk]
   refine ⟨?_,fun g h=>?_⟩
   ·rw [adA]
    exact abz _ i1
   ·rw [adA] at h ⊢
    rcases aby.mp h with e | e
    ·exact aby.mpr (.inl e)
    ·exact abz _ (i2 g e)
theorem uR (f:Str)(v:V):∀fs:List (Str×V),(cL f v fs).length<=fs.length+1
 | []=>by simp [cL]
 | (k,x)::r=>by
  have ih:=uR f v r
  rw [show cL f v ((k,x)::r)=(if k=f then (k,v)::r else (k,x)::cL f v r) from rfl]
  by_cases hk:k=f
  ·rw [if_pos hk,abC,abC];omega
  ·rw [if_neg hk,abC,abC];omega
theorem jD.some_of {v:V}{o:Ι}(r:jD (some v) o):∃u,o=some u/\RelV v u:=by
 cases o with
 | none=>exact (show False from r).elim
 | some u=>exact ⟨u,rfl,r⟩
theorem jD.none_of {o:Ι}(r:jD none o):o=none:=by
 cases o with
 | none=>rfl
 | some u=>exact (show False from r).elim
theorem BA {v:V}{u:Value}(r:RelV v u):PySem.W.handedIn u=true:=by
 cases v with
 | bN=>cases (show u=Value.none from r);rfl
 | bl b=>cases (show u=Value.bool b from r);rfl
 | int i=>obtain ⟨t,e⟩:=(show ∃t,u=Value.int i t from r);cases e;rfl
 | str x=>obtain ⟨t,e⟩:=(show ∃t,u=Value.str x t from r);cases e;rfl
 | byt b=>obtain ⟨t,e⟩:=(show ∃t,u=Value.bytes b t from r);cases e;rfl
 | flt b=>obtain ⟨t,e⟩:=(show ∃t,u=Value.float b t from r);cases e;rfl
 | ref a=>cases (show u=Value.ref a from r);rfl
 | ty n=>cases (show u=Value.type n from r);rfl
section
variable {P:Program}{w:World}{H H' :Hp}{h h' :Heap}{a C dx:Addr}{fs S2 :Ζ}
theorem wu (bR:kQ P w H h)(e:H a=some (.ins C dx fs)):∃mA,Qp h a dx C mA/\(∀f,jD (fs.lookup f) (mA f))/\PySem.Within mA (fs.map (·.1))/\fs.length<=1000/\H dx=some (.own a):=by
 obtain ⟨d,z,ne,ob,mA,n,r,q⟩:=(show bL P w H h a (.ins C dx fs) from bR a _ e)
 exact ⟨mA,⟨ob,n,ne⟩,r,q,z,d⟩
end
structure vF (K:Frag)(C:Addr):Prop where
 pg:PySem.W.plainGet K C Str.empty=true
 hd:PySem.W.hasDictIn K C=true
 po:PySem.W.plainOver K C=true
 sa:PySem.W.findIn K (.ref C) "__setattr__"=some (some (.builtin "object.__setattr__"))
theorem vF.get {K:Frag}{C:Addr}(c:vF K C)(f:Str):PySem.W.plainGet K C f=true:=c.pg
def cp (K:Frag)(C:Addr)(f:Str):Prop:=PySem.W.findIn K (.ref C) f=some none
theorem cp.amQ {K:Frag}{C:Addr}{f:Str}(n:cp K C f):PySem.W.takerIn K C f=some none:=by
 unfold PySem.W.takerIn
 rw [show PySem.W.findIn K (.ref C) f=some none from n]
 rfl
structure Meth (K:Frag)(C:Addr)(m:Str)(f:Addr):Prop where
 at_:PySem.W.findIn K (.ref C) m=some (some (.ref f))
 fn:PySem.W.isFn K (.ref f)=true
 kp:keepIn K (.ref f)=true
section
variable {X:Cx}{pins:δ}{σ:St}{H:Hp}{s:Shared}{a C dx:Addr}{fs:Ζ}{f:Str}{v:V}{A:Around}{E:γ}
theorem xp {b:Bool}{Q:γ}(I:Inv X pins σ H s)(e:H a=some (.ins C dx fs))(c:vF X.K C)(n:cp X.K C f)(l:fs.lookup f=some v)
  (h:∀u s',Inv X pins σ H s' ->RelV v u->Q u s'):wpAny (model X.prog X.w) A (getAttr (.ref a) f b) Q E s:=by
 obtain ⟨mA,O,r,_,_,_⟩:=wu I.bR e
 obtain ⟨u,hu,ru⟩:=jD.some_of (v:=v) (o:=mA f) (by rw [<- l];exact r f)
 exact get_map I.iB O (c.get f) c.hd n hu (BA ru) (h u _ (I.tok _) ru)
theorem xq {m:Str}{g:Addr}{pl:Sem Bool}{Q:Value×List Value->Shared->Prop}(I:Inv X pins σ H s)(e:H a=some (.ins C dx fs))(c:vF X.K C)(k:Meth X.K C m g)(l:fs.lookup m=none)
  (h:Q (.ref g,[.ref a]) s):wpAny (model X.prog X.w) A (getMethod (.ref a) m pl) Q E s:=by
 obtain ⟨mA,O,r,_,_,_⟩:=wu I.bR e
 have hn:mA m=none:=jD.none_of (by rw [<- l];exact r m)
 exact X_ I.iB O (c.get m) k.at_ k.fn hn h
theorem xr {y:V}{u:Value}{Q:ω}(I:Inv X pins σ H s)(e:H a=some (.ins C dx fs))(c:vF X.K C)(n:cp X.K C f)(hl:fs.length < 1000)(ry:RelV y u)
  (h:∀s',Inv X pins σ (upd H a (.ins C dx (cL f y fs))) s' ->Q () s'):wpAny (model X.prog X.w) A (setAttr (.ref a) f u) Q E s:=by
 obtain ⟨mA,O,r,wi,_,ho⟩:=wu I.bR e
 have hz:(fs.map (·.1)).length<=sizeLine:=by rw [Wp,sizeLine_eq];omega
 refine adD I.iB O c.sa c.po n.amQ c.hd wi hz fun h' O' sb=>h _ ?_
 have hd:∃o,h'.get? dx=some o:=let ⟨o,_,_,e',_⟩:=O'.ns;⟨o,e'⟩
 refine I.write (x:=a) (e:=dx) (by rw [e];exact True.intro) (.inr ho) (fun b q hb z=>(sb.2 b hb).trans z) hd ?_
 refine ⟨by rw [ah O.ne];exact ho,?_,O.ne,O'.obj,_,O'.ns,fun g=>?_,fun g hg=>?_⟩
 ·have:=uR f y fs;omega
 ·show jD ((cL f y fs).lookup g) (if g=f then some u else mA g)
  rw [mE]
  by_cases q:g=f
  ·rw [if_pos q,if_pos q];exact ry
  ·rw [if_neg q,if_neg q];exact r g
 ·by_cases q:g=f
  ·rw [q];exact (tq f y fs).1
  ·refine (tq f y fs).2 g (wi g fun z=>hg ?_)
   show (if g=f then some u else mA g)=none
   rw [if_neg q];exact z
theorem Inv.made (I:Inv X pins σ H s):Inv X pins σ (upd (upd H s.heap.objs.size (.own (s.heap.objs.size+1))) (s.heap.objs.size+1) (.ins C s.heap.objs.size []))
  {s with heap:=(s.heap.push PySem.W.emptyDict).push (PySem.W.instObj C s.heap.objs.size)}:=by
 have e1:(s.heap.push PySem.W.emptyDict).get? s.heap.objs.size=some PySem.W.emptyDict:=Heap.get?_push_size s.heap rfl
 have e2:((s.heap.push PySem.W.emptyDict).push (PySem.W.instObj C s.heap.objs.size)).get? (s.heap.objs.size+1)=some (PySem.W.instObj C s.heap.objs.size):=by
  have:=Heap.get?_push_size (s.heap.push PySem.W.emptyDict) (o:=PySem.W.instObj C s.heap.objs.size) rfl
  rwa [Heap.size_push] at this
 have e3:(s.heap.push PySem.W.emptyDict).Ns s.heap.objs.size (fun _=>none):=⟨PySem.W.emptyDict, #[],_,e1,rfl,(fun e he=>absurd he (by simp)),fun _=>rfl⟩
 have I1:=I.laid (a:=s.heap.objs.size) (o:=.own (s.heap.objs.size+1)) (h' :=s.heap.push PySem.W.emptyDict) (t' :=s.toks) (fun b u q=>Heap.get?_push_of_some _ q) (abt _) ⟨_,e1⟩
 refine I1.laid (a:=s.heap.objs.size+1) (o:=.ins C s.heap.objs.size []) (t' :=s.toks) (fun b u q=>Heap.get?_push_of_some _ q) (amA (Heap.size_push _ _)) ?_
 have ne:s.heap.objs.size≠s.heap.objs.size+1:=ab_ (ais _)
 refine ⟨by rw [ah ne,aj],af0 _,ne,e2,fun _=>none,(Heap.Ns1.of_empty e3).at fun o q=>Heap.get?_push_of_some _ q,fun _=>True.intro,fun y hy=>absurd rfl hy⟩
theorem S_ {prog:Program}{w:World}{env:Env}{e:Expr}{f:Str}{pos:Pos}{s:Shared}{Q:γ}(hb:attributeBase e f env (eval e env)=eval e env)
  (h:wpAny (model prog w) A (eval e env) (fun o s₁=>wpAny (model prog w) A (getAttr o f true) Q E s₁) E s):wpAny (model prog w) A (eval (.Attribute e f pos) env) Q E s:=
 Attribute_any_ h (by rw [arm_eval_Attribute,hb])
end
inductive af7 (K:Frag)(f:Str)(Q:VK)(x:V)(H1:Hp):Prop where
 | mk (a C dx fs v:_) (_:x=.ref a) (_:H1 a=some (.ins C dx fs)) (_:vF K C) (_:cp K C f) (_:fs.lookup f=some v) (_:Q v H1):af7 K f Q x H1
def atV (K:Frag)(ta:TE)(f:Str):TE:=fun σ H Q=>ta σ H fun x H1=>af7 K f Q x H1
inductive af8 (K:Frag)(f:Str)(D:Ends)(σ:St)(y:V)(x:V)(H2:Hp):Prop where
 | mk (a C dx fs:_) (_:x=.ref a) (_:H2 a=some (.ins C dx fs)) (_:vF K C) (_:cp K C f) (_:fs.length < 1000) (_:D.nx σ (upd H2 a (.ins C dx (cL f y fs)))):af8 K f D σ y x H2
def atW (K:Frag)(ta tv:TE)(f:Str):TS:=fun D σ H=>tv σ H fun y H1=>ta σ H1 fun x H2=>af8 K f D σ y x H2
def amR (X:Cx)(op:Operator)(rd:V->V->Hp->VK->Prop):Prop:=
 ∀(pins:δ) (s:Shared) (σ:St) (H:Hp) (x y:V) (u v:Value) (Q:VK),Inv X pins σ H s->RelV x u->RelV y v->rd x y H Q->wpAny (model X.prog X.w) X.A (inplaceOp op u v) (EP X pins σ Q) X.xe s
inductive KR (K:Frag)(tv:TE)(rd:V->V->Hp->VK->Prop)(f:Str)(D:Ends)(σ:St)(x:V)(H1:Hp):Prop where
 | mk (a C dx fs v:_) (_:x=.ref a) (_:H1 a=some (.ins C dx fs)) (_:vF K C) (_:cp K C f) (_:fs.lookup f=some v) (_:tv σ H1 fun y H2=>rd v y H2 fun z H3=>∃dx' S2,H3 a=some (.ins C dx' S2)/\S2.length < 1000/\D.nx σ (upd H3 a (.ins C dx' (cL f z S2)))):KR K tv rd f D σ x H1
def adE (K:Frag)(ta tv:TE)(rd:V->V->Hp->VK->Prop)(f:Str):TS:=fun D σ H=>ta σ H fun x H1=>KR K tv rd f D σ x H1
section
variable {X:Cx}{o e value:Expr}{f:Str}{pos pos' KS:Pos}{ta tv:TE}
theorem ba (he:PE X e ta)(hb:attributeBase e f X.env (eval e X.env)=eval e X.env):PE X (.Attribute e f pos) (atV X.K ta f):=by
 intro pins s σ H Q I h
 refine S_ hb (cV (he pins s σ H _ I h) fun u s1 ⟨x,H1,I1,rx,a,C,dx,fs,v,ex,ea,c,n,l,q⟩=>?_)
 subst ex
 obtain rfl:u=Value.ref a:=rx
 exact xp I1 ea c n l fun u' s2 I2 ru=>⟨v,H1,I2,ru,q⟩
theorem dA (ha:PE X o ta)(hv:PE X value tv)(hs:swapsWith value (some (.Attribute o f pos')) pos.line X.env=pure false):PS X (.Assign [.Attribute o f pos'] value pos) (atW X.K ta tv f):=by
 intro pins s σ H D I h
 refine plainObj_wpAny_Assign_Attribute (cV (hv pins s σ H _ I h) fun u s1 ⟨y,H1,I1,ry,q⟩=>cV (ha pins s1 σ H1 _ I1 q) fun ov s2 ⟨x,H2,I2,rx,a,C,dx,fs,ex,ea,c,n,l,q2⟩=>?_) hs
 subst ex
 obtain rfl:ov=Value.ref a:=rx
 exact xr I2 ea c n l ry fun s3 I3=>⟨σ,_,I3,q2⟩
theorem Uw {op:Operator}{rd:V->V->Hp->VK->Prop}(ha:PE X o ta)(hv:PE X value tv)(hop:amR X op rd):PS X (.AugAssign (.Attribute o f KS) op value pos) (adE X.K ta tv rd f):=by
 intro pins s σ H D I h
 refine wpAny_AugAssign_AttributeAny (cV (ha pins s σ H _ I h) fun ov s1 ⟨x,H1,I1,rx,a,C,dx,fs,v,ex,ea,c,n,l,q⟩=>?_)
 subst ex
 obtain rfl:ov=Value.ref a:=rx
 refine xp I1 ea c n l fun u s2 I2 ru=>cV (hv pins s2 σ H1 _ I2 q) fun w3 s3 ⟨y,H2,I3,ry,q3⟩=>cV (hop pins s3 σ H2 v y u w3 _ I3 ru ry q3) fun w4 s4 ⟨z,H3,I4,rz,dx',S2,ea',l',q4⟩=>?_
 exact xr I4 ea' c n l' rz fun s5 I5=>⟨σ,_,I5,q4⟩
def atY:V->V->Hp->VK->Prop:=fun x y H Q=>∃i j,x=.int i/\y=.int j/\Q (.int (i+j)) H
theorem ait:amR X .Add atY:=by
 rintro pins s σ H x y u v Q I rx ry ⟨i,j,rfl,rfl,q⟩
 obtain ⟨t,rfl⟩:=(show ∃t,u=Value.int i t from rx)
 obtain ⟨t',rfl⟩:=(show ∃t',v=Value.int j t' from ry)
 exact PyProof.Rows.iadd_int ⟨.int (i+j),H,I.tok _,⟨_,rfl⟩,q⟩
end
section
variable {X:Cx}{pins:δ}{σ:St}{H:Hp}{s:Shared}{A:Around}{E:γ}{Q:γ}{c:Value}{b:Bool}
inductive qI (K:Frag)(H:Hp):V->Value->Prop where
 | bN:qI K H .bN (.type "NoneType")
 | bl (x:Bool):qI K H (.bl x) (.type "bool")
 | int (i:Int):qI K H (.int i) (.type "int")
 | str (x:Str):qI K H (.str x) (.type "str")
 | flt (x:UInt64):qI K H (.flt x) (.type "float")
 | lst {a:Addr} {xs:η} (e:H a=some (.lst xs)):qI K H (.ref a) (.type "list")
 | j8 {a:Addr} {o:Obj} {xs:η} (e:H a=some (.j8 o (.lst xs))):qI K H (.ref a) (.type "list")
 | tup {a:Addr} {xs:η} (e:H a=some (.tup xs)):qI K H (.ref a) (.type "tuple")
 | dK {a:Addr} {kvs:ι} (e:H a=some (.dK kvs)):qI K H (.ref a) (.type "dict")
 | dT {a:Addr} {kvs:Δ} (e:H a=some (.dT kvs)):qI K H (.ref a) (.type "dict")
 | ins {a C dx:Addr} {fs:Ζ} (e:H a=some (.ins C dx fs)) (cl:vF K C) (ha:PySem.W.findIn K (.ref C) "__class__"=some (some (.builtin "object.__class__")))
   (hn:PySem.W.specialIn K (.builtin "object.__class__") "__get__"=some (some (.builtin "getset_descriptor.__get__"))) (htk:PySem.W.takesIn K (.builtin "object.__class__")=some true)
   (hm:PySem.W.mroIn K C (.type "object")=some true):qI K H (.ref a) (.ref C)
theorem Ux {x:V}{u t:Value}(I:Inv X pins σ H s)(rx:RelV x u)(ty:qI X.K H x t)(e:PySem.W.kitOne X.K t c=some b)(h:∀tk,Q (.bool b) {s with toks:=tk}):
  wpAny (model X.prog X.w) A (call (.builtin "isinstance") [u,c]) Q E s:=by
 cases ty with
 | bN=>cases (show u=Value.none from rx);exact PySem.W.kia_one PySem.W.kitx_none I.iB True.intro e (fun z=>nomatch z) h
 | bl y=>cases (show u=Value.bool y from rx);exact PySem.W.kia_one PySem.W.kitx_bool I.iB True.intro e (fun z=>nomatch z) h
 | int i=>obtain ⟨t,q⟩:=(show ∃t,u=Value.int i t from rx);cases q;exact PySem.W.kia_one PySem.W.kitx_int I.iB True.intro e (fun z=>nomatch z) h
 | str y=>obtain ⟨t,q⟩:=(show ∃t,u=Value.str y t from rx);cases q;exact PySem.W.kia_one PySem.W.kitx_str I.iB True.intro e (fun z=>nomatch z) h
 | flt y=>obtain ⟨t,q⟩:=(show ∃t,u=Value.float y t from rx);cases q;exact PySem.W.kia_one PySem.W.kitx_float I.iB True.intro e (fun z=>nomatch z) h
 | @lst a xs ea=>
  cases (show u=Value.ref a from rx)
  obtain ⟨_,_,n,_,h1⟩:=(show bL X.prog X.w H s.heap a (.lst xs) from I.bR a _ ea)
  exact PySem.W.kia_one PySem.W.kitx_list I.iB ⟨_,h1,rfl⟩ e (fun z=>nomatch z) h
 | @j8 a ob xs ea=>
  cases (show u=Value.ref a from rx)
  obtain ⟨_,_,_,n,_,h1⟩:=(show bL X.prog X.w H s.heap a (.j8 ob (.lst xs)) from I.bR a _ ea)
  exact PySem.W.kia_one PySem.W.kitx_list I.iB ⟨_,h1,rfl⟩ e (fun z=>nomatch z) h
 | @tup a xs ea=>
  cases (show u=Value.ref a from rx)
  obtain ⟨_,_,_,p⟩:=(show bL X.prog X.w H s.heap a (.tup xs) from I.bR a _ ea)
  obtain ⟨o,h1,h2,_⟩:=p
  exact PySem.W.kia_one PySem.W.kitx_tuple I.iB ⟨o,h1,h2⟩ e (fun z=>nomatch z) h
 | @dK a kvs ea=>
  cases (show u=Value.ref a from rx)
  obtain ⟨_,_,vs,_,p⟩:=(show bL X.prog X.w H s.heap a (.dK kvs) from I.bR a _ ea)
  obtain ⟨o,es,ep,h1,h2,_⟩:=p
  exact PySem.W.kia_one PySem.W.kitx_dict I.iB ⟨o,h1,h2.1⟩ e (fun z=>nomatch z) h
 | @dT a kvs ea=>
  cases (show u=Value.ref a from rx)
  obtain ⟨_,_,xs,_,o,es,ep,h1,h2,_⟩:=(show bL X.prog X.w H s.heap a (.dT kvs) from I.bR a _ ea)
  exact PySem.W.kia_one PySem.W.kitx_dict I.iB ⟨o,h1,h2.1⟩ e (fun z=>nomatch z) h
 | @ins a C dx fs ea cl ha hn htk hm=>
  cases (show u=Value.ref a from rx)
  obtain ⟨mA,O,_⟩:=wu I.bR ea
  obtain ⟨od,J,_⟩:=O.look
  exact PySem.W.kia_one (PySem.W.kitx_own (cl.get _) cl.hd ha hn htk hm) I.iB J e (fun z=>nomatch z) h
end
end L2
namespace L2
open PySem PySem.Spec PyProof.Rows
structure cF (k:Nat)(A:Around):Prop where
 hd:A.handled=none
 dp:A.depth+3*k+5 < recursionLimit
 un:A.units+16*k+200 < cLine
theorem cF.mono {j k:Nat}{A:Around}(r:cF k A)(h:j<=k):cF j A:=⟨r.hd,by have:=r.dp;omega,by have:=r.un;omega⟩
theorem cF.deeper {k:Nat}{A:Around}(r:cF (k+1) A)(env:Env):cF k (A.deeper env):=
 ⟨r.hd,by have:=r.dp;show A.depth+1+3*k+5 < _;omega,by have:=r.un;show A.units+3+16*k+200 < _;omega⟩
theorem Qq {A:Around}{C:Addr}{us:θ}{kw:Ν}:(A.under (.builtin "type.__call__" ⟨.ref C::us,kw⟩)).depth=A.depth+1:=by
 first | rfl | simp [Around.under,Code.weight,Code.isCreation,Code.isGuard,Code.isCaller,Code.frames,Code.isFrame,guardIds]
theorem Qr {A:Around}{C:Addr}{us:θ}{kw:Ν}:(A.under (.builtin "type.__call__" ⟨.ref C::us,kw⟩)).units=A.units+1:=by
 first | rfl | simp [Around.under,Code.cUnits,Code.frames,Code.isFrame]
theorem cF.make {k:Nat}{A:Around}(r:cF (k+1) A)(C:Addr)(us:θ)(kw:Ν):cF k (A.under (.builtin "type.__call__" ⟨.ref C::us,kw⟩)):=
 ⟨r.hd,by have:=r.dp;rw [Qq];omega,by have:=r.un;rw [Qr];omega⟩
theorem cF.depth {k:Nat}{A:Around}(r:cF k A):A.depth < recursionLimit:=by have:=r.dp;omega
theorem cF.units {k:Nat}{A:Around}(r:cF k A):A.units+64 < cLine:=by have:=r.un;omega
def zd:TA:=fun _ H Q=>Q [] H
def uS (ta:TE)(tr:TA):TA:=fun σ H Q=>ta σ H fun x H1=>tr σ H1 fun xs H2=>Q (x::xs) H2
section
variable {X:Cx}{e:Expr}{es:ο}{te:TE}{t:TA}{pos:Pos}
theorem ja:PA X [] zd:=fun _ _ _ _ H Q I h=>Calls.spliced_nil ⟨[],H,I,.nil,h⟩
theorem adF (ha:PE X e te)(hr:PA X es t)(hs:starEach (e::es) X.env=(false,eval e X.env)::starEach es X.env:=by rfl):PA X (e::es) (uS te t):=by
 intro pos pins s σ H Q I h
 rw [hs]
 show wpAny _ _ (spliced ((false,eval e X.env)::backTo pos (starEach es X.env))) _ _ s
 refine Calls.spliced_cons (cV (ha pins s σ H _ I h) fun u s1 ⟨x,H1,I1,r1,q1⟩=>?_)
 exact cV (hr pos pins s1 σ H1 _ I1 q1) fun us s2 ⟨xs,H2,I2,r2,q2⟩=>⟨x::xs,H2,I2,.cons r1 r2,q2⟩
def atZ (t:TA):TE:=fun σ H Q=>t σ H fun xs H1=>xs.length<=sizeLine/\∀p,H1 p=none->Q (.ref p) (upd H1 p (.tup xs))
def at3 (t:TA):TE:=fun σ H Q=>t σ H fun xs H1=>xs.length<=sizeLine/\∀p,H1 p=none->Q (.ref p) (upd H1 p (.lst xs))
theorem a_ {x1}(h:PA X es t):PE X (.Tuple es x1 pos) (atZ t):=by
 intro pins s σ H Q I hq
 refine wpAny_Tuple_spliced (cV (h pos pins s σ H _ I hq) fun us s1 ⟨xs,H1,I1,r,z,q⟩=>⟨by rw [<- r.length];exact z,?_⟩)
 have hf:H1 s1.heap.objs.size=none:=I1.bR.fresh (abt _)
 refine ⟨.ref s1.heap.objs.size,upd H1 s1.heap.objs.size (.tup xs),I1.laid (t' :=s1.toks) (fun b u e=>Heap.get?_push_of_some _ e) (abt _) ?_,rfl,q _ hf⟩
 exact ⟨z,us,r,⟨_,Heap.get?_push_size _ rfl,rfl,_,rfl⟩⟩
theorem bB (h:PA X es t):PE X (.List es pos) (at3 t):=by
 intro pins s σ H Q I hq
 refine wpAny_List_spliced (cV (h pos pins s σ H _ I hq) fun us s1 ⟨xs,H1,I1,r,z,q⟩=>⟨by rw [<- r.length];exact z,?_⟩)
 have hf:H1 s1.heap.objs.size=none:=I1.bR.fresh (abt _)
 refine ⟨.ref s1.heap.objs.size,upd H1 s1.heap.objs.size (.lst xs),I1.laid (t' :=s1.toks) (fun b u e=>Heap.get?_push_of_some _ e) (abt _) ?_,rfl,q _ hf⟩
 exact ⟨z,us,0,r,Heap.get?_push_size _ rfl⟩
end
abbrev Sp:=List V->Hp->VK->XK->Prop
abbrev sY:=List Env->Hp->Shared->XK->Value->Shared->Prop
structure DL (P:Program)(w:World)(K:Frag)(mg:ε)(base:Heap)(A:Around)(outer:List Env)(s:Shared)(H:Hp):Prop where
 frames:A.frames=some outer
 mod:Mod K mg base
 bs:∀b o,base.get? b=some o->s.heap.get? b=some o/\H b=none
 Xv:base.objs.size<=s.heap.objs.size
 ph:s.heap.FunFrames base outer
 frf:∀b∈mx outer,H b=none
 bR:kQ P w H s.heap
 bare:AllBare s.gens
def CE (outer:List Env)(P:Program)(w:World)(H:Hp)(s:Shared)(Q:VK)(u:Value)(s' :Shared):Prop:=
 ∃v H',s'.os=s.os/\AllBare s'.gens/\Un (mx outer) [] H H' s.heap s'.heap/\kQ P w H' s'.heap/\RelV v u/\Q v H'
def CR (CX:sY)(outer:List Env)(P:Program)(w:World)(H:Hp)(s:Shared)(Q:VK)(E:XK)(r:Result)(s' :Shared):Prop:=
 match r with
 | .ok (.ret u)=>CE outer P w H s Q u s'
 | .ok _=>False
 | .error e=>CX outer H s E e s'
structure bH (P:Program)(w:World)(K:Frag)(mg:ε)(base:Heap)(CX:sY)(k:Nat)(f:Addr)(fd:FuncData)(ps:ζ)(sp:Sp):Prop where
 len:∀vs H Q E,sp vs H Q E->vs.length=ps.length
 run:∀(A:Around) (outer:List Env) (s:Shared) (H:Hp) (args:Args) (us:θ) (vs:η) (Q:VK) (E:XK),cF k A->DL P w K mg base A outer s H->BindsTo s fd args (ps.zip us)->Vals vs us->sp vs H Q E->
  codeAny (model P w) A (.call (.ref f) args) (CR CX outer P w H s Q E) s
theorem bH.mono {P:Program}{w:World}{K:Frag}{mg:ε}{base:Heap}{CX:sY}{j k:Nat}{f:Addr}{fd:FuncData}{ps:ζ}{sp:Sp}(F:bH P w K mg base CX j f fd ps sp)(h:j<=k):
  bH P w K mg base CX k f fd ps sp:=⟨F.len,fun A outer s H args us vs Q E hr=>F.run A outer s H args us vs Q E (hr.mono h)⟩
theorem bH.imp {P:Program}{w:World}{K:Frag}{mg:ε}{base:Heap}{CX:sY}{k:Nat}{f:Addr}{fd:FuncData}{ps:ζ}{sp sp' :Sp}(F:bH P w K mg base CX k f fd ps sp)
  (h:∀vs H Q E,sp' vs H Q E->sp vs H Q E):bH P w K mg base CX k f fd ps sp' :=
 ⟨fun vs H Q E q=>F.len vs H Q E (h _ _ _ _ q),fun A outer s H args us vs Q E hr he hb hv hs=>F.run A outer s H args us vs Q E hr he hb hv (h _ _ _ _ hs)⟩
theorem DL.make {P:Program}{w:World}{K:Frag}{mg:ε}{base:Heap}{A:Around}{outer:List Env}{s:Shared}{H:Hp}(e:DL P w K mg base A outer s H)(C:Addr)(us:θ)(kw:Ν):
  DL P w K mg base (A.under (.builtin "type.__call__" ⟨.ref C::us,kw⟩)) outer s H:=⟨by first | exact e.frames | (simpa [Around.under,Code.envs,Code.isFrame,pushEnvs] using e.frames),e.mod,e.bs,e.Xv,e.ph,e.frf,e.bR,e.bare⟩
section
variable {X:Cx}{pins:δ}{σ:St}{H:Hp}{s s' :Shared}
theorem Inv.Uy (I:Inv X pins σ H s):DL X.prog X.w X.K X.mg X.base X.A X.stack s H:=
 ⟨I.ok.frames,I.ok.mod,I.bs,ir I.ok.Xv I.sz,I.stack,I.qG,I.bR,I.bare⟩
theorem Inv.after {Q:VK}{u:Value}(I:Inv X pins σ H s)(h:CE X.stack X.prog X.w H s Q u s'):EP X pins σ Q u s' :=by
 obtain ⟨v,H',os,bare,un,bR,r,q⟩:=h
 obtain ⟨hh,g,d,t,os'⟩:=s'
 obtain rfl:os' =s.os:=os
 exact ⟨v,H',I.call (h' :=hh) (g' :=g) (d' :=d) (t' :=t) (ch:=[]) un bR bare (fun b z=>absurd z (by simp)),r,q⟩
end
def KU (sp:Sp)(dvs:η)(E:XK)(t:TA):TE:=fun σ H Q=>t σ H fun vs H1=>sp (vs++dvs) H1 Q E
def af9 (C:Addr)(sp:Sp)(dvs:η)(E:XK)(t:TA):TE:=fun σ H Q=>t σ H fun vs H1=>∀x dx,H1 x=none->H1 dx=none->dx≠x->
 sp (.ref x::(vs++dvs)) (upd (upd H1 dx (.own x)) x (.ins C dx [])) (fun v H2=>v=.bN/\Q (.ref x) H2) E
def Binds (K:Frag)(fd:FuncData)(ps:ζ)(ds:θ):Prop:=
 ∀(s:Shared) (us:θ),K.In s.heap->(us++ds).length=ps.length->BindsTo s fd ⟨us,[]⟩ (ps.zip (us++ds))
theorem Binds.all {K:Frag}{fd:FuncData}{ps:ζ}(h:∀us:List Value,us.length=ps.length->bindArgs fd ⟨us,[]⟩=pure (ps.zip us)):Binds K fd ps []:=fun s us _ hl=>by
 rw [ad_] at hl ⊢
 exact .of_eq (h us hl)
def Passes (CX:sY)(X:Cx)(E:XK):Prop:=∀(pins:δ) (σ:St) (H:Hp) (s:Shared) (e:Value) (s' :Shared),Inv X pins σ H s->CX X.stack H s E e s' ->X.xe e s'
section
variable {X:Cx}{CX:sY}{k:Nat}{f C:Addr}{fd:FuncData}{ps:ζ}{sp:Sp}{dvs:η}{ds:θ}{E:XK}{x m:Str}{p pos apos:Pos}{e o:Expr}{es:ο}{ta:TE}{t:TA}
theorem Qs {pins:δ}{σ:St}{H:Hp}{s:Shared}{Q:VK}{us:θ}{vs:η}(F:bH X.prog X.w X.K X.mg X.base CX k f fd ps sp)(hr:cF k X.A)(hb:Binds X.K fd ps ds)(hd:Vals dvs ds)(hx:Passes CX X E)
  (I:Inv X pins σ H s) (r:Vals vs us) (h:sp (vs++dvs) H Q E):wpAny (model X.prog X.w) X.A (call (.ref f) us) (EP X pins σ Q) X.xe s:=by
 have r2:Vals (vs++dvs) (us++ds):=r.append hd
 have hl:(us++ds).length=ps.length:=by rw [<- r2.length];exact F.len _ _ _ _ h
 refine wpAny_call (codeAny_mono (F.run X.A X.stack s H ⟨us,[]⟩ (us++ds) (vs++dvs) Q E hr I.Uy (hb s us I.iB hl) r2 h) fun r s' hq=>?_)
 cases r with
 | error e=>exact hx pins σ H s e s' I hq
 | ok fl=>
  cases fl with
  | ret u=>exact I.after hq
  | next=>exact False.elim hq
  | brk=>exact False.elim hq
  | cont=>exact False.elim hq
theorem adG (F:bH X.prog X.w X.K X.mg X.base CX k f fd ps sp)(hr:cF k X.A)(hg:Gl X x)(hm:X.mg x=some (.ref f))(hk:keepIn X.K (.ref f)=true)(hb:Binds X.K fd ps ds)(hd:Vals dvs ds)(hx:Passes CX X E)
  (ha:PA X (e::es) t) (vG:(x==("__debug__":Str))=false:=by decide) (he:starEach (e::es) X.env=(false,eval e X.env)::starEach es X.env:=by rfl) (wx:(backTo pos (starEach es X.env)).any (·.1)=false:=by rfl):
  PE X (.Call (.Name x p) (e::es) [] pos) (KU sp dvs E t):=by
 intro pins s σ H Q I h
 refine wpAny_Call_Name_kw (gf I hg hm ?_ vG)
 refine PySem.W.callWith_K (h₀:=X.base) I.ok.mod.XI hk (cV (ha pos pins s σ H _ I h) fun us s1 ⟨vs,H1,I1,r,q⟩=>⟨I1.iB,?_⟩) he wx
 exact Qs F hr hb hd hx I1 r q
structure Mk (K:Frag)(C f:Addr):Prop where
 makes:PySem.W.makesIn K C=true
 init:PySem.W.findIn K (.ref C) "__init__"=some (some (.ref f))
 fn:PySem.W.isFn K (.ref f)=true
 kp:keepIn K (.ref C)=true
theorem KW {pins:δ}{σ:St}{H:Hp}{s:Shared}{Q:VK}{us:θ}{vs:η}(M:Mk X.K C f)(F:bH X.prog X.w X.K X.mg X.base CX k f fd ps sp)(hr:cF (k+1) X.A)(hb:Binds X.K fd ps ds)(hd:Vals dvs ds)
  (hx:Passes CX X E) (I:Inv X pins σ H s) (r:Vals vs us)
  (h:∀x dx,H x=none->H dx=none->dx≠x->sp (.ref x::(vs++dvs)) (upd (upd H dx (.own x)) x (.ins C dx [])) (fun v H2=>v=.bN/\Q (.ref x) H2) E):
  wpAny (model X.prog X.w) X.A (call (.ref C) us) (EP X pins σ Q) X.xe s:=by
 have hq:=h (s.heap.objs.size+1) s.heap.objs.size (I.bR.fresh (agl _)) (I.bR.fresh (abt _)) (ab_ (ais _))
 have I2:=Inv.made (C:=C) I
 have r2:Vals (V.ref (s.heap.objs.size+1)::(vs++dvs)) (Value.ref (s.heap.objs.size+1)::(us++ds)):=.cons rfl (r.append hd)
 have hl:(Value.ref (s.heap.objs.size+1)::us++ds).length=ps.length:=by
  have e:=r2.length
  rw [F.len _ _ _ _ hq] at e
  exact e.symm
 refine wpAny_call (KQ (f:=f) I.iB M.makes M.init (beq_iff_eq.mp M.fn) (codeAny_mono (F.run _ X.stack _ _ ⟨Value.ref (s.heap.objs.size+1)::us,[]⟩ (Value.ref (s.heap.objs.size+1)::(us++ds)) _ _ E (hr.make C us [])
  (I2.Uy.make C us []) (hb _ (Value.ref (s.heap.objs.size+1)::us) I2.iB hl) r2 hq) fun r s' nS =>?_))
 cases r with
 | error e=>exact hx pins σ _ _ e s' I2 nS
 | ok fl=>
  cases fl with
  | ret u=>
   obtain ⟨v,H',I3,rv,ev,q3⟩:=I2.after nS
   subst ev
   exact ⟨rv,⟨V.ref (s.heap.objs.size+1),H',I3,rfl,q3⟩⟩
  | next=>exact False.elim nS
  | brk=>exact False.elim nS
  | cont=>exact False.elim nS
theorem DM (M:Mk X.K C f)(F:bH X.prog X.w X.K X.mg X.base CX k f fd ps sp)(hr:cF (k+1) X.A)(hg:Gl X x)(hm:X.mg x=some (.ref C))(hb:Binds X.K fd ps ds)(hd:Vals dvs ds)(hx:Passes CX X E)
  (ha:PA X (e::es) t) (vG:(x==("__debug__":Str))=false:=by decide) (he:starEach (e::es) X.env=(false,eval e X.env)::starEach es X.env:=by rfl) (wx:(backTo pos (starEach es X.env)).any (·.1)=false:=by rfl):
  PE X (.Call (.Name x p) (e::es) [] pos) (af9 C sp dvs E t):=by
 intro pins s σ H Q I h
 refine wpAny_Call_Name_kw (gf I hg hm ?_ vG)
 refine PySem.W.callWith_K (h₀:=X.base) I.ok.mod.XI M.kp (cV (ha pos pins s σ H _ I h) fun us s1 ⟨vs,H1,I1,r,q⟩=>⟨I1.iB,?_⟩) he wx
 exact KW M F hr hb hd hx I1 r q
theorem xt (M:Mk X.K C f)(F:bH X.prog X.w X.K X.mg X.base CX k f fd ps sp)(hr:cF (k+1) X.A)(hg:Gl X x)(hm:X.mg x=some (.ref C))(hb:Binds X.K fd ps ds)(hd:Vals dvs ds)(hx:Passes CX X E)
  (vG:(x==("__debug__":Str))=false:=by decide):PE X (.Call (.Name x p) [] [] pos) (af9 C sp dvs E zd):=by
 intro pins s σ H Q I h
 refine wpAny_Call_Name_kw (gf I hg hm ?_ vG)
 exact PySem.W.callWith_K0 I.iB M.kp (KW (us:=[]) M F hr hb hd hx I .nil h)
end
section
variable {X:Cx}{CX:sY}{k:Nat}{f C:Addr}{fd:FuncData}{ps ks:ζ}{sp:Sp}{E:XK}{x m:Str}{p pos apos aC0:Pos}{e o:Expr}{es:ο}{kws:List Keyword}{te ta:TE}{t tk:TA}{nm:Β}
variable {g:List Value->List Value->List Value}{gV:List V->List V->List V}
end
structure av (N P:ζ)(sc:Scope):Prop where
 kind:sc.kind=.function
 co:sc.isCoroutine=false
 gen:sc.isGenerator=false
 nd:N.Nodup
 pre:N.take P.length=P
 par:∀x∈P,sc.names.lookup x=some .local\/sc.names.lookup x=some .cell
 aiu:∀y∈sc.names,y.2≠.free
theorem BB {kindOf:Str->Option NameKind}{x:Str}:∀{binds:Ν} {m:ε},(∀v,(x,v)∉binds)->bindL kindOf binds m x=m x
 | [],_,_=>rfl
 | (n,v)::r,m,h=>by
  unfold bindL
  rw [BB fun w hw=>h w (abz _ hw)]
  split
  ·have:x≠n:=by rintro rfl;exact h v abE
   simp [this]
  ·rfl
theorem BC {kindOf:Str->Option NameKind}{x:Str}:∀{binds:Ν} {m:ε},(∀v,(x,v)∉binds)->bindC kindOf binds m x=m x
 | [],_,_=>rfl
 | (n,v)::r,m,h=>by
  unfold bindC
  rw [BC fun w hw=>h w (abz _ hw)]
  split
  ·rfl
  ·have:x≠n:=by rintro rfl;exact h v abE
   simp [this]
theorem BD {kindOf:Str->Option NameKind}{x:Str}{v:Value}:∀{P:ζ} {vs:θ} {i:Nat} {m:ε},P.Nodup->P[i]? =some x->vs[i]? =some v->kindOf x=some .local->
  bindL kindOf (P.zip vs) m x=some v
 | [],_,_,_,_,h,_,_=>by simp at h
 | _::_,[],_,_,_,_,h,_=>by simp at h
 | p::P,w::vs,0,m,nd,h1,h2,hk=>by
  simp at h1 h2;subst h1;subst h2
  show bindL kindOf ((p,w)::P.zip vs) m p=_
  unfold bindL
  rw [BB fun v hv=>(agf.mp nd).1 (alD hv).1,if_pos hk]
  simp
 | p::P,w::vs,i+1,m,nd,h1,h2,hk=>by
  show bindL kindOf ((p,w)::P.zip vs) m x=_
  unfold bindL
  exact BD (i:=i) (agf.mp nd).2 (by simpa using h1) (by simpa using h2) hk
theorem BE {kindOf:Str->Option NameKind}{x:Str}{v:Value}:∀{P:ζ} {vs:θ} {i:Nat} {m:ε},P.Nodup->P[i]? =some x->vs[i]? =some v->kindOf x≠some .local->
  bindC kindOf (P.zip vs) m x=some v
 | [],_,_,_,_,h,_,_=>by simp at h
 | _::_,[],_,_,_,_,h,_=>by simp at h
 | p::P,w::vs,0,m,nd,h1,h2,hk=>by
  simp at h1 h2;subst h1;subst h2
  show bindC kindOf ((p,w)::P.zip vs) m p=_
  unfold bindC
  rw [BC fun v hv=>(agf.mp nd).1 (alD hv).1,if_neg hk]
  simp
 | p::P,w::vs,i+1,m,nd,h1,h2,hk=>by
  show bindC kindOf ((p,w)::P.zip vs) m x=_
  unfold bindC
  exact BE (i:=i) (agf.mp nd).2 (by simpa using h1) (by simpa using h2) hk
def start (N:ζ)(vs:η):St:=vs.map some++ap_ (N.length - vs.length) none
def fu (CX:sY)(P:Program)(w:World)(K:Frag)(mg:ε)(base:Heap)(N:ζ)(qual:Str)(scope:Scope)(f:Addr)(cd:Value)(A:Around)(outer:List Env)(s:Shared)(H:Hp)(E:XK):Cx where
 prog:=P
 w:=w
 K:=K
 mg:=mg
 base:=base
 A:=A.deeper (envOfC qual scope s.heap.objs.size f cd)
 N:=N
 s₀:=s
 H₀:=H
 env:=envOfC qual scope s.heap.objs.size f cd
 outer:=outer
 stack:=envOfC qual scope s.heap.objs.size f cd::outer
 ex:=[]
 calm:=true
 fn:=fun _=>true
 pn:=[]
 xe:=fun e s' =>wpAny (model P w) (A.deeper (envOfC qual scope s.heap.objs.size f cd)) (leaving (envOfC qual scope s.heap.objs.size f cd) e) (fun _ s'' =>CX outer H s E e s'') (fun e' s'' =>CX outer H s E e' s'') s'
theorem KY {sc:Scope}{n:Nat}{x:Str}(h:sc.names.lookup x=some .cell):∃c,(cellsFrom n sc.names []).lookup x=some c:=by
 have q:=PySem.W.cellsFrom_some sc.names n [] (.inl h)
 exact alV.mp q
theorem BF {CX:sY}{P:Program}{w:World}{K:Frag}{mg:ε}{base:Heap}{N ps:ζ}{qual:Str}{scope:Scope}{f:Addr}{cd:Value}{A:Around}{outer:List Env}{s s1:Shared}{H:Hp}{E:XK}{us:θ}{vs:η}
  (S:av N ps scope) (hd:A.handled=none) (e0:DL P w K mg base A outer s H) (hl:vs.length=ps.length) (r:Vals vs us)
  (x:InCallC s s.heap.objs.size (bindL (envOfC qual scope s.heap.objs.size f cd).kindOf (ps.zip us) fun _=>none) (cellsFrom (s.heap.objs.size+1) scope.names []) (bindC (envOfC qual scope s.heap.objs.size f cd).kindOf (ps.zip us) fun _=>none) s1):
  Inv (fu CX P w K mg base N qual scope f cd A outer s H E) [] (start N vs) H s1:=by
 have wx:ps.length<=N.length:=by have:=congrArg alB S.pre;rw [aiC] at this;omega
 obtain ⟨h1,tk,rfl,hk⟩:=x.done
 have noA:∀b:Addr,b∉(fu CX P w K mg base N qual scope f cd A outer s H E).ex:=fun b z=>absurd (show b∈([]:List Addr) from z) (by simp)
 refine ⟨⟨e0.mod,S.kind,rfl,rfl,abt _,fun y z c h1 h2=>?_,fun y hy=>?_,fun y c _ h=>?_,fun _=>hd,Around.frames_deeper e0.frames,.inr ⟨rfl,rfl⟩,fun b z=>absurd z (noA b),e0.bs,e0.Xv,fun b _ _=>noA b,fun b z=>absurd z (noA b),e0.ph,e0.frf⟩,
  rfl,e0.bare,Un.kept hk,⟨_,x.toInCall.ns,fun i y v h1 h2 h3=>?_⟩,fun y c h=>⟨_,x.cell y c h⟩,e0.bR.fresh (abt _),fun y c h=>?_,fun p hp=>absurd (show p∈([]:List (Addr×Obj)) from hp) (by simp),e0.bR.kept hk,?_⟩
 ·exact name_of_addr x.apart (PySem.mem_of_lookup h1) (PySem.mem_of_lookup h2)
 ·have hy:scope.names.lookup y=some .cell\/scope.names.lookup y=some .free:=hy
  rcases hy with hy | hy
  ·exact KY hy
  ·exact absurd rfl (S.aiu _ (PySem.mem_of_lookup hy))
 ·exact alH (x.above y c (PySem.mem_of_lookup h))
 ·have hi:i < vs.length:=by
   unfold start at h2
   by_cases hi:i < vs.length
   ·exact hi
   ·rw [aea (by simpa using hi)] at h2
    rw [alW] at h2
    split at h2 <;> cases h2
  have ha:vs[i]? =some v:=by
   unfold start at h2
   rw [aeE (by simpa using hi),abx] at h2
   cases e:vs[i]? with
   | none=>rw [e] at h2;cases h2
   | some a=>rw [e] at h2;cases h2;rfl
  obtain ⟨u,hu,rv⟩:=r.get ha
  have hp:ps[i]? =some y:=by
   rw [<- S.pre,ai3 (by omega)];exact h1
  have ndP:ps.Nodup:=by rw [<- S.pre];exact S.nd.sublist (List.take_sublist _ _)
  refine ⟨u,rv,?_⟩
  rcases S.par y (abw hp) with k | k
  ·exact .inl ⟨k,BD ndP hp hu k⟩
  ·obtain ⟨c,e⟩:=KY (n:=s.heap.objs.size+1) k
   refine .inr ⟨.inl k,c,e,?_⟩
   have q:=x.cell y c e
   rw [BE ndP hp hu (by show scope.names.lookup y≠_;rw [k];decide)] at q
   exact q
 ·exact e0.bR.fresh (alH (x.above y c (PySem.mem_of_lookup h)))
 ·unfold start
  show _=N.length
  rw [aa_,Wp,amT]
  omega
theorem xu {CX:sY}{P:Program}{w:World}{K:Frag}{mg:ε}{base:Heap}{k:Nat}{f:Addr}{name qual:Str}{params:Arguments}{body:List Stmt}{scope:Scope}{dV kV doc pm cdv ct oc:Value}{an od:ξ}
  {nj:τ} {N ps:ζ} {sp:Sp} (lk:K.lookup f=some ⟨oc,od,.func (fnOf name qual params body scope dV kV doc pm an cdv ct),nj⟩) (pj:codeIn K cdv qual=true) (S:av N ps scope)
  (len:∀vs H Q E,sp vs H Q E->vs.length=ps.length)
  (dP:∀(A:Around) (outer:List Env) (s:Shared) (H:Hp) (vs:η) (Q:VK) (E:XK),cF k (A.deeper (envOfC qual scope s.heap.objs.size f cdv))->sp vs H Q E->
   ∃t,PSs (fu CX P w K mg base N qual scope f cdv A outer s H E) body t/\t {nx:=fun _ H' =>Q .bN H',rt:=Q} (start N vs) H):
  bH P w K mg base CX (k+1) f (fnOf name qual params body scope dV kV doc pm an cdv ct) ps sp:=by
 refine ⟨len,fun A outer s H args us vs Q E hr e0 hb r vH=>?_⟩
 have hl:=len _ _ _ _ vH
 have KX:K.In s.heap:=e0.mod.XI.keeps fun b o e=>(e0.bs b o e).1
 have lim:s.heap.NoLimit:=e0.mod.nolimit.keeps fun b o e=>(e0.bs b o e).1
 have X':∀y∈ps.zip us,scope.names.lookup y.1=some .local\/(scope.names.lookup y.1=some .cell/\((cellsFrom (s.heap.objs.size+1) scope.names []).lookup y.1).isSome=true):=fun ⟨n,v⟩ hy=>by
  rcases S.par n (alD hy).1 with q | q
  ·exact .inl q
  ·exact .inr ⟨q,PySem.W.cellsFrom_some _ _ _ (.inl q)⟩
 refine codeAny_call_function hr.depth (KX _ _ lk) rfl S.co S.gen rfl (PySem.W.codeRec_of KX pj) (hb _ _ _ _ ?_)
 refine wpAny_newFunctionEnv_cells S.kind X' fun env he s1 x=>?_
 subst he
 refine ⟨lim.keeps x.toInCall.keep,codeAny_func ?_⟩
 obtain ⟨t,ht,hq⟩:=dP A outer s H vs Q E (hr.deeper _) vH
 have I:Inv (fu CX P w K mg base N qual scope f cdv A outer s H E) [] (start N vs) H s1:=BF S hr.hd e0 hl r x
 refine wpAny_mono (ht [] s1 (start N vs) H _ I hq) (fun fl s' hs=>?_) fun e s' hs=>hs
 have fin:∀{σ' :St} {H' :Hp} {v:V} {u:Value},Inv (fu CX P w K mg base N qual scope f cdv A outer s H E) [] σ' H' s' ->RelV v u->Q v H' ->CE outer P w H s Q u s' :=
  fun {σ' H' v u} J rv q=>⟨v,H',J.os,J.bare,J.base,J.bR,rv,q⟩
 cases fl with
 | ret u=>
  obtain ⟨v,σ',H',J,rv,q⟩:=hs
  exact fin J rv q
 | next=>
  obtain ⟨σ',H',J,q⟩:=hs
  exact fin (v:=V.bN) (u:=Value.none) J rfl q
 | brk=>
  obtain ⟨_,_,_,q⟩:=hs
  exact False.elim q
 | cont=>
  obtain ⟨_,_,_,q⟩:=hs
  exact False.elim q
end L2
namespace L2
open PySem PySem.Spec PyProof.Rows
section
variable {X:Cx}{x:Str}{p pos:Pos}{e:Expr}{es:ο}{t:TA}{id T:String}{r:List V->Hp->VK->Prop}
def tCB (r:List V->Hp->VK->Prop)(t:TA):TE:=fun σ H Q=>t σ H fun vs H1=>r vs H1 Q
theorem aL (hc:i9 X (.builtin id) r)(hg:Gl X x)(hm:X.mg x=none)(hv:bootBuiltins x=some (.builtin id))(ha:PA X (e::es) t)(hn:x≠ "__name__":=by decide)(vG:(x==("__debug__":Str))=false:=by decide)
  (he:starEach (e::es) X.env=(false,eval e X.env)::starEach es X.env:=by rfl) (wx:(backTo pos (starEach es X.env)).any (·.1)=false:=by rfl):PE X (.Call (.Name x p) (e::es) [] pos) (tCB r t):=by
 intro pins s σ H Q I h
 refine wpAny_Call_Name_kw (tf I hg hm hv ?_ hn vG)
 exact PyProof.Rows.callWith_builtin1 (cV (ha pos pins s σ H _ I h) fun us s1 ⟨vs,H1,I1,r1,q1⟩=>hc pins s1 σ H1 vs us Q I1 r1 q1) he wx
theorem gF (hc:i9 X (.type T) r)(hg:Gl X x)(hm:X.mg x=none)(hv:bootBuiltins x=some (.type T))(ha:PA X (e::es) t)(hn:x≠ "__name__":=by decide)(vG:(x==("__debug__":Str))=false:=by decide)
  (he:starEach (e::es) X.env=(false,eval e X.env)::starEach es X.env:=by rfl) (wx:(backTo pos (starEach es X.env)).any (·.1)=false:=by rfl):PE X (.Call (.Name x p) (e::es) [] pos) (tCB r t):=by
 intro pins s σ H Q I h
 refine wpAny_Call_Name_kw (tf I hg hm hv ?_ hn vG)
 exact PyProof.Rows.callWith_type1 (cV (ha pos pins s σ H _ I h) fun us s1 ⟨vs,H1,I1,r1,q1⟩=>hc pins s1 σ H1 vs us Q I1 r1 q1) he wx
end
end L2
namespace HT
open PySem PyProof.Rows
section
open PySem.SeqAt
open PySem.AutoSeq1 (wpAny_loadPart')
open PySem.MeetsSeq PySem.MeetsSeq2 PySem.MeetsSeq3
end
section
variable {prog:Program}{w:World}{A:Around}{E:γ}{s:Shared}
def zb (n d:Nat):Option Int->Nat
 | none=>d
 | some v=>if v < 0 then (v+(n:Int)).toNat else min v.toNat n
end
end HT
namespace L2
open PySem PySem.Spec PyProof.Rows
abbrev TO:=St->Hp->(Option Int->Hp->Prop)->Prop
def PO (X:Cx)(e:Option Expr)(t:TO):Prop:=
 ∀(pins:δ) (s:Shared) (σ:St) (H:Hp) (Q:Option Int->Hp->Prop),Inv X pins σ H s->t σ H Q->
  wpAny (model X.prog X.w) X.A (evalPart e X.env) (fun u s' =>∃o H',Inv X pins σ H' s' /\IsPart u o/\Q o H') X.xe s
def adH:TO:=fun _ H Q=>Q none H
inductive Ya (Q:(Option Int->Hp->Prop))(x:V)(H1:Hp):Prop where
 | mk (i:_) (_:x=.int i) (_:Q (some i) H1):Ya Q x H1
def amV (t:TE):TO:=fun σ H Q=>t σ H fun x H1=>Ya Q x H1
section
variable {X:Cx}{e:Expr}{te:TE}{lo hi:Option Expr}{tl th:TO}{pos p2:Pos}
theorem DN:PO X none adH:=by
 intro pins s σ H Q I h
 rw [evalPart_none]
 exact wpAny_pure ⟨none,H,I,.none,h⟩
theorem qJ (h:PE X e te):PO X (some e) (amV te):=by
 intro pins s σ H Q I hw
 rw [evalPart_some]
 refine cV (h pins s σ H _ I hw) fun u s1 ⟨x,H1,I1,r1,q1⟩=>?_
 obtain ⟨i,rfl,q⟩:=q1
 obtain ⟨t,rfl⟩:=r1
 exact ⟨some i,H1,I1,.int i t,q⟩
def SlR (X:Cx)(r:V->Option Int->Option Int->Hp->VK->Prop):Prop:=
 ∀(pins:δ) (s:Shared) (σ:St) (H:Hp) (x:V) (v vl vu:Value) (lo hi:Option Int) (sl:Addr) (Q:VK),Inv X pins σ H s->RelV x v->s.heap.IsSliceOf sl vl vu .none->IsPart vl lo->IsPart vu hi->r x lo hi H Q->
  ∃T id,typeLookup (.type T) "__getitem__"=pure (some (.builtin id))/\s.TypeIs v T/\wpAny (model X.prog X.w) X.A (getItem v (.ref sl)) (EP X pins σ Q) X.xe s
def tSl (r:V->Option Int->Option Int->Hp->VK->Prop)(te:TE)(tl th:TO):TE:=fun σ H Q=>te σ H fun x H1=>tl σ H1 fun l H2=>th σ H2 fun u H3=>r x l u H3 Q
theorem qK {r:V->Option Int->Option Int->Hp->VK->Prop}(hr:SlR X r)(he:PE X e te)(hl:PO X lo tl)(hu:PO X hi th):PE X (.Subscript e (.Slice lo hi none p2) pos) (tSl r te tl th):=by
 intro pins s σ H Q I h
 refine Subscript_ (cV (he pins s σ H _ I h) fun v s1 ⟨x,H1,I1,r1,q1⟩=>?_)
 refine wpAny_Slice (cV (hl pins s1 σ H1 _ I1 q1) fun vl s2 ⟨l,H2,I2,pl,q2⟩=>cV (hu pins s2 σ H2 _ I2 q2) fun vu s3 ⟨u,H3,I3,pu,q3⟩=>?_)
 rw [evalPart_none]
 refine wpAny_pure ?_
 have I4:Inv X pins σ H3 {s3 with heap:=s3.heap.push {cls:=.type "slice",data:=.fields #[vl,vu,.none]}}:=I3.kept (t' :=s3.toks) fun b ob q=>Heap.get?_push_of_some _ q
 obtain ⟨T,id,hT,ht,hg⟩:=hr pins {s3 with heap:=s3.heap.push {cls:=.type "slice",data:=.fields #[vl,vu,.none]}} σ H3 x v vl vu l u s3.heap.objs.size Q I4 r1 (Heap.IsSliceOf.new ..) pl pu q3
 show wpAny (model X.prog X.w) X.A (subscriptTail e (.Slice lo hi none p2) v (.ref s3.heap.objs.size)) (EP X pins σ Q) X.xe {s3 with heap:=s3.heap.push {cls:=.type "slice",data:=.fields #[vl,vu,.none]}}
 exact tail_any (ops:=[.ref s3.heap.objs.size,v]) ht hT hg (by with_unfolding_all rfl)
def KZ (xs:η)(lo hi:Option Int):List V:=(xs.drop (HT.zb xs.length 0 lo)).take (HT.zb xs.length xs.length hi - HT.zb xs.length 0 lo)
theorem K_ (xs:η)(lo hi:Option Int):(KZ xs lo hi).length<=xs.length:=by
 unfold KZ
 rw [aiC,an_]
 omega
end
end L2
namespace L2
open PySem PySem.Spec PyProof.Rows
def ixN (n:Nat)(i:Int):Option Nat:=if 0<=i then (if i < n then some i.toNat else none) else if -(n:Int)<=i then some (i+n).toNat else none
def mv {α:Type}(xs:List α)(i:Int):Option α:=(ixN xs.length i).bind fun j=>xs[j]?
theorem adI {n:Nat}{i:Int}{j:Nat}(h:ixN n i=some j):seqIndex? i n=some j/\j < n/\ -(n:Int)<=i/\i < n:=by
 unfold ixN at h
 by_cases h0:0<=i
 ·rw [if_pos h0] at h
  by_cases h1:i < n
  ·rw [if_pos h1] at h
   have e:i.toNat=j:=abq h
   exact ⟨by rw [seqIndex_of h0 h1,e],by omega,by omega,h1⟩
  ·rw [if_neg h1] at h;cases h
 ·rw [if_neg h0] at h
  by_cases h1: -(n:Int)<=i
  ·rw [if_pos h1] at h
   have e:(i+n).toNat=j:=abq h
   exact ⟨by rw [seqIndex_neg (by omega) h1,e],by omega,h1,by omega⟩
  ·rw [if_neg h1] at h;cases h
theorem DO {α:Type}{xs:List α}{i:Int}{v:α}(h:mv xs i=some v):∃j,seqIndex? i xs.length=some j/\xs[j]? =some v/\j < xs.length/\ -(xs.length:Int)<=i/\i < xs.length:=by
 unfold mv at h
 cases e:ixN xs.length i with
 | none=>rw [e] at h;cases h
 | some j=>
  rw [e] at h
  obtain ⟨h1,h2,h3,h4⟩:=adI e
  exact ⟨j,h1,h,h2,h3,h4⟩
theorem b5 {α:Type}{xs:List α}{j:Nat}{v:α}(h:xs[j]? =some v):mv xs (j:Int)=some v:=by
 have hj:j < xs.length:=(W1.mp h).1
 have e:ixN xs.length (j:Int)=some j:=by
  unfold ixN
  rw [if_pos (by omega),if_pos (by omega)];simp
 unfold mv;rw [e];exact h
def Ta (b:Expr):Prop:=∀o i,subscripted b false o i=operate [o,i] (getItem o i)
def IxR (X:Cx)(r:R2):Prop:=
 ∀(value slice:Expr) (pins:δ) (s:Shared) (σ:St) (H:Hp) (x y:V) (v u:Value) (Q:VK),Inv X pins σ H s->RelV x v->RelV y u->r x y H Q->
  subscripted slice false v u=operate [v,u] (getItem v u)->wpAny (model X.prog X.w) X.A (subscriptTail value slice v u) (EP X pins σ Q) X.xe s
def MtR (X:Cx)(id:String)(r:Ο):Prop:=
 ∀(pins:δ) (s:Shared) (σ:St) (H:Hp) (x:V) (xs:η) (v:Value) (us:θ) (Q:VK),Inv X pins σ H s->RelV x v->Vals xs us->r x xs H Q->
  wpAny (model X.prog X.w) X.A (call (.builtin id) (v::us)) (EP X pins σ Q) X.xe s
section
variable {X:Cx}{a b:Expr}{ta tb:TE}{pos:Pos}
theorem Yb {r:R2}(hr:IxR X r)(ha:PE X a ta)(hb:PE X b tb)(hs:Ta b):PE X (.Subscript a b pos) (tOp r ta tb):=by
 intro pins s σ H Q I h
 exact Subscript_ (aio ha hb I h fun v u s2 x y H2 I2 rx ry q=>hr a b pins s2 σ H2 x y v u Q I2 rx ry q (hs _ _))
inductive adJ (K:Frag)(x:V)(y:V)(H:Hp)(Q:VK):Prop where
 | mk (p xs i v:_) (_:x=.ref p) (_:y=.int i) (_:bq K H p xs) (_:mv xs i=some v) (_:Q v H):adJ K x y H Q
inductive adK (K:Frag)(x:V)(y:V)(H:Hp)(Q:VK):Prop where
 | mk (p xs i v:_) (_:x=.ref p) (_:y=.int i) (_:cT K H p xs) (_:mv xs i=some v) (_:Q v H):adK K x y H Q
theorem d9:IxR X (adJ X.K):=by
 intro value slice pins s σ H x y v u Q I rx ry h hs
 obtain ⟨p,xs,i,z,rfl,rfl,hq,he,q⟩:=h
 cases rx
 obtain ⟨t,rfl⟩:=ry
 obtain ⟨its,r,pl,hz⟩:=I.list hq
 obtain ⟨j,h1,h2,h3,h4,h5⟩:=DO he
 obtain ⟨w,ew,BG⟩:=r.get h2
 have hl:=r.length
 have hn:=xo
 have fin:EP X pins σ Q w s:=⟨z,H,I,BG,q⟩
 by_cases h0:0<=i
 ·have hj:i.toNat=j:=by
   rw [seqIndex_of h0 h5] at h1
   exact abq h1
  exact item_listR pl.isList h0 (by omega) (by rw [hj];simpa using ew) fin hs
 ·have hj:(i+(its.toArray.size:Int)).toNat=j:=by
   rw [seqIndex_neg (by omega) h4] at h1
   rw [aei, <- hl]
   exact abq h1
  exact subscriptTail_builtinR (x:=w) pl.isList.typeIs slot_list_getitem.lookup
   (wpAny_getItem_list_neg (Q:=fun r s' =>r=w/\EP X pins σ Q r s') pl.isList (by omega) (by rw [aei] <;> omega) (by omega) (by rw [hj];simpa using ew) ⟨rfl,fin⟩) hs
theorem Yc:IxR X (adK X.K):=by
 intro value slice pins s σ H x y v u Q I rx ry h hs
 obtain ⟨p,xs,i,z,rfl,rfl,hq,he,q⟩:=h
 cases rx
 obtain ⟨t,rfl⟩:=ry
 obtain ⟨its,r,pl,hz⟩:=I.tuple hq
 obtain ⟨j,h1,h2,h3,h4,h5⟩:=DO he
 obtain ⟨w,ew,BG⟩:=r.get h2
 have hl:=r.length
 have hn:=xo
 have fin:EP X pins σ Q w s:=⟨z,H,I,BG,q⟩
 exact subscriptTail_builtinR (x:=w) pl.typeIs slot_tuple_getitem.lookup
  (getItem_tuple (j:=j) (Q:=fun r s' =>r=w/\EP X pins σ Q r s') pl (by omega) (by omega) (by rw [aei, <- hl];exact h1) (by simpa using ew) ⟨rfl,fin⟩) hs
theorem DQ (lo hi:Option Int)(n:Nat):(sliceBounds lo hi none n).1=((HT.zb n 0 lo:Nat):Int)/\(sliceBounds lo hi none n).2.1=((HT.zb n n hi:Nat):Int)/\(sliceBounds lo hi none n).2.2=1:=by
 refine ⟨?_,?_,rfl⟩
 ·cases lo with
  | none=>simp [sliceBounds,HT.zb]
  | some i=>
   simp only [sliceBounds,HT.zb,aoj,show (1:Int) > 0 by decide,if_true]
   by_cases h:i < 0
   ·simp only [h,if_true] <;> omega
   ·simp only [h,if_false] <;> omega
 ·cases hi with
  | none=>simp [sliceBounds,HT.zb]
  | some i=>
   simp only [sliceBounds,HT.zb,aoj,show (1:Int) > 0 by decide,if_true]
   by_cases h:i < 0
   ·simp only [h,if_true] <;> omega
   ·simp only [h,if_false] <;> omega
theorem ze (its:θ)(lo hi:Option Int):slicePick its.toArray lo hi none=((its.drop (HT.zb its.length 0 lo)).take (HT.zb its.length its.length hi - HT.zb its.length 0 lo)).toArray:=by
 obtain ⟨h1,h2,h3⟩:=DQ lo hi its.toArray.size
 unfold slicePick
 rw [h1,h2,h3]
 simp only [sliceRange_one,pick_run,aei] <;> rfl
inductive amW (K:Frag)(x:V)(lo:Option Int)(hi:Option Int)(H:Hp)(Q:VK):Prop where
 | mk (a xs:_) (_:x=.ref a) (_:bq K H a xs) (_:∀p,H p=none->Q (.ref p) (upd H p (.lst (KZ xs lo hi)))):amW K x lo hi H Q
theorem DR:SlR X (amW X.K):=by
 intro pins s σ H x v vl vu lo hi sl Q I rx hs pl pu h
 obtain ⟨a,xs,rfl,hx,q⟩:=h
 cases rx
 obtain ⟨its,r,ht,hz⟩:=I.list hx
 have hlen:=r.length
 refine ⟨"list",_,slot_list_getitem.lookup,ht.isList.typeIs,?_⟩
 refine wpAny_getItem_list_slice ht.isList hs pl pu .none (by simp) ?_ (by rw [aei] <;> omega)
 rw [ze, <- hlen]
 refine ⟨.ref s.heap.objs.size,_,I.laid (t' :=s.toks) (o:=.lst (KZ xs lo hi)) (fun b ob q=>Heap.get?_push_of_some _ q) (abt _) ?_,rfl,q _ (I.bR.fresh (abt _))⟩
 exact ⟨ir (K_ xs lo hi) hz,_,0,(r.drop (HT.zb xs.length 0 lo)).take (HT.zb xs.length xs.length hi - HT.zb xs.length 0 lo),Heap.get?_push_size _ rfl⟩
def j9:V->Bool
 | .bN=>true
 | .bl _=>true
 | .int _=>true
 | .str _=>true
 | _=>false
def vI:V->V->Bool
 | .bN,.bN=>true
 | .bl a,.bl b=>a==b
 | .bl a,.int b=>(if a then 1 else 0)==b
 | .int a,.bl b=>a==(if b then 1 else 0)
 | .int a,.int b=>a==b
 | .str a,.str b=>a==b
 | _,_=>false
theorem Yd {A:Around}{s:Shared}{y x:V}{u v:Value}(ry:RelV y u)(rx:RelV x v)(fy:j9 y=true)(fx:j9 x=true):SeqAt.EqAt A s u v (vI y x):=by
 cases y with
 | bN=>
  cases ry
  cases x with
  | bN=>cases rx;exact SeqAt.EqAt.same _
  | bl b=>cases rx;exact SeqAt.EqAt.none_bool b
  | int b=>obtain ⟨t,rfl⟩:=rx;exact SeqAt.EqAt.none_int b t
  | str b=>obtain ⟨t,rfl⟩:=rx;exact SeqAt.EqAt.none_str b t
  | _=>exact absurd (show false=true from fx) abr
 | bl a=>
  cases ry
  cases x with
  | bN=>cases rx;exact SeqAt.EqAt.bool_none a
  | bl b=>cases rx;exact SeqAt.EqAt.bool_bool a b
  | int b=>obtain ⟨t,rfl⟩:=rx;exact SeqAt.EqAt.bool_int a b t
  | str b=>obtain ⟨t,rfl⟩:=rx;exact SeqAt.EqAt.bool_str a b t
  | _=>exact absurd (show false=true from fx) abr
 | int a=>
  obtain ⟨t',rfl⟩:=ry
  cases x with
  | bN=>cases rx;exact SeqAt.EqAt.int_none a t'
  | bl b=>cases rx;exact SeqAt.EqAt.int_bool a t' b
  | int b=>obtain ⟨t,rfl⟩:=rx;exact SeqAt.EqAt.int_int a t' b t
  | str b=>obtain ⟨t,rfl⟩:=rx;exact SeqAt.EqAt.int_str a t' b t
  | _=>exact absurd (show false=true from fx) abr
 | str a=>
  obtain ⟨t',rfl⟩:=ry
  cases x with
  | bN=>cases rx;exact SeqAt.EqAt.str_none a t'
  | bl b=>cases rx;exact SeqAt.EqAt.str_bool a t' b
  | int b=>obtain ⟨t,rfl⟩:=rx;exact SeqAt.EqAt.str_int a t' b t
  | str b=>obtain ⟨t,rfl⟩:=rx;exact SeqAt.EqAt.str_str a t' b t
  | _=>exact absurd (show false=true from fx) abr
 | _=>exact absurd (show false=true from fy) abr
def Qt (x:V)(u:Value):Bool:=match u with
 | .none=>vI .bN x
 | .bool b=>vI (.bl b) x
 | .int i _=>vI (.int i) x
 | .str z _=>vI (.str z) x
 | _=>false
theorem Ye {x y:V}{u:Value}(r:RelV y u)(f:j9 y=true):Qt x u=vI y x:=by
 cases y with
 | bN=>cases r;rfl
 | bl b=>cases r;rfl
 | int i=>obtain ⟨t,rfl⟩:=r;rfl
 | str z=>obtain ⟨t,rfl⟩:=r;rfl
 | _=>exact absurd (show false=true from f) abr
theorem qL {x:V}:∀{xs:η} {us:θ},Vals xs us->xs.all j9=true->us.any (Qt x)=xs.any fun y=>vI y x
 | _,_,.nil,_=>rfl
 | y::xs,u::us,.cons r t,f=>by
  rw [ag_,abA] at f
  rw [ah_,ah_,Ye r f.1,qL t f.2]
theorem mF {A:Around}{s:Shared}{x:V}{v:Value}(rx:RelV x v)(fx:j9 x=true):∀{xs:η} {us:θ},Vals xs us->xs.all j9=true->∀u∈us,SeqAt.EqAt A s u v (Qt x u)
 | _,_,.nil,_=>fun u hu=>by cases hu
 | y::xs,u::us,.cons r t,f=>fun u' hu=>by
  rw [ag_,abA] at f
  rcases aby.mp hu with rfl | hu
  ·rw [Ye r f.1];exact Yd r rx f.1 fx
  ·exact mF rx fx t f.2 u' hu
def inV (x:V)(xs:η):Bool:=xs.any fun y=>vI y x
inductive rIn (K:Frag)(neg:Bool)(x:V)(y:V)(H:Hp)(Q:VK):Prop where
 | mk (p xs:_) (_:y=.ref p) (_:(bq K H p xs\/cT K H p xs)) (_:j9 x=true) (_:xs.all j9=true) (_:Q (.bl (if neg then !inV x xs else inV x xs)) H):rIn K neg x y H Q
theorem Uz:mD X (compareOp .In) (rIn X.K false):=by
 intro pins s σ H x y v u Q I rx ry h
 obtain ⟨p,xs,rfl,hq,fx,fs,q⟩:=h
 cases ry
 rcases hq with hq | hq
 ·obtain ⟨its,r,pl,hz⟩:=I.list hq
  refine SeqAt.in_listAt (Qt x) pl.isList (fun w hw=>mF rx fx r fs w (by simpa using hw)) ⟨.bl _,H,I,rfl,?_⟩
  rw [show its.toArray.any (Qt x)=its.any (Qt x) by simp,qL r fs]
  exact q
 ·obtain ⟨its,r,pl,hz⟩:=I.tuple hq
  refine SeqAt.in_tupleAt (Qt x) pl (fun w hw=>mF rx fx r fs w (by simpa using hw)) ⟨.bl _,H,I,rfl,?_⟩
  rw [show its.toArray.any (Qt x)=its.any (Qt x) by simp,qL r fs]
  exact q
theorem DS:mD X (compareOp .NotIn) (rIn X.K true):=by
 intro pins s σ H x y v u Q I rx ry h
 obtain ⟨p,xs,rfl,hq,fx,fs,q⟩:=h
 cases ry
 rcases hq with hq | hq
 ·obtain ⟨its,r,pl,hz⟩:=I.list hq
  refine SeqAt.notIn_listAt (Qt x) pl.isList (fun w hw=>mF rx fx r fs w (by simpa using hw)) ⟨.bl _,H,I,rfl,?_⟩
  rw [show its.toArray.any (Qt x)=its.any (Qt x) by simp,qL r fs]
  exact q
 ·obtain ⟨its,r,pl,hz⟩:=I.tuple hq
  refine SeqAt.notIn_tupleAt (Qt x) pl (fun w hw=>mF rx fx r fs w (by simpa using hw)) ⟨.bl _,H,I,rfl,?_⟩
  rw [show its.toArray.any (Qt x)=its.any (Qt x) by simp,qL r fs]
  exact q
theorem qM:mD X (compareOp .NotIn) (fun x y H Q=>∃i j,x=.str i/\y=.str j/\Q (.bl (!(!(Builtin.Str.occurrences j i 0 j.length 1).isEmpty))) H):=by
 intro pins s σ H x y v u Q I rx ry h
 obtain ⟨i,j,rfl,rfl,q⟩:=h
 obtain ⟨t,rfl⟩:=rx
 obtain ⟨t',rfl⟩:=ry
 exact notIn_str ⟨.bl _,H,I,rfl,q⟩
theorem bw:i9 X (.builtin "len") (fun xs H Q=>∃p ys,xs=[.ref p]/\(bq X.K H p ys\/cT X.K H p ys)/\Q (.int ys.length) H):=by
 intro pins s σ H xs us Q I r h
 obtain ⟨p,ys,rfl,hq,q⟩:=h
 obtain ⟨u,rfl,rx⟩:=vals1 r
 cases rx
 have hn:=xo
 rcases hq with hq | hq
 ·obtain ⟨its,r',pl,hz⟩:=I.list hq
  have hlen:=r'.length
  exact Calls.call_len_list pl.isList (by simp only [aei] <;> omega) ⟨.int ys.length,H,I.tok _,⟨s.toks+1,by rw [aei,hlen]⟩,q⟩
 ·obtain ⟨its,r',pl,hz⟩:=I.tuple hq
  have hlen:=r'.length
  exact len_tuple pl (by simp only [aei] <;> omega) ⟨.int ys.length,H,I.tok _,⟨s.toks+1,by rw [aei,hlen]⟩,q⟩
theorem qN:i9 X (.builtin "len") (fun xs H Q=>∃z,xs=[.str z]/\z.length<=sizeLine/\Q (.int z.length) H):=by
 intro pins s σ H xs us Q I r h
 obtain ⟨z,rfl,hz,q⟩:=h
 obtain ⟨u,rfl,t,rfl⟩:=vals1 r
 have hn:=xo
 exact len_str (by omega) ⟨.int z.length,H,I.tok _,⟨_,rfl⟩,q⟩
def tyV (K:Frag)(T:String)(x:V)(H:Hp):Prop:=match x with
 | .str _=>T="str"
 | .int _=>T="int"
 | .ref p=>(T="list"/\∃xs,bq K H p xs)\/(T="tuple"/\∃o,K.lookup p=some o/\o.cls=.type "tuple"/\o.dict=none)\/
   (T="dict"/\((∃kvs,H p=some (.dK kvs))\/∃kvs,H p=some (.dT kvs)))\/(T="set"/\∃S n,H p=some (.set S n))
 | _=>False
theorem Yf {pins:δ}{σ:St}{H:Hp}{s:Shared}{T:String}{x:V}{v:Value}(I:Inv X pins σ H s)(r:RelV x v)(ty:tyV X.K T x H):
  s.TypeIs v T/\∀a,v=.ref a->∃ob,s.heap.get? a=some ob/\ob.dict=none:=by
 cases x with
 | str z=>
  obtain ⟨t,rfl⟩:=r
  cases (show T="str" from ty)
  exact ⟨typeIs_str s z t,fun _ e=>nomatch e⟩
 | int i=>
  obtain ⟨t,rfl⟩:=r
  cases (show T="int" from ty)
  exact ⟨typeIs_int s i t,fun _ e=>nomatch e⟩
 | ref p=>
  cases r
  rcases ty with ⟨rfl,xs,hq⟩ | ⟨rfl,o,hk,hc,hd⟩ | ⟨rfl,hk⟩ | ⟨rfl,S,n,hk⟩
  ·obtain ⟨its,_,pl,_⟩:=I.list hq
   refine ⟨pl.isList.typeIs,fun a e=>?_⟩
   cases e
   obtain ⟨o,n,e,c,hd,_⟩:=pl
   exact ⟨o,e,hd⟩
  ·refine ⟨⟨o,I.iB p o hk,hc⟩,fun a e=>?_⟩
   cases e
   exact ⟨o,I.iB _ o hk,hd⟩
  ·have z:∃o,s.heap.get? p=some o/\o.ExactDict:=by
    rcases hk with ⟨kvs,hk⟩ | ⟨kvs,hk⟩
    ·obtain ⟨_,_,_,_,o,_,_,e,ex,_⟩:=I.bR p _ hk
     exact ⟨o,e,ex⟩
    ·obtain ⟨_,_,_,_,o,_,_,e,ex,_⟩:=I.bR p _ hk
     exact ⟨o,e,ex⟩
   obtain ⟨o,e,ex⟩:=z
   refine ⟨⟨o,e,ex.1⟩,fun a e2=>?_⟩
   cases e2
   exact ⟨o,e,ex.2.1⟩
  ·obtain ⟨o,_,_,_,e,ex,_⟩:=I.bR p _ hk
   refine ⟨⟨o,e,ex.1⟩,fun a e2=>?_⟩
   cases e2
   exact ⟨o,e,ex.2.1⟩
 | _=>exact False.elim ty
def tBM (K:Frag)(T:String)(r:Ο)(to:TE)(t:TA):TE:=fun σ H Q=>to σ H fun x H1=>tyV K T x H1/\t σ H1 fun xs H2=>r x xs H2 Q
variable {o e:Expr}{es:ο}{to:TE}{t:TA}{name:Str}{apos hJ:Pos}{T id:String}{r:Ο}
theorem gO (pa:PlainAttrs T)(slot:Slot T name id)(hty:typeOf (.builtin id)=pure (.type "method_descriptor"))(hm:MtR X id r)(ho:PE X o to)(ha:PA X (e::es) t)
  (qO:attributeBase o name X.env (eval o X.env)=eval o X.env:=by rfl)
  (aiv:((backTo hJ (starEach (e::es) X.env)).all (fun x=> !x.1) && (backToKw hJ (keywordEach [] X.env)).all (fun x=>x.1.isSome)
   && decide ((e::es).length+([]:List Keyword).length+(if ([]:List Keyword).isEmpty then 0 else 1) < 30))=true:=by rfl)
  (K':(apos.endLine==hJ.line)=true:=by rfl) (hs:starEach (e::es) X.env=(false,eval e X.env)::starEach es X.env:=by rfl) (aiw:(backTo hJ (starEach es X.env)).any (·.1)=false:=by rfl):
  PE X (.Call (.Attribute o name apos) (e::es) [] hJ) (tBM X.K T r to t):=by
 intro pins s σ H Q I h
 refine wpAny_Call_method_late qO aiv K' rfl (cV (ho pins s σ H _ I h) fun v s1 ⟨x,H1,I1,r1,ty,q1⟩=>?_)
 obtain ⟨h1,h2⟩:=Yf I1 r1 ty
 refine ⟨T,id,pa,slot,hty,h1,h2,?_⟩
 have hA:=ha hJ pins s1 σ H1 _ I1 q1
 rw [hs] at hA ⊢
 refine Calls.callWith_builtin (by show (false || (backTo hJ (starEach es X.env)).any (·.1))=false;rw [aiw] <;> rfl) (Calls.evalArgs_plain ?_)
 exact cV hA fun us s2 ⟨vs,H2,I2,r2,q2⟩=>hm pins s2 σ H2 x vs v us Q I2 r1 r2 q2
end
end L2
namespace L2
open PySem PySem.Spec PyProof.Rows
def MtM (X:Cx)(id:String)(r:Ο):Prop:=
 ∀(pins:δ) (s:Shared) (σ:St) (H:Hp) (x:V) (xs:η) (v:Value) (us:θ) (Q:VK),Inv X pins σ H s->RelV x v->Vals xs us->r x xs H Q->
  wpAny (model X.prog X.w) X.A (call (.builtin id) (v::us)) (EP X pins σ Q) X.xe s
theorem Vals.one:∀{x:V} {us:θ},Vals [x] us->∃u,us=[u]/\RelV x u
 | _,_,.cons r .nil=>⟨_,rfl,r⟩
section
variable {X:Cx}{pins:δ}{σ:St}{H:Hp}{s:Shared}{l b:Addr}{xs ys zs:η}
theorem Inv.at6 {its its' :θ}{n:Nat}{f:Array Value->Array Value}{t' :Nat}(I:Inv X pins σ H s)(hH:H l=some (.lst xs))
  (e:s.heap.get? l=some {cls:=.type "list",data:=.seq its.toArray n}) (hf:f its.toArray=its'.toArray) (hv:Vals ys its') (hz:ys.length<=sizeLine):
  Inv X pins σ (upd H l (.lst ys)) {s with heap:=s.heap.update l (Obj.mapSeq f),toks:=t' }:=by
 have q:=PySem.IsL.update e f
 rw [hf] at q
 refine I.write (x:=l) (e:=l) (by rw [hH];exact trivial) (.inl rfl) (fun b' u hb hu=>(Heap.get?_update_other s.heap (Obj.mapSeq f) (ac_ hb)).trans hu) ⟨_,q⟩ ?_
 exact ⟨hz,its',_,hv,q⟩
theorem Inv.amX {its:θ}{t' :Nat}(I:Inv X pins σ H s)(hv:Vals ys its)(hz:ys.length<=sizeLine):
  Inv X pins σ (upd H s.heap.objs.size (.lst ys)) {s with heap:=s.heap.push {cls:=.type "list",data:=.seq its.toArray},toks:=t' }:=
 I.laid (fun _ _ q=>Heap.get?_push_of_some _ q) (abt _) ⟨hz,its,0,hv,Heap.get?_push_size _ rfl⟩
theorem Inv.fresh (I:Inv X pins σ H s):H s.heap.objs.size=none:=I.bR.fresh (abt _)
theorem Inv.aix (I:Inv X pins σ H s)(hH:H l=some (.lst xs)):xs.length<=sizeLine/\∃(its:θ) (n:Nat),Vals xs its/\xs.length=its.length/\s.heap.get? l=some {cls:=.type "list",data:=.seq its.toArray n}:=by
 obtain ⟨z,its,n,r,e⟩:=I.bR l _ hH
 exact ⟨z,its,n,r,r.length,e⟩
end
section
variable {X:Cx}
inductive Tb (x:V)(vs:η)(H:Hp)(Q:VK):Prop where
 | mk (l xs y:_) (_:x=.ref l) (_:vs=[y]) (_:H l=some (.lst xs)) (_:xs.length < sizeLine) (_:Q .bN (upd H l (.lst (xs++[y])))):Tb x vs H Q
theorem fv:MtM X "list.append" Tb:=by
 intro pins s σ H x vs v us Q I rx rv h
 obtain ⟨l,xs,y,rfl,rfl,hH,hz,q⟩:=h
 cases rx
 obtain ⟨u,rfl,ru⟩:=rv.one
 obtain ⟨z,its,n,r,hl,e⟩:=I.aix hH
 refine call_meets F.slot_list_append ⟨_,e,rfl⟩ F.entry_list_append (F.args_list_append_2 _ _) (PySem.list_append l its.toArray n u (by rw [aei];omega)) ⟨e,?_⟩
 refine ⟨.bN,_,I.at6 (its' :=its++[u]) hH e (by simp) (r.append (.cons ru .nil)) ?_,rfl,q⟩
 rw [aa_,adL]
 omega
inductive amY (x:V)(y:V)(H:Hp)(Q:VK):Prop where
 | mk (l b xs zs:_) (_:x=.ref l) (_:y=.ref b) (_:H l=some (.lst xs)) (_:H b=some (.lst zs)) (_:xs.length+zs.length<=sizeLine) (_:∀p,H p=none->Q (.ref p) (upd H p (.lst (xs++zs)))):amY x y H Q
theorem k_:mD X (binaryOp .Add) amY:=by
 intro pins s σ H x y v u Q I rx ry h
 obtain ⟨l,b,xs,zs,rfl,rfl,hH,hB,hz,q⟩:=h
 cases rx
 cases ry
 obtain ⟨z,its,n,r,hl,e⟩:=I.aix hH
 obtain ⟨z2,mG,n2,r2,hl2,e2⟩:=I.aix hB
 refine PySem.P.add_list e e2 ?_ (by rw [aei,aei];omega)
 have ea:its.toArray++mG.toArray=(its++mG).toArray:=by simp
 rw [ea]
 exact ⟨.ref _,_,I.amX (t' :=s.toks) (r.append r2) (by rw [aa_];omega),rfl,q _ I.fresh⟩
end
section
variable {prog:Program}{w:World}{A:Around}{E:γ}{s:Shared}
set_option maxRecDepth 100000 in
end
section
variable {X:Cx}
end
end L2
namespace Att
open PySem PySem.W PySem.Calls PyProof.Rows
theorem vJ {P:Params}{h:Heap}:∀(ns:List Int) (vs:θ),WellAll P h vs (ns.map WData.int)->IntsAre vs ns:=by
 intro ns
 induction ns with
 | nil=>
  intro vs w
  rw [agj] at w
  cases w
  exact .nil
 | cons n ns ih=>
  intro vs w
  rw [adA] at w
  cases w with
  | cons a b=>
   cases a
   exact .cons _ _ (ih _ b)
theorem UA {l:OpenLaw}{n:Nat}(hn:l.most=some n){P:Params}{h:Heap}{args:List WData}{vals:θ}
  (adM:l.row.toRowW.claim.pre args=true) (hwl:WellAll P h vals args):
  ∃a vs ns,vals=[Value.ref a]/\args=[WData.list (ns.map WData.int)]/\h.get? a=some {cls:=.type "list",data:=.seq vs.toArray}/\IntsAre vs ns/\ns.length<=n:=by
 have hsh:WShape.hasAll [] args [.list .int]=true:=(pre_splitW adM).1
 have hc:l.pre.holds [] {args:=args}=true:=(pre_splitW adM).2
 obtain ⟨d,r,rfl,h1,h2⟩:=hasAllW_cons hsh
 obtain rfl:=hasAllW_nil h2
 obtain ⟨xs,rfl,h3⟩:=hasW_list h1
 obtain ⟨ns,rfl⟩:=items_int h3
 have hlen:ns.length<=n:=by
  unfold OpenLaw.pre at hc
  have h4:(WTm.not (.lt (.lit (.int (n:Int))) (.len (.arg 0)))).holds [] {args:=[.list (ns.map .int)]}=true:=by
   have h4:=(holds_andW hc).1
   rw [hn] at h4
   exact h4
  have h5:=condW_of h4 (w_not (w_lt w_lit (w_len_list (w_arg rfl))))
  rw [Wp] at h5
  refine alX fun q=>?_
  have q' :(n:Int) < ((ns.length:Nat):Int):=by omega
  first
   | (rw [decide_eq_true q'] at h5;exact absurd h5 (by decide))
   | (simp at h5;omega)
 cases hwl with
 | cons w1 w2=>
  cases w2
  cases w1 with
  | list ho at8=>exact ⟨_,_,ns,rfl,rfl,ho,vJ ns _ at8,hlen⟩
theorem UB (l:OpenLaw)(args:List WData):l.row.toRowW.claim.post args (.bool true) args=true:=
 postW_of (r:=l.row.toRowW) (X:=(true==true))
  (show WShape.has [] (.bool true) .bool=true by first | rfl | decide | simp [WShape.has,WShape.arms,WShape.armsAll])
  (show (WTm.eq .res (.lit (.bool true))).value [] {args:=args,res:=some (.bool true),after:=args}=some (.bool (true==true)) from w_eq_bool (w_res rfl) w_lit) rfl
section
variable {prog:Program}{w:World}{A:Around}{E:γ}{s:Shared}{K:Frag}
end
end Att
namespace L2
open PySem PySem.Spec PyProof.Rows
theorem BH:∀{vs:θ} {ns:List Int},IntsAre vs ns->Vals (ns.map V.int) vs
 | _,_,.nil=>.nil
 | _,_,.cons n t h=>.cons ⟨t,rfl⟩ (BH h)
def amZ (H:Hp):Prop:=∀b,H b=none\/∃o xs,H b=some (.j8 o (.lst xs))
theorem Yg {P:Program}{w:World}{K:Frag}{mg mb:ε}{CX:sY}{k:Nat}{fa a:Addr}{fd:FuncData}{x:Str}{sp:Sp}{s₁:Shared}{vs:θ}{ns:List Int}
  (KX:K.In s₁.heap) (hns:s₁.heap.Ns mainGlobals mg) (hb:s₁.heap.Ns builtinsNs mb) (hbb:∀x:Str,x≠ "__name__"->mb x=bootBuiltins x) (at9:s₁.heap.NoLimit) (adN:s₁.heap.NoSeer) (hg:s₁.gens= #[])
  (ha:s₁.heap.get? a=some {cls:=.type "list",data:=.seq vs.toArray}) (hi:IntsAre vs ns) (hl:ns.length<=sizeLine) (hr:cF k callerA)
  (F:∀base:Heap,K.In base->base.Ns mainGlobals mg->bH P w K mg base CX k fa fd [x] sp) (am1:∀(s:Shared) (u:Value),BindsTo s fd ⟨[u],[]⟩ [(x,u)])
  (vH:∀H:Hp,amZ H->bq K H a (ns.map V.int)->sp [.ref a] H (fun v _=>v=.bl true) fun _ _ _=>False)
  (hCX:∀H e s',CX [] H s₁ (fun _ _ _=>False) e s' ->False):
  codeAny (model P w) callerA (.call (.ref fa) ⟨[.ref a],[]⟩) (fun r s' =>r=.ok (.ret (.bool true))/\OldK s₁.heap s'.heap/\s'.os=s₁.os/\AllBare s'.gens) s₁:=by
 have rv:=BH hi
 have aua:=hi.length
 have core:∀H:Hp,amZ H->bq K H a (ns.map V.int)->kQ P w H s₁.heap->(∀b,H b≠none->b=a)->(H a≠none->K.lookup a=none)->
   codeAny (model P w) callerA (.call (.ref fa) ⟨[.ref a],[]⟩) (fun r s' =>r=.ok (.ret (.bool true))/\OldK s₁.heap s'.heap/\s'.os=s₁.os/\AllBare s'.gens) s₁:=by
  intro H hO hS bR hA hK
  have DT:∀{b:Addr} {o:Obj},s₁.heap.get? b=some o->H b=none->(DG s₁.heap H).get? b=some o:=fun e n=>XH e n
  have noA:∀{b:Addr} {o:Obj} {es:Array DictEntry} {ep:Nat},s₁.heap.get? b=some o->o.data=.dict es ep->H b=none:=fun {b o es ep} e d=>by
   cases q:H b with
   | none=>rfl
   | some u=>
    have e' :b=a:=hA b (by rw [q];simp)
    subst e'
    rw [ha] at e;cases e
    have d' :Data.seq vs.toArray _=Data.dict es ep:=d
    cases d'
  have nsK:∀{b:Addr} {m:ε},s₁.heap.Ns b m->(DG s₁.heap H).Ns b m:=fun {b m} ⟨o,es,ep,e,d,r⟩=>⟨o,es,ep,DT e (noA e d),d,r⟩
  have hKb:K.In (DG s₁.heap H):=fun b o e=>DT (KX b o e) (by
   cases q:H b with
   | none=>rfl
   | some u=>
    have e' :b=a:=hA b (by rw [q];simp)
    subst e'
    rw [hK (by rw [q];simp)] at e;cases e)
  have hM:Mod K mg (DG s₁.heap H):=⟨hKb,nsK hns,⟨mb,nsK hb,hbb⟩,let ⟨mc,h1,h2⟩:=at9;⟨mc,nsK h1,h2⟩,
   ⟨let ⟨mc,h1,h2⟩:=adN.statics;⟨mc,nsK h1,h2⟩,let ⟨mc,h1,h2⟩:=adN.mods;⟨mc,nsK h1,h2⟩,let ⟨mc,h1,h2⟩:=adN.imp;⟨mc,nsK h1,h2⟩,
    let ⟨mg',bm,ob,h1,h2,h3,h4,h5⟩:=adN.main;⟨mg',bm,ob,nsK h1,h2,DT h3 (by
     cases q:H bm with
     | none=>rfl
     | some u=>
      have e' :bm=a:=hA bm (by rw [q];simp)
      subst e'
      rw [ha] at h3
      cases h3
      have h4' :Value.type "list"=Value.type "module":=h4
      injection h4' with e9
      exact absurd e9 (by decide)),h4,h5⟩⟩⟩
  have e0:DL P w K mg (DG s₁.heap H) callerA [] s₁ H:=⟨rfl,hM,fun b o e=>adt e,amA (Uq _ _),trivial,fun b hb=>absurd (show b∈([]:List Addr) from hb) (by simp),bR,.of_eq hg⟩
  refine codeAny_mono ((F _ hKb (nsK hns)).run callerA [] s₁ H ⟨[.ref a],[]⟩ [.ref a] [.ref a] _ _ hr e0 (am1 s₁ (.ref a)) (.cons rfl .nil) (vH H hO hS)) fun r s' h=>?_
  cases r with
  | error e=>exact (hCX H e s' h).elim
  | ok fl=>
   cases fl with
   | next=>exact False.elim h
   | brk=>exact False.elim h
   | cont=>exact False.elim h
   | ret u=>
    obtain ⟨v,H',os,bare,un,UC,r',q⟩:=h
    have q' :v=.bl true:=q
    subst q'
    obtain rfl:u=Value.bool true:=r'
    refine ⟨rfl,OldK.of_keep fun b o e=>?_,os,bare⟩
    cases q:H b with
    | none=>exact un.keep b o e q (by intro z;exact absurd (show b∈([]:List Addr) from z) (by simp)) (by simp)
    | some u=>
     rcases hO b with z | ⟨ob,xs,z⟩
     ·rw [q] at z;cases z
     ·have z2:=un.kR b ob _ z
      obtain ⟨e1,_⟩:=bR b _ z
      obtain ⟨e2,_⟩:=UC b _ z2
      rw [e] at e1;cases e1
      exact e2
 cases hk:K.lookup a with
 | some o=>
  have e:=KX a o hk
  rw [ha] at e
  cases e
  refine core (fun _=>none) (fun _=>.inl rfl) (.inr ⟨_,vs.toArray,_,hk,rfl,rfl,rfl,by rw [aei,aua];exact hl,by simpa using rv⟩) (fun b u z=>by have z' :(none:Option HO)=some u:=z;cases z') (fun b z=>absurd rfl z) fun z=>absurd rfl z
 | none=>
  refine core (fun b=>if b=a then some (.j8 {cls:=.type "list",data:=.seq vs.toArray} (.lst (ns.map V.int))) else none) (fun b=>?_) (.inl (.inr ⟨{cls:=.type "list",data:=.seq vs.toArray},if_pos rfl⟩)) (fun b u z=>?_) (fun b z=>?_) fun _=>hk
  ·by_cases hb:b=a
   ·exact .inr ⟨_,_,if_pos hb⟩
   ·exact .inl (if_neg hb)
  ·by_cases hb:b=a
   ·have z' :=(if_pos hb).symm.trans z
    cases z'
    subst hb
    exact ⟨ha,by rw [Wp];exact hl,vs,_,rv,ha⟩
   ·have z' :=(if_neg hb).symm.trans z
    cases z'
  ·by_cases hb:b=a
   ·exact hb
   ·exact absurd (if_neg hb) z
end L2
namespace L2
open PySem PySem.Spec PyProof.Rows
abbrev KOf {K:Frag}{h:Heap}(_:K.In h):Frag:=K
end L2
namespace L2
open PySem PySem.Spec PyProof.Rows
def inClass (s:Stmt)(j:Nat):Stmt:=match s with
 | .ClassDef _ _ _ body _ _ _ _ _ _ _=>body.getD j (.Pass ⟨0,0,0,0⟩)
 | _=>.Pass ⟨0,0,0,0⟩
def ar (s:Stmt):Arguments:=match s with
 | .FunctionDef _ a _ _ _ _ _ _ _ _=>a
 | _=>{posonlyargs:=[],args:=[],vararg:=none,kwonlyargs:=[],kw_defaults:=[],kwarg:=none,defaults:=[]}
def aq (s:Stmt):List Stmt:=match s with
 | .FunctionDef _ _ b _ _ _ _ _ _ _=>b
 | _=>[]
def aa (s:Stmt):Scope:=match s with
 | .FunctionDef _ _ _ _ _ _ sc _ _ _=>sc
 | _=>{kind:=.function,names:=[],isGenerator:=false,isCoroutine:=false}
abbrev CX0:sY:=fun _ _ _ _ _ _=>False
abbrev E0:XK:=fun _ _ _=>False
structure lV (K:Frag)(x qual:Str)(st:Stmt)(f:Addr)(fd:FuncData):Prop where
 ex:∃(oc:Value) (od:ξ) (kV doc pm:Value) (an:ξ) (cdv ct:Value) (nj:τ),
  fd=fnOf x qual (ar st) (aq st) (aa st) .none kV doc pm an cdv ct/\K.lookup f=some ⟨oc,od,.func fd,nj⟩/\codeIn K cdv qual=true
 kp:keepIn K (.ref f)=true
section
variable {P:Program}{w:World}{K:Frag}{mg:ε}{base:Heap}
theorem lV.binds {x qual:Str}{st:Stmt}{f:Addr}{fd:FuncData}{ps:ζ}(F:lV K x qual st f fd)
  (h:∀(kV doc pm:Value) (an:ξ) (cdv ct:Value) (us:θ),us.length=ps.length->bindArgs (fnOf x qual (ar st) (aq st) (aa st) .none kV doc pm an cdv ct) ⟨us,[]⟩=pure (ps.zip us)):Binds K fd ps []:=by
 obtain ⟨oc,od,kV,doc,pm,an,cdv,ct,nj,rfl,lk,pj⟩:=F.ex
 exact .all (h kV doc pm an cdv ct)
theorem bV {x qual:Str}{st:Stmt}{f:Addr}{oc:Value}{od an:ξ}{nj:τ}{kV doc pm cdv ct:Value}(l:K.lookup f=some ⟨oc,od,.func (fnOf x qual (ar st) (aq st) (aa st) .none kV doc pm an cdv ct),nj⟩)
  (c:codeIn K cdv qual=true) (k:keepIn K (.ref f)=true):lV K x qual st f (fnOf x qual (ar st) (aq st) (aa st) .none kV doc pm an cdv ct):=⟨⟨oc,od,kV,doc,pm,an,cdv,ct,nj,rfl,l,c⟩,k⟩
end
theorem iJ {A:Around}{k:Nat}(hr:cF k A):A.units+1 < cLine:=abF (Nat.add_le_add_left (by decide:1<=64) _) hr.units
section
variable {X:Cx}
theorem pv (i:Nat){x:Str}{pos:Pos}(hN:X.N[i]? =some x:=by rfl)(hv:Vis X.env.scope x:=by first | exact aq_ rfl | exact aol (aq_ rfl) | exact aol (aol rfl))(hd:(x==("__debug__":Str))=false:=by decide)
  (pj:(x==("__classdict__":Str))=false:=by decide):PE X (.Name x pos) (aif i):=aih hN hv hd pj
end
theorem cM {A B:Prop}(h:B):if false=true then A else B:=by
 rw [if_neg abr]
 exact h
theorem fw {A B:Prop}(h:A):if true=true then A else B:=by
 rw [if_pos rfl]
 exact h
theorem aI {c A B:Prop}[Decidable c](h1:c->A)(h2:¬ c->B):if c then A else B:=by
 by_cases h:c
 ·rw [if_pos h]
  exact h1 h
 ·rw [if_neg h]
  exact h2 h
theorem am2 {c A B:Prop}[Decidable c](hc:c)(h:B):if (!decide c)=true then A else B:=by
 rw [decide_eq_true hc]
 exact cM h
def az (H H' :Hp):Prop:=∀b o,H b=some o->H' b=some o
theorem az.refl (H:Hp):az H H:=fun _ _ h=>h
theorem az.trans {H H1 H2:Hp}(a:az H H1)(b:az H1 H2):az H H2:=fun c o h=>b c o (a c o h)
theorem az.free {H H' :Hp}(e:az H H'){l:Addr}(h:H' l=atd):H l=atd:=by
 cases q:H l with
 | none=>rfl
 | some o=>
  rw [e l o q] at h
  cases h
theorem az.seq {K:Frag}{H H' :Hp}{a:Addr}{xs:η}(e:az H H')(h:bq K H a xs):bq K H' a xs:=by
 rcases h with (h | ⟨o,h⟩) | h
 ·exact .inl (.inl (e _ _ h))
 ·exact .inl (.inr ⟨o,e _ _ h⟩)
 ·exact .inr h
end L2
namespace Ty
def gz (t b:Int):Int:=(af1 t b:Nat)
def sg (t b:Int):Int:=if b < 0 then -gz t b else gz t b
def low (t b:Int):Int×Int:=(t.fdiv (sg t b),b.fdiv (sg t b))
theorem Yh (a b:Int):af1 b (a.fmod b)=af1 a b:=by
 rw [anE,Int.gcd_sub_mul_left_right,Int.gcd_comm]
theorem UD {a b:Int}(h:b≠0):(a.fmod b).natAbs < b.natAbs:=by
 rcases anJ b 0 with q | q | q
 ·have h1:(-a).fmod (-b)= -(a.fmod b):=by
   rw [anE,anE,Int.neg_fdiv_neg,Int.neg_mul]
   omega
  have h2:=ajC (-a) (show 0 < -b by omega)
  have h3:=alK (-a) (show 0 < -b by omega)
  omega
 ·exact absurd q h
 ·have h2:=ajC a q
  have h3:=alK a q
  omega
theorem Yi {t b:Int}(h:b≠0):0 < gz t b:=by
 have:=aoI.mpr (aol h:t≠0\/b≠0)
 show (0:Int) < ((af1 t b:Nat):Int)
 omega
theorem BI {t b:Int}(h:b≠0):sg t b≠0:=by
 have:=Yi (t:=t) h
 unfold sg
 split <;> omega
theorem aiy {t b:Int}:(sg t b).natAbs=(gz t b).natAbs:=by
 unfold sg
 split
 ·exact asc _
 ·rfl
theorem LA (t b:Int):sg t b ∣ t:=by
 unfold sg gz
 split
 ·exact Int.neg_dvd.mpr (aom t b)
 ·exact aom t b
theorem DU (t b:Int):sg t b ∣ b:=by
 unfold sg gz
 split
 ·exact Int.neg_dvd.mpr (anL t b)
 ·exact anL t b
theorem uT {a g:Int}(h:g≠0)(d:g ∣ a):a=g*a.fdiv g:=by
 obtain ⟨c,hc⟩:=d
 have:=aid h hc
 rw [this]
 exact hc
theorem wz {t b:Int}(h:b≠0):t=sg t b*(low t b).1:=uT (BI h) (LA t b)
theorem qP {t b:Int}(h:b≠0):b=sg t b*(low t b).2:=uT (BI h) (DU t b)
theorem qQ {t b:Int}(h:b≠0):0 < (low t b).2:=by
 have e:=qP (t:=t) h
 have g:=Yi (t:=t) h
 rcases anJ (low t b).2 0 with q | q | q
 ·exfalso
  by_cases c:b < 0
  ·have s:sg t b= -gz t b:=by unfold sg;rw [if_pos c]
   rw [s] at e
   have:=Int.mul_pos_of_neg_of_neg (show -gz t b < 0 by omega) q
   omega
  ·have s:sg t b=gz t b:=by unfold sg;rw [if_neg c]
   rw [s] at e
   have:=Int.mul_neg_of_pos_of_neg g q
   omega
 ·exfalso
  rw [q,Int.mul_zero] at e
  exact h e
 ·exact q
theorem UE {t b:Int}(h:b≠0):(low t b).1*b=t*(low t b).2:=by
 have e1:=wz (t:=t) h
 have e2:=qP (t:=t) h
 calc (low t b).1*b=(low t b).1*(sg t b*(low t b).2):=by rw [<- e2]
  _=sg t b*(low t b).1*(low t b).2:=by rw [<- anz,amF (low t b).1]
  _=t*(low t b).2:=by rw [<- e1]
theorem wA {t b:Int}(h:b≠0):af1 (low t b).1 (low t b).2=1:=by
 have e1:=wz (t:=t) h
 have e2:=qP (t:=t) h
 have k:af1 t b=(sg t b).natAbs*af1 (low t b).1 (low t b).2:=by
  have q:=aon (sg t b) (low t b).1 (low t b).2
  rw [<- e1, <- e2] at q
  exact q
 have g:(sg t b).natAbs=af1 t b:=by
  rw [aiy]
  rfl
 have p:=aoI.mpr (aol h:t≠0\/b≠0)
 rw [g] at k
 have k' :af1 t b*1=af1 t b*af1 (low t b).1 (low t b).2:=by rw [Nat.mul_one];exact k
 exact (Nat.eq_of_mul_eq_mul_left p k').symm
theorem oB {g a:Int}(h:g≠0):a.natAbs<=(g*a).natAbs:=by
 rw [Int.natAbs_mul]
 have:1<=g.natAbs:=by omega
 have:=agI a.natAbs this
 omega
theorem xv {t b:Int}(h:b≠0):(low t b).1.natAbs<=t.natAbs:=by
 have e:=wz (t:=t) h
 have:=oB (g:=sg t b) (a:=(low t b).1) (BI h)
 rw [<- e] at this
 exact this
theorem xw {t b:Int}(h:b≠0):(low t b).2.natAbs<=b.natAbs:=by
 have e:=qP (t:=t) h
 have:=oB (g:=sg t b) (a:=(low t b).2) (BI h)
 rw [<- e] at this
 exact this
theorem Yj {t b g x y:Int}(hg:g≠0)(ht:t=g*x)(hb:b=g*y)(hy:0 < y)(h1:af1 x y=1):low t b=(x,y):=by
 have hbn:b≠0:=by
  rw [hb]
  exact aoK hg (by omega)
 have gg:af1 t b=g.natAbs:=by
  rw [ht,hb,aon,h1,Nat.mul_one]
 have s:sg t b=g:=by
  unfold sg gz
  rw [gg]
  by_cases c:g < 0
  ·have:b < 0:=by rw [hb];exact Int.mul_neg_of_neg_of_pos c hy
   rw [if_pos this]
   omega
  ·have:¬ b < 0:=by
    have:=Int.mul_nonneg (show 0<=g by omega) (show 0<=y by omega)
    omega
   rw [if_neg this]
   omega
 unfold low
 rw [s]
 rw [aid hg ht,aid hg hb]
theorem xy {x y:Int}(hy:0 < y)(h:af1 x y=1):low x y=(x,y):=Yj (g:=1) (by decide) (by omega) (by omega) hy h
theorem BJ {t b k:Int}(hk:k≠0)(h:b≠0):low (k*t) (k*b)=low t b:=by
 refine Yj (g:=k*sg t b) (aoK hk (BI h)) ?_ ?_ (qQ h) (wA h)
 ·rw [anz]
  exact congrArg (k*·) (wz h)
 ·rw [anz]
  exact congrArg (k*·) (qP h)
theorem zf {t b u c:Int}(hb:b≠0)(hc:c≠0)(h:t*c=u*b):low t b=low u c:=by
 rw [<- BJ (t:=t) (b:=b) hc hb, <- BJ (t:=u) (b:=c) hb hc]
 rw [amF c t,h,amF u b,amF c b]
end Ty
set_option maxHeartbeats 4000000
namespace Ty
open PySem PySem.Spec PyProof.Rows L2
open Builtin.Int (intBits)
section
variable {X:Cx}
def LB (i j:Int):Prop:=intBits i<=33554432/\intBits j<=33554432
theorem iL:mD X (binaryOp .Mult) (rI LB fun i j=>.int (i*j)):=
 opI fun _ _ _ _ _ _ _ hc q=>mul_int q (IntMulOk.of_le hc.1 hc.2 (by decide))
def Yk (i j:Int):Prop:=j≠0/\intBits j<=9000
theorem auc {i j:Int}(h:intBits j<=9000):Builtin.divisionGoesByPylong i j=false:=by
 refine PyProof.noPylong_of_log2 ?_
 have h1:=intBits_le_iff.mp h
 by_cases h0:j.natAbs=0
 ·rw [h0]
  decide+kernel
 ·exact (Nat.log2_lt h0).mpr h1
theorem bT:mD X (binaryOp .FloorDiv) (rI Yk fun i j=>.int (i.fdiv j)):=
 opI fun _ _ _ _ _ _ _ hc q=>floordiv_int hc.1 q (.inl (auc hc.2))
end
theorem Tc {k:Nat}{n:Int}(h:n.natAbs < 2^k):intBits n<=k:=intBits_le_iff.mpr h
inductive Da where
 | v (x:V)
 | t (ds:List Da)
 | l (ds:List Da)
mutual
def Is (K:Frag)(H:Hp):Da->V->Prop
 | .v x,u=>u=x/\j9 x=true
 | .t ds,u=>∃p xs,u=.ref p/\cT K H p xs/\mh K H ds xs
 | .l ds,u=>∃p xs,u=.ref p/\bq K H p xs/\mh K H ds xs
def mh (K:Frag)(H:Hp):List Da->List V->Prop
 | [],[]=>True
 | d::ds,x::xs=>Is K H d x/\mh K H ds xs
 | _,_=>False
end
mutual
def jE:Da->Da->Bool
 | .v x,.v y=>vI x y
 | .t ds,.t es=>gG ds es
 | .l ds,.l es=>gG ds es
 | _,_=>false
def gG:List Da->List Da->Bool
 | [],[]=>true
 | d::ds,e::es=>jE d e && gG ds es
 | _,_=>false
end
mutual
def alike:Da->Da->Bool
 | .v _,.v _=>true
 | .t ds,.t es=>gm ds es
 | .l ds,.l es=>gm ds es
 | _,_=>false
def gm:List Da->List Da->Bool
 | d::ds,e::es=>alike d e && gm ds es
 | _,_=>true
end
mutual
def dep:Da->Nat
 | .v _=>0
 | .t ds=>qR ds+1
 | .l ds=>qR ds+1
def qR:List Da->Nat
 | []=>0
 | d::ds=>max (dep d) (qR ds)
end
theorem mh.length {K:Frag}{H:Hp}:∀{ds:List Da} {xs:η},mh K H ds xs->ds.length=xs.length
 | [],[],_=>rfl
 | _::_,_::_,h=>congrArg (·+1) (mh.length (by unfold mh at h;exact h.2))
 | [],_::_,h=>by unfold mh at h;exact h.elim
 | _::_,[],h=>by unfold mh at h;exact h.elim
def mH (ds es:List Da)(j:Nat):Bool:=match ds[j]?,es[j]? with
 | some d,some e=>jE d e
 | _,_=>true
theorem eZ:∀ds es:List Da,gG ds es=((ai_ (min ds.length es.length)).all (mH ds es) && ds.length==es.length)
 | [],[]=>rfl
 | [],_::_=>by simp [gG]
 | _::_,[]=>by simp [gG]
 | d::ds,e::es=>by
  have ih:=eZ ds es
  have r:min (d::ds).length (e::es).length=min ds.length es.length+1:=by simp [Nat.succ_min_succ]
  rw [r,amH,ag_,alI]
  have b0:mH (d::ds) (e::es) 0=jE d e:=rfl
  have b1:(mH (d::ds) (e::es) ∘ Nat.succ)=mH ds es:=by
   funext j
   rfl
  have l1:((d::ds).length==(e::es).length)=(ds.length==es.length):=by simp
  rw [b0,b1,l1,Bool.and_assoc, <- ih]
  rfl
section
variable {X:Cx}{pins:δ}{σ:L2.St}{H:Hp}{s:Shared}
theorem Yl {x:V}(h:j9 x=true):vI x x=true:=by
 cases x <;> first | rfl | (simp [vI];done) | (cases h;done)
mutual
theorem DV (I:Inv X pins σ H s):∀(d e:Da) (x:V),Is X.K H d x->Is X.K H e x->alike d e=true->jE d e=true
 | .v a,.v b,x,h1,h2,_=>by
  unfold Is at h1 h2
  obtain ⟨rfl,f⟩:=h1
  obtain ⟨rfl,_⟩:=h2
  unfold jE
  exact Yl f
 | .t ds,.t es,x,h1,h2,a=>by
  unfold Is at h1 h2
  obtain ⟨p,xs,rfl,q1,k1⟩:=h1
  obtain ⟨p',ys,e',q2,k2⟩:=h2
  cases e'
  cases I.AV q1 q2
  unfold jE
  unfold alike at a
  exact xA I ds es xs k1 k2 a
 | .l ds,.l es,x,h1,h2,a=>by
  unfold Is at h1 h2
  obtain ⟨p,xs,rfl,q1,k1⟩:=h1
  obtain ⟨p',ys,e',q2,k2⟩:=h2
  cases e'
  cases I.mB q1 q2
  unfold jE
  unfold alike at a
  exact xA I ds es xs k1 k2 a
 | .v _,.t _,_,_,_,a=>by unfold alike at a;cases a
 | .v _,.l _,_,_,_,a=>by unfold alike at a;cases a
 | .t _,.v _,_,_,_,a=>by unfold alike at a;cases a
 | .t _,.l _,_,_,_,a=>by unfold alike at a;cases a
 | .l _,.v _,_,_,_,a=>by unfold alike at a;cases a
 | .l _,.t _,_,_,_,a=>by unfold alike at a;cases a
theorem xA (I:Inv X pins σ H s):∀(ds es:List Da) (xs:η),mh X.K H ds xs->mh X.K H es xs->gm ds es=true->gG ds es=true
 | [],[],_,_,_,_=>by unfold gG;rfl
 | d::ds,e::es,x::xs,h1,h2,a=>by
  unfold mh at h1 h2
  unfold gm at a
  rw [abA] at a
  unfold gG
  rw [DV I d e x h1.1 h2.1 a.1,xA I ds es xs h1.2 h2.2 a.2]
  rfl
 | [],_::_,[],_,h2,_=>by unfold mh at h2;exact h2.elim
 | [],_::_,_::_,h1,_,_=>by unfold mh at h1;exact h1.elim
 | _::_,[],[],h1,_,_=>by unfold mh at h1;exact h1.elim
 | _::_,[],_::_,_,h2,_=>by unfold mh at h2;exact h2.elim
 | _::_,_::_,[],h1,_,_=>by unfold mh at h1;exact h1.elim
end
theorem in1_units (A:Around):A.in1.units=A.units+1:=rfl
mutual
theorem adO (I:Inv X pins σ H s):∀(d e:Da) (x y:V) (u w:Value) (A:Around),Is X.K H d x->Is X.K H e y->alike d e=true->RelV x u->RelV y w->A.units+dep d < cLine->SeqAt.EqAt A s u w (jE d e)
 | .v a,.v b,x,y,u,w,A,h1,h2,_,r1,r2,_=>by
  unfold Is at h1 h2
  obtain ⟨rfl,f1⟩:=h1
  obtain ⟨rfl,f2⟩:=h2
  unfold jE
  exact Yd r1 r2 f1 f2
 | .t ds,.t es,x,y,u,w,A,h1,h2,a,r1,r2,hu=>by
  have pD :=h1
  have h2' :=h2
  unfold Is at h1 h2
  obtain ⟨p,xs,rfl,q1,k1⟩:=h1
  obtain ⟨p',ys,rfl,q2,k2⟩:=h2
  cases r1
  cases r2
  by_cases e:p=p'
  ·subst e
   rw [DV I _ _ _ pD h2' a]
   exact .same _
  ·refine .of_refs e ?_
   obtain ⟨its,v1,t1,_⟩:=I.tuple q1
   obtain ⟨mG,v2,t2,_⟩:=I.tuple q2
   unfold jE
   rw [eZ,k1.length,k2.length,v1.length,v2.length]
   have z:=SeqAt.RcAt.tuples (A:=A) (e:=mH ds es) t1 t2 (by unfold dep at hu;omega) fun j g1 g2=>by
    unfold dep at hu
    unfold alike at a
    exact jb I ds es xs ys its mG A.in1 k1 k2 a v1 v2 (by rw [in1_units];omega) j (by simpa using g1) (by simpa using g2)
   simpa using z
 | .l ds,.l es,x,y,u,w,A,h1,h2,a,r1,r2,hu=>by
  have pD :=h1
  have h2' :=h2
  unfold Is at h1 h2
  obtain ⟨p,xs,rfl,q1,k1⟩:=h1
  obtain ⟨p',ys,rfl,q2,k2⟩:=h2
  cases r1
  cases r2
  by_cases e:p=p'
  ·subst e
   rw [DV I _ _ _ pD h2' a]
   exact .same _
  ·refine .of_refs e ?_
   obtain ⟨its,v1,t1,_⟩:=I.list q1
   obtain ⟨mG,v2,t2,_⟩:=I.list q2
   unfold jE
   unfold dep at hu
   unfold alike at a
   by_cases el:its.length=mG.length
   ·rw [eZ,k1.length,k2.length,v1.length,v2.length]
    have z:=SeqAt.RcAt.lists (A:=A) (e:=mH ds es) t1.isList t2.isList (by simpa using el) (by omega) fun j g1 g2=>
     jb I ds es xs ys its mG A.in1 k1 k2 a v1 v2 (by rw [in1_units];omega) j (by simpa using g1) (by simpa using g2)
    rw [el,anN,beq_self_eq_true,aly]
    rw [aei,el] at z
    exact z
   ·have ne:gG ds es=false:=by
     rw [eZ,k1.length,k2.length,v1.length,v2.length,beq_eq_false_iff_ne.mpr el,alL]
    rw [ne]
    exact SeqAt.RcAt.lists_lengths t1.isList t2.isList (by simpa using el) (by omega)
 | .v _,.t _,_,_,_,_,_,_,_,a,_,_,_=>by unfold alike at a;cases a
 | .v _,.l _,_,_,_,_,_,_,_,a,_,_,_=>by unfold alike at a;cases a
 | .t _,.v _,_,_,_,_,_,_,_,a,_,_,_=>by unfold alike at a;cases a
 | .t _,.l _,_,_,_,_,_,_,_,a,_,_,_=>by unfold alike at a;cases a
 | .l _,.v _,_,_,_,_,_,_,_,a,_,_,_=>by unfold alike at a;cases a
 | .l _,.t _,_,_,_,_,_,_,_,a,_,_,_=>by unfold alike at a;cases a
theorem jb (I:Inv X pins σ H s):∀(ds es:List Da) (xs ys:η) (us ws:θ) (A:Around),mh X.K H ds xs->mh X.K H es ys->gm ds es=true->Vals xs us->Vals ys ws->A.units+qR ds < cLine->
  ∀(j:Nat) (h1:j < us.length) (h2:j < ws.length),SeqAt.EqAt A s us[j] ws[j] (mH ds es j)
 | d::ds,e::es,xs,ys,us,ws,A,k1,k2,a,v1,v2,hu,j,h1,h2=>by
  cases xs with
  | nil=>unfold mh at k1;exact k1.elim
  | cons x xs=>
   cases ys with
   | nil=>unfold mh at k2;exact k2.elim
   | cons y ys=>
    cases v1 with
    | cons r1 v1=>
     cases v2 with
     | cons r2 v2=>
      unfold mh at k1 k2
      unfold gm at a
      rw [abA] at a
      unfold qR at hu
      cases j with
      | zero=>exact adO I d e x y _ _ A k1.1 k2.1 a.1 r1 r2 (by omega)
      | succ j=>exact jb I ds es xs ys _ _ A k1.2 k2.2 a.2 v1 v2 (by omega) j (by simpa using h1) (by simpa using h2)
 | [],_,xs,_,us,_,_,k1,_,_,v1,_,_,_,h1,_=>by
  cases xs with
  | nil=>
   cases v1
   exact absurd h1 (aoQ _)
  | cons x xs=>unfold mh at k1;exact k1.elim
 | _::_,[],_,ys,_,ws,_,_,k2,_,_,v2,_,_,_,h2=>by
  cases ys with
  | nil=>
   cases v2
   exact absurd h2 (aoQ _)
  | cons y ys=>unfold mh at k2;exact k2.elim
end
end
section
variable {X:Cx}
inductive agb (K:Frag)(x:V)(y:V)(H:Hp)(Q:VK):Prop where
 | mk (ds es:_) (_:((Is K H (.t ds) x/\Is K H (.t es) y)\/(Is K H (.l ds) x/\Is K H (.l es) y))) (_:gm ds es=true) (_:qR ds<=60) (_:Q (.bl (gG ds es)) H):agb K x y H Q
inductive agc (K:Frag)(x:V)(y:V)(H:Hp)(Q:VK):Prop where
 | mk (ds es:_) (_:((Is K H (.t ds) x/\Is K H (.t es) y)\/(Is K H (.l ds) x/\Is K H (.l es) y))) (_:gm ds es=true) (_:qR ds<=60) (_:Q (.bl (!gG ds es)) H):agc K x y H Q
theorem wB (hu:X.A.units+64 < cLine):mD X (compareOp .Eq) (agb X.K):=by
 intro pins s σ H x y v u Q I rx ry h
 obtain ⟨ds,es,h,a,hd,q⟩:=h
 rcases h with ⟨h1,h2⟩ | ⟨h1,h2⟩
 ·unfold Is at h1 h2
  obtain ⟨p,xs,rfl,q1,k1⟩:=h1
  obtain ⟨p',ys,rfl,q2,k2⟩:=h2
  cases rx
  cases ry
  obtain ⟨its,v1,t1,_⟩:=I.tuple q1
  obtain ⟨mG,v2,t2,_⟩:=I.tuple q2
  have z:=SeqAt.RcAt.tuples (A:=X.A) (e:=mH ds es) t1 t2 (by omega) fun j g1 g2=>
   jb I ds es xs ys its mG X.A.in1 k1 k2 a v1 v2 (by rw [in1_units];omega) j (by simpa using g1) (by simpa using g2)
  refine z X.prog X.w X.xe _ ⟨.bl _,H,I,rfl,?_⟩
  have e:=eZ ds es
  rw [k1.length,k2.length,v1.length,v2.length] at e
  simpa [e] using q
 ·unfold Is at h1 h2
  obtain ⟨p,xs,rfl,q1,k1⟩:=h1
  obtain ⟨p',ys,rfl,q2,k2⟩:=h2
  cases rx
  cases ry
  obtain ⟨its,v1,t1,_⟩:=I.list q1
  obtain ⟨mG,v2,t2,_⟩:=I.list q2
  have e:=eZ ds es
  rw [k1.length,k2.length,v1.length,v2.length] at e
  by_cases el:its.length=mG.length
  ·have z:=SeqAt.RcAt.lists (A:=X.A) (e:=mH ds es) t1.isList t2.isList (by simpa using el) (by omega) fun j g1 g2=>
    jb I ds es xs ys its mG X.A.in1 k1 k2 a v1 v2 (by rw [in1_units];omega) j (by simpa using g1) (by simpa using g2)
   refine z X.prog X.w X.xe _ ⟨.bl _,H,I,rfl,?_⟩
   rw [el,anN,beq_self_eq_true,aly] at e
   simpa [e,el] using q
  ·have ne:gG ds es=false:=by rw [e,beq_eq_false_iff_ne.mpr el,alL]
   rw [ne] at q
   exact SeqAt.RcAt.lists_lengths t1.isList t2.isList (by simpa using el) (by omega) X.prog X.w X.xe _ ⟨.bl _,H,I,rfl,q⟩
theorem Td (hu:X.A.units+64 < cLine):mD X (compareOp .NotEq) (agc X.K):=by
 intro pins s σ H x y v u Q I rx ry h
 obtain ⟨ds,es,h,a,hd,q⟩:=h
 rcases h with ⟨h1,h2⟩ | ⟨h1,h2⟩
 ·unfold Is at h1 h2
  obtain ⟨p,xs,rfl,q1,k1⟩:=h1
  obtain ⟨p',ys,rfl,q2,k2⟩:=h2
  cases rx
  cases ry
  obtain ⟨its,v1,t1,_⟩:=I.tuple q1
  obtain ⟨mG,v2,t2,_⟩:=I.tuple q2
  have z:=SeqAt.RcNeAt.tuples (A:=X.A) (e:=mH ds es) t1 t2 (by omega) fun j g1 g2=>
   jb I ds es xs ys its mG X.A.in1 k1 k2 a v1 v2 (by rw [in1_units];omega) j (by simpa using g1) (by simpa using g2)
  refine z X.prog X.w X.xe _ ⟨.bl _,H,I,rfl,?_⟩
  have e:=eZ ds es
  rw [k1.length,k2.length,v1.length,v2.length] at e
  simpa [e] using q
 ·unfold Is at h1 h2
  obtain ⟨p,xs,rfl,q1,k1⟩:=h1
  obtain ⟨p',ys,rfl,q2,k2⟩:=h2
  cases rx
  cases ry
  obtain ⟨its,v1,t1,_⟩:=I.list q1
  obtain ⟨mG,v2,t2,_⟩:=I.list q2
  have e:=eZ ds es
  rw [k1.length,k2.length,v1.length,v2.length] at e
  by_cases el:its.length=mG.length
  ·have z:=SeqAt.RcNeAt.lists (A:=X.A) (e:=mH ds es) t1.isList t2.isList (by simpa using el) (by omega) fun j g1 g2=>
    jb I ds es xs ys its mG X.A.in1 k1 k2 a v1 v2 (by rw [in1_units];omega) j (by simpa using g1) (by simpa using g2)
   refine z X.prog X.w X.xe _ ⟨.bl _,H,I,rfl,?_⟩
   rw [el,anN,beq_self_eq_true,aly] at e
   simpa [e,el] using q
  ·have ne:gG ds es=false:=by rw [e,beq_eq_false_iff_ne.mpr el,alL]
   rw [ne] at q
   exact SeqAt.RcNeAt.lists_lengths t1.isList t2.isList (by simpa using el) (by omega) X.prog X.w X.xe _ ⟨.bl _,H,I,rfl,q⟩
def adP:V->Value
 | .ty n=>.type n
 | .ref a=>.ref a
 | _=>.none
def Ym:V->Bool
 | .ty _=>true
 | .ref _=>true
 | _=>false
theorem Te {c:V}{u:Value}(h:Ym c=true)(r:RelV c u):u=adP c:=by
 cases c <;> first | exact r | (cases h;done)
inductive am3 (K:Frag)(xs:η)(H:Hp)(Q:VK):Prop where
 | mk (x c t b:_) (_:xs=[x,c]) (_:Ym c=true) (_:qI K H x t) (_:PySem.W.kitOne K t (adP c)=some b) (_:Q (.bl b) H):am3 K xs H Q
theorem gP:i9 X (.builtin "isinstance") (am3 X.K):=by
 intro pins s σ H xs us Q I r h
 obtain ⟨x,c,t,b,rfl,hc,ty,e,q⟩:=h
 obtain ⟨u,w,rfl,r1,r2⟩:=vals2 r
 obtain rfl:=Te hc r2
 exact Ux I r1 ty e fun tk=>⟨.bl b,H,I.tok tk,rfl,q⟩
end
section
variable {K:Frag}
theorem e_ {a b:String}{v:Bool}(h:((Value.type a==Value.type b)=true->v=true)/\((Value.type a==Value.type b)=false->PySem.W.kitMeta b=true/\(fastBuiltinMro a).map (·.contains (Value.type b))=some v)):PySem.W.kitOne K (.type a) (.type b)=some v:=by
 unfold PySem.W.kitOne
 by_cases e:(Value.type a==Value.type b)=true
 ·rw [if_pos e,h.1 e]
 ·rw [if_neg e]
  obtain ⟨h1,h2⟩:=h.2 (by simpa using e)
  unfold PySem.W.kitCls
  dsimp only
  rw [if_pos h1]
  exact h2
end
theorem g_:bootBuiltins "len"=some (.builtin "len"):=by decide+kernel
theorem am4:bootBuiltins "abs"=some (.builtin "abs"):=by decide+kernel
theorem aY:bootBuiltins "isinstance"=some (.builtin "isinstance"):=by decide+kernel
theorem Yn:bootBuiltins "all"=some (.builtin "all"):=by decide+kernel
theorem LD:bootBuiltins "int"=some (.type "int"):=by decide+kernel
theorem Qu:bootBuiltins "bool"=some (.type "bool"):=by decide+kernel
theorem xB:bootBuiltins "str"=some (.type "str"):=by decide+kernel
theorem Yo:bootBuiltins "list"=some (.type "list"):=by decide+kernel
theorem DW:bootBuiltins "ValueError"=some (.type "ValueError"):=by decide+kernel
theorem oE {X:Cx}{x:Str}{n:String}{pos:Pos}(hg:Gl X x)(hm:X.mg x=none)(hv:bootBuiltins x=some (.type n))(hn:x≠ "__name__":=by decide)(hd:(x==("__debug__":Str))=false:=by decide):PE X (.Name x pos) (tC (.ty n)):=adw (v:=.ty n) hg hm hv rfl hn hd
def aiz (_ j:Int):Prop:=j≠0
theorem nz {i j:Int}(h:j≠0):aiz i j:=h
theorem aS {X:Cx}:mD X (binaryOp .Mod) (rI aiz fun i j=>.int (i.fmod j)):=adC
end Ty
set_option maxHeartbeats 4000000
namespace TyAtt
open PySem PySem.W PySem.Calls PyProof.Rows
open Builtin.Int (intBits)
theorem UG {ns:List Int}{n:Int}(h:(WData.list (ns.map WData.int)).layable=true)(hn:n∈ns):intBits n<=1048576:=by
 obtain ⟨_,_,hw⟩:=layableW_iff.mp h
 have a:∀(l:List Int),n∈l->intBits n<=WData.weightAll (l.map WData.int):=by
  intro l
  induction l with
  | nil=>intro q;cases q
  | cons y r ih=>
   intro q
   rw [adA]
   unfold WData.weightAll
   rcases aby.mp q with z | z
   ·subst z
    have:intBits n<=WData.weight (.int n):=by
     unfold WData.weight
     exact abt _
    omega
   ·have:=ih z
    omega
 have b:=a ns hn
 unfold WData.weight at hw
 omega
theorem LF {l:OpenLaw}{n:Nat}{q:Program}{loose:ζ}{XP:(Str->Option Value)->Heap->Prop}{YP:World->Heap->Prop}{d:DefRec}
  (hn:l.most=some n) (hdf:d.params.defaults=[])
  (call:∀(w:World) (s₀ s₁:Shared) (mg mb:ε) (fa:Addr) (o:Obj) (pm cd doc:Value) (a:Addr) (vs:θ) (ns:List Int),
   Ground q loose [] XP w s₀ mg mb s₁.heap->YP w s₁.heap->
   s₁.heap.get? fa=some o->o.data=.func (docDef d.name d.params d.body d.scope pm cd doc)->s₁.heap.CodeRec cd d.name->mg d.name=some (.ref fa)->
   s₁.heap.get? a=some {cls:=.type "list",data:=.seq vs.toArray}->IntsAre vs ns->ns.length<=n->(∀i∈ns,intBits i<=1048576)->s₁.gens= #[]->
   codeAny (model l.prog w) callerA (.call (.ref fa) ⟨[.ref a],[]⟩) (fun r s' =>r=.ok (.ret (.bool true))/\OldK s₁.heap s'.heap/\s'.os=s₁.os/\AllBare s'.gens) s₁):
  WalkO q loose XP YP l.row.toRowW d [] (fun f vs=>PySem.call f vs):=by
 intro w s₀ s₁ mg mb G Y fa o pm cd doc dV kV ho hd pj hD hmg hg args vals as adM hlay hrd hwl hlo
 obtain rfl:dV=.none:=Dflts.none hD hdf
 obtain rfl:kV=.none:=Dflts.noKw hD
 obtain ⟨a,vs,ns,rfl,rfl,aiA,hints,hlen⟩:=Att.UA hn adM hwl
 have hb:∀i∈ns,intBits i<=1048576:=fun i hi=>UG (layW_cons hlay).1 hi
 refine enter_call (codeAny_mono (call w s₀ s₁ mg mb fa o pm cd doc a vs ns G Y ho (fd_plain hd) pj hmg aiA hints hlen hb hg) fun r s' hq=>?_)
 obtain ⟨rfl,h2,h3,h4⟩:=hq
 exact ⟨.inl ⟨.bool true,.bool true,[],rfl,fun _=>rfl,.bool true,Att.UB l _,fun _=>⟨List.Pairwise.nil,fun _ hm=>(nomatch hm)⟩⟩,h2,h3,h4⟩
end TyAtt
namespace Ty
open PySem PySem.Spec PyProof.Rows L2
open Builtin.Int (intBits)
structure Fn (P:Program)(w:World)(K:Frag)(mg:ε)(base:Heap)(CX:sY)(k:Nat)(x:Str)(ps:ζ)(sp:Sp):Prop where
 ex:∃(f:Addr) (fd:FuncData),bH P w K mg base CX k f fd ps sp/\Binds K fd ps []/\mg x=some (.ref f)/\keepIn K (.ref f)=true
structure Def (K:Frag)(mg:ε)(x:Str)(st:Stmt)(ps:ζ):Prop where
 ex:∃(f:Addr) (dV oc:Value) (od:ξ) (kV doc pm:Value) (an:ξ) (cdv ct:Value) (nj:τ),
  K.lookup f=some ⟨oc,od,.func (fnOf x x (ar st) (aq st) (aa st) dV kV doc pm an cdv ct),nj⟩/\codeIn K cdv x=true/\keepIn K (.ref f)=true/\
  Binds K (fnOf x x (ar st) (aq st) (aa st) dV kV doc pm an cdv ct) ps []/\mg x=some (.ref f)
theorem Def.of {K:Frag}{mg:ε}{x:Str}{st:Stmt}{ps:ζ}{f:Addr}{fd:FuncData}(F:lV K x x st f fd)(b:Binds K fd ps [])(m:mg x=some (.ref f)):Def K mg x st ps:=by
 obtain ⟨oc,od,kV,doc,pm,an,cdv,ct,nj,rfl,lk,pj⟩:=F.ex
 exact ⟨f,.none,oc,od,kV,doc,pm,an,cdv,ct,nj,lk,pj,F.kp,b,m⟩
structure adQ (K:Frag)(mg:ε)(x:Str)(st:Stmt)(ps:ζ)(ds:θ):Prop where
 ex:∃(f:Addr) (dV oc:Value) (od:ξ) (kV doc pm:Value) (an:ξ) (cdv ct:Value) (nj:τ),
  K.lookup f=some ⟨oc,od,.func (fnOf x x (ar st) (aq st) (aa st) dV kV doc pm an cdv ct),nj⟩/\codeIn K cdv x=true/\keepIn K (.ref f)=true/\
  Binds K (fnOf x x (ar st) (aq st) (aa st) dV kV doc pm an cdv ct) ps []/\Binds K (fnOf x x (ar st) (aq st) (aa st) dV kV doc pm an cdv ct) ps ds/\mg x=some (.ref f)
section
variable {P:Program}{w:World}{K:Frag}{mg:ε}{base:Heap}{CX:sY}
theorem Def.ok {x:Str}{st:Stmt}{N ps:ζ}{k:Nat}{sp:Sp}(D:Def K mg x st ps)(S:av N ps (aa st))(len:∀vs H Q E,sp vs H Q E->vs.length=ps.length)
  (dP:∀(f:Addr) (cdv:Value) (A:Around) (outer:List Env) (s:Shared) (H:Hp) (vs:η) (Q:VK) (E:XK),cF k (A.deeper (envOfC x (aa st) s.heap.objs.size f cdv))->sp vs H Q E->
   ∃t,PSs (fu CX P w K mg base N x (aa st) f cdv A outer s H E).pq (aq st) t/\t {nx:=fun _ H' =>Q .bN H',rt:=Q} (start N vs) H):Fn P w K mg base CX (k+1) x ps sp:=by
 obtain ⟨f,dV,oc,od,kV,doc,pm,an,cdv,ct,nj,lk,pj,kp,b,m⟩:=D.ex
 refine ⟨f,_,xu lk pj S len fun A outer s H vs Q E hr vH=>?_,b,m,kp⟩
 obtain ⟨t,h,q⟩:=dP f cdv A outer s H vs Q E hr vH
 exact ⟨t,h.pq,q⟩
theorem _root_.L2.lV.okG {x:Str}{st:Stmt}{f:Addr}{fd:FuncData}{N ps:ζ}{k:Nat}{sp:Sp}(F:lV K x x st f fd)(S:av N ps (aa st))(len:∀vs H Q E,sp vs H Q E->vs.length=ps.length)
  (dP:∀(cdv:Value) (A:Around) (outer:List Env) (s:Shared) (H:Hp) (vs:η) (Q:VK) (E:XK),cF k (A.deeper (envOfC x (aa st) s.heap.objs.size f cdv))->sp vs H Q E->
   ∃t,PSs (fu CX P w K mg base N x (aa st) f cdv A outer s H E).pq (aq st) t/\t {nx:=fun _ H' =>Q .bN H',rt:=Q} (start N vs) H):bH P w K mg base CX (k+1) f fd ps sp:=by
 obtain ⟨oc,od,kV,doc,pm,an,cdv,ct,nj,rfl,lk,pj⟩:=F.ex
 refine xu lk pj S len fun A outer s H vs Q E hr vH=>?_
 obtain ⟨t,h,q⟩:=dP cdv A outer s H vs Q E hr vH
 exact ⟨t,h.pq,q⟩
def j_ (CX:sY):Prop:=∀outer H s e s',CX outer H s E0 e s' ->False
theorem gQ {X:Cx}(h:j_ CX):Passes CX X.pq E0:=fun _ _ _ _ _ _ _ q=>(h _ _ _ _ _ q).elim
section
variable {X:Cx}{k:Nat}{ps:ζ}{sp:Sp}{E:XK}{x:Str}{p pos:Pos}{e:Expr}{es:ο}{t:TA}
theorem aR (F:Fn X.prog X.w X.K X.mg X.base CX k x ps sp)(hr:cF k X.A)(hx:Passes CX X E)(ha:PA X (e::es) t)(hg:Gl X x:=by rfl)(vG:(x==("__debug__":Str))=false:=by decide)
  (he:starEach (e::es) X.env=(false,eval e X.env)::starEach es X.env:=by rfl) (wx:(backTo pos (starEach es X.env)).any (·.1)=false:=by rfl):PE X (.Call (.Name x p) (e::es) [] pos) (KU sp [] E t):=by
 obtain ⟨f,fd,G,b,m,kp⟩:=F.ex
 exact adG G hr hg m kp b .nil hx ha vG he wx
structure FnD (P:Program)(w:World)(K:Frag)(mg:ε)(base:Heap)(CX:sY)(k:Nat)(x:Str)(ps:ζ)(ds:θ)(sp:Sp):Prop where
 ex:∃(f:Addr) (fd:FuncData),bH P w K mg base CX k f fd ps sp/\Binds K fd ps ds/\mg x=some (.ref f)/\keepIn K (.ref f)=true
end
end
def Yp (K:Frag):Sp:=fun vs H Q _=>∃(a:Addr) (ns:List Int),vs=[.ref a]/\bq K H a (ns.map V.int)/\ns.length<=63/\(∀i∈ns,intBits i<=1048576)/\∀H',Q (.bl true) H'
theorem walk {l:PySem.W.OpenLaw}{q:Program}{loose:ζ}{XP:(Str->Option Value)->Heap->Prop}{YP:World->Heap->Prop}{d:DefRec}{K:Params->Frag}{CX:World->sY}{x:Str}{k:Nat}
  (hn:l.most=some 63) (hdf:d.params.defaults=[]) (hi:importsNone q=true) (hr:cF k callerA)
  (hY:∀(w:World) (h:Heap),YP w h->(K w.params).In h) (hm:∀w,j_ (CX w))
  (F:∀(w:World) (mg:ε) (fa:Addr) (h:Heap),(K w.params).In h->h.Ns mainGlobals mg->mg d.name=some (.ref fa)->
   ∃fd:FuncData,(∀(s:Shared) (u:Value),BindsTo s fd ⟨[u],[]⟩ [(x,u)])/\
    ∀base:Heap,(K w.params).In base->base.Ns mainGlobals mg->bH l.prog w (K w.params) mg base (CX w) k fa fd [x] (Yp (K w.params))):
  PySem.W.WalkO q loose XP YP l.row.toRowW d [] (fun f vs=>PySem.call f vs):=by
 refine TyAtt.LF hn hdf fun w s₀ s₁ mg mb fa o pm cd doc a vs ns G Y ho hd pj hmg aiA hints hlen hb hg=>?_
 have KX:=hY w _ Y
 obtain ⟨fd,hbd,hF⟩:=F w mg fa _ KX G.T.g hmg
 exact Yg KX G.T.g G.T.b G.T.builtins G.T.nolimit (G.T.seer hi) hg aiA hints (ir hlen (by decide)) hr hF hbd (fun H hO hS=>⟨a,ns,rfl,hS,hlen,hb,fun _=>rfl⟩) fun H e s' =>hm w [] H s₁ e s'
end Ty
set_option maxHeartbeats 4000000
namespace Ty
open PySem PySem.Spec PyProof.Rows
def qS (o:Obj):Option Value:=match o.data with
 | .fields vs=>vs[2]?
 | _=>none
theorem LG {o:Obj}{vs:Μ}(h:o.data=.fields vs):qS o=vs[2]? :=by unfold qS;rw [h]
def KD (h h' :Heap):Prop:=∀b o,h.get? b=some o->∃o',h'.get? b=some o' /\o'.dict=o.dict/\qS o' =qS o
theorem KD.refl {h:Heap}:KD h h:=fun b o e=>⟨o,e,rfl,rfl⟩
theorem KD.trans {h1 h2 h3:Heap}(a:KD h1 h2)(b:KD h2 h3):KD h1 h3:=fun c o e=>by
 obtain ⟨o1,e1,d1,c1⟩:=a c o e
 obtain ⟨o2,e2,d2,c2⟩:=b c o1 e1
 exact ⟨o2,e2,d2.trans d1,c2.trans c1⟩
theorem KD.keeps {h h' :Heap}(k:∀b o,h.get? b=some o->h'.get? b=some o):KD h h' :=fun b o e=>⟨o,k b o e,rfl,rfl⟩
theorem BK {h:Heap}{a:Addr}{o:Obj}(e:h.get? a=some o):o.isFreed=false:=by
 unfold Heap.get? at e
 split at e
 ·cases e
 ·rename_i o' hn
  unfold Obj.isFreed
  split
  ·rename_i c d sl
   exact absurd e (hn c d sl)
  ·rfl
theorem KD.update {h:Heap}{a:Addr}{f:Obj->Obj}(hf:∀o,(f o).dict=o.dict/\(f o).isFreed=o.isFreed/\qS (f o)=qS o):KD h (h.update a f):=fun b o e=>by
 by_cases c:b=a
 ·subst c
  exact ⟨f o,Heap.get?_update_self f e ((hf o).2.1.trans (BK e)),(hf o).1,(hf o).2.2⟩
 ·exact ⟨o,(Heap.get?_update_other h f (fun z=>c z.symm)).trans e,rfl,rfl⟩
def Kp {α:Type}:Sem α->Prop
 | .pure _=>True
 | .raise _=>True
 | .unsupported _=>True
 | .finish _=>True
 | .rule _ k=>Kp (k ())
 | .at _ k=>Kp (k ())
 | .load _ _ k=>∀o,Kp (k o)
 | .update _ _ f k=>(∀o,(f o).dict=o.dict/\(f o).isFreed=o.isFreed/\qS (f o)=qS o)/\Kp (k ())
 | .alloc _ k=>∀a,Kp (k a)
 | .loadIfAlive _ k=>∀o,Kp (k o)
 | .point _ k=>Kp (k ())
 | .fresh k=>∀t,Kp (k t)
 | .ask k=>∀t,Kp (k t)
 | .handled _ k=>∀t,Kp (k t)
 | .stack k=>∀t,Kp (k t)
 | .thread k=>∀t,Kp (k t)
 | _=>False
theorem Kp.bind {α β:Type}:∀{m:Sem α} {f:α->Sem β},Kp m->(∀a,Kp (f a))->Kp (m.bind f):=by
 intro m f
 induction m with
 | pure a=>exact fun _ h=>h a
 | raise e=>exact fun _ _=>trivial
 | unsupported w=>exact fun _ _=>trivial
 | finish e=>exact fun _ _=>trivial
 | rule t k ih=>exact fun h hf=>ih () h hf
 | «at» p k ih=>exact fun h hf=>ih () h hf
 | load a p k ih=>exact fun h hf o=>ih o (h o) hf
 | update a p g k ih=>exact fun h hf=>⟨h.1,ih () h.2 hf⟩
 | alloc o k ih=>exact fun h hf a=>ih a (h a) hf
 | loadIfAlive a k ih=>exact fun h hf o=>ih o (h o) hf
 | point l k ih=>exact fun h hf=>ih () h hf
 | fresh k ih=>exact fun h hf o=>ih o (h o) hf
 | ask k ih=>exact fun h hf o=>ih o (h o) hf
 | handled o k ih=>exact fun h hf o=>ih o (h o) hf
 | stack k ih=>exact fun h hf o=>ih o (h o) hf
 | thread k ih=>exact fun h hf o=>ih o (h o) hf
 | _=>exact fun h=>h.elim
theorem Kp.wp {α:Type}{M:Model}{Γ:PySem.Ctx}:∀{t:Sem α} {P:α->Pos->Shared->Prop} {E:Value->Pos->Shared->Prop} {p:Pos} {s:Shared} {h0:Heap},Kp t->KD h0 s.heap->Sem.wp M Γ t P E p s->Sem.wp M Γ t (fun a p' s' =>P a p' s' /\KD h0 s'.heap) E p s:=by
 intro t
 induction t with
 | pure a=>exact fun _ kd h=>⟨h,kd⟩
 | raise e=>exact fun _ _ h=>h
 | unsupported w=>exact fun _ _ h=>h
 | finish e=>exact fun _ _ h=>h
 | rule t k ih=>exact fun hk kd h=>ih () hk kd h
 | «at» p k ih=>exact fun hk kd h=>ih () hk kd h
 | load a p k ih=>exact fun hk kd h=>by obtain ⟨o,e,h⟩:=h;exact ⟨o,e,ih o (hk o) kd h⟩
 | update a p g k ih=>exact fun hk kd h=>⟨h.1,ih () hk.2 (kd.trans (KD.update hk.1)) h.2⟩
 | alloc o k ih=>exact fun hk kd h=>ih _ (hk _) (kd.trans (KD.keeps fun b o e=>Heap.get?_push_of_some _ e)) h
 | loadIfAlive a k ih=>exact fun hk kd h=>ih _ (hk _) kd h
 | point l k ih=>exact fun hk kd h=>ih () hk kd h
 | fresh k ih=>exact fun hk kd h=>ih _ (hk _) kd h
 | ask k ih=>exact fun hk kd h=>ih _ (hk _) kd h
 | handled o k ih=>exact fun hk kd h=>ih _ (hk _) kd h
 | stack k ih=>exact fun hk kd h=>ih _ (hk _) kd h
 | thread k ih=>exact fun hk kd h=>ih _ (hk _) kd h
 | _=>exact fun hk=>hk.elim
theorem Kp.any {α:Type}{M:Model}{A:Around}{t:Sem α}{Q:α->Shared->Prop}{E:γ}{s:Shared}(k:Kp t)(h:wpAny M A t Q E s):wpAny M A t (fun a s' =>Q a s' /\KD s.heap s'.heap) E s:=
 fun Γ p hΓ=>Kp.wp k KD.refl (h Γ p hΓ)
theorem c8 {α:Type}{a:α}:Kp (pure a:Sem α):=trivial
theorem oH {α:Type}{w:String}:Kp (unsupported w:Sem α):=trivial
theorem bI {α β:Type}{m:Sem α}{f:α->Sem β}(h:Kp m)(hf:∀a,Kp (f a)):Kp (m >>=f):=Kp.bind h hf
theorem lh {α:Type}{c:Prop}[Decidable c]{a b:Sem α}(h1:Kp a)(h2:Kp b):Kp (if c then a else b):=by
 split
 ·exact h1
 ·exact h2
theorem DX {a:Addr}:Kp (load a):=fun _=>trivial
theorem xC:Kp stack:=fun _=>trivial
theorem jG {e x:Value}{i:Nat}(hi:i≠2:=by decide):Kp (setField e i x):=by
 unfold setField
 split
 ·unfold updateField
  refine bI DX fun o=>?_
  split
  ·refine lh ⟨fun o=>?_,trivial⟩ oH
   unfold Obj.mapFields
   split
   ·exact ⟨rfl,rfl,Array.getElem?_setIfInBounds_ne (ac_ (ac_ hi))⟩
   ·exact ⟨rfl,rfl,rfl⟩
  ·exact oH
 ·exact oH
theorem qT {e:Value}{i:Nat}:Kp (field e i):=by
 unfold field
 refine bI ?_ fun vs=>?_
 ·unfold fieldsOf
  split
  ·refine bI DX fun o=>?_
   split
   ·exact c8
   ·exact oH
  ·exact oH
 ·split
  ·exact c8
  ·exact oH
theorem lq {e:Value}{f:ξ}:Kp (setFlight e f):=by
 unfold setFlight
 exact bI qT fun tb=>lh jG c8
theorem UH {env:Env}{outer:List Env}:Kp (behindIsImport env outer):=by
 unfold behindIsImport
 exact lh c8 (lh c8 (bI qT fun _=>c8))
theorem LH {env:Env}{b:Bool}{outer:List Env}:Kp (keptBack env b outer):=by
 unfold keptBack
 split
 ·refine lh c8 (bI ?_ fun _=>c8)
  unfold underTheClaimsCaller
  exact bI xC fun _=>c8
 ·exact c8
theorem mI:∀l:List Env,Kp (readyFrames l)
 | []=>trivial
 | env::outer=>by
  rw [readyFrames.eq_2]
  split
  ·refine bI DX fun o=>lh c8 (bI UH fun _=>bI LH fun _=>bI ⟨fun o=>⟨rfl,?_,rfl⟩,trivial⟩ fun _=>mI outer)
   obtain ⟨c,d,dt,sl⟩:=o
   cases dt <;> rfl
  ·exact oH
theorem xD {env:Env}:Kp (PySem.frameOf env):=by
 unfold PySem.frameOf
 refine bI ?_ fun l=>bI ?_ fun o=>?_
 ·unfold frameEnvs
  exact bI xC fun _=>c8
 ·unfold frameObject
  split
  ·exact c8
  ·exact bI (mI _) fun _=>c8
 ·split
  ·exact c8
  ·exact oH
theorem lX {f:Addr}{b:Bool}:Kp (entryPlaceOf f b):=by
 unfold entryPlaceOf
 refine bI xC fun a=>?_
 dsimp only
 split <;> exact c8
theorem uU {a b c d e:Value}{l:θ}:Kp (EntryCells.newEntry a b c d e l):=by
 unfold EntryCells.newEntry newFields newObj
 dsimp only
 refine lh (bI oH fun _=>?_) ?_
 ·exact fun _=>trivial
 ·exact fun _=>trivial
theorem qU {e:Value}{env:Env}:Kp (noteFrame e env):=by
 unfold noteFrame
 split
 ·refine bI qT fun head=>lh (bI qT fun x=>lh c8 (bI jG fun _=>?_)) ?_
  ·exact bI xD fun _=>bI lX fun _=>bI uU fun _=>jG
  ·exact bI xD fun _=>bI lX fun _=>bI uU fun _=>jG
 ·exact oH
theorem pE {e:Value}{env:Env}:Kp (leaving env e):=by
 unfold leaving
 exact bI qU fun _=>lq
end Ty
set_option maxHeartbeats 4000000
namespace Ty
open PySem PySem.Spec PyProof.Rows L2
theorem Un.shrink {fs S2 ex:π}{H H' :Hp}{h h' :Heap}(u:Un S2 ex H H' h h')(hs:∀b o,h.get? b=some o->b∈S2 ->b∈fs):Un fs ex H H' h h' :=
 ⟨fun b o e n hb hx=>u.keep b o e n (fun z=>hb (hs b o e z)) hx,fun b o e n hb hx=>u.any e n hx,u.free,u.there,u.me,u.kR,u.mf⟩
theorem wD {l:List Env}{H H' :Hp}{h h1 h2 B:Heap}(u:Un (mx l) [] H H' h h1)(s1:B.StaysIn h1)(s2:B.StaysIn h2)(th:∀b o,h.get? b=some o->b∉mx l->∃o',B.get? b=some o')
  (ff:h1.FunFrames B l) (up:h1.UpToSlots h2):Un (mx l) [] H H' h h2:=by
 have inB:∀b o,h.get? b=some o->H b=none->b∉mx l->B.get? b=some o:=fun b o e n hb=>by
  obtain ⟨o',eB⟩:=th b o e hb
  have z:=u.keep b o e n hb (by simp)
  rw [s1 b o' eB] at z
  cases z
  exact eB
 refine ⟨fun b o e n hb _=>s2 b o (inB b o e n hb),fun b o e n hb _=>?_,fun b o e n _=>u.free b o e n (by simp),fun b o e _=>?_,u.me,u.kR,u.mf⟩
 ·obtain ⟨sl,e1⟩:=u.any e n (by simp)
  obtain ⟨_,o',e2,nf⟩:=ff.mem hb
  rw [e1] at e2
  cases e2
  obtain ⟨sl',e3⟩:=up b _ e1 nf
  exact ⟨sl',e3⟩
 ·by_cases hb:b∈mx l
  ·obtain ⟨_,o',e2,nf⟩:=ff.mem hb
   obtain ⟨sl',e3⟩:=up b _ e2 nf
   exact ⟨_,e3⟩
  ·obtain ⟨o',eB⟩:=th b o e hb
   exact ⟨o',s2 b o' eB⟩
theorem qV {P:Program}{w:World}{H' :Hp}{h1 h2 B:Heap}(ok:kQ P w H' h1)(s1:B.StaysIn h1)(s2:B.StaysIn h2)(tr:∀b u,H' b=some u->∃o,B.get? b=some o):kQ P w H' h2:=fun b u e=>
 (ok b u e).qF (fun c v hc q=>by
  obtain ⟨o,eB⟩:∃o,B.get? c=some o:=by
   rcases hc with z | z
   ·rw [z]
    exact tr b u e
   ·exact tr c _ z
  rw [s1 c o eB] at q
  cases q
  exact s2 c _ eB) (fun _ q=>q) fun _ _ q=>q
theorem obj_some {P:Program}{w:World}{H:Hp}{h:Heap}{a:Addr}{o:HO}(x:bL P w H h a o):∃ob,h.get? a=some ob:=by
 cases o with
 | lst xs=>obtain ⟨_,_,_,_,e⟩:=x;exact ⟨_,e⟩
 | tup xs=>obtain ⟨_,_,_,ob,e,_⟩:=x;exact ⟨ob,e⟩
 | dK kvs=>obtain ⟨_,_,_,_,ob,_,_,e,_⟩:=x;exact ⟨ob,e⟩
 | dT kvs=>obtain ⟨_,_,_,_,ob,_,_,e,_⟩:=x;exact ⟨ob,e⟩
 | set S n=>obtain ⟨ob,_,_,_,e,_⟩:=x;exact ⟨ob,e⟩
 | ins C dx fs=>obtain ⟨_,_,_,e,_⟩:=x;exact ⟨_,e⟩
 | own y=>exact (show ∃o,h.get? a=some o from x)
 | xd fs=>obtain ⟨_,⟨od,_,_,e,_⟩,_⟩:=x;exact ⟨od,e⟩
 | rng lo hi=>obtain ⟨_,_,_,e⟩:=x;exact ⟨_,e⟩
 | j8 ob u=>exact ⟨ob,x.1⟩
 | tbl ps=>exact ⟨_,x⟩
 | met f y=>exact ⟨_,x⟩
 | ext φ=>exact x.2.1
def DictAt (h:Heap)(a:Addr)(dx:ξ):Prop:=∃o,h.get? a=some o/\o.dict=dx/\qS o=some .none
theorem DictAt.kd {h h' :Heap}{a:Addr}{dx:ξ}(d:DictAt h a dx)(k:KD h h'):DictAt h' a dx:=by
 obtain ⟨o,e,d,c⟩:=d
 obtain ⟨o',e',d',c'⟩:=k a o e
 exact ⟨o',e',d'.trans d,c'.trans c⟩
def aV (P:Program)(w:World):sY:=fun outer H s E e s' =>∃(a:Addr) (cls a0:Value) (dx:ξ) (H' :Hp) (B:Heap),
 e=.ref a/\Heap.FlyingW B outer a cls a0 s'.heap/\DictAt s'.heap a dx/\Un (mx outer) [] H H' s.heap s'.heap/\kQ P w H' s'.heap/\s'.os=s.os/\AllBare s'.gens/\
 (∀b o,s.heap.get? b=some o->b∉mx outer->∃o',B.get? b=some o')/\(∀b u,H' b=some u->∃o,B.get? b=some o)/\E cls dx H'
theorem aV.zg {P:Program}{w:World}:j_ (aV P w):=fun _ _ _ _ _ ⟨_,_,_,_,_,_,_,_,_,_,_,_,_,_,_,z⟩=>z
section
variable {P:Program}{w:World}{K:Frag}{mg:ε}{base:Heap}{N:ζ}{qual:Str}{scope:Scope}{f:Addr}{cdv:Value}{A:Around}{outer:List Env}{s0:Shared}{H0:Hp}{E:XK}
abbrev gK (P:Program)(w:World)(K:Frag)(mg:ε)(base:Heap)(N:ζ)(qual:Str)(scope:Scope)(f:Addr)(cdv:Value)(A:Around)(outer:List Env)(s0:Shared)(H0:Hp)(E:XK):Cx:=fu (aV P w) P w K mg base N qual scope f cdv A outer s0 H0 E
theorem Qv {pins:δ}{σ:L2.St}{H H' :Hp}{s s' :Shared}{a:Addr}{cls a0:Value}{dx:ξ}{B h2:Heap}(I:Inv (gK P w K mg base N qual scope f cdv A outer s0 H0 E) pins σ H s)
  (fl:Heap.FlyingW B outer a cls a0 h2) (da:DictAt h2 a dx) (ff:s'.heap.FunFrames B (gK P w K mg base N qual scope f cdv A outer s0 H0 E).stack) (st:B.StaysIn s'.heap)
  (un:Un (mx (gK P w K mg base N qual scope f cdv A outer s0 H0 E).stack) [] H H' s.heap s'.heap) (ok:kQ P w H' s'.heap) (os:s'.os=s.os) (bare:AllBare s'.gens)
  (th:∀b o,s.heap.get? b=some o->b∉mx (gK P w K mg base N qual scope f cdv A outer s0 H0 E).stack->∃o',B.get? b=some o') (tr:∀b u,H' b=some u->∃o,B.get? b=some o) (up:s'.heap.UpToSlots h2) (hE:E cls dx H'):
  aV P w outer H0 s0 E (.ref a) {s' with heap:=h2}:=by
 have sh:∀b o,s0.heap.get? b=some o->b∈mx (gK P w K mg base N qual scope f cdv A outer s0 H0 E).stack->b∈mx outer:=fun b o e hb=>by
  rcases aby.mp (I.DH b hb) with z | z
  ·subst z
   exact absurd (abu (Heap.lt_size e) I.ok.above) (af3 _)
  ·exact z
 have un2:=wD un st fl.1 th ff up
 have ub:Un (mx (gK P w K mg base N qual scope f cdv A outer s0 H0 E).stack) [] H0 H s0.heap s.heap:=I.base.mono (fun b hb=>by
  obtain ⟨env,he,hf⟩:=af6.mp hb
  exact af6.mpr ⟨env,abz _ he,hf⟩) fun _ z=>z
 refine ⟨a,cls,a0,dx,H',B,rfl,fl,da,Un.shrink (ub.trans un2) sh,qV ok st fl.1 tr,os.trans I.os,bare,fun b o e hb=>?_,tr,hE⟩
 obtain ⟨o',e'⟩:=I.base.there b o e (fun z=>(nomatch (show b∈([]:List Addr) from z)))
 exact th b o' e' fun z=>hb (sh b o e z)
theorem d_:Passes (aV P w) (gK P w K mg base N qual scope f cdv A outer s0 H0 E) E:=fun pins σ H s e s' I q=>by
 obtain ⟨a,cls,a0,dx,H',B,rfl,fl,da,un,ok,os,bare,th,tr,hE⟩:=q
 show wpAny (model P w) (A.deeper (envOfC qual scope s0.heap.objs.size f cdv)) (leaving (envOfC qual scope s0.heap.objs.size f cdv) (.ref a)) _ _ s'
 refine wpAny_mono (Kp.any pE (wpAny_leaves_onW (outer:=outer) (Q:=fun _ s2=>∃h2,s2={s' with heap:=h2}/\B.FlyingW outer a cls a0 h2/\s'.heap.UpToSlots h2) (E:=fun _ _=>False) I.ok.frames rfl fl fun h2 fl2 up=>⟨h2,rfl,fl2,up⟩)) (fun _ s2 z=>?_) fun _ _ z=>z.elim
 obtain ⟨⟨h2,rfl,fl2,up⟩,kd⟩:=z
 exact Qv I fl2 (da.kd kd) fl.2.2.1 fl.1 un ok os bare th tr up hE
theorem adR {h:Heap}{C:Addr}{bmB:θ}{newId:String}(X:K.In h)(q:PySem.W.excIn K C bmB newId=true):
  ∃bm N nm q bs hdct sn sub ab col dd k0 k1 k2 k3 k5 mN,h.get? C=some (excClassObj nm q C N bs bm hdct sn sub ab col dd k0 k1 k2 k3 k5 newId)/\h.Ns N mN/\mN "__init__"=none/\OwnTail h bmB bm:=by
 unfold PySem.W.excIn at q
 split at q
 ·rename_i dd cd sl ho
  split at q
  ·rename_i C' bm k0 k1 k2 k3 n k5 hm hs
   simp only [abA,beq_iff_eq,ae_] at q
   obtain ⟨⟨⟨⟨⟨rfl,rfl⟩,am6⟩,ht⟩,bR⟩,hni⟩:=q
   obtain ⟨nm,bs,mro,ns,qn,hd,sn,sub,ab,col,del⟩:=cd
   dsimp only at hm am6 bR hni
   subst hm am6
   have hsl:sl= #[k0,k1,k2,k3,some (.builtin n),k5]:=by
    obtain ⟨l⟩:=sl
    simp only at hs
    rw [hs]
   subst hsl
   exact ⟨bm,ns,nm,qn,bs,hd,sn,sub,ab,col,dd,k0,k1,k2,k3,k5,_,X _ _ ho,.of_isNs (PySem.W.isNs_of_in X bR),PySem.W.nsMap_none_of_in X bR hni,PySem.W.tail_of_in X ht⟩
  ·cases q
 ·cases q
def aiB (C:Addr)(E:XK)(ta:TA):TS:=fun _ σ H=>ta σ H fun vs H1=>vs.length<=sizeLine/\E (.ref C) none H1
theorem cR {x:Str}{C:Addr}{Bn newId DY:String}{bmB:θ}{e₀:Expr}{rest:ο}{np hJ pos:Pos}{ta:TA}(FB:ExcBaseFacts Bn newId DY bmB)(hm:mg x=some (.ref C))(hq:PySem.W.excIn K C bmB newId=true)
  (hh:(A.deeper (envOfC qual scope s0.heap.objs.size f cdv)).handled=none) (ha:PA (gK P w K mg base N qual scope f cdv A outer s0 H0 E).pq (e₀::rest) ta)
  (hg:Gl (gK P w K mg base N qual scope f cdv A outer s0 H0 E) x:=by rfl) (hd:(x==("__debug__":Str))=false:=by decide)
  (he:starEach (e₀::rest) (gK P w K mg base N qual scope f cdv A outer s0 H0 E).env=(false,eval e₀ (gK P w K mg base N qual scope f cdv A outer s0 H0 E).env)::starEach rest (gK P w K mg base N qual scope f cdv A outer s0 H0 E).env:=by rfl)
  (hp:(backTo hJ (starEach rest (gK P w K mg base N qual scope f cdv A outer s0 H0 E).env)).any (·.1)=false:=by rfl):
  PS (gK P w K mg base N qual scope f cdv A outer s0 H0 E) (.Raise (some (.Call (.Name x np) (e₀::rest) [] hJ)) none pos) (aiB C E ta):=by
 intro pins s σ H D I h
 obtain ⟨tl,Na,nm,q,bs,hdct,sn,sub,ab,col,dd,k0,k1,k2,k3,k5,mN,hC,hN,hni,T⟩:=adR (h:=base) I.mod.XI hq
 refine wpAny_Raise_call_subT (C:=C) (nm:=nm) (q:=q) (N:=Na) (bs:=bs) (bm:=tl) (hdct:=hdct) (sn:=sn) (sub:=sub) (ab:=ab) (col:=col) (dd:=dd) (k0:=k0) (k1:=k1) (k2:=k2) (k3:=k3) (k5:=k5)
  FB (mN:=mN) (T.hasType FB.hasBase) hh (by rw [he];show (false || (backTo hJ (starEach rest _)).any (·.1))=false;rw [hp];rfl) hni (gf I hg hm ⟨rfl,?_⟩ hd)
 suffices z:wpAny (model P w) (A.deeper (envOfC qual scope s0.heap.objs.size f cdv)) (spliced (backTo hJ (starEach (e₀::rest) (gK P w K mg base N qual scope f cdv A outer s0 H0 E).env))) (fun vs s₂=>vs.length<=sizeLine/\(∀b o,base.get? b=some o->s₂.heap.get? b=some o)/\
   ∀h' e,Heap.MadeExcOf s₂.heap h' e (.ref C) vs->(gK P w K mg base N qual scope f cdv A outer s0 H0 E).xe (.ref e) {s₂ with heap:=h' }) (gK P w K mg base N qual scope f cdv A outer s0 H0 E).xe s by
  rw [he] at z ⊢
  exact Calls.evalArgs_plain (wpAny_mono z (fun vs s₂ h₂=>⟨rfl,h₂.1,h₂.2.1 _ _ hC,hN.keeps h₂.2.1,T.keeps h₂.2.1,h₂.2.2⟩) fun _ _ y=>y)
 refine wpAny_mono (ha hJ pins s σ H _ (I.pk _) h) (fun us s2 z=>?_) fun _ _ z=>z.elim
 obtain ⟨vs,H1,I1,r,hl,hE⟩:=z
 have I2:Inv (gK P w K mg base N qual scope f cdv A outer s0 H0 E) pins σ H1 s2:=I1.hG
 have bk:=I2.bk
 refine ⟨by rw [<- r.length];exact hl,bk,fun h' e hx=>?_⟩
 show wpAny (model P w) (A.deeper (envOfC qual scope s0.heap.objs.size f cdv)) (leaving (envOfC qual scope s0.heap.objs.size f cdv) (.ref e)) _ _ {s2 with heap:=h' }
 have hin:∀env∈(gK P w K mg base N qual scope f cdv A outer s0 H0 E).stack,∀b,env.frame=some b->b∈mx (gK P w K mg base N qual scope f cdv A outer s0 H0 E).stack:=fun env he b hb=>af6.mpr ⟨env,he,hb⟩
 have ffB:=PySem.W.funFrames_hide I2.stack hin
 have st:(PySem.W.hideAll s2.heap (mx (gK P w K mg base N qual scope f cdv A outer s0 H0 E).stack)).StaysIn s2.heap:=fun b o q=>PySem.W.of_hideAll _ q
 have da:DictAt h' e none:=by
  obtain ⟨t,ht,_⟩:=hx.there
  exact ⟨_,ht,rfl,rfl⟩
 refine wpAny_mono (Kp.any pE (wpAny_leaves_madeW (outer:=outer) (s:={s2 with heap:=h' }) (Q:=fun _ s3=>∃h2 t,s3={s2 with heap:=h2}/\(PySem.W.hideAll s2.heap (mx (gK P w K mg base N qual scope f cdv A outer s0 H0 E).stack)).FlyingW outer e (.ref C) (.ref t) h2/\h'.UpToSlots h2) (E:=fun _ _=>False) I.ok.frames rfl st ffB hx fun h2 t fl _ _ up=>⟨h2,t,rfl,fl,up⟩)) (fun _ s3 z=>?_) fun _ _ z=>z.elim
 obtain ⟨⟨h2,t,rfl,fl,up⟩,kd⟩:=z
 refine Qv (s' :={s2 with heap:=h' }) (H:=H1) (s:=s2) I2 fl (da.kd kd) (ffB.of_keeps fun b o e _=>⟨o,hx.keeps b o e,rfl⟩) (fun b o q=>hx.keeps b o (st b o q)) (Un.kept hx.keeps) (I2.bR.kept hx.keeps) rfl I2.bare (fun b o e hb=>⟨o,PySem.W.hideAll_get _ e hb⟩) (fun b u e=>?_) up hE
 obtain ⟨o,ho⟩:∃o,s2.heap.get? b=some o:=by
  have:=I2.bR b u e
  exact obj_some this
 exact ⟨o,PySem.W.hideAll_get _ ho fun z=>by
  have:=I2.qG b z
  rw [e] at this
  cases this⟩
end
section
variable {X:Cx}{pins:δ}{σ:L2.St}{H H' :Hp}{s:Shared}
theorem wH {M:Model}{A:Around}{E:γ}{i:Nat}{x:Str}{pos:Pos}{Q:ω}(I:Inv X pins σ H s)(hN:X.N.Nodup)(hi:X.N[i]? =some x)(hk:X.env.scope.names.lookup x=some .local)
  (h:∀s',Inv X pins (σ.set i none) H s' ->Q () s'):wpAny M A (do bindName X.env x .none;unbindBehindTheSuite X.env x pos) Q E s:=by
 obtain ⟨m,hn,hl⟩:=id I.loc
 have Qm:(X.env.scope.kind==.class || (X.env.scope.kind==.module && X.env.locals !=X.env.globals))=false:=by rw [I.ok.kind];rfl
 have hiσ:i < σ.length:=by rw [I.len];exact (W1.mp hi).1
 have XJ:=I.XJ
 refine wpAny_nameGoes_keeps hk hn Qm fun h' v0 hn' hs=>?_
 obtain ⟨oL,_,_,hoL,_⟩:=id hn
 have tracked:kQ X.prog X.w H h' :=fun b ob e=>by
  refine (I.bR b ob e).qF (fun c w' hc q=>(hs.2 c ?_).trans q) (fun _ q=>q) fun _ _ q=>q
  rintro rfl
  have KJ:=I.free
  rcases hc with rfl | hc
  ·rw [KJ] at e;cases e
  ·rw [KJ] at hc;cases hc
 refine h _ ⟨I.ok,I.os,I.bare,⟨fun b o e n hb hx=>?_,fun b o e n hb hx=>?_,I.base.free,fun b o e hx=>?_,I.base.me,I.base.kR,I.base.mf⟩,⟨_,hn',fun j y v' e1 e2 e3=>?_⟩,fun y c e=>?_,I.free,I.iI,fun p hp=>?_,tracked,by simpa using I.len⟩
 ·exact (hs.2 b (ab_ (abu (Heap.lt_size e) I.ok.above))).trans (I.base.keep b o e n hb hx)
 ·obtain ⟨sl,e1⟩:=I.base.slot b o e n hb hx
  exact ⟨sl,(hs.2 b (ab_ (abu (Heap.lt_size e) I.ok.above))).trans e1⟩
 ·obtain ⟨o',e1⟩:=I.base.there b o e hx
  exact ⟨o',(hs.2 b (ab_ (abu (Heap.lt_size e) I.ok.above))).trans e1⟩
 ·by_cases hj:j=i
  ·subst hj
   rw [ajo hiσ] at e2
   cases e2
  ·rw [alA (ac_ hj)] at e2
   obtain ⟨u',r',q⟩:=hl j y v' e1 e2 e3
   refine ⟨u',r',?_⟩
   rcases q with ⟨k,e⟩ | ⟨k,c,e,z⟩
   ·refine .inl ⟨k,?_⟩
    have:y≠x:=fun e=>hj (xh hN e1 (e▸hi))
    simp [this,e]
   ·exact .inr ⟨k,c,e,z.sameBut hs (XJ y c e)⟩
 ·obtain ⟨w',z⟩:=I.cell y c e
  exact ⟨w',z.sameBut hs (XJ y c e)⟩
 ·obtain ⟨e,n,ne,nf,d⟩:=I.pin p hp
  exact ⟨(hs.2 p.1 ne).trans e,n,ne,nf,d⟩
abbrev hnd (X:Cx)(a:Addr):Cx:={X with A:=X.A.mark (some (.ref a)),calm:=false,xe:=fun _ _=>False}
theorem aiD {a:Addr}(ok:X.Ok):(hnd X a).Ok:=
 ⟨ok.mod,ok.kind,ok.glob,ok.blt,ok.above,ok.inj,ok.has,ok.cab,fun z=>(nomatch z),ok.frames,ok.stk,ok.exf,ok.bs,ok.Xv,ok.Ql,ok.Ur,ok.ph,ok.frf⟩
theorem DZ {a:Addr}(I:Inv X pins σ H s):Inv (hnd X a) pins σ H s:=⟨aiD I.ok,I.os,I.bare,I.base,I.loc,I.cell,I.free,I.iI,I.pin,I.bR,I.len⟩
theorem mJ {a:Addr}(ok:X.Ok)(I:Inv (hnd X a) pins σ H s):Inv X pins σ H s:=⟨ok,I.os,I.bare,I.base,I.loc,I.cell,I.free,I.iI,I.pin,I.bR,I.len⟩
theorem am7 {a:Addr}{o:HO}(I:Inv X pins σ H s)(fresh:∀ob,X.s₀.heap.get? a≠some ob)(hp:∀p∈X.pn++pins,p.1≠a)(hL:a≠X.env.locals)(hC:∀x c,X.env.cells.lookup x=some c->c≠a)(hn:H a=none)
  (new:bL X.prog X.w (upd H a o) s.heap a o):Inv X pins σ (upd H a o) s:=by
 have ne:∀b u,H b=some u->b≠a:=fun b u e z=>by rw [z,hn] at e;cases e
 refine ⟨I.ok,I.os,I.bare,⟨I.base.keep,I.base.slot,fun b ob e n hx=>?_,I.base.there,fun b xs e=>?_,fun b ob u e=>?_,fun b ps e=>?_⟩,I.loc,I.cell,?_,fun x c e=>?_,fun p h=>?_,fun b u e=>?_,I.len⟩
 ·rw [ah (fun z=>fresh ob (by rw [<- z];exact e))]
  exact I.base.free b ob e n hx
 ·have q:=I.base.me b xs e
  rw [ah (ne _ _ q)]
  exact q
 ·have q:=I.base.kR b ob u e
  rw [ah (ne _ _ q)]
  exact q
 ·obtain ⟨more,q⟩:=I.base.mf b ps e
  exact ⟨more,by rw [ah (ne _ _ q)];exact q⟩
 ·rw [ah (ac_ hL)]
  exact I.free
 ·rw [ah (hC x c e)]
  exact I.iI x c e
 ·obtain ⟨e,n,r⟩:=I.pin p h
  exact ⟨e,by rw [ah (hp p h)];exact n,r⟩
 ·by_cases z:b=a
  ·subst z
   rw [aj] at e
   cases e
   exact new
  ·rw [ah z] at e
   exact (I.bR b u e).qF (fun _ _ _ q=>q) (fun c q=>by rw [ah (ne _ _ q)];exact q) fun c xs q=>by rw [ah (ne _ _ q)];exact q
def j' (cls:Value)(a:Addr)(dx:ξ):HO:=.ext fun h=>∃o vs,h.get? a=some o/\o.cls=cls/\o.data=.fields vs/\o.dict=dx/\vs[2]? =some .none
theorem adS {P:Program}{w:World}{cls:Value}{a:Addr}{dx:ξ}{h:Heap}{o:Obj}{vs:Μ}(e:h.get? a=some o)(hc:o.cls=cls)(hd:o.data=.fields vs)(hx:o.dict=dx)(h2:vs[2]? =some .none):bL P w H h a (j' cls a dx):=
 ⟨⟨o,vs,e,hc,hd,hx,h2⟩,⟨o,e⟩,fun _ _ ⟨o',vs',q,c,d,x,y⟩ k=>⟨o',vs',k _ q,c,d,x,y⟩⟩
structure Ld (X:Cx)(pins:δ)(σ:L2.St)(H:Hp)(a:Addr)(cls:Value)(dx:ξ)(s:Shared):Prop where
 ex:∃(H0:Hp) (s0:Shared) (a0:Value) (B:Heap),Inv X pins σ H0 s0/\Heap.FlyingW B X.stack a cls a0 s.heap/\DictAt s.heap a dx/\Un (mx X.stack) [] H0 H s0.heap s.heap/\kQ X.prog X.w H s.heap/\s.os=s0.os/\AllBare s.gens/\
  (∀b o,s0.heap.get? b=some o->b∉mx X.stack->∃o',B.get? b=some o')/\(∀b u,H b=some u->∃o,B.get? b=some o)
theorem Ld.inv {a:Addr}{cls:Value}{dx:ξ}(L:Ld X pins σ H a cls dx s):Inv X pins σ H s:=by
 obtain ⟨H0,s0,a0,B,I,fl,da,un,ok,os,bare,th,tr⟩:=L.ex
 exact I.KL (ch:=[]) os un ok bare fun b z=>absurd z (by simp)
theorem Ld.free {a:Addr}{cls:Value}{dx:ξ}(L:Ld X pins σ H a cls dx s):H a=none:=by
 obtain ⟨H0,s0,a0,B,I,fl,da,un,ok,os,bare,th,tr⟩:=L.ex
 cases q:H a with
 | none=>rfl
 | some u=>
  obtain ⟨o,e⟩:=tr a u q
  rw [fl.2.1] at e
  cases e
abbrev TH:=Value->Option Addr->Ends->L2.St->Hp->Prop
def PH (X:Cx)(hs:List ExceptHandler)(t:TH):Prop:=
 ∀(pins:δ) (s:Shared) (σ:L2.St) (H:Hp) (a:Addr) (cls:Value) (dx:ξ) (D:Ends),Ld X pins σ H a cls dx s->t cls dx D σ H->wpAny (model X.prog X.w) X.A (handleBy (.ref a) X.env hs) (SP X pins D) X.xe s
theorem Yq:PH X [] (fun _ _ _ _ _=>False):=fun _ _ _ _ _ _ _ _ _ h=>h.elim
structure Qw (X:Cx)(c:Str)(cv:Value):Prop where
 ld:∀(a:Addr) (pins:δ) (s:Shared) (σ:L2.St) (H:Hp) (np:Pos) (Q:γ) (E:γ),Inv (hnd X a) pins σ H s->Q cv s->wpAny (model X.prog X.w) (X.A.mark (some (.ref a))) (eval (.Name c np) X.env) Q E s
theorem Qw.own {c:Str}{C:Addr}(hm:X.mg c=some (.ref C))(hg:Gl X c:=by rfl)(hd:(c==("__debug__":Str))=false:=by decide):Qw X c (.ref C):=
 ⟨fun a pins s σ H np Q E I h=>gf (X:=hnd X a) I hg hm h hd⟩
def XP (X:Cx)(pins:δ)(σ:L2.St)(E:XK)(e:Value)(s' :Shared):Prop:=∃H s,Inv X pins σ H s/\aV X.prog X.w X.stack H s E e s'
abbrev TEx:=L2.St->Hp->VK->XK->Prop
abbrev TSx:=Ends->(L2.St->XK)->L2.St->Hp->Prop
def PEx (X:Cx)(e:Expr)(t:TEx):Prop:=
 ∀(pins:δ) (s:Shared) (σ:L2.St) (H:Hp) (Q:VK) (E:XK),Inv X pins σ H s->t σ H Q E->wpAny (model X.prog X.w) X.A (eval e X.env) (EP X pins σ Q) (XP X pins σ E) s
def PSx (X:Cx)(st:Stmt)(t:TSx):Prop:=
 ∀(pins:δ) (s:Shared) (σ:L2.St) (H:Hp) (D:Ends) (E:L2.St->XK),Inv X pins σ H s->t D E σ H->wpAny (model X.prog X.w) X.A (exec st X.env) (SP X pins D) (fun e s' =>∃σ',XP X pins σ' (E σ') e s') s
theorem agd {k:Nat}{ps:ζ}{sp:Sp}{x:Str}{p pos:Pos}{e:Expr}{es:ο}{t:TA}(F:Fn X.prog X.w X.K X.mg X.base (aV X.prog X.w) k x ps sp)(hr:cF k X.A)(ha:PA X.pq (e::es) t)(hg:Gl X x:=by rfl)(vG:(x==("__debug__":Str))=false:=by decide)
  (he:starEach (e::es) X.env=(false,eval e X.env)::starEach es X.env:=by rfl) (wx:(backTo pos (starEach es X.env)).any (·.1)=false:=by rfl):
  PEx X (.Call (.Name x p) (e::es) [] pos) (fun σ H Q E=>t σ H fun vs H1=>sp vs H1 Q E):=by
 intro pins s σ H Q E I h
 obtain ⟨f,fd,G,b,m,kp⟩:=F.ex
 refine wpAny_Call_Name_kw (gf I hg m ?_ vG)
 refine PySem.W.callWith_K (h₀:=X.base) I.ok.mod.XI kp (wpAny_mono (ha pos pins s σ H _ (I.pk _) h) (fun us s1 ⟨vs,H1,I1,r,q⟩=>⟨I1.iB,?_⟩) fun _ _ z=>z.elim) he wx
 have I2:Inv X pins σ H1 s1:=I1.hG
 have hl:us.length=ps.length:=by rw [<- r.length];exact G.len _ _ _ _ q
 have bt:=b s1 us I2.iB (by rw [ad_];exact hl)
 rw [ad_] at bt
 refine wpAny_call (codeAny_mono (G.run X.A X.stack s1 H1 ⟨us,[]⟩ us vs Q E hr I2.Uy bt r q) fun r s' hq=>?_)
 cases r with
 | error e=>exact ⟨H1,s1,I2,hq⟩
 | ok fl=>
  cases fl with
  | ret u=>exact I2.after hq
  | next=>exact False.elim hq
  | brk=>exact False.elim hq
  | cont=>exact False.elim hq
theorem LJ {e:Expr}{te:TEx}{pos:Pos}(he:PEx X e te)(hs:swapsWith e none pos.line X.env=pure false:=by rfl):PSx X (.Expr e pos) (fun D E σ H=>te σ H (fun _ H1=>D.nx σ H1) (E σ)):=by
 intro pins s σ H D E I h
 refine wpAny_Expr_any (wpAny_mono (he pins s σ H _ _ I h) (fun v s1 z=>?_) fun e s' z=>⟨σ,z⟩) I.quiet hs
 obtain ⟨y,H1,I1,r1,q1⟩:=z
 exact ⟨σ,H1,I1,q1⟩
theorem Yr {st:Stmt}{h₀:ExceptHandler}{hs:List ExceptHandler}{pos:Pos}{tb:TSx}{th:TH}(adT:X.stack=X.env::X.outer/\X.env.frame=some X.env.locals)(hb:PSx X st tb)(hh:PH X (h₀::hs) th):
  PS X (.Try [st] (h₀::hs) [] [] pos) (fun D σ H=>tb D (fun σ' cls dx H' =>th cls dx D σ' H') σ H):=by
 intro pins s σ H D I h
 refine wpAny_Try_except (wpAny_execs_cons (wpAny_mono (hb pins s σ H D _ I h) (fun f s1 q=>?_) fun e s1 z=>?_))
 ·cases f with
  | next=>exact wpAny_execs_nil (wpAny_execs_nil q)
  | ret v=>exact q
  | brk=>exact q
  | cont=>exact q
 ·obtain ⟨σ',H0,s0,I0,a,cls,a0,dx,H',B,rfl,fl,da,un,ok,os,bare,th',tr,hE⟩:=z
  have fl' :=fl
  rw [adT.1] at fl'
  have hfr:X.A.frames=some (X.env::X.outer):=by rw [<- adT.1];exact I.ok.frames
  refine wpAny_mono (Kp.any qU (wpAny_looks_onW (Q:=fun _ s4=>∃h4,s4={s1 with heap:=h4}/\B.HeldW (X.env::X.outer) a cls a0 X.env.locals h4/\s1.heap.UpToSlots h4) (E:=fun _ _=>False) hfr adT.2 fl' fun h4 Ys up4=>⟨h4,rfl,Ys,up4⟩)) (fun _ s4 z=>?_) fun _ _ z=>z.elim
  obtain ⟨⟨h4,rfl,Ys,up4⟩,kd4⟩:=z
  refine wpAny_mono (Kp.any lq (wpAny_landsW (s:={s1 with heap:=h4}) (Q:=fun _ s5=>∃h5,s5={s1 with heap:=h5}/\B.FlyingW (X.env::X.outer) a cls a0 h5/\h4.UpToSlots h5) (E:=fun _ _=>False) Ys fun h5 fl5 up5=>⟨h5,rfl,fl5,up5⟩)) (fun _ s5 z=>?_) fun _ _ z=>z.elim
  obtain ⟨⟨h5,rfl,fl5,up5⟩,kd5⟩:=z
  have da5:DictAt h5 a dx:=(da.kd kd4).kd kd5
  rw [<- adT.1] at fl5
  have up:=up4.trans up5
  exact hh pins {s1 with heap:=h5} σ' H' a cls dx D ⟨H0,s0,a0,B,I0,fl5,da5,wD un fl.1 fl5.1 th' fl.2.2.1 up,qV ok fl.1 fl5.1 tr,os,bare,th',tr⟩ hE
end
end Ty
set_option maxHeartbeats 4000000
namespace TyExc
open PySem PySem.W PySem.Calls PyProof.Rows Builtin Builtin.ObjectAttr Builtin.Getset_descriptor
structure jc (K:Frag)(C:Addr):Prop where
 ga:findIn K (.ref C) "__getattribute__"=some (some (.builtin "BaseException.__getattribute__"))
 gt:findIn K (.ref C) "__getattr__"=some none
 cl:findIn K (.ref C) "__class__"=some (some (.builtin "object.__class__"))
 mo:mroIn K C (.type "object")=some true
 mb:mroIn K C (.type "BaseException")=some true
 is:(clsIn K C).isSome=true
section
variable {prog:Program}{w:World}{A:Around}{E:γ}{K:Frag}{h:Heap}{g:Array GenState}{d:Drawn}{t:Nat}{os:OsState}{a C:Addr}{o:Obj}
theorem iM {M:Model}(hx:h.get? a=some o)(hc:o.cls=.ref C):Looks M h (typeOf (.ref a)) (.ref C):=by
 subst_vars
 rw [<- hc]
 exact (Looks.ld hx).andThen .now
theorem zh {R:ς}{tp:Value}(X:K.In h)(F:jc K C)(hx:h.get? a=some o)(hc:o.cls=.ref C)
  (hq:R (.ok (.ret (.ref C))) ⟨h,g,d,t,os⟩):codeAny (model prog w) A (.call (.builtin "getset_descriptor.__get__") ⟨[.builtin "object.__class__",.ref a,tp],[]⟩) R ⟨h,g,d,t,os⟩:=by
 have L0:=iM (M:=model prog w) hx hc
 have L1:=looks_mroIn (M:=model prog w) X F.mo
 refine codeAny_call_builtin KF.slot_gs.plain KF.entry_gs (KF.slot_gs.check _ _ _ _ _ _ _ _ KF.type_class (KF.args_gs _ _ _) ?_)
 unfold Builtin.«getset_descriptor.__get__» descrGet
 rw [dga_obj]
 refine wpAny_bind (wpAny_pure ?_)
 unfold descrGetter descrCheckInstance descrNameAndClass isInstance
 simp only [KF.owner_class]
 repeat lk
 refine ⟨Code.quiet_builtin _ (by decide+kernel),codeAny_builtin KF.entry_class ?_⟩
 unfold Builtin.«object.__class__» shownTypeOf
 repeat lk
 exact hq
theorem qW {M:Model}{age:Value}{Q:ω}(X:K.In h)(F:jc K C)(hx:h.get? a=some o)(hc:o.cls=.ref C)
  (hq:Q () ⟨h,g,d,t,os⟩):wpAny M A (checkBuiltinCall "BaseException.__getattribute__" ⟨[.ref a,age],[]⟩) Q E ⟨h,g,d,t,os⟩:=by
 have hk:builtinKind "BaseException.__getattribute__"=some .slot:=by decide+kernel
 have aiE:splitId "BaseException.__getattribute__"=some ("BaseException","__getattribute__"):=by decide+kernel
 have ha:=PySem.F.args_bexc_ga (.ref a) age
 have L0:=iM (M:=M) hx hc
 have L1:=looks_mroIn (M:=M) X F.mb
 simp only [checkBuiltinCall,hk,aiE]
 refine wpAny_bind ?_
 ·unfold isInstance
  repeat (first | lk | wp_step)
  exact hq
theorem vK {tk:Tok}{Q:Fin->Shared->Prop}(X:K.In h)(F:jc K C)(hx:h.get? a=some o)(hc:o.cls=.ref C)
  (hq:Q (.done (.ret (.ref C))) ⟨h,g,d,t,os⟩):wpAny (model prog w) A (Builtin.«object.__getattribute__» ⟨[.ref a,.str "__class__" tk],[]⟩) Q E ⟨h,g,d,t,os⟩:=by
 have L0:=iM (M:=model prog w) hx hc
 have L1:=looks_findIn (M:=model prog w) X F.cl
 have hT5:(⟨h,g,d,t,os⟩:Shared).TypeIs (.builtin "object.__class__") "getset_descriptor":=PySem.F.typeOf_object_class
 have f5:=PySem.F.typeOf_object_class
 have f6:=PySem.F.slot_gs_get.lookup
 have f7:=PySem.F.slot_gs_set.lookup
 repeat (any_goals (first | assumption | with_reducible refine L1.at ?_ | with_reducible refine L0.at ?_ | (with_reducible refine wpAny_loadPart_at hx ?_;rw [hc]) | wp_step))
 refine zh X F hx hc ?_
 repeat (any_goals (first | assumption | wp_step))
theorem xE {tk:Tok}{R:ς}(X:K.In h)(F:jc K C)(hx:h.get? a=some o)(hc:o.cls=.ref C)
  (hq:R (.ok (.ret (.ref C))) ⟨h,g,d,t,os⟩):codeAny (model prog w) A (.call (.builtin "BaseException.__getattribute__") ⟨[.ref a,.str "__class__" tk],[]⟩) R ⟨h,g,d,t,os⟩:=
 codeAny_call_builtin PySem.F.attr_ValueError.ga.plain PySem.F.entry_bexc_ga (qW X F hx hc (vK X F hx hc hq))
theorem D_ {tk:Tok}{Q:γ}(X:K.In h)(F:jc K C)(hx:h.get? a=some o)(hc:o.cls=.ref C)
  (hq:Q (.ref C) ⟨h,g,d,t,os⟩):wpAny (model prog w) A (getAttrBy (.ref a) (.str "__class__" tk) false) Q E ⟨h,g,d,t,os⟩:=by
 have L0:=iM (M:=model prog w) hx hc
 have L1:=looks_findIn (M:=model prog w) X F.ga
 have L2:=looks_findIn (M:=model prog w) X F.gt
 have f3:=PySem.F.attr_ValueError.ga.bind (.ref a)
 have hx2:(Value.builtin "BaseException.__getattribute__"==Value.builtin "object.__getattribute__")=false:=by decide+kernel
 have hx1:(onTheHeap (Value.ref C) && Value.builtin "BaseException.__getattribute__"==Value.builtin "object.__getattribute__")=false:=by rw [hx2];rfl
 repeat (any_goals (first | assumption | with_reducible refine L1.at ?_ | with_reducible refine L2.at ?_ | with_reducible refine L0.at ?_ | (with_reducible refine wpAny_loadPart_at hx ?_;rw [hc]) | wp_step))
 refine xE X F hx hc ?_
 repeat (any_goals (first | assumption | wp_step))
theorem xF {Q:Option Value->Shared->Prop}(X:K.In h)(F:jc K C)(hx:h.get? a=some o)(hc:o.cls=.ref C)
  (hq:Q (some (.ref C)) ⟨h,g,d,t+1,os⟩):wpAny (model prog w) A (getAttr? (.ref a) "__class__") Q E ⟨h,g,d,t,os⟩:=by
 unfold getAttr? getAttrBy?
 repeat (any_goals (first | assumption | with_reducible apply D_ X F hx hc | wp_step))
end
def ExcAt (a C:Addr)(h:Heap):Prop:=∃o vs,h.get? a=some o/\o.cls=.ref C/\o.data=.fields vs
theorem Yt {K:Frag}{a C:Addr}(F:jc K C):KitX K (.ref a) (.ref C) (ExcAt a C) where
 ty:=fun M h _ ⟨o,vs,hx,hc,_⟩=>iM hx hc
 it:=fun M h X _=>by
  have q:=F.is
  unfold clsIn at q
  split at q
  ·rename_i c' d' cd' sl' ho
   intro A' Q' E' s' k q
   unfold isType loadHead
   exact wpAny_bind (wpAny_loadPart (k _ _ (X _ _ ho)) (wpAny_pure q))
  ·cases q
 ne:=fun h tp dd its n sl X htp=>by
  have q:=F.is
  refine adv.mpr fun z=>?_
  have e:C=tp:=Value.ref.inj (beq_iff_eq.mp z)
  subst e
  unfold clsIn at q
  split at q
  ·rename_i c' d' cd' sl' ho
   have z:=(X _ _ ho).symm.trans htp
   cases z
  ·cases q
 ca:=fun {prog w A E Q s} X p k=>by
  obtain ⟨h,g,d,t,os⟩:=s
  obtain ⟨o,vs,hx,hc,_⟩:=p
  exact xF X F hx hc k
end TyExc
set_option maxHeartbeats 4000000
namespace Ty
open PySem PySem.Spec PyProof.Rows L2
section
variable {X:Cx}
inductive agg (K:Frag)(xs:η)(H:Hp)(Q:VK):Prop where
 | mk (a C c b dx:_) (_:xs=[.ref a,c]) (_:Ym c=true) (_:H a=some (j' (.ref C) a dx)) (_:TyExc.jc K C) (_:PySem.W.kitOne K (.ref C) (adP c)=some b) (_:Q (.bl b) H):agg K xs H Q
theorem dR {K:Frag}(hK:X.K=K):i9 X (.builtin "isinstance") (agg K):=by
 subst hK
 intro pins s σ H xs us Q I r h
 obtain ⟨a,C,c,b,dx,rfl,hc,ha,F,e,q⟩:=h
 obtain ⟨u,w,rfl,r1,r2⟩:=vals2 r
 obtain rfl:=Te hc r2
 cases r1
 obtain ⟨⟨o,vs,p1,p2,p3,_⟩,_⟩:=(show bL X.prog X.w H s.heap a (j' (.ref C) a dx) from I.bR a _ ha)
 exact PySem.W.kia_one (TyExc.Yt F) I.iB ⟨o,vs,p1,p2,p3⟩ e (fun z=>nomatch z) fun tk=>⟨.bl b,H,I.tok tk,rfl,q⟩
theorem lB {x:Str}{C:Addr}{pos:Pos}(hg:Gl X x)(hm:X.mg x=some (.ref C))(hd:(x==("__debug__":Str))=false:=by decide):PE X (.Name x pos) (tC (.ref C)):=dy (v:=.ref C) hg hm rfl hd
end
structure oI (k:Nat)(A:Around):Prop where
 dp:A.depth+3*k+5 < recursionLimit
 un:A.units+16*k+200 < cLine
theorem oI.deeper {k:Nat}{A:Around}(r:oI (k+1) A)(env:Env):oI k (A.deeper env):=
 ⟨by have:=r.dp;show A.depth+1+3*k+5 < _;omega,by have:=r.un;show A.units+3+16*k+200 < _;omega⟩
theorem oI.mark {k:Nat}{A:Around}(r:cF k A)(e:Ι):oI k (A.mark e):=⟨r.dp,r.un⟩
def cxh (P:Program)(w:World)(K:Frag)(mg:ε)(base:Heap)(N:ζ)(qual:Str)(scope:Scope)(f:Addr)(cdv:Value)(A:Around)(outer:List Env)(s:Shared)(H:Hp):Cx:=
 {fu CX0 P w K mg base N qual scope f cdv A outer s H E0 with calm:=false,xe:=fun _ _=>False}
theorem Def.Yu {P:Program}{w:World}{K:Frag}{mg:ε}{base:Heap}{x:Str}{st:Stmt}{N ps:ζ}{k:Nat}{sp:Sp}(D:Def K mg x st ps)(S:av N ps (aa st))(len:∀vs H Q E,sp vs H Q E->vs.length=ps.length)
  (dP:∀(f:Addr) (cdv:Value) (A:Around) (outer:List Env) (s:Shared) (H:Hp) (vs:η) (Q:VK) (E:XK),cF k (A.deeper (envOfC x (aa st) s.heap.objs.size f cdv))->sp vs H Q E->
   ∃t,PSs (gK P w K mg base N x (aa st) f cdv A outer s H E) (aq st) t/\t {nx:=fun _ H' =>Q .bN H',rt:=Q} (start N vs) H):Fn P w K mg base (aV P w) (k+1) x ps sp:=by
 obtain ⟨f,dV,oc,od,kV,doc,pm,an,cdv,ct,nj,lk,pj,kp,b,m⟩:=D.ex
 exact ⟨f,_,xu lk pj S len fun A outer s H vs Q E hr vH=>dP f cdv A outer s H vs Q E hr vH,b,m,kp⟩
theorem adQ.Yu {P:Program}{w:World}{K:Frag}{mg:ε}{base:Heap}{x:Str}{st:Stmt}{N ps:ζ}{ds:θ}{k:Nat}{sp:Sp}(D:adQ K mg x st ps ds)(S:av N ps (aa st))(len:∀vs H Q E,sp vs H Q E->vs.length=ps.length)
  (dP:∀(f:Addr) (cdv:Value) (A:Around) (outer:List Env) (s:Shared) (H:Hp) (vs:η) (Q:VK) (E:XK),cF k (A.deeper (envOfC x (aa st) s.heap.objs.size f cdv))->sp vs H Q E->
   ∃t,PSs (gK P w K mg base N x (aa st) f cdv A outer s H E) (aq st) t/\t {nx:=fun _ H' =>Q .bN H',rt:=Q} (start N vs) H):Fn P w K mg base (aV P w) (k+1) x ps sp/\FnD P w K mg base (aV P w) (k+1) x ps ds sp:=by
 obtain ⟨f,dV,oc,od,kV,doc,pm,an,cdv,ct,nj,lk,pj,kp,b,b2,m⟩:=D.ex
 have F:=xu (CX:=aV P w) (P:=P) (w:=w) (mg:=mg) (base:=base) lk pj S len fun A outer s H vs Q E hr vH=>dP f cdv A outer s H vs Q E hr vH
 exact ⟨⟨f,_,F,b,m,kp⟩,⟨f,_,F,b2,m,kp⟩⟩
abbrev Yv:List Value:=[.type "ValueError",.type "Exception",.type "BaseException",.type "object"]
end Ty
set_option maxHeartbeats 4000000
namespace TyExc
open PySem PySem.W PySem.Calls PyProof.Rows Builtin Builtin.ObjectAttr Builtin.Getset_descriptor
section
variable {prog:Program}{w:World}{A:Around}{E:γ}{K:Frag}{h:Heap}{g:Array GenState}{d:Drawn}{t:Nat}{os:OsState}{a C:Addr}{o:Obj}{od:Option Obj}{name:Str}{v:Value}
theorem UI {tk:Tok}{Q:Fin->Shared->Prop}(X:K.In h)(I:InstAt h a o C od)(hf:findObj K C od name=some (.value v))
  (hq:Q (.done (.ret v)) ⟨h,g,d,t,os⟩):wpAny (model prog w) A (Builtin.«object.__getattribute__» ⟨[.ref a,.str name tk],[]⟩) Q E ⟨h,g,d,t,os⟩:=by
 have L0:=InstAt.type (M:=model prog w) I
 have L1:=looks_find (M:=model prog w) X I hf
 repeat (any_goals (first | assumption | with_reducible refine L1.at ?_ | with_reducible refine L0.at ?_ | wp_step))
theorem Yw {tk:Tok}{R:ς}(X:K.In h)(F:jc K C)(I:InstAt h a o C od)(hf:findObj K C od name=some (.value v))
  (hq:R (.ok (.ret v)) ⟨h,g,d,t,os⟩):codeAny (model prog w) A (.call (.builtin "BaseException.__getattribute__") ⟨[.ref a,.str name tk],[]⟩) R ⟨h,g,d,t,os⟩:=
 codeAny_call_builtin PySem.F.attr_ValueError.ga.plain PySem.F.entry_bexc_ga (qW X F I.at_ I.cls (UI X I hf hq))
theorem aiF {tk:Tok}{fill expr:Bool}{Q:γ}(X:K.In h)(F:jc K C)(I:InstAt h a o C od)(hf:findObj K C od name=some (.value v))(hh:handedIn v=true)
  (hq:Q v ⟨h,g,d,t,os⟩):wpAny (model prog w) A (getAttrBy (.ref a) (.str name tk) fill expr) Q E ⟨h,g,d,t,os⟩:=by
 have hx:=I.at_
 have hc:=I.cls
 have L0:=iM (M:=model prog w) hx hc
 have L1:=looks_findIn (M:=model prog w) X F.ga
 have L2:=looks_findIn (M:=model prog w) X F.gt
 have f3:=PySem.F.attr_ValueError.ga.bind (.ref a)
 have hx2:(Value.builtin "BaseException.__getattribute__"==Value.builtin "object.__getattribute__")=false:=by decide+kernel
 have hx1:(onTheHeap (Value.ref C) && Value.builtin "BaseException.__getattribute__"==Value.builtin "object.__getattribute__")=false:=by rw [hx2];rfl
 have ho:=handedOut_of hh
 repeat (any_goals (first | assumption | with_reducible refine L1.at ?_ | with_reducible refine L2.at ?_ | with_reducible refine L0.at ?_ | (with_reducible refine wpAny_loadPart_at hx ?_;rw [hc]) | wp_step))
 have hx3:(expr && onTheHeap (Value.builtin "BaseException.__getattribute__"))=false:=by cases expr <;> rfl
 rw [hx3]
 repeat (any_goals (first | assumption | wp_step))
 refine Yw X F I hf ?_
 repeat (any_goals (first | assumption | (rw [ho];refine wpAny_pure ?_) | wp_step))
theorem LK {b:Bool}{s:Shared}{Q:γ}(X:K.In s.heap)(F:jc K C)(I:InstAt s.heap a o C od)(hf:findObj K C od name=some (.value v))(hh:handedIn v=true)
  (hq:Q v {s with toks:=s.toks+1}):wpAny (model prog w) A (getAttr (.ref a) name b) Q E s:=by
 obtain ⟨h,g,d,t,os⟩:=s
 unfold getAttr
 refine wpAny_bind (wpAny_mkText ?_)
 exact aiF X F I hf hh hq
end
end TyExc
set_option maxHeartbeats 4000000
namespace TyExc
open PySem PySem.W PySem.Calls PyProof.Rows Builtin Builtin.ObjectAttr
def am':Value->Bool
 | .ref _=>true
 | _=>false
def iD (l:θ):Bool:=l.dropWhile am'==[.type "ValueError",.type "Exception",.type "BaseException",.type "object"]
theorem uV {self:Value}{ana:Str}:∀l:List Value,refuseLoop self ana l=refuseLoop self ana (l.dropWhile am')
 | []=>rfl
 | v::l=>by
  cases v with
  | ref a=>
   rw [refuseLoop_ref,uV l]
   rfl
  | _=>rfl
theorem zi {self:Value}{l:θ}(h:iD l=true):refuseLoop self "__setattr__" l=pure ():=by
 rw [uV,beq_iff_eq.mp h]
 exact PySem.F.store_ValueError.passes self
section
variable {prog:Program}{w:World}{A:Around}{E:γ}{K:Frag}{s:Shared}{x C:Addr}{ox:Obj}{od:Option Obj}{name:Str}{v:Value}{cd:ClassData}
theorem Tf {tk:Tok}{R:ς}(X:K.In s.heap)(I:InstAt s.heap x ox C od)(F:jc K C)(hc:clsIn K C=some cd)(ho:iD cd.mro=true)(hn:findIn K (.ref C) name=some none)
  (h:wpAny (model prog w) A.in1 (storeInOwnDict (.ref x) (.ref C) (.str name tk) name v false) (fun fin s' =>match fin with | .done f=>R (.ok f) s' | .again c' =>c'.quiet=true/\codeAny (model prog w) A c' R s') (fun e s' =>R (.error e) s') s):
  codeAny (model prog w) A (.call (.builtin "object.__setattr__") ⟨[.ref x,.str name tk,v],[]⟩) R s:=by
 have SF:=PySem.F.store_object
 have L0:=InstAt.type (M:=model prog w) I
 have sub:=L0.andThen (f:=fun tp=>isSubtype tp (.type "object")) (looks_mroIn (M:=model prog w) X F.mo)
 refine codeAny_call_builtin SF.slot.plain SF.entry (check_slot SF.kind SF.split sub (SF.args _ _ _) ?_)
 have hm:Looks (model prog w) s.heap (mroOf (.ref C)) cd.mro:=(looks_clsIn X hc).andThen .now
 have L1:=looks_findIn (M:=model prog w) X hn
 unfold Builtin.«object.__setattr__»
 dsimp only
 rw [refuse_eq]
 have e:=zi (self:=.ref x) ho
 refine wpAny_ite_false rfl ?_
 refine wpAny_bind (wpAny_bind (L0.here (wpAny_bind (hm.here ?_))))
 rw [e]
 refine wpAny_pure ?_
 repeat (any_goals (first | assumption | with_reducible refine L1.at ?_ | with_reducible refine L0.at ?_ | wp_step))
theorem D' {vs:Μ}{Q:ω}(X:K.In s.heap)(hx:s.heap.get? x=some ox)(Px:ox.cls=.ref C)(UJ:ox.data=.fields vs)(hdi:ox.dict=none)(F:jc K C)
  (hs:findIn K (.ref C) "__setattr__"=some (some (.builtin "object.__setattr__"))) (hc:clsIn K C=some cd) (hh:cd.hasDict=true) (ho:iD cd.mro=true) (hn:findIn K (.ref C) name=some none)
  (h:∀h' tk,h'.get? x=some {ox with dict:=some s.heap.objs.size}->h'.Ns1 s.heap.objs.size (fun y=>if y=name then some v else none)->(∀b o,b≠x->s.heap.get? b=some o->h'.get? b=some o)->Q () {s with heap:=h',toks:=tk}):
  wpAny (model prog w) A (setAttr (.ref x) name v) Q E s:=by
 have I:InstAt s.heap x ox C none:=⟨hx,Px,by unfold notCls;rw [UJ],by rw [hdi];trivial⟩
 refine set_plain X I hs (Tf (s:={s with toks:=s.toks+1}) X I F hc ho hn ?_)
 have L2:=looks_clsIn (M:=model prog w) X hc
 obtain ⟨oc,odi,odt,nj⟩:=ox
 dsimp only at Px UJ hdi
 subst Px UJ hdi
 unfold storeInOwnDict
 refine wpAny_bind (wpAny_pure ?_)
 dsimp only
 refine wpAny_ite_false rfl ?_
 refine wpAny_bind ?_
 unfold ownDictForStores instanceDict
 dsimp only
 refine wpAny_bind (wpAny_loadPart hx ?_)
 dsimp only
 refine wpAny_bind (L2.here (s:={s with toks:=s.toks+1}) ?_)
 rw [hh]
 refine wpAny_ite_false rfl ?_
 refine wpAny_ite_false rfl ?_
 refine wpAny_bind (wpAny_alloc ?_)
 have hx2:(s.heap.push {cls:=Value.type "dict",data:=Data.dict #[]}).get? x=some ⟨.ref C,none,.fields vs,nj⟩:=Heap.get?_push_of_some _ hx
 refine wpAny_bind (wpAny_update hx2 ?_)
 refine wpAny_pure ?_
 have ne:s.heap.objs.size≠x:=fun z=>by have:=Heap.lt_size hx;rw [<- z] at this;exact af3 _ this
 have e1:(s.heap.push {cls:=Value.type "dict",data:=Data.dict #[]}).get? s.heap.objs.size=some {cls:=Value.type "dict",data:=Data.dict #[]}:=Heap.get?_push_size s.heap rfl
 generalize hH:(s.heap.push {cls:=Value.type "dict",data:=Data.dict #[]}).update x (fun o=>{cls:=o.cls,dict:=some s.heap.objs.size,data:=o.data,slots:=o.slots})=h2
 have e2:h2.get? s.heap.objs.size=some {cls:=Value.type "dict",data:=Data.dict #[]}:=by rw [<- hH];exact (Heap.get?_update_other _ _ (ac_ ne)).trans e1
 have x2:h2.get? x=some ⟨.ref C,some s.heap.objs.size,.fields vs,nj⟩:=by rw [<- hH];exact Heap.get?_update_self _ hx2 rfl
 have k2:∀b o,b≠x->s.heap.get? b=some o->h2.get? b=some o:=fun b o n e=>by rw [<- hH];exact (Heap.get?_update_other _ _ (ac_ n)).trans (Heap.get?_push_of_some _ e)
 have n2:h2.Ns s.heap.objs.size (fun _=>none):=⟨_, #[],_,e2,rfl,(fun e he=>absurd he (by simp)),fun _=>rfl⟩
 have n3:=Heap.Ns1.of_empty n2
 dsimp only
 unfold storeInDict
 refine wpAny_bind (wpAny_pure (wpAny_bind ?_))
 refine wpAny_nsSet1 (s:={s with heap:=h2,toks:=s.toks+1}) n3 fun h' S9 Xw=>?_
 obtain ⟨oD,esD,epD,hoD,hdD,hcD⟩:=S9.count (PySem.Within.cons name v (ns:=[]) (fun y hy=>absurd rfl hy))
 refine wpAny_bind (wpAny_lookBehind hoD (by rw [hdD];exact pastItsLine_dict (ir hcD (Nat.le_add_left 1 _))) ?_)
 refine wpAny_pure (h h' _ ((Xw.2 _ (ac_ ne)).trans x2) S9 fun b o n e=>?_)
 exact (Xw.2 b (fun z=>by have:=Heap.lt_size e;rw [z] at this;exact af3 _ this)).trans (k2 b o n e)
theorem EA {vs:Μ}{dx:Addr}{mA:ε}{ns:ζ}{Q:ω}(X:K.In s.heap)(hx:s.heap.get? x=some ox)(Px:ox.cls=.ref C)(UJ:ox.data=.fields vs)(hdi:ox.dict=some dx)(Qx:dx≠x)(hns:s.heap.Ns1 dx mA)(hwi:PySem.Within mA ns)(hsz:ns.length<=sizeLine)(F:jc K C)
  (hs:findIn K (.ref C) "__setattr__"=some (some (.builtin "object.__setattr__"))) (hc:clsIn K C=some cd) (hh:cd.hasDict=true) (ho:iD cd.mro=true) (hn:findIn K (.ref C) name=some none)
  (h:∀h' tk,h'.Ns1 dx (fun y=>if y=name then some v else mA y)->Heap.SameBut dx s.heap h' ->Q () {s with heap:=h',toks:=tk}):
  wpAny (model prog w) A (setAttr (.ref x) name v) Q E s:=by
 obtain ⟨od,eod⟩:∃od,s.heap.get? dx=some od:=by obtain ⟨o,_,_,e,_⟩:=hns;exact ⟨o,e⟩
 have I:InstAt s.heap x ox C (some od):=⟨hx,Px,by unfold notCls;rw [UJ],by rw [hdi];exact eod⟩
 refine set_plain X I hs (Tf (s:={s with toks:=s.toks+1}) X I F hc ho hn ?_)
 have L2:=looks_clsIn (M:=model prog w) X hc
 obtain ⟨oc,odi,odt,nj⟩:=ox
 dsimp only at Px UJ hdi
 subst Px UJ hdi
 unfold storeInOwnDict
 refine wpAny_bind (wpAny_pure ?_)
 dsimp only
 refine wpAny_ite_false rfl ?_
 refine wpAny_bind ?_
 unfold ownDictForStores instanceDict
 dsimp only
 refine wpAny_bind (wpAny_loadPart hx ?_)
 dsimp only
 refine wpAny_bind (L2.here (s:={s with toks:=s.toks+1}) ?_)
 rw [hh]
 refine wpAny_ite_false rfl ?_
 refine wpAny_pure ?_
 dsimp only
 unfold storeInDict
 refine wpAny_bind (wpAny_pure (wpAny_bind ?_))
 refine wpAny_nsSet1 (s:={s with toks:=s.toks+1}) hns fun h' S9 Xw=>?_
 obtain ⟨oD,esD,epD,hoD,hdD,hcD⟩:=S9.count (PySem.Within.cons name v hwi)
 refine wpAny_bind (wpAny_lookBehind hoD (by rw [hdD];exact pastItsLine_dict (ir hcD (by rw [abC];omega))) ?_)
 exact wpAny_pure (h h' _ S9 Xw)
end
end TyExc
set_option maxHeartbeats 400000
namespace TyExc
open PySem PySem.W PySem.Calls PyProof.Rows Builtin
section
variable {prog:Program}{w:World}{A:Around}{K:Frag}{h:Heap}{g:Array GenState}{d:Drawn}{t:Nat}{os:OsState}{e C:Addr}{oe:Obj}{vs:Μ}{args:θ}{E:γ}
theorem check_init {Q:ω}(X:K.In h)(hx:h.get? e=some oe)(Px:oe.cls=.ref C)(hm:mroIn K C (.type "ValueError")=some true)(hi:(clsIn K C).isSome=true)
  (hq:Q () ⟨h,g,d,t,os⟩):wpAny (model prog w) A (checkBuiltinCall "ValueError.__init__" ⟨.ref e::args,[]⟩) Q E ⟨h,g,d,t,os⟩:=by
 have FB:=PySem.F.excBase_ValueError
 have L0:=iM (M:=model prog w) hx Px
 have L1:=looks_mroIn (M:=model prog w) X hm
 obtain ⟨cd,hc⟩:=alV.mp hi
 have L2:=looks_clsIn (M:=model prog w) X hc
 have fk:=FB.initKind
 have fs:=FB.initSplit
 have fr:=FB.initRow
 have aiH:=FB.noStar
 simp only [checkBuiltinCall,fk,fs,fr]
 refine wpAny_bind ?_
 unfold isInstance
 refine wpAny_bind (L0.here (L1.here ?_))
 refine wpAny_ite_false rfl ?_
 unfold Bind.checkArgs
 dsimp only
 refine wpAny_bind ?_
 unfold Bind.printed
 refine wpAny_ite_false (by decide+kernel) ?_
 unfold Bind.receiverType
 refine wpAny_bind (wpAny_ite_false rfl (L0.here ?_))
 unfold typeNameWhole
 refine wpAny_bind (wpAny_bind (L2.here (wpAny_pure (wpAny_pure ?_))))
 refine wpAny_bind (wpAny_ite_true aiH (wpAny_pure ?_))
 refine wpAny_onRaise ?_
 rw [agj,check_star_args]
 exact wpAny_pure hq
theorem init_exc {R:ς}(X:K.In h)(hx:h.get? e=some oe)(Px:oe.cls=.ref C)(UJ:oe.data=.fields vs)(h0:0 < vs.size)(hm:mroIn K C (.type "ValueError")=some true)(hi:(clsIn K C).isSome=true)(hl:args.length<=sizeLine)
  (hq:∀h' vs',h'.get? e=some {oe with data:=.fields vs' }->vs'.size=vs.size->vs'[1]? =vs[1]? ->vs'[2]? =vs[2]? ->(∃tp,vs'[0]? =some (.ref tp))->(∀b o,b≠e->h.get? b=some o->h'.get? b=some o)->R (.ok (.ret .none)) ⟨h',g,d,t,os⟩):
  codeAny (model prog w) A (.call (.builtin "ValueError.__init__") ⟨.ref e::args,[]⟩) R ⟨h,g,d,t,os⟩:=by
 have FB:=PySem.F.excBase_ValueError
 refine codeAny_call_builtin FB.init.plain FB.initEntry (check_init X hx Px hm hi ?_)
 obtain ⟨c0,d0,dt,sl⟩:=oe
 dsimp only at Px UJ
 subst Px UJ
 obtain ⟨v0,ev0⟩:∃v0,vs[0]? =some v0:=⟨_,alQ h0⟩
 unfold Builtin.«BaseException.__init__»
 dsimp only
 refine wpAny_ite_false rfl ?_
 refine wpAny_bind (wpAny_newTuple ?_ hl)
 have hx1:(h.push {cls:=Value.type "tuple",data:=Data.seq args.toArray}).get? e=some ⟨.ref C,d0,.fields vs,sl⟩:=Heap.get?_push_of_some _ hx
 unfold Builtin.BaseException.bexcPut
 refine wpAny_bind (wpAny_bind (wpAny_field hx1 rfl ev0 (wpAny_bind (wpAny_setField hx1 rfl h0 ?_))))
 have hx2:=Heap.get?_update_self (Obj.mapFields fun x=>x.setIfInBounds 0 (Value.ref h.objs.size)) hx1 rfl
 have fin:=hq ((h.push {cls:=Value.type "tuple",data:=Data.seq args.toArray}).update e (Obj.mapFields fun x=>x.setIfInBounds 0 (Value.ref h.objs.size))) (vs.setIfInBounds 0 (Value.ref h.objs.size)) hx2 (by simp) (by simp) (by simp) ⟨h.objs.size,by simp [h0]⟩ (fun b o n e' =>(Heap.get?_update_other _ _ (ac_ n)).trans (Heap.get?_push_of_some _ e'))
 have done:wpAny (model prog w) A.in1 (ret Value.none) (fun fin s' =>match fin with | .done f=>R (.ok f) s' | .again c' =>c'.quiet=true/\codeAny (model prog w) A c' R s') (fun e s' =>R (.error e) s') ⟨(h.push {cls:=Value.type "tuple",data:=Data.seq args.toArray}).update e (Obj.mapFields fun x=>x.setIfInBounds 0 (Value.ref h.objs.size)),g,d,t,os⟩:=wpAny_pure fin
 cases v0 with
 | ref a=>exact wpAny_letGo done
 | _=>exact wpAny_pure done
end
end TyExc
set_option maxHeartbeats 400000
namespace TyExc
open PySem PySem.W PySem.Calls PyProof.Rows Builtin
section
variable {prog:Program}{w:World}{A:Around}{K:Frag}{h:Heap}{g:Array GenState}{d:Drawn}{t:Nat}{os:OsState}{nm q:Str}{C N f:Addr}{bs bm bmB:θ}{hdct:Bool}{sn:ζ}{sub:θ}{ab:Bool}{col:Option Bool}{dd:ξ}{k0 k1 k2 k3 k5:Ι}{B newId DY:String}{rest:θ}{E:γ}
def gR (h:Heap)(C:Addr)(rest:θ):Heap:=(h.push {cls:=Value.type "tuple",data:=Data.seq rest.toArray}).push {cls:=Value.ref C,data:=Data.fields #[Value.ref h.objs.size,Value.none,Value.none,Value.none,Value.bool false,Value.none]}
theorem xG:(gR h C rest).get? (h.objs.size+1)=some {cls:=Value.ref C,data:=Data.fields #[Value.ref h.objs.size,Value.none,Value.none,Value.none,Value.bool false,Value.none]}:=
 Heap.get?_push_at (by rw [Heap.size_push]) rfl
theorem jX {b:Addr}{o:Obj}(e:h.get? b=some o):(gR h C rest).get? b=some o:=Heap.get?_push_of_some _ (Heap.get?_push_of_some _ e)
theorem zj {Q:Fin->Shared->Prop}(F:ExcBaseFacts B newId DY bmB)(T:OwnTail h bmB bm)(hC:h.get? C=some (excClassObj nm q C N bs bm hdct sn sub ab col dd k0 k1 k2 k3 k5 newId))(X:K.In h)
  (hi:findIn K (.ref C) "__init__"=some (some (.ref f))) (hf:typeIn K (.ref f)=some (.type "function")) (hl:rest.length<=sizeLine)
  (hq:wpAny (model prog w) A (call (.ref f) (.ref (h.objs.size+1)::rest)) (fun v s' =>v=.none/\Q (.done (.ret (.ref (h.objs.size+1)))) s') E ⟨gR h C rest,g,d,t,os⟩):
  wpAny (model prog w) A (Builtin.«type.__call__» ⟨.ref C::rest,[]⟩) Q E ⟨h,g,d,t,os⟩:=by
 have hC1:(gR h C rest).get? C=some (excClassObj nm q C N bs bm hdct sn sub ab col dd k0 k1 k2 k3 k5 newId):=jX hC
 have aum:=xG (h:=h) (C:=C) (rest:=rest)
 have X1:K.In (gR h C rest):=X.keeps fun b o e=>jX e
 have L1:=looks_findIn (M:=model prog w) X1 hi
 have L2:=bind_fn (M:=model prog w) X1 (.ref (h.objs.size+1)) hf
 have L0:=iM (M:=model prog w) aum rfl
 have hcC:(Value.ref C::bm).contains (Value.ref C)=true:=by simp
 unfold Builtin.«type.__call__»
 refine wpAny_ite_false rfl ?_
 refine wpAny_bind (wpAny_mroOf_exc hC ?_)
 refine wpAny_ite_false rfl ?_
 refine wpAny_bind (wpAny_madeBy_exc hC (wpAny_bind (wpAny_pure ?_)))
 refine wpAny_bind (wpAny_holding (wpAny_call (codeAny_call_builtin_code (Code.quiet_builtin _ F.quiet) (wpAny_check_new_subT F T hC (codeAny_exc_new_subT F T hC ?_ hl)))))
 show wpAny (model prog w) A _ Q E ⟨gR h C rest,g,d,t,os⟩
 refine wpAny_bind ?_
 unfold isInstance
 refine wpAny_bind (L0.here (wpAny_isSubtype_exc hC1 ?_))
 rw [hcC]
 refine wpAny_ite_false rfl ?_
 refine wpAny_bind (wpAny_holding ?_)
 unfold callSpecial?
 refine wpAny_bind ?_
 unfold specialOf
 refine wpAny_bind (L0.here (L1.here ?_))
 refine wpAny_holding (wpAny_bind (L2.here (wpAny_bind (wpAny_mono hq (fun v s' z=>?_) fun _ _ z=>z))))
 obtain ⟨rfl,z⟩:=z
 refine wpAny_pure ?_
 refine wpAny_ite_false rfl ?_
 exact wpAny_pure z
theorem Yx {Q:γ}(F:ExcBaseFacts B newId DY bmB)(T:OwnTail h bmB bm)(hC:h.get? C=some (excClassObj nm q C N bs bm hdct sn sub ab col dd k0 k1 k2 k3 k5 newId))(X:K.In h)
  (hi:findIn K (.ref C) "__init__"=some (some (.ref f))) (hf:typeIn K (.ref f)=some (.type "function")) (hl:rest.length<=sizeLine)
  (hq:wpAny (model prog w) (A.under (.builtin "type.__call__" ⟨.ref C::rest,[]⟩)) (call (.ref f) (.ref (h.objs.size+1)::rest)) (fun v s' =>v=.none/\Q (.ref (h.objs.size+1)) s') E ⟨gR h C rest,g,d,t,os⟩):
  wpAny (model prog w) A (call (.ref C) rest) Q E ⟨h,g,d,t,os⟩:=by
 have f1:=tc_lookup
 have f2:=tc_bind (Value.ref C)
 have hT:(⟨h,g,d,t,os⟩:Shared).TypeIs (.ref C) "type":=⟨excClassObj nm q C N bs bm hdct sn sub ab col dd k0 k1 k2 k3 k5 newId,hC,rfl⟩
 refine wpAny_call (codeAny_of_tree ?_)
 refine wpAny_bind (wpAny_load' hC ?_)
 refine wpAny_bind (wpAny_specialOf hT f1 (wpAny_bind (wpAny_of_eq f2 (wpAny_bind ?_))))
 refine wpAny_pure (wpAny_ite_true rfl (wpAny_pure ⟨rfl,?_⟩))
 refine codeAny_call_builtin_at (Code.quiet_builtin _ (by decide+kernel)) entry_typeCall (wpAny_check_type_call_sub hC (zj F T hC X hi hf hl ?_))
 exact wpAny_mono hq (fun v s' z=>z) fun _ _ z=>z
end
end TyExc
set_option maxHeartbeats 400000
namespace TyExc
open PySem PySem.W PySem.Calls PyProof.Rows Builtin
section
variable {M:Model}{A:Around}{E:γ}{env:Env}{nm q:Str}{C N:Addr}{bs bm:θ}{hdct:Bool}{sn:ζ}{sub:θ}{ab:Bool}{col:Option Bool}{dd:ξ}{k0 k1 k2 k3 k5:Ι}{newId:String}{s:Shared}{x:Sem Value}{Q:Flow->Shared->Prop}
theorem UK (qO:bm.contains (.type "BaseException")=true)(hh:A.handled=none)
  (h:wpAny M A x (fun v s1=>∃e oe vs,v=.ref e/\s1.heap.get? C=some (excClassObj nm q C N bs bm hdct sn sub ab col dd k0 k1 k2 k3 k5 newId)/\s1.heap.get? e=some oe/\oe.cls=.ref C/\oe.data=.fields vs/\vs[1]? =some .none/\E (.ref e) s1) E s):
  wpAny M A (raiseStmt env (some x) none) Q E s:=by
 have hcB:(Value.ref C::bm).contains (.type "BaseException")=true:=by
  rw [List.contains_cons,qO,Bool.or_true]
 unfold raiseStmt
 refine wpAny_bind (wpAny_mono h (fun v s1 z=>?_) fun _ _ z=>z)
 obtain ⟨e,oe,vs,rfl,hC,he,Px,UJ,h1,hE⟩:=z
 obtain ⟨hp,g,d,tk,os⟩:=s1
 obtain ⟨c0,d0,dt,sl⟩:=oe
 dsimp only at Px UJ
 subst Px UJ
 have L0:=iM (M:=M) he rfl
 have hL:(excClassObj nm q C N bs bm hdct sn sub ab col dd k0 k1 k2 k3 k5 newId).cls=.type "type":=rfl
 refine wpAny_bind (wpAny_pure ?_)
 refine wpAny_bind (wpAny_holding ?_)
 unfold excFromValue isExcClass isType loadHead
 refine wpAny_bind (wpAny_bind (wpAny_bind (wpAny_loadPart_at he (wpAny_pure (wpAny_ite_false rfl (wpAny_pure (wpAny_ite_false rfl ?_)))))))
 refine wpAny_bind ?_
 unfold isInstance
 refine wpAny_bind (L0.here (wpAny_isSubtype_exc hC ?_))
 rw [hcB]
 refine wpAny_ite_true rfl (wpAny_pure ?_)
 dsimp only
 refine wpAny_bind ?_
 refine wpAny_bind (wpAny_loadPart_at he (wpAny_pure (wpAny_ite_false rfl ?_)))
 refine wpAny_bind ?_
 unfold raisedInstance
 have LC:Looks M hp (typeOf (.ref C)) (.type "type"):=(Looks.ld hC).andThen .now
 refine wpAny_bind (L0.here (wpAny_bind (LC.here (wpAny_ite_true rfl (wpAny_pure ?_)))))
 refine wpAny_bind ?_
 unfold setFlight
 refine wpAny_bind (wpAny_field he rfl h1 (wpAny_ite_false rfl (wpAny_pure ?_)))
 exact wpAny_raiseNew_none hh hE
end
end TyExc
set_option maxHeartbeats 400000
namespace TyExc
open PySem PySem.W
structure mK (K:Frag)(C:Addr)(f:Str):Prop where
 k:jc K C
 sa:findIn K (.ref C) "__setattr__"=some (some (.builtin "object.__setattr__"))
 hd:hasDictIn K C=true
 ov:(clsIn K C).any (fun cd=>iD cd.mro)=true
 nf:findIn K (.ref C) f=some none
theorem mK.cd {K:Frag}{C:Addr}{f:Str}(F:mK K C f):∃cd,clsIn K C=some cd/\cd.hasDict=true/\iD cd.mro=true:=by
 obtain ⟨cd,hc,ho⟩:=any_some F.ov
 obtain ⟨cd',DI,hh⟩:=any_some F.hd
 rw [hc] at DI
 cases DI
 exact ⟨cd,hc,hh,ho⟩
end TyExc
namespace Ty
open PySem PySem.Spec PyProof.Rows L2
def ke (C a:Addr)(dx:ξ):HO:=.ext fun h=>∃o vs tp,h.get? a=some o/\o.cls=.ref C/\o.data=.fields vs/\o.dict=dx/\vs[0]? =some (.ref tp)/\vs[1]? =some .none/\vs[2]? =some .none
def Py (d:Addr)(fs:Ζ):HO:=.ext fun h=>∃mA,h.Ns1 d mA/\∀f,jD (fs.lookup f) (mA f)
section
variable {P:Program}{w:World}{H:Hp}{h:Heap}{C a:Addr}{dx:ξ}
theorem EB {o:Obj}{vs:Μ}{tp:Addr}(e:h.get? a=some o)(hc:o.cls=.ref C)(hd:o.data=.fields vs)(hx:o.dict=dx)(h0:vs[0]? =some (.ref tp))(h1:vs[1]? =some .none)(h2:vs[2]? =some .none):bL P w H h a (ke C a dx):=
 ⟨⟨o,vs,tp,e,hc,hd,hx,h0,h1,h2⟩,⟨o,e⟩,fun _ _ ⟨o',vs',tp',q,r⟩ k=>⟨o',vs',tp',k _ q,r⟩⟩
theorem Yy {mA:ε}{fs:Ζ}(n:h.Ns1 a mA)(r:∀f,jD (fs.lookup f) (mA f)):bL P w H h a (Py a fs):=by
 obtain ⟨o,_,_,e,_⟩:=id n
 refine ⟨⟨mA,n,r⟩,⟨o,e⟩,fun h1 h2 z k=>?_⟩
 obtain ⟨mA',⟨o',es,ep,e',rr⟩,r'⟩:=z
 exact ⟨mA',⟨o',es,ep,k _ e',rr⟩,r'⟩
theorem UL {o:HO}(e:H a=some o):upd H a o=H:=by
 funext b
 by_cases c:b=a
 ·subst c
  rw [aj,e]
 ·rw [ah c]
end
section
variable {X:Cx}
inductive Yz (K:Frag)(Q:VK)(vs:η)(H1:Hp):Prop where
 | mk (a C dx rest:_) (_:vs=.ref a::rest) (_:H1 a=some (ke C a dx)) (_:TyExc.jc K C) (_:PySem.W.mroIn K C (.type "ValueError")=some true) (_:rest.length<=sizeLine) (_:Q .bN H1):Yz K Q vs H1
def anb (K:Frag)(ta:TA):TE:=fun σ H Q=>ta σ H fun vs H1=>Yz K Q vs H1
structure uW (K:Frag)(Y:Addr):Prop where
 ga:PySem.W.specialIn K (.ref Y) "__getattribute__"=some (some (.builtin "type.__getattribute__"))
 rd:PySem.W.readsIn K Y (.type "type")=true
 fi:PySem.W.findCls K (.ref Y) (.type "type") "__init__"=some (.val (.builtin "ValueError.__init__"))
theorem nk {y:Str}{Y:Addr}{np apos pos:Pos}{e:Expr}{es:ο}{t:TA}{pl:Sem Bool}(hY:uW X.K Y)(hm:X.mg y=some (.ref Y))(ha:PA X (e::es) t)(hg:Gl X y:=by rfl)(vG:(y==("__debug__":Str))=false:=by decide)
  (hst:starEach (e::es) X.env=(false,eval e X.env)::starEach es X.env:=by rfl) (wx:(backTo pos (starEach es X.env)).any (·.1)=false:=by rfl)
  (ht:eval (.Call (.Attribute (.Name y np) "__init__" apos) (e::es) [] pos) X.env=(do
   let ov <- eval (.Name y np) X.env
   standAt apos.atName
   let (f,first) <- holding [ov] (getMethod ov "__init__" pl)
   callWith pos f first (backTo pos (starEach (e::es) X.env)) (backToKw pos (keywordEach [] X.env))):=by rfl):
  PE X (.Call (.Attribute (.Name y np) "__init__" apos) (e::es) [] pos) (anb X.K t):=by
 intro pins s σ H Q I h
 refine PySem.W.methodCall_KW (pl:=pl) (gf I hg hm ?_ vG) ht
 refine PySem.W.method_cls I.iB hY.ga (PySem.W.cls_value I.iB hY.rd hY.fi rfl ?_)
 have I1:=I.tok (s.toks+1)
 refine PyProof.Rows.callWith_method1 (first:=[]) (cV (ha pos pins _ σ H _ I1 h) fun us s2 ⟨vs,H2,I2,r,q⟩=>?_) hst wx
 obtain ⟨a,C,dx,rest,rfl,ea,F,hv,hl,q⟩:=q
 cases r with
 | @cons _ u _ us' r1 rr=>
  cases (show u=Value.ref a from r1)
  obtain ⟨⟨o,ws,tp,e1,e2,e3,e4,e5,e6,e7⟩,_⟩:=(show bL X.prog X.w H2 s2.heap a (ke C a dx) from I2.bR a _ ea)
  have h0:0 < ws.size:=by
   have:=(Array.getElem?_eq_some_iff.mp e5).1
   omega
  obtain ⟨hp,g,d,tk,os⟩:=s2
  refine wpAny_call (TyExc.init_exc I2.iB e1 e2 e3 h0 hv F.is (by rw [<- rr.length];exact hl) fun h' vs' k1 k2 k3 k32 k4 k5=>?_)
  obtain ⟨tp',k4⟩:=k4
  have I3:=I2.write (x:=a) (e:=a) (o:=ke C a dx) (h' :=h') (t' :=tk) (by rw [ea];exact True.intro) (.inl rfl) (fun b q hb z=>k5 b q hb z) ⟨_,k1⟩ (EB k1 e2 rfl e4 k4 (k3.trans e6) (k32.trans e7))
  rw [UL ea] at I3
  exact ⟨.bN,H2,I3,rfl,q⟩
def anc (K:Frag)(ta tv:TE)(f:Str):TS:=fun D σ H=>tv σ H fun y H1=>ta σ H1 fun x H2=>∃a C,x=.ref a/\TyExc.mK K C f/\
 ((H2 a=some (ke C a none)/\∀d,H2 d=none->d≠a->D.nx σ (upd (upd H2 d (Py d [(f,y)])) a (ke C a (some d))))\/
  (∃dx fs,H2 a=some (ke C a (some dx))/\dx≠a/\H2 dx=some (Py dx fs)/\fs.length < 1000/\D.nx σ (upd H2 dx (Py dx (cL f y fs)))))
theorem nv {o value:Expr}{f:Str}{pos pos' :Pos}{ta tv:TE}(ha:PE X o ta)(hv:PE X value tv)(hs:swapsWith value (some (.Attribute o f pos')) pos.line X.env=pure false):PS X (.Assign [.Attribute o f pos'] value pos) (anc X.K ta tv f):=by
 intro pins s σ H D I h
 refine plainObj_wpAny_Assign_Attribute (cV (hv pins s σ H _ I h) fun u s1 ⟨y,H1,I1,ry,q⟩=>cV (ha pins s1 σ H1 _ I1 q) fun ov s2 ⟨x,H2,I2,rx,a,C,ex,F,q2⟩=>?_) hs
 subst ex
 obtain rfl:ov=Value.ref a:=rx
 obtain ⟨cd,hc,hh,ho⟩:=F.cd
 rcases q2 with ⟨ea,q3⟩ | ⟨dx,fs,ea,nd,ed,hl,q3⟩
 ·obtain ⟨⟨oe,ws,tp,e1,e2,e3,e4,e5,e6,e7⟩,_⟩:=(show bL X.prog X.w H2 s2.heap a (ke C a none) from I2.bR a _ ea)
  refine TyExc.D' I2.iB e1 e2 e3 e4 F.k F.sa hc hh ho F.nf fun h' tk k1 k2 k3=>?_
  have nl:s2.heap.objs.size≠a:=fun z=>by have:=Heap.lt_size e1;rw [<- z] at this;exact af3 _ this
  obtain ⟨oD,esD,epD,eD,dD,rD⟩:=id k2
  have nf:oD.isFreed=false:=BK eD
  have J1:Inv X pins σ (upd H2 s2.heap.objs.size (Py s2.heap.objs.size [(f,y)])) {s2 with heap:=s2.heap.push oD,toks:=s2.toks}:=by
   refine I2.laid (t' :=s2.toks) (fun b u q=>Heap.get?_push_of_some _ q) (abt _) (Yy (mA:=fun z=>if z=f then some u else none) ⟨oD,esD,epD,Heap.get?_push_size s2.heap nf,dD,rD⟩ fun z=>?_)
   show jD (ady z [(f,y)]) (if z=f then some u else none)
   by_cases c:z=f
   ·have hb:(z==f)=true:=beq_iff_eq.mpr c
    rw [if_pos c]
    simp only [ady,hb]
    exact ry
   ·have hb:(z==f)=false:=beq_eq_false_iff_ne.mpr c
    rw [if_neg c]
    simp only [ady,hb]
    trivial
  have ea' :(upd H2 s2.heap.objs.size (Py s2.heap.objs.size [(f,y)])) a=some (ke C a none):=by rw [ah (ac_ nl)];exact ea
  have J2:=J1.write (x:=a) (e:=a) (o:=ke C a (some s2.heap.objs.size)) (h' :=h') (t' :=tk) (by rw [ea'];exact True.intro) (.inl rfl) (fun b q hb z=>?_) ⟨_,k1⟩ (EB k1 e2 e3 rfl e5 e6 e7)
  ·exact ⟨σ,_,J2,q3 _ (I2.bR.fresh (abt _)) nl⟩
  ·by_cases c:b=s2.heap.objs.size
   ·subst c
    have z' :(s2.heap.push oD).get? s2.heap.objs.size=some q:=z
    rw [Heap.get?_push_size s2.heap nf] at z'
    cases z'
    exact eD
   ·have z' :s2.heap.get? b=some q:=(Heap.get?_push_ne s2.heap b oD c).symm.trans z
    exact k3 b q hb z'
 ·obtain ⟨⟨oe,ws,tp,e1,e2,e3,e4,e5,e6,e7⟩,_⟩:=(show bL X.prog X.w H2 s2.heap a (ke C a (some dx)) from I2.bR a _ ea)
  obtain ⟨⟨mA,n1,r1⟩,_⟩:=(show bL X.prog X.w H2 s2.heap dx (Py dx fs) from I2.bR dx _ ed)
  have wi:PySem.Within mA (fs.map (·.1)):=fun z hz=>by
   cases el:fs.lookup z with
   | none=>
    have:=r1 z
    rw [el] at this
    exact absurd (jD.none_of this) hz
   | some v=>
    have:∀{l:Ζ},l.lookup z=some v->z∈l.map (·.1):=fun {l}=>by
     induction l with
     | nil=>intro h;cases h
     | cons p l ih=>
      intro h
      obtain ⟨k,w⟩:=p
      by_cases c:z=k
      ·subst c
       exact abE
      ·have hb:(z==k)=false:=beq_eq_false_iff_ne.mpr c
       simp only [ady,hb] at h
       exact abz _ (ih h)
    exact this el
  refine TyExc.EA I2.iB e1 e2 e3 e4 nd n1 wi (by rw [Wp,sizeLine_eq];omega) F.k F.sa hc hh ho F.nf fun h' tk k1 k2=>?_
  have hd:∃o,h'.get? dx=some o:=by obtain ⟨o,_,_,e',_⟩:=k1;exact ⟨o,e'⟩
  have J:=I2.write (x:=dx) (e:=dx) (o:=Py dx (cL f y fs)) (h' :=h') (t' :=tk) (by rw [ed];exact True.intro) (.inl rfl) (fun b q hb z=>(k2.2 b hb).trans z) hd (Yy k1 fun z=>?_)
  ·exact ⟨σ,_,J,q3⟩
  ·show jD ((cL f y fs).lookup z) (if z=f then some u else mA z)
   rw [mE]
   by_cases c:z=f
   ·rw [if_pos c,if_pos c];exact ry
   ·rw [if_neg c,if_neg c];exact r1 z
inductive YA (K:Frag)(f:Str)(Q:VK)(x:V)(H1:Hp):Prop where
 | mk (a C dx fs v:_) (_:x=.ref a) (_:H1 a=some (j' (.ref C) a (some dx))) (_:H1 dx=some (Py dx fs)) (_:TyExc.mK K C f) (_:fs.lookup f=some v) (_:Q v H1):YA K f Q x H1
def agi (K:Frag)(ta:TE)(f:Str):TE:=fun σ H Q=>ta σ H fun x H1=>YA K f Q x H1
theorem adU {e:Expr}{f:Str}{pos:Pos}{ta:TE}(he:PE X e ta)(hb:attributeBase e f X.env (eval e X.env)=eval e X.env):PE X (.Attribute e f pos) (agi X.K ta f):=by
 intro pins s σ H Q I h
 refine S_ hb (cV (he pins s σ H _ I h) fun u s1 ⟨x,H1,I1,rx,a,C,dx,fs,v,ex,ea,ed,F,l,q⟩=>?_)
 subst ex
 obtain rfl:u=Value.ref a:=rx
 obtain ⟨⟨oe,ws,e1,e2,e3,e4,_⟩,_⟩:=(show bL X.prog X.w H1 s1.heap a (j' (.ref C) a (some dx)) from I1.bR a _ ea)
 obtain ⟨⟨mA,n1,r1⟩,_⟩:=(show bL X.prog X.w H1 s1.heap dx (Py dx fs) from I1.bR dx _ ed)
 obtain ⟨od,hod,hlk⟩:=A_ n1
 obtain ⟨u,hu,ru⟩:=jD.some_of (v:=v) (o:=mA f) (by rw [<- l];exact r1 f)
 have J:PySem.W.InstAt s1.heap a oe C (some od):=⟨e1,e2,by unfold PySem.W.notCls;rw [e3],by rw [e4];exact hod⟩
 exact TyExc.LK I1.iB F.k J (PySem.W.findObj_own F.hd F.nf rfl (by rw [hlk,hu])) (BA ru) ⟨v,H1,I1.tok _,ru,q⟩
end
end Ty
set_option maxHeartbeats 1000000
namespace Ty
open PySem PySem.Spec PyProof.Rows L2
abbrev Xx:List Value:=[Value.type "ValueError",Value.type "Exception",Value.type "BaseException",Value.type "object"]
structure pF (K:Frag)(C fi:Addr):Prop where
 obj:∃nm q N bs bm hdct sn sub ab col dd k0 k1 k2 k3 k5,K.lookup C=some (excClassObj nm q C N bs bm hdct sn sub ab col dd k0 k1 k2 k3 k5 "ValueError.__new__")/\PySem.W.tailIn K Xx bm=true
 init:PySem.W.findIn K (.ref C) "__init__"=some (some (.ref fi))
 fn:PySem.W.isFn K (.ref fi)=true
 kp:keepIn K (.ref C)=true
def qX (H:Hp)(e:Addr):Hp:=fun b=>if b=e then none else H b
theorem fW {H:Hp}{e b:Addr}(n:b≠e):qX H e b=H b:=by unfold qX;rw [if_neg n]
theorem pG {H:Hp}{e:Addr}:qX H e e=none:=by unfold qX;rw [if_pos rfl]
theorem adV {fs ex:π}{H:Hp}{h:Heap}{e:Addr}{φ:Heap->Prop}(he:H e=some (.ext φ)):Un fs ex H (qX H e) h h:=by
 have ne:∀{b:Addr} {o:HO},H b=some o->(∀ψ,o≠.ext ψ)->b≠e:=fun z n q=>by rw [q,he] at z;cases z;exact n _ rfl
 refine ⟨fun b o q _ _ _=>q,fun b o q _ _ _=>⟨o.slots,q⟩,fun b o q n _=>?_,fun b o q _=>⟨o,q⟩,fun b xs q=>?_,fun b o u q=>?_,fun b ps q=>?_⟩
 ·by_cases c:b=e
  ·rw [c,pG]
  ·rw [fW c];exact n
 ·rw [fW (ne q fun ψ z=>nomatch z)];exact q
 ·rw [fW (ne q fun ψ z=>nomatch z)];exact q
 ·exact ⟨#[],by rw [fW (ne q fun ψ z=>nomatch z),q];simp⟩
theorem YB {P:Program}{w:World}{H:Hp}{h:Heap}{e:Addr}{φ:Heap->Prop}(he:H e=some (.ext φ))(ok:kQ P w H h):kQ P w (qX H e) h:=fun b u q=>by
 have ne:∀{c:Addr} {o:HO},H c=some o->(∀ψ,o≠.ext ψ)->c≠e:=fun z n q=>by rw [q,he] at z;cases z;exact n _ rfl
 by_cases c:b=e
 ·rw [c,pG] at q
  cases q
 ·rw [fW c] at q
  exact (ok b u q).qF (fun _ _ _ z=>z) (fun c z=>by rw [fW (ne z fun ψ z=>nomatch z)];exact z) fun c xs z=>by rw [fW (ne z fun ψ z=>nomatch z)];exact z
def adW (C:Addr)(sp:Sp)(E:XK)(ta:TA):TS:=fun _ σ H=>ta σ H fun vs H1=>vs.length<=sizeLine/\∀e,H1 e=none->sp (.ref e::vs) (upd H1 e (ke C e none)) (fun v H2=>v=.bN/\∃dx,H2 e=some (ke C e dx)/\E (.ref C) dx (qX H2 e)) E0
section
variable {P:Program}{w:World}{K:Frag}{mg:ε}{base:Heap}{N:ζ}{qual:Str}{scope:Scope}{f:Addr}{cdv:Value}{A:Around}{outer:List Env}{s0:Shared}{H0:Hp}{E:XK}
theorem cN {x:Str}{C fi:Addr}{fd:FuncData}{ps:ζ}{sp:Sp}{k:Nat}{e₀:Expr}{rest:ο}{np hJ pos:Pos}{ta:TA}(hX:pF K C fi)(F:bH P w K mg base (aV P w) k fi fd ps sp)
  (hr:cF (k+1) (A.deeper (envOfC qual scope s0.heap.objs.size f cdv))) (hb:Binds K fd ps []) (hm:mg x=some (.ref C)) (ha:PA (gK P w K mg base N qual scope f cdv A outer s0 H0 E).pq (e₀::rest) ta)
  (hg:Gl (gK P w K mg base N qual scope f cdv A outer s0 H0 E) x:=by rfl) (hd:(x==("__debug__":Str))=false:=by decide)
  (he:starEach (e₀::rest) (gK P w K mg base N qual scope f cdv A outer s0 H0 E).env=(false,eval e₀ (gK P w K mg base N qual scope f cdv A outer s0 H0 E).env)::starEach rest (gK P w K mg base N qual scope f cdv A outer s0 H0 E).env:=by rfl)
  (hp:(backTo hJ (starEach rest (gK P w K mg base N qual scope f cdv A outer s0 H0 E).env)).any (·.1)=false:=by rfl):
  PS (gK P w K mg base N qual scope f cdv A outer s0 H0 E) (.Raise (some (.Call (.Name x np) (e₀::rest) [] hJ)) none pos) (adW C sp E ta):=by
 intro pins s σ H D I h
 obtain ⟨nm,q,Na,bs,bm,hdct,sn,sub,ab,col,dd,k0,k1,k2,k3,k5,hlk,htl⟩:=hX.obj
 have hin:∀env∈(gK P w K mg base N qual scope f cdv A outer s0 H0 E).stack,∀b,env.frame=some b->b∈mx (gK P w K mg base N qual scope f cdv A outer s0 H0 E).stack:=fun env he b hb=>af6.mpr ⟨env,he,hb⟩
 have FB:=PySem.F.excBase_ValueError
 have qO:bm.contains (Value.type "BaseException")=true:=(PySem.W.tail_of_in I.iB htl).hasType FB.hasBase
 rw [arm_exec_Raise]
 refine wpAny_bind (wpAny_standAt (TyExc.UK (C:=C) (nm:=nm) (q:=q) (N:=Na) (bs:=bs) (bm:=bm) (hdct:=hdct) (sn:=sn) (sub:=sub) (ab:=ab) (col:=col) (dd:=dd) (k0:=k0) (k1:=k1) (k2:=k2) (k3:=k3) (k5:=k5) (newId:="ValueError.__new__") qO hr.hd ?_))
 refine wpAny_bind ?_
 refine wpAny_Call_Name_kw (gf I hg hm ?_ hd)
 refine PySem.W.callWith_K (h₀:=base) I.ok.mod.XI hX.kp (wpAny_mono (ha hJ pins s σ H _ (I.pk _) h) (fun us s1 ⟨vs,H1,I1,r,hl,q1⟩=>⟨I1.iB,?_⟩) fun _ _ z=>z.elim) he hp
 have I2:Inv (gK P w K mg base N qual scope f cdv A outer s0 H0 E) pins σ H1 s1:=I1.hG
 obtain ⟨h1,g1,d1,t1,o1⟩:=s1
 have T:OwnTail h1 Xx bm:=PySem.W.tail_of_in I2.iB htl
 have hC:h1.get? C=some (excClassObj nm q C Na bs bm hdct sn sub ab col dd k0 k1 k2 k3 k5 "ValueError.__new__"):=I2.iB _ _ hlk
 have hlu:us.length<=sizeLine:=by rw [<- r.length];exact hl
 have hq:=q1 (h1.objs.size+1) (I2.bR.fresh (agl _))
 refine TyExc.Yx FB T hC I2.iB hX.init (beq_iff_eq.mp hX.fn) hlu ?_
 have kp:∀b o,h1.get? b=some o->(TyExc.gR h1 C us).get? b=some o:=fun b o e=>TyExc.jX e
 have I3:Inv (gK P w K mg base N qual scope f cdv A outer s0 H0 E) pins σ (upd H1 (h1.objs.size+1) (ke C (h1.objs.size+1) none)) ⟨TyExc.gR h1 C us,g1,d1,t1,o1⟩:=
  I2.laid (t' :=t1) kp (agl _) (EB TyExc.xG rfl rfl rfl rfl rfl rfl)
 have r2:Vals (V.ref (h1.objs.size+1)::vs) (Value.ref (h1.objs.size+1)::us):=.cons rfl r
 have hl2:(Value.ref (h1.objs.size+1)::us++[]).length=ps.length:=by
  rw [ad_, <- r2.length]
  exact F.len _ _ _ _ hq
 have bt:=hb ⟨TyExc.gR h1 C us,g1,d1,t1,o1⟩ (Value.ref (h1.objs.size+1)::us) I3.iB hl2
 rw [ad_] at bt
 refine wpAny_call (codeAny_mono (F.run _ (gK P w K mg base N qual scope f cdv A outer s0 H0 E).stack _ _ ⟨Value.ref (h1.objs.size+1)::us,[]⟩ (Value.ref (h1.objs.size+1)::us) _ _ E0 (hr.make C us []) (I3.Uy.make C us []) bt r2 hq) fun rr s' nS =>?_)
 cases rr with
 | error e=>exact (aV.zg _ _ _ _ _ nS).elim
 | ok fl=>
  cases fl with
  | ret u=>
   obtain ⟨v,H',os',agk,un',UC,ru,ev,dx,ee,hE⟩:=nS
   subst ev
   refine ⟨ru,wpAny_bind (wpAny_standAt (wpAny_pure ?_))⟩
   obtain ⟨⟨oe,ws,tp,e1,e2,e3,e4,e5,e6,e7⟩,_⟩:=(show bL P w H' s'.heap (h1.objs.size+1) (ke C (h1.objs.size+1) dx) from UC _ _ ee)
   have I4:Inv (gK P w K mg base N qual scope f cdv A outer s0 H0 E) pins σ H' s' :=I3.KL (ch:=[]) os' un' UC agk fun b z=>absurd z (by simp)
   refine ⟨h1.objs.size+1,oe,ws,rfl,I4.iB _ _ hlk,e1,e2,e3,e6,?_⟩
   show wpAny (model P w) (A.deeper (envOfC qual scope s0.heap.objs.size f cdv)) (leaving (envOfC qual scope s0.heap.objs.size f cdv) (.ref (h1.objs.size+1))) _ _ s'
   have Qx:h1.objs.size+1∉mx (gK P w K mg base N qual scope f cdv A outer s0 H0 E).stack:=fun z=>by
    have:=I4.qG _ z
    rw [ee] at this
    cases this
   have ffB:=PySem.W.funFrames_hide (as:=(h1.objs.size+1)::mx (gK P w K mg base N qual scope f cdv A outer s0 H0 E).stack) I4.stack (fun env he b hb=>abz _ (hin env he b hb))
   generalize hB:PySem.W.hideAll s'.heap ((h1.objs.size+1)::mx (gK P w K mg base N qual scope f cdv A outer s0 H0 E).stack)=B at ffB
   have st:B.StaysIn s'.heap:=fun b o q=>by rw [<- hB] at q;exact PySem.W.of_hideAll _ q
   have bn:B.get? (h1.objs.size+1)=none:=by rw [<- hB];exact PySem.W.hideAll_none _ abE
   have da:DictAt s'.heap (h1.objs.size+1) dx:=⟨oe,e1,e4,(LG e3).trans e7⟩
   refine wpAny_mono (Kp.any pE (wpAny_leaving_firstW (outer:=outer) (s:=s') (base:=B) (Q:=fun _ s3=>∃h2,s3={s' with heap:=h2}/\B.LeftW (envOfC qual scope s0.heap.objs.size f cdv::outer) (h1.objs.size+1) oe.cls (.ref tp) s'.heap h2) (E:=fun _ _=>False) I.ok.frames ffB rfl e1 st bn e3 e6 e5 fun h2 lw=>⟨h2,rfl,lw⟩)) (fun _ s3 z=>?_) fun _ _ z=>z.elim
   obtain ⟨⟨h2,rfl,lw1,lw2,lw3,lw4⟩,kd⟩:=z
   have un0:Un (mx (gK P w K mg base N qual scope f cdv A outer s0 H0 E).stack) [] H1 (upd H1 (h1.objs.size+1) (ke C (h1.objs.size+1) none)) h1 (TyExc.gR h1 C us):=Un.laid kp (agl _) (I2.bR.fresh (agl _))
   have unA:=(un0.trans un').trans (adV (e:=h1.objs.size+1) ee)
   rw [e2] at lw3
   have fl:B.FlyingW outer (h1.objs.size+1) (.ref C) (.ref tp) h2:=⟨lw1,bn,lw2.2.2,lw3⟩
   refine Qv (s' :=s') (H:=H1) (s:=⟨h1,g1,d1,t1,o1⟩) I2 fl (da.kd kd) ffB st unA (YB ee UC) os' agk (fun b o eb hb=>?_) (fun b u eb=>?_) lw4 hE
   ·obtain ⟨o',e'⟩:=(un0.trans un').there b o eb (by simp)
    refine ⟨o',?_⟩
    rw [<- hB]
    refine PySem.W.hideAll_get _ e' fun z=>?_
    rcases aby.mp z with z | z
    ·have:=Heap.lt_size eb
     rw [z] at this
     simp only [Addr] at*
     omega
    ·exact hb z
   ·have nb:b≠h1.objs.size+1:=fun z=>by rw [z,pG] at eb;cases eb
    rw [fW nb] at eb
    obtain ⟨o,ho⟩:=obj_some (UC b u eb)
    refine ⟨o,?_⟩
    rw [<- hB]
    refine PySem.W.hideAll_get _ ho fun z=>?_
    rcases aby.mp z with z | z
    ·exact nb z
    ·have:=I4.qG b z
     rw [eb] at this
     cases this
  | next=>exact False.elim nS
  | brk=>exact False.elim nS
  | cont=>exact False.elim nS
end
section
variable {prog:Program}{w:World}{A:Around}{R:ς}{s:Shared}
theorem EC {elt target iter:Expr}{ifs:ο}{scope:Scope}{pos:Pos}{it acc:Value}{env:Env}(I:Nat->Shared->Prop)
  (turn:∀n s,I n s->wpAny (model prog w) A (pyNext it) (fun r s₁=>match r with
   | none=>R (.ok .next) s₁
   | some v=>wpAny (model prog w) A (letOwnedTupleGo target it v) (fun _ s₁' =>wpAny (model prog w) A (assign target env v) (fun _ s₂=>
     wpAny (model prog w) A (forIn ifs true fun c r=>if r=true then do let ok <- isTrue c env (eval c env);pure (ForInStep.yield ok) else pure (ForInStep.yield r)) (fun ok s₃=>
      if ok=true then wpAny (model prog w) A (eval elt env) (fun x s₄=>
       wpAny (model prog w) A (call (.builtin "list.append") [acc,x]) (fun _ s₅=>∃m,m < n/\I m s₅) (fun _ _=>False) s₄) (fun _ _=>False) s₃
      else ∃m,m < n/\I m s₃) (fun _ _=>False) s₂) (fun _ _=>False) s₁') (fun _ _=>False) s₁) (fun _ _=>False) s)
  (n:Nat) (h:I n s):
  codeAny (model prog w) A (.compLoop (.ListComp elt [⟨target,iter,ifs,0⟩] scope pos) 0 it acc env) R s:=by
 refine codeAny_loop rfl I (fun n s hI=>?_) n h
 show wpAny _ A ((compTurn (.ListComp elt [⟨target,iter,ifs,0⟩] scope pos) 0 it acc env).onRaise (fun x=>do noteFrame x env;theTreesLotGoes x)) _ _ s
 refine wpAny_noted ?_
 rw [compTurn_list]
 refine wpAny_bind (wpAny_standAt (wpAny_bind (wpAny_mono (turn n s hI) (fun r s₁ h₁=>?_) fun _ _ h' =>h'.elim)))
 cases r with
 | none=>exact wpAny_pure h₁
 | some v=>
  refine wpAny_bind (wpAny_mono h₁ (fun _ s₁' h₁' =>?_) fun _ _ h' =>h'.elim)
  refine wpAny_bind (wpAny_mono h₁' (fun _ s₂ h₂=>wpAny_bind (wpAny_mono h₂ (fun ok s₃ h₃=>?_) fun _ _ h' =>h'.elim)) fun _ _ h' =>h'.elim)
  cases ok with
  | false=>exact wpAny_pure ⟨rfl,h₃⟩
  | true=>
   exact wpAny_bind (wpAny_bind (wpAny_mono h₃ (fun x s₄ h₄=>wpAny_bind (wpAny_mono h₄ (fun _ s₅ h₅=>wpAny_pure (wpAny_pure ⟨rfl,h₅⟩)) fun _ _ h' =>h'.elim)) fun _ _ h' =>h'.elim))
end
def bp (env:Env)(fr:ζ):List (Str×Addr):=fr.filterMap fun n=>(env.cells.lookup n).map fun c=>(n,c)
theorem lookup_mem {α:Type}{x:Str}{c:α}:∀{l:List (Str×α)},l.lookup x=some c->(x,c)∈l
 | [],h=>by simp at h
 | (y,d)::r,h=>by
  rw [aoo] at h
  cases e:x==y with
  | true=>
   rw [e] at h
   have e1:x=y:=by simpa using e
   cases h
   rw [e1]
   exact abE
  | false=>
   rw [e] at h
   exact abz _ (lookup_mem h)
theorem UM {env:Env}{fr:ζ}{x:Str}{c:Addr}(h:(x,c)∈bp env fr):env.cells.lookup x=some c:=by
 obtain ⟨n,_,e⟩:=af6.mp h
 cases q:env.cells.lookup n with
 | none=>rw [q] at e;cases e
 | some d=>
  rw [q] at e
  have e' :(n,d)=(x,c):=abq e
  cases e'
  exact q
theorem iU {env:Env}{fr:ζ}{x:Str}{c:Addr}(h:(bp env fr).lookup x=some c):env.cells.lookup x=some c:=UM (lookup_mem h)
theorem tu {env:Env}{x:Str}{c:Addr}(q:env.cells.lookup x=some c):∀{fr:ζ},x∈fr->(bp env fr).lookup x=some c
 | [],h=>nomatch h
 | y::r,h=>by
  unfold bp
  rw [aiK]
  by_cases e:x=y
  ·subst e
   rw [q]
   simp
  ·have hr:x∈r:=by
    rcases aby.mp h with z | z
    ·exact absurd z e
    ·exact z
   have ih:=tu q hr
   cases z:env.cells.lookup y with
   | none=>exact ih
   | some d=>
    show ady x ((y,d)::_)=_
    rw [aoo]
    have ne:(x==y)=false:=by simpa using e
    rw [ne]
    exact ih
def jY (env:Env):List Str->Prop
 | []=>True
 | y::r=>(env.kindOf y=some .cell\/env.kindOf y=some .free)/\jY env r
theorem jY.at {env:Env}{x:Str}:∀{fr:ζ},jY env fr->x∈fr->env.kindOf x=some .cell\/env.kindOf x=some .free
 | [],_,h=>nomatch h
 | y::r,a,h=>by
  rcases aby.mp h with z | z
  ·rw [z]
   exact a.1
  ·exact jY.at a.2 z
section
variable {X:Cx}
def JV (X:Cx)(NB:ζ)(scope:Scope)(fn:Str->Bool)(cl:List (Str×Addr))(C:Addr)(s:Shared)(H:Hp)(fp:π):Cx:=
 {prog:=X.prog,w:=X.w,K:=X.K,mg:=X.mg,base:=X.base,A:=X.A,N:=NB,s₀:=s,H₀:=H,env:=compEnvC scope cl C X.env,outer:=X.stack,stack:=X.stack,ex:=fp,fn:=fn,calm:=X.calm,pn:=[],xe:=fun _ _=>False}
abbrev LM (X:Cx)(NB:ζ)(scope:Scope)(cl:List (Str×Addr))(C:Addr)(s:Shared)(H:Hp)(fp:π):Cx:=JV X NB scope (fun _=>false) cl C s H fp
structure adX (X:Cx)(scope:Scope)(ow:Addr->List (Str×Addr))(fn:Str->Bool)(fr:ζ)(caps:Α):Prop where
 adY:closureFor scope X.env=pure (bp X.env fr)
 kind:scope.kind=.function
 names:∀y∈scope.names,y.2=.local->scope.names.lookup y.1=some .local
 free:∀y∈scope.names,y.2=.free->y.1∈fr
 caps:caps.map (fun i=>X.N[i]?)=fr.map some
 out:jY X.env fr
 inn:jY (compEnvC scope [] 0 X.env) fr
 new:∀{s:Shared} {Q:Env->Shared->Prop} {E:γ},(∀h',h'.Ns s.heap.objs.size (fun _=>none)->(∀b o,s.heap.get? b=some o->h'.get? b=some o)->(∀x c,(ow s.heap.objs.size).lookup x=some c->h'.IsCell c none)->
   Q (newEnv scope s.heap.objs.size X.env.globals (ow s.heap.objs.size++bp X.env fr) X.env.qual none .none (some X.env) builtinsNs) {s with heap:=h',toks:=s.toks+([]:List (Str×Value)).length})->
  wpAny (model X.prog X.w) X.A (newFunctionEnv scope X.env.globals (bp X.env fr) [] X.env.qual none .none (some X.env)) Q E s
 ge:∀C x c,(ow C).lookup x=some c->C < c
 one:∀C x z c,(ow C).lookup x=some c->(ow C).lookup z=some c->x=z
 fn1:∀C x,fn x=true->(ow C).lookup x≠none
 only:∀z∈scope.names,z.2=.cell->fn z.1=true
 ny:∀C,∀x∈fr,(ow C).lookup x=none
theorem BL {x:Str}{c:Addr}{o cl:List (Str×Addr)}(h:(o++cl).lookup x=some c):o.lookup x=some c\/(o.lookup x=none/\cl.lookup x=some c):=by
 rw [alM] at h
 cases e:o.lookup x with
 | none=>rw [e] at h;exact .inr ⟨rfl,h⟩
 | some d=>rw [e] at h;exact .inl h
structure Qy (X:Cx)(scope:Scope)(fr:ζ)(caps:Α):Prop where
 adY:closureFor scope X.env=pure (bp X.env fr)
 cell:∀y∈scope.names,y.2≠.cell
 kind:scope.kind=.function
 names:∀y∈scope.names,y.2=.local->scope.names.lookup y.1=some .local
 free:∀y∈scope.names,y.2=.free->y.1∈fr
 caps:caps.map (fun i=>X.N[i]?)=fr.map some
 out:jY X.env fr
 inn:jY (compEnvC scope [] 0 X.env) fr
def PF (X:Cx)(ifs:ο)(t:TT):Prop:=
 ∀(pins:δ) (s:Shared) (σ:L2.St) (H:Hp) (Q:Bool->Hp->Prop),Inv X pins σ H s->t σ H Q->
  wpAny (model X.prog X.w) X.A (forIn ifs true fun c r=>if r=true then do let ok <- isTrue c X.env (eval c X.env);pure (ForInStep.yield ok) else pure (ForInStep.yield r)) (TP X pins σ Q) X.xe s
def zk:TT:=fun _ H Q=>Q true H
theorem YC:PF X [] zk:=fun _ _ _ H _ I h=>wpAny_tests_nil ⟨H,I,h⟩
def sB (k:Nat)(caps:Α)(σ:L2.St):L2.St:=ap_ k none++caps.map fun i=>(σ[i]?).getD none
def LN (D:Addr)(g:TG)(tt:TT)(te:TE)(J:It)(σ0:L2.St)(H1:Hp)(Q:VK):Prop:=∃W:Nat->Nat->L2.St->List V->Hp->Prop,
 (∃m,W 0 m σ0 [] (upd H1 D (.lst [])))/\∀i m σ2 ys H2,W i m σ2 ys H2->(J.stop i H2/\Q (.ref D) H2)\/(J.go i H2/\∀x H3,J.yld i H2 x H3->g x σ2 H3 fun σ4 H4=>tt σ4 H4 fun b H5=>
  if b=true then te σ4 H5 fun v H6=>H6 D=some (.lst ys)/\ys.length < sizeLine/\∃m',m' < m/\W (i+1) m' σ4 (ys++[v]) (upd H6 D (.lst (ys++[v]))) else ∃m',m' < m/\W (i+1) m' σ4 ys H5)
def BM (k:Nat)(caps:Α)(wi:TI)(g:TG)(tt:TT)(te:TE):TE:=fun σ H Q=>wi σ H fun J H1=>∀D,H1 D=none->LN D g tt te J (sB k caps σ) H1 Q
theorem aiI {k:Nat}{caps:Α}{σ:L2.St}{i:Nat}{v:V}(h:(sB k caps σ)[i]? =some (some v)):k<=i/\∃j,caps[i - k]? =some j/\σ[j]? =some (some v):=by
 unfold sB at h
 by_cases c:i < k
 ·rw [aeE (by simpa using c),alW,if_pos c] at h
  cases h
 ·rw [aea (by simpa using alX c),amT,abx] at h
  refine ⟨alX c,?_⟩
  cases e:caps[i - k]? with
  | none=>rw [e] at h;cases h
  | some j=>
   rw [e] at h
   refine ⟨j,rfl,?_⟩
   have h' :(σ[j]?).getD none=some v:=abq h
   cases z:σ[j]? with
   | none=>rw [z] at h';cases h'
   | some o=>
    rw [z] at h'
    exact congrArg some h'
theorem xH {ow:Addr->List (Str×Addr)}{fn:Str->Bool}{elt target iter:Expr}{ifs:ο}{scope:Scope}{pos:Pos}{tn fr:ζ}{caps:Α}{g:TG}{tt:TT}{te:TE}{pins:δ}{σ:L2.St}{H2:Hp}{s2:Shared}{J:It}{fp:π}{it:Addr}
  {tnn:Nat->Heap->Prop} {Q:VK} {RR:Value->Addr->Result->Shared->Prop} {E:γ} (hc:X.calm=true) (B:adX X scope ow fn fr caps)
  (hg:∀C s H fp,PG (JV X (tn++fr) scope fn (ow C++bp X.env fr) C s H fp) target g) (ht:∀C s H fp,PF (JV X (tn++fr) scope fn (ow C++bp X.env fr) C s H fp) ifs tt) (he:∀C s H fp,PE (JV X (tn++fr) scope fn (ow C++bp X.env fr) C s H fp) elt te)
  (I2:Inv X pins σ H2 s2) (T:Turn X.prog X.w X.K target J fp it tnn) (st2:tnn 0 s2.heap) (f2:∀b∈fp,vE X pins H2 b) (q:∀D,H2 D=none->LN D g tt te J (sB tn.length caps σ) H2 Q)
  (fin:∀D C H' s' m,Inv X pins σ H' s' ->s'.heap.Ns C m->vE X pins H' C->Q (.ref D) H' ->RR (.ref D) C (.ok .next) s'):
  wpAny (model X.prog X.w) X.A (newList []) (fun acc s₃=>wpAny (model X.prog X.w) X.A (newFunctionEnv scope X.env.globals (bp X.env fr) [] X.env.qual none .none (some X.env)) (fun ane s₄=>
   codeAny (model X.prog X.w) X.A (.compStart (.ListComp elt [⟨target,iter,ifs,0⟩] scope pos) 0 (.ref it) acc {ane with scope:=relabel scope X.env}) (RR acc ane.locals) s₄) E s₃) E s2:=by
 refine wpAny_newObj_type (B.new (fun h₁ aiJ hk₁ hc₁=>?_))
 have I3:Inv X pins σ (upd H2 s2.heap.objs.size (.lst [])) {s2 with heap:=s2.heap.push {cls:=.type "list",data:=.seq ([]:List Value).toArray}}:=I2.amX (t' :=s2.toks) (its:=[]) .nil (af0 _)
 obtain ⟨W,⟨m0,w0⟩,turn⟩:=q s2.heap.objs.size (I2.bR.fresh (abt _))
 generalize hH3:upd H2 s2.heap.objs.size (.lst [])=H3 at I3 w0
 have f3:∀b∈fp,vE X pins H3 b:=fun b hb=>by
  obtain ⟨a0,a1⟩:=f2 b hb
  refine ⟨?_,a1⟩
  obtain ⟨o,e,_⟩:=T.obj _ _ st2 b hb
  rw [<- hH3,ah (ab_ (Heap.lt_size e))]
  exact a0
 generalize hD:s2.heap.objs.size=D at*
 generalize hs3:({s2 with heap:=s2.heap.push {cls:=.type "list",data:=.seq ([]:List Value).toArray}}:Shared)=s3 at*
 have e3:s3.heap=s2.heap.push {cls:=.type "list",data:=.seq ([]:List Value).toArray}:=by rw [<- hs3]
 have st3:tnn 0 s3.heap:=T.keep _ _ _ st2 fun b _ o e=>by rw [e3];exact Heap.get?_push_of_some _ e
 have kept:∀b o,s3.heap.get? b=some o->h₁.get? b=some o:=fun b o e=>hk₁ b o e
 generalize hC:s3.heap.objs.size=C at*
 have hCs:s3.heap.objs.size<=C:=amA hC
 have I4:Inv X pins σ H3 {s3 with heap:=h₁,toks:=s3.toks+([]:List (Str×Value)).length}:=I3.kept kept
 have fpC:∀b∈fp,b≠C:=fun b hb z=>by
  obtain ⟨o,e,_⟩:=T.obj _ _ st3 b hb
  exact absurd z (ab_ (abu (Heap.lt_size e) hCs))
 have nst:∀b∈fp,b∉mx X.stack:=fun b hb z=>(aby.mp (I3.DH b z)).elim (f3 b hb).2.1 (f3 b hb).2.2.1
 have old:∀x c,(bp X.env fr).lookup x=some c->c < C:=fun x c e=>by
  obtain ⟨v,ic⟩:=I3.cell x c (iU e)
  rw [<- hC]
  exact ic.lt
 have aup:∀x z c,(ow C++bp X.env fr).lookup x=some c->(ow C++bp X.env fr).lookup z=some c->x=z:=fun x z c e1 e2=>by
  rcases BL e1 with b1 | ⟨_,b1⟩ <;> rcases BL e2 with b2 | ⟨_,b2⟩
  ·exact B.one _ _ _ _ b1 b2
  ·exact absurd (old z c b2) (Nat.lt_asymm (B.ge _ _ _ b1))
  ·exact absurd (old x c b1) (Nat.lt_asymm (B.ge _ _ _ b2))
  ·exact I3.ok.inj x z c (iU b1) (iU b2)
 have auq:∀x c,fn x=true->(ow C++bp X.env fr).lookup x=some c->s3.heap.objs.size<=c:=fun x c hx e=>by
  rcases BL e with b1 | ⟨a1,b1⟩
  ·exact ir (amA hC) (alH (B.ge _ _ _ b1))
  ·exact absurd a1 (B.fn1 C x hx)
 have nfp:∀b∈fp,∀x c,(ow C++bp X.env fr).lookup x=some c->c≠b:=fun b hb x c e=>by
  rcases BL e with b1 | ⟨a1,b1⟩
  ·obtain ⟨o,eo,_⟩:=T.obj _ _ st3 b hb
   have:=Heap.lt_size eo
   rw [hC] at this
   exact ac_ (ab_ (Nat.lt_trans this (B.ge _ _ _ b1)))
  ·exact (f3 b hb).2.2.2.2.1 x c (iU b1)
 have ang:∀{x:Str} {c:Addr},x∈fr->(bp X.env fr).lookup x=some c->(ow C++bp X.env fr).lookup x=some c:=fun {x c} hx e=>by
  rw [alM,B.ny C x hx]
  exact e
 have gi:(JV X (tn++fr) scope fn (ow C++bp X.env fr) C s3 H3 fp).Ok:=by
  refine ⟨I3.ok.mod,B.kind,I3.ok.glob,I3.ok.blt,hCs,aup,fun x hx=>?_,auq,I3.ok.hd,I3.ok.frames,.inl rfl,
   fun b hb=>⟨fpC b hb,fun x c e=>nfp b hb x c e⟩,I3.bs,ir I3.ok.Xv I3.sz,fun b o e hb=>?_,nst,I3.stack,I3.qG⟩
  ·have hm:∃k,(x,k)∈scope.names/\k≠.local/\(k=.cell\/k=.free):=by
    have:∃k',(relabel scope X.env).names.lookup x=some k' /\(k' =.cell\/k' =.free):=by
     rcases hx with z | z
     ·exact ⟨_,z,.inl rfl⟩
     ·exact ⟨_,z,.inr rfl⟩
    obtain ⟨k',e',h'⟩:=this
    obtain ⟨⟨n,k⟩,hn,en⟩:=aeu.mp (lookup_mem e')
    dsimp only at en
    by_cases cc:(k==NameKind.free && X.env.scope.kind==.function && X.env.kindOf n==some .cell)=true
    ·rw [if_pos cc] at en
     cases en
     have kf:k=.free:=by
      rw [abA,abA] at cc
      simpa using cc.1.1
     exact ⟨k,hn,(by intro z;rw [kf] at z;cases z),.inr kf⟩
    ·rw [if_neg cc] at en
     cases en
     exact ⟨k',hn,fun z' =>by rcases h' with y | y <;> (rw [y] at z';cases z'),h'⟩
   obtain ⟨k,hk,_,h2⟩:=hm
   rcases h2 with z | z
   ·cases e:(ow C).lookup x with
    | none=>exact absurd e (B.fn1 C x (B.only _ hk z))
    | some c=>exact ⟨c,by show ady x (ow C++_)=_;rw [alM,e];rfl⟩
   ·have hf:=B.free _ hk z
    obtain ⟨c,ec⟩:=I3.ok.has x (B.out.at hf)
    exact ⟨c,ang hf (tu ec hf)⟩
  ·obtain ⟨_,_,_,h1,_⟩:=f3 b hb
   rcases h1 with z | z
   ·exact I3.ok.Ql b o e z
   ·exact af3 _ (abu (abu (Heap.lt_size e) I3.ok.Xv) z)
 have IB:Inv (JV X (tn++fr) scope fn (ow C++bp X.env fr) C s3 H3 fp) [] (sB tn.length caps σ) H3 {s3 with heap:=h₁,toks:=s3.toks+([]:List (Str×Value)).length}:=by
  refine ⟨gi,rfl,I3.bare,Un.kept kept,⟨_,aiJ,fun i x v e1 e2 _=>?_⟩,fun x c e=>(BL e).elim (fun z=>⟨none,hc₁ x c z⟩) (fun z=>I4.cell x c (iU z.2)),?_,fun x c e=>(BL e).elim (fun z=>I3.bR.fresh (ir hCs (alH (B.ge _ _ _ z)))) (fun z=>I3.iI x c (iU z.2)),fun p hp=>(nomatch hp),I3.bR.kept kept,?_⟩
  ·obtain ⟨hk,j,ej,es⟩:=aiI e2
   have Tg :fr[i - tn.length]? =some x:=by
    have z:(tn++fr)[i]? =some x:=e1
    rw [aea hk] at z
    exact z
   have hx:x∈fr:=abw Tg
   have eN:X.N[j]? =some x:=by
    have z:=congrArg (fun l:List (Option Str)=>l[i - tn.length]?) B.caps
    simp only [abx,ej,Tg,Option.map_some] at z
    exact abq z
   have ko:=B.out.at hx
   obtain ⟨m,hn,hl⟩:=I4.loc
   obtain ⟨u,r,lk⟩:=hl j x v eN es (by rcases ko with z | z;exact .inr (.inl z);exact .inr (.inr z))
   refine ⟨u,r,?_⟩
   rcases lk with ⟨k1,_⟩ | ⟨_,c,ec,ic⟩
   ·rcases ko with z | z <;> (rw [z] at k1;cases k1)
   ·exact .inr ⟨B.inn.at hx,c,ang hx (tu ec hx),ic⟩
  ·exact I3.bR.fresh hCs
  ·have:=congrArg alB B.caps
   simp only [Wp] at this
   show (sB tn.length caps σ).length=(tn++fr).length
   unfold sB
   simp [this]
 have YD:∀{H' :Hp},(∀b∈fp,H' b=none)->∀b∈fp,vE (JV X (tn++fr) scope fn (ow C++bp X.env fr) C s3 H3 fp) [] H' b:=fun hn b hb=>
  ⟨hn b hb,fpC b hb,nst b hb,.inl hb,nfp b hb,fun p hp=>(nomatch hp)⟩
 have st4:tnn 0 h₁:=T.keep _ _ _ st3 fun b _ o e=>kept b o e
 have loop:codeAny (model X.prog X.w) X.A (.compLoop (.ListComp elt [⟨target,iter,ifs,0⟩] scope pos) 0 (.ref it) (.ref D) (compEnvC scope (ow C++bp X.env fr) C X.env)) (RR (.ref D) C) {s3 with heap:=h₁,toks:=s3.toks+([]:List (Str×Value)).length}:=by
  refine EC (fun n s' =>∃i σ' ys H',Inv (JV X (tn++fr) scope fn (ow C++bp X.env fr) C s3 H3 fp) [] σ' H' s' /\tnn i s'.heap/\(∀b∈fp,H' b=none)/\W i n σ' ys H') ?_ m0 ⟨0,_,[],H3,IB,st4,fun b hb=>(f3 b hb).1,w0⟩
  rintro n s5 ⟨i,σ5,ys,H5,I5,st5,fr5,w5⟩
  rcases turn i n σ5 ys H5 w5 with ⟨stop,qn⟩ | ⟨go,step⟩
  ·refine wpAny_mono (T.done (JV X (tn++fr) scope fn (ow C++bp X.env fr) C s3 H3 fp) rfl rfl rfl hc i [] s5 σ5 H5 (fun _ _=>False) I5 (YD fr5) st5 stop) (fun r s6 ⟨hr,I6⟩=>?_) fun _ _ z=>z
   subst hr
   obtain ⟨m,hn,_⟩:=I6.loc
   have J6:Inv X pins σ H5 s6:=I3.KL (ch:=fp) I6.os I6.base I6.bR I6.bare fun b hb=>⟨(f3 b hb).2.2.2.1,(f3 b hb).2.1,(f3 b hb).2.2.2.2.1,(f3 b hb).2.2.2.2.2⟩
   exact fin D C H5 s6 m J6 hn (I3.zc hCs I6.free) qn
  ·refine wpAny_mono (T.item (JV X (tn++fr) scope fn (ow C++bp X.env fr) C s3 H3 fp) rfl rfl rfl hc i [] s5 σ5 H5 (fun _ _=>False) I5 (YD fr5) st5 go) (fun r s6 ⟨u,hr,h6⟩=>?_) fun _ _ z=>z
   subst hr
   refine wpAny_mono h6 (fun _ s7 ⟨x,H7,I7,r7,y7,st7,fr7⟩=>?_) fun _ _ z=>z
   have I7' :=I7.pinned (YD fr7) (T.obj _ _ st7)
   have held:∀{σ' :L2.St} {H' :Hp} {s' :Shared},Inv (JV X (tn++fr) scope fn (ow C++bp X.env fr) C s3 H3 fp) ([]++xm fp s7.heap) σ' H' s' ->tnn (i+1) s'.heap/\∀b∈fp,H' b=none:=fun {σ' H' s'} I' =>by
    refine ⟨T.keep _ _ _ st7 fun b hb o e=>(I'.pin (b,o) (aeB _ (aeB _ (kX hb e)))).1,fun b hb=>?_⟩
    obtain ⟨o,e,d⟩:=T.obj _ _ st7 b hb
    exact (I'.pin (b,o) (aeB _ (aeB _ (kX hb e)))).2.1
   refine wpAny_mono (hg C s3 H3 fp _ s7 σ5 H7 x u _ I7' r7 (step x H7 y7)) (fun _ s8 ⟨σ8,H8,I8,q8⟩=>?_) fun _ _ z=>z
   refine wpAny_mono (ht C s3 H3 fp _ s8 σ8 H8 _ I8 q8) (fun ok s9 ⟨H9,I9,q9⟩=>?_) fun _ _ z=>z
   cases ok with
   | false=>
    rw [if_neg abr] at q9
    obtain ⟨m',hm,w9⟩:=q9
    rw [if_neg abr]
    obtain ⟨a,b⟩:=held I9
    exact ⟨m',hm,i+1,σ8,ys,H9,I9.mC,a,b,w9⟩
   | true=>
    rw [if_pos rfl] at q9
    rw [if_pos rfl]
    refine wpAny_mono (he C s3 H3 fp _ s9 σ8 H9 _ I9 q9) (fun v s10 ⟨y9,H10,I10,r10,hDD,hl,m',hm,w10⟩=>?_) fun _ _ z=>z
    refine wpAny_mono (fv (X:=JV X (tn++fr) scope fn (ow C++bp X.env fr) C s3 H3 fp) _ s10 σ8 H10 (.ref D) [y9] (.ref D) [v] (fun _ H' =>W (i+1) m' σ8 (ys++[y9]) H') I10 rfl (.cons r10 .nil) ⟨D,ys,y9,rfl,rfl,hDD,hl,w10⟩) (fun _ s11 ⟨z,H11,I11,_,q11⟩=>?_) fun _ _ z=>z
    obtain ⟨a,b⟩:=held I11
    exact ⟨m',hm,i+1,σ8,ys++[y9],H11,I11.mC,a,b,q11⟩
 exact codeAny_compStart_list loop (T.self X.A 0 _ _ _ st4 loop)
theorem YE {ow:Addr->List (Str×Addr)}{fn:Str->Bool}{elt target iter:Expr}{ifs:ο}{scope:Scope}{pos:Pos}{tn fr:ζ}{caps:Α}{wi:TI}{g:TG}{tt:TT}{te:TE}(hc:X.calm=true)(B:adX X scope ow fn fr caps)(hi:PI X target iter wi)
  (hg:∀C s H fp,PG (JV X (tn++fr) scope fn (ow C++bp X.env fr) C s H fp) target g) (ht:∀C s H fp,PF (JV X (tn++fr) scope fn (ow C++bp X.env fr) C s H fp) ifs tt) (he:∀C s H fp,PE (JV X (tn++fr) scope fn (ow C++bp X.env fr) C s H fp) elt te)
  (hs:∀x,foldedSetIterable iter X.env x=pure x:=by intro _;rfl):PE X (.ListComp elt [⟨target,iter,ifs,0⟩] scope pos) (BM tn.length caps wi g tt te):=by
 intro pins s σ H Q I h
 rw [eval_ListComp]
 refine wpAny_comprehension_free (use:=none) rfl hs B.adY B.kind B.names (cV (hi pins s σ H _ I h) fun v s1 h1=>cV h1 fun itv s2 h2=>?_)
 obtain ⟨it,fp,tnn,J,H2,rfl,I2,T,st2,f2,q⟩:=h2
 refine xH (Q:=Q) (RR:=fun acc C=>compPost (model X.prog X.w) X.A X.xe none (EP X pins σ Q) acc C) hc B hg ht he I2 T st2 f2 q ?_
 intro D C H' s' m I' hn fc qq
 obtain ⟨g0,g1,g2,g3,g4,g5⟩:=fc
 exact ⟨m,hn,fun h' hs' =>⟨.ref D,H',I'.turned (t' :=s'.toks) (fun b o hb e=>(hs'.2 b hb).trans e) g0 g1 g3 g4 g5,rfl,qq⟩⟩
theorem YF {ow:Addr->List (Str×Addr)}{fn:Str->Bool}{i:Nat}{y:Str}{py:Pos}{tw:Pos}{elt target iter:Expr}{ifs:ο}{scope:Scope}{pos:Pos}{tn fr:ζ}{caps:Α}{wi:TI}{g:TG}{tt:TT}{te:TE}(hN:X.N.Nodup)(hiN:X.N[i]? =some y)(hx:Loc X.env.scope y)
  (hc:X.calm=true) (B:adX X scope ow fn fr caps) (hi:PI X target iter wi)
  (hg:∀C s H fp,PG (JV X (tn++fr) scope fn (ow C++bp X.env fr) C s H fp) target g) (ht:∀C s H fp,PF (JV X (tn++fr) scope fn (ow C++bp X.env fr) C s H fp) ifs tt) (he:∀C s H fp,PE (JV X (tn++fr) scope fn (ow C++bp X.env fr) C s H fp) elt te)
  (hsw:swapsWith (.ListComp elt [⟨target,iter,ifs,0⟩] scope pos) (some (.Name y py)) tw.line X.env=pure true:=by rfl)
  (hs:∀x,foldedSetIterable iter X.env x=pure x:=by intro _;rfl) (hf:X.fn y=true\/X.env.scope.names.lookup y=some .local:=by first | exact .inl rfl | exact .inr rfl | assumption):
  PS X (.Assign [.Name y py] (.ListComp elt [⟨target,iter,ifs,0⟩] scope pos) tw) (KN (BM tn.length caps wi g tt te) (g9 i)):=by
 intro pins s σ H D I h
 rw [exec_Assign_Name_used _ _ _ _ hsw]
 refine wpAny_bind (wpAny_standAt (wpAny_bind ?_))
 show wpAny _ X.A (do let _ <- comprehension (.ListComp elt [⟨target,iter,ifs,0⟩] scope pos) scope X.env _ (newList []) false (eval iter X.env) (some (assign (.Name y py) X.env))) _ _ s
 refine wpAny_bind (wpAny_mono (wpAny_comprehension_free (use:=some (assign (.Name y py) X.env)) (Q:=fun _ s' =>SP X pins D .next s') rfl hs B.adY B.kind B.names
  (cV (hi pins s σ H _ I h) fun v s1 h1=>cV h1 fun itv s2 h2=>?_)) (fun _ s' hq=>wpAny_pure (wpAny_pure hq)) fun _ _ e=>e)
 obtain ⟨it,fp,tnn,J,H2,rfl,I2,T,st2,f2,q⟩:=h2
 refine xH (Q:=fun v H1=>g9 i v σ H1 D.nx) (RR:=fun acc C=>compPost (model X.prog X.w) X.A X.xe (some (assign (.Name y py) X.env)) (fun _ s' =>SP X pins D .next s') acc C) hc B hg ht he I2 T st2 f2 q ?_
 intro DD C H' s' m I' hn fc qq
 obtain ⟨g0,g1,g2,g3,g4,g5⟩:=fc
 show wpAny _ X.A (assign (.Name y py) X.env (.ref DD)) _ _ _
 refine wpAny_assign_Name (AU I' hN hiN hx (v:=.ref DD) (u:=.ref DD) rfl (fun s'' I'' ⟨a,sb,ha⟩=>?_) hf)
 have hCa:C≠a:=by
  rcases ha with z | z
  ·rw [z]
   exact g1
  ·exact fun e=>g4 y a z e.symm
 exact ⟨m,hn.sameBut sb hCa,fun h' hs' =>⟨_,H',I''.turned (t' :=s''.toks) (fun b o hb e=>(hs'.2 b hb).trans e) g0 g1 g3 g4 g5,qq⟩⟩
theorem Qy.g {scope:Scope}{fr:ζ}{caps:Α}(B:Qy X scope fr caps):adX X scope (fun _=>[]) (fun _=>false) fr caps:=
 ⟨B.adY,B.kind,B.names,B.free,B.caps,B.out,B.inn,fun hQ=>wpAny_newFunctionEnv B.cell (by intro y hy;simp at hy) (fun h₁ aiJ aus=>hQ h₁ aiJ (fun b o e=>(aus.2 b (ab_ (Heap.lt_size e))).trans (Heap.get?_push_of_some _ e)) fun _ _ z=>(nomatch z)) B.kind,
  fun _ _ _ z=>(nomatch z),fun _ _ _ _ z=>(nomatch z),fun _ _ z=>(nomatch z),fun z hz e=>absurd e (B.cell z hz),fun _ _ _=>rfl⟩
theorem adZ {elt target iter:Expr}{ifs:ο}{scope:Scope}{pos:Pos}{tn fr:ζ}{caps:Α}{wi:TI}{g:TG}{tt:TT}{te:TE}(hc:X.calm=true)(B:Qy X scope fr caps)(hi:PI X target iter wi)
  (hg:∀C s H fp,PG (LM X (tn++fr) scope (bp X.env fr) C s H fp) target g) (ht:∀C s H fp,PF (LM X (tn++fr) scope (bp X.env fr) C s H fp) ifs tt) (he:∀C s H fp,PE (LM X (tn++fr) scope (bp X.env fr) C s H fp) elt te)
  (hs:∀x,foldedSetIterable iter X.env x=pure x:=by intro _;rfl):PE X (.ListComp elt [⟨target,iter,ifs,0⟩] scope pos) (BM tn.length caps wi g tt te):=
 YE hc B.g hi hg ht he hs
theorem ad0 {i:Nat}{y:Str}{py:Pos}{tw:Pos}{elt target iter:Expr}{ifs:ο}{scope:Scope}{pos:Pos}{tn fr:ζ}{caps:Α}{wi:TI}{g:TG}{tt:TT}{te:TE}(hN:X.N.Nodup)(hiN:X.N[i]? =some y)(hx:Loc X.env.scope y)
  (hc:X.calm=true) (B:Qy X scope fr caps) (hi:PI X target iter wi)
  (hg:∀C s H fp,PG (LM X (tn++fr) scope (bp X.env fr) C s H fp) target g) (ht:∀C s H fp,PF (LM X (tn++fr) scope (bp X.env fr) C s H fp) ifs tt) (he:∀C s H fp,PE (LM X (tn++fr) scope (bp X.env fr) C s H fp) elt te)
  (hsw:swapsWith (.ListComp elt [⟨target,iter,ifs,0⟩] scope pos) (some (.Name y py)) tw.line X.env=pure true:=by rfl)
  (hs:∀x,foldedSetIterable iter X.env x=pure x:=by intro _;rfl) (hf:X.fn y=true\/X.env.scope.names.lookup y=some .local:=by first | exact .inl rfl | exact .inr rfl | assumption):
  PS X (.Assign [.Name y py] (.ListComp elt [⟨target,iter,ifs,0⟩] scope pos) tw) (KN (BM tn.length caps wi g tt te) (g9 i)):=
 YF hN hiN hx hc B.g hi hg ht he hsw hs hf
end
section
variable {D:Addr}{te:TE}{cap:L2.St}{H1:Hp}{Q:VK}
theorem YG {J:It}(n:Nat)(xs:Nat->V)(Pv:Nat->List V->Hp->Prop)(h0:Pv 0 [] (upd H1 D (.lst [])))
  (go:∀i ys H,i < n->Pv i ys H->J.go i H/\∀x H',J.yld i H x H' ->H' =H/\x=xs i) (stop:∀ys H,Pv n ys H->J.stop n H)
  (hs:∀i ys H (R:VK),i < n->Pv i ys H->H D=some (.lst ys)->(∀v H6,H6 D=some (.lst ys)->ys.length < sizeLine->Pv (i+1) (ys++[v]) (upd H6 D (.lst (ys++[v])))->R v H6)->te (some (xs i)::cap) H R)
  (hd:∀ys H,Pv n ys H->H D=some (.lst ys)->Q (.ref D) H):LN D (g9 0) zk te J (none::cap) H1 Q:=by
 refine ⟨fun i m σ ys H=>m=n - i/\i<=n/\(∃o,σ=o::cap)/\Pv i ys H/\H D=some (.lst ys),⟨n,by simp,af0 _,⟨none,rfl⟩,h0,aj⟩,?_⟩
 rintro i m σ ys H ⟨rfl,hi,⟨o,rfl⟩,p,hD⟩
 by_cases JT:i < n
 ·obtain ⟨g1,g2⟩:=go i ys H JT p
  refine .inr ⟨g1,fun x H' y=>?_⟩
  obtain ⟨e1,e2⟩:=g2 x H' y
  subst e1 e2
  unfold g9 zk
  dsimp only
  rw [if_pos rfl]
  exact hs i ys _ _ JT p hD fun v H6 a b c=>⟨a,b,n - (i+1),by omega,rfl,by omega,⟨_,rfl⟩,c,aj⟩
 ·have e:i=n:=by omega
  subst e
  exact .inl ⟨stop ys H p,hd ys H p hD⟩
end
def Its (x:Str):It:=⟨fun i _=>i < x.cps.size,fun i H v H' =>H' =H/\∃c,x.cps[i]? =some c/\v=.str ⟨#[c]⟩,fun i _=>i=x.cps.size⟩
theorem YH {P:Program}{w:World}{K:Frag}{tg:Expr}{ty:String}(it:Addr)(x:Str)(t:Tok)(hty:ty="str_ascii_iterator"\/ty="str_iterator"):Turn P w K tg (Its x) [it] it (fun i h=>h.IsStrIter it ty x t i) where
 mem:=by simp
 obj:=fun i h st b hb=>by
  have e:b=it:=by simpa using hb
  subst e
  obtain ⟨o,e,c,d⟩:=st
  exact ⟨o,e,fun v z=>by rw [d] at z;cases z⟩
 keep:=fun i h h' st k=>by
  obtain ⟨o,e,r⟩:=st
  exact ⟨o,k it (by simp) o e,r⟩
 item:=by
  intro X hP hw hK hc i pins s σ H E I hf st hg
  subst hP hw hK
  obtain ⟨f0,f1,f2,f3,f4,f5⟩:=hf it (by simp)
  have W:Walks X.prog X.w X.A it [it] [it] x.cps.size (SignAt x) (fun i h=>h.IsStrIter it ty x t i):=by
   rcases hty with z | z
   ·subst z
    exact Walks.strAscii (I.ok.hd hc) it x t
   ·subst z
    exact Walks.strWide (I.ok.hd hc) it x t
  refine W.item i s _ _ hg st fun v h' tk hv XY kk=>?_
  obtain ⟨c,u,hx,rfl⟩:=hv
  have I1:Inv X pins σ H {s with heap:=h',toks:=tk}:=I.turned (fun b o hb e=>kk b o (by simpa using hb) e) f0 f1 f3 f4 f5
  obtain ⟨o,e,cc,d⟩:=id XY
  exact ⟨_,rfl,S4 (s:={s with heap:=h',toks:=tk}) e cc d (by rcases hty with z | z <;> (subst z;decide)) ⟨.str ⟨#[c]⟩,H,I1,⟨u,rfl⟩,⟨rfl,c,hx,rfl⟩,XY,fun b hb=>(hf b hb).1⟩⟩
 done:=by
  intro X hP hw hK hc i pins s σ H E I hf st hg
  subst hP hw hK
  obtain ⟨f0,f1,f2,f3,f4,f5⟩:=hf it (by simp)
  have W:Walks X.prog X.w X.A it [it] [it] x.cps.size (SignAt x) (fun i h=>h.IsStrIter it ty x t i):=by
   rcases hty with z | z
   ·subst z
    exact Walks.strAscii (I.ok.hd hc) it x t
   ·subst z
    exact Walks.strWide (I.ok.hd hc) it x t
  have e:i=x.cps.size:=hg
  subst e
  exact W.done s _ _ st fun h' tk kk=>⟨rfl,I.turned (fun b o hb e=>kk b o (by simpa using hb) e) f0 f1 f3 f4 f5⟩
 self:=fun _ _ _ _ _ st h=>by
  rcases hty with z | z
  ·subst z
   exact wpAny_pyIter_striter_ascii st h
  ·subst z
   exact wpAny_pyIter_striter_wide st h
section
variable {X:Cx}{tg:Expr}
inductive agm (R:(It->Hp->Prop))(x:V)(H1:Hp):Prop where
 | mk (z:_) (_:x=.str z) (_:R (Its z) H1):agm R x H1
def auu (tl:TE):TI:=fun σ H R=>tl σ H fun x H1=>agm R x H1
theorem YI {l:Expr}{tl:TE}(hl:PE X l tl):PI X tg l (auu tl):=by
 intro pins s σ H R I h
 refine cV (hl pins s σ H _ I h) fun v s1 ⟨x,H1,I1,r1,q1⟩=>?_
 obtain ⟨z,e,q⟩:=q1
 subst e
 obtain ⟨t,rfl⟩:=r1
 have go:∀(o:Obj) (ty:String),(ty="str_ascii_iterator"\/ty="str_iterator")->(s1.heap.push o).IsStrIter s1.heap.objs.size ty z t 0->PIE X pins σ tg R (.ref s1.heap.objs.size) {s1 with heap:=s1.heap.push o}:=fun o ty hty st=>by
  refine ⟨s1.heap.objs.size,[s1.heap.objs.size],_,_,H1,rfl,I1.kept (t' :=s1.toks) fun b o e=>Heap.get?_push_of_some _ e,YH _ z t hty,st,fun b hb=>?_,q⟩
  have e:b=s1.heap.objs.size:=by simpa using hb
  subst e
  exact I1.zc (abt _) (I1.bR.fresh (abt _))
 cases ha:z.cps.all (· < 128)
 ·exact wpAny_pyIter_wide ha (go _ _ (.inr rfl) ⟨_,Heap.get?_push_size _ rfl,rfl,rfl⟩)
 ·exact wpAny_pyIter_ascii ha (go _ _ (.inl rfl) ⟨_,Heap.get?_push_size _ rfl,rfl,rfl⟩)
end
section
variable {prog:Program}{w:World}{A:Around}{E:γ}
end
structure Mk0 (K:Frag)(C:Addr):Prop where
 makes:PySem.W.makesIn K C=true
 init:PySem.W.findIn K (.ref C) "__init__"=some (some (.builtin "object.__init__"))
 kp:keepIn K (.ref C)=true
def ank (C:Addr):TE:=fun _ H Q=>∀x dx,H x=none->H dx=none->dx≠x->Q (.ref x) (upd (upd H dx (.own x)) x (.ins C dx []))
section
variable {X:Cx}
theorem ad1 {pins:δ}{σ:L2.St}{H:Hp}{s:Shared}{Q:VK}{C:Addr}(M:Mk0 X.K C)(I:Inv X pins σ H s)(h:ank C σ H Q):wpAny (model X.prog X.w) X.A (call (.ref C) []) (EP X pins σ Q) X.xe s:=by
 have hq:=h (s.heap.objs.size+1) s.heap.objs.size (I.bR.fresh (agl _)) (I.bR.fresh (abt _)) (ab_ (ais _))
 have I2:=Inv.made (C:=C) I
 have Y:=PySem.W.makes_of (M:=model X.prog X.w) I.iB M.makes
 refine wpAny_call (Uv I.iB M.makes M.init (fun self=>PySem.W.Looks.of_pure (PySem.W.oi_bind self)) ?_)
 have ho:((s.heap.push PySem.W.emptyDict).push (PySem.W.instObj C s.heap.objs.size)).get? (s.heap.objs.size+1)=some (PySem.W.instObj C s.heap.objs.size):=by
  have:=Heap.get?_push_size (s.heap.push PySem.W.emptyDict) (o:=PySem.W.instObj C s.heap.objs.size) rfl
  rwa [Heap.size_push] at this
 have t1:PySem.W.Looks (model X.prog X.w) ((s.heap.push PySem.W.emptyDict).push (PySem.W.instObj C s.heap.objs.size)) (typeOf (.ref (s.heap.objs.size+1))) (.ref C):=(PySem.W.Looks.ld ho).andThen .now
 have t2:PySem.W.Looks (model X.prog X.w) ((s.heap.push PySem.W.emptyDict).push (PySem.W.instObj C s.heap.objs.size)) (isInstance (.ref (s.heap.objs.size+1)) (.type "object")) true:=
  t1.andThen (Y.top.keeps fun b o e=>Heap.get?_push_of_some _ (Heap.get?_push_of_some _ e))
 refine codeAny_call_builtin PySem.W.oi_plain PySem.W.entry_oi (@PySem.W.check_slot (model X.prog X.w) _ _ _ "object.__init__" "object" "__init__" (.ref (s.heap.objs.size+1)) [] [] _ PySem.W.oi_kind PySem.W.oi_split t2 (PySem.W.oi_args (.ref (s.heap.objs.size+1))) ?_)
 rw [PySem.W.oi_run]
 exact wpAny_pure (And.intro rfl ⟨V.ref (s.heap.objs.size+1),_,I2,rfl,hq⟩)
theorem aiL {x:Str}{p pos:Pos}{C:Addr}(M:Mk0 X.K C)(hg:Gl X x)(hm:X.mg x=some (.ref C))(vG:(x==("__debug__":Str))=false:=by decide):PE X (.Call (.Name x p) [] [] pos) (ank C):=by
 intro pins s σ H Q I h
 refine wpAny_Call_Name_kw (gf I hg hm ?_ vG)
 exact PySem.W.callWith_K0 I.iB M.kp (ad1 M I h)
end
structure bM (P:Program)(w:World)(K:Frag)(mg:ε)(base:Heap)(CX:sY)(k:Nat)(C:Addr)(m:Str)(ps:ζ)(sp:Sp):Prop where
 ex:∃(f:Addr) (fd:FuncData),vF K C/\Meth K C m f/\bH P w K mg base CX k f fd ps sp/\Binds K fd ps []
theorem bM.mono {P:Program}{w:World}{K:Frag}{mg:ε}{base:Heap}{CX:sY}{j k:Nat}{C:Addr}{m:Str}{ps:ζ}{sp:Sp}(M:bM P w K mg base CX j C m ps sp)(h:j<=k):bM P w K mg base CX k C m ps sp:=by
 obtain ⟨f,fd,a,b,c,d⟩:=M.ex
 exact ⟨f,fd,a,b,c.mono h,d⟩
section
variable {X:Cx}{CX:sY}{k:Nat}{E:XK}{m:Str}{pos apos:Pos}{e o:Expr}{es:ο}{ta:TE}{t:TA}
inductive agn (P:Program)(w:World)(K:Frag)(mg:ε)(base:Heap)(CX:sY)(k:Nat)(m:Str)(E:XK)(t:TA)(σ:L2.St)(Q:VK)(x:V)(H1:Hp):Prop where
 | mk (a C dx fs ps sp:_) (_:x=.ref a) (_:H1 a=some (.ins C dx fs)) (_:fs.lookup m=none) (_:bM P w K mg base CX k C m ps sp) (_:t σ H1 fun vs H2=>sp (x::vs) H2 Q E):agn P w K mg base CX k m E t σ Q x H1
def anl (P:Program)(w:World)(K:Frag)(mg:ε)(base:Heap)(CX:sY)(k:Nat)(m:Str)(E:XK)(ta:TE)(t:TA):TE:=fun σ H Q=>ta σ H fun x H1=>agn P w K mg base CX k m E t σ Q x H1
theorem ED {pl:Sem Bool}(he:PE X o ta)(hr:cF k X.A)(hx:Passes CX X E)
  (ht:eval (.Call (.Attribute o m apos) [] [] pos) X.env=(do
   let ov <- eval o X.env
   standAt apos.atName
   let (f,first) <- holding [ov] (getMethod ov m pl)
   callWith pos f first (backTo pos (starEach [] X.env)) (backToKw pos (keywordEach [] X.env))):=by rfl):
  PE X (.Call (.Attribute o m apos) [] [] pos) (anl X.prog X.w X.K X.mg X.base CX k m E ta zd):=by
 intro pins s σ H Q I h
 refine PySem.W.methodCall_KW (pl:=pl) (cV (he pins s σ H _ I h) fun u s1 ⟨x,H1,I1,rx,a,C,dx,fs,ps,sp,ex,ea,l,M,q⟩=>?_) ht
 subst ex
 obtain rfl:u=Value.ref a:=rx
 obtain ⟨f,fd,c,hm,F,hb⟩:=M.ex
 refine xq I1 ea c hm l ?_
 exact PySem.W.callWith_K0 (first:=[.ref a]) I1.iB hm.kp (Qs (us:=[.ref a]) (vs:=[.ref a]) (dvs:=[]) F hr hb .nil hx I1 (.cons rfl .nil) q)
theorem df {pl:Sem Bool}(he:PE X o ta)(hr:cF k X.A)(hx:Passes CX X E)(ha:PA X (e::es) t)
  (hst:starEach (e::es) X.env=(false,eval e X.env)::starEach es X.env:=by rfl) (wx:(backTo pos (starEach es X.env)).any (·.1)=false:=by rfl)
  (ht:eval (.Call (.Attribute o m apos) (e::es) [] pos) X.env=(do
   let ov <- eval o X.env
   standAt apos.atName
   let (f,first) <- holding [ov] (getMethod ov m pl)
   callWith pos f first (backTo pos (starEach (e::es) X.env)) (backToKw pos (keywordEach [] X.env))):=by rfl):
  PE X (.Call (.Attribute o m apos) (e::es) [] pos) (anl X.prog X.w X.K X.mg X.base CX k m E ta t):=by
 intro pins s σ H Q I h
 refine PySem.W.methodCall_KW (pl:=pl) (cV (he pins s σ H _ I h) fun u s1 ⟨x,H1,I1,rx,a,C,dx,fs,ps,sp,ex,ea,l,M,q⟩=>?_) ht
 subst ex
 obtain rfl:u=Value.ref a:=rx
 obtain ⟨f,fd,c,hm,F,hb⟩:=M.ex
 refine xq I1 ea c hm l ?_
 refine PySem.W.callWith_K (first:=[.ref a]) (h₀:=X.base) I.ok.mod.XI hm.kp (cV (ha pos pins s1 σ H1 _ I1 q) fun us s2 ⟨vs,H2,I2,r,q2⟩=>⟨I2.iB,?_⟩) hst wx
 refine Qs (us:=.ref a::us) (vs:=.ref a::vs) (dvs:=[]) F hr hb .nil hx I2 (.cons rfl r) ?_
 rw [ad_]
 exact q2
end
theorem ad2 {X:Cx}{k:Nat}{C f:Addr}{fd:FuncData}{ps:ζ}{sp:Sp}{x:Str}{p pos:Pos}{e:Expr}{es:ο}{t:TA}(M:Mk X.K C f)(F:bH X.prog X.w X.K X.mg X.base (aV X.prog X.w) k f fd ps sp)(hr:cF (k+1) X.A)(hb:Binds X.K fd ps [])(hg:Gl X x)
  (hm:X.mg x=some (.ref C)) (ha:PA X.pq (e::es) t) (vG:(x==("__debug__":Str))=false:=by decide)
  (he:starEach (e::es) X.env=(false,eval e X.env)::starEach es X.env:=by rfl) (wx:(backTo pos (starEach es X.env)).any (·.1)=false:=by rfl):
  PEx X (.Call (.Name x p) (e::es) [] pos) (fun σ H Q E=>t σ H fun vs H1=>∀y dx,H1 y=none->H1 dx=none->dx≠y->sp (.ref y::vs) (upd (upd H1 dx (.own y)) y (.ins C dx [])) (fun v H2=>v=.bN/\Q (.ref y) H2) E):=by
 intro pins s σ H Q E I h
 refine wpAny_Call_Name_kw (gf I hg hm ?_ vG)
 refine PySem.W.callWith_K (h₀:=X.base) I.ok.mod.XI M.kp (wpAny_mono (ha pos pins s σ H _ (I.pk _) h) (fun us s1 ⟨vs,H1,I1',r,q⟩=>⟨I1'.iB,?_⟩) fun _ _ z=>z.elim) he wx
 have I1:Inv X pins σ H1 s1:=I1'.hG
 have hq:=q (s1.heap.objs.size+1) s1.heap.objs.size (I1.bR.fresh (agl _)) (I1.bR.fresh (abt _)) (ab_ (ais _))
 have I2:=Inv.made (C:=C) I1
 have r2:Vals (V.ref (s1.heap.objs.size+1)::vs) (Value.ref (s1.heap.objs.size+1)::us):=.cons rfl r
 have hl:(Value.ref (s1.heap.objs.size+1)::us++[]).length=ps.length:=by
  have e:=r2.length
  rw [F.len _ _ _ _ hq] at e
  rw [ad_]
  exact e.symm
 have bt:=hb {s1 with heap:=(s1.heap.push PySem.W.emptyDict).push (PySem.W.instObj C s1.heap.objs.size)} (Value.ref (s1.heap.objs.size+1)::us) I2.iB hl
 rw [ad_] at bt
 refine wpAny_call (KQ (f:=f) I1.iB M.makes M.init (beq_iff_eq.mp M.fn) (codeAny_mono (F.run _ X.stack _ _ ⟨Value.ref (s1.heap.objs.size+1)::us,[]⟩ (Value.ref (s1.heap.objs.size+1)::us) _ _ E (hr.make C us [])
  (I2.Uy.make C us []) bt r2 hq) fun r s' nS =>?_))
 cases r with
 | error e=>exact ⟨_,_,I2,nS⟩
 | ok fl=>
  cases fl with
  | ret u=>
   obtain ⟨v,H',I3,rv,ev,q3⟩:=I2.after nS
   subst ev
   exact ⟨rv,⟨V.ref (s1.heap.objs.size+1),H',I3,rfl,q3⟩⟩
  | next=>exact False.elim nS
  | brk=>exact False.elim nS
  | cont=>exact False.elim nS
theorem jH {P:Program}{w:World}{K:Frag}{mg:ε}{base:Heap}{name qual:Str}{st:Stmt}{f:Addr}{fd:FuncData}{N ps:ζ}{k:Nat}{sp:Sp}(F:lV K name qual st f fd)(S:av N ps (aa st))(len:∀vs H Q E,sp vs H Q E->vs.length=ps.length)
  (dP:∀(cdv:Value) (A:Around) (outer:List Env) (s:Shared) (H:Hp) (vs:η) (Q:VK) (E:XK),cF k (A.deeper (envOfC qual (aa st) s.heap.objs.size f cdv))->sp vs H Q E->
   ∃t,PSs (gK P w K mg base N qual (aa st) f cdv A outer s H E) (aq st) t/\t {nx:=fun _ H' =>Q .bN H',rt:=Q} (start N vs) H):bH P w K mg base (aV P w) (k+1) f fd ps sp:=by
 obtain ⟨oc,od,kV,doc,pm,an,cdv,ct,nj,rfl,lk,pj⟩:=F.ex
 exact xu lk pj S len fun A outer s H vs Q E hr vH=>dP cdv A outer s H vs Q E hr vH
theorem anm {X:Cx}{CX:sY}(h:j_ CX)(e:X.xe=fun _ _=>False):Passes CX X E0:=fun _ _ _ _ _ _ _ q=>(h _ _ _ _ _ q).elim
section
variable {σ:L2.St}{H:Hp}{Q:VK}{QB:Bool->Hp->Prop}{QA:List V->Hp->Prop}{D:Ends}{t u:TS}{ta tb te:TE}{tc td:TT}{t1:TA}
theorem ad3 {A B:Prop}(h:B):if (!true)=true then A else B:=cM h
theorem EE {A B:Prop}(h:A):if (!false)=true then A else B:=fw h
end
theorem pH {M:Model}{A:Around}{E:γ}:∀{es:List (Sem Value)} {acc:Str} {Q Q' :Str->Shared->Prop} {s:Shared},Joins M A E es acc Q s->(∀o s',Q o s' ->Q' o s')->Joins M A E es acc Q' s
 | [],_,_,_,_,h,m=>m _ _ h
 | _::_,_,_,_,_,h,m=>wpAny_mono h (fun v s1 ⟨y,t,e,l,r⟩=>⟨y,t,e,l,pH r m⟩) fun _ _ z=>z
section
variable {X:Cx}
inductive ago (Q:VK)(x:V)(H1:Hp):Prop where
 | mk (z:_) (_:x=.str z) (_:z.length<=sizeLine) (_:Q (.str z) H1):ago Q x H1
def auv (te:TE):TE:=fun σ H Q=>te σ H fun x H1=>ago Q x H1
theorem YJ {e:Expr}{te:TE}{pos:Pos}(he:PE X e te):PE X (.FormattedValue e (-1) none pos) (auv te):=by
 intro pins s σ H Q I h
 refine wpAny_FormattedValue_plain (cV (he pins s σ H _ I h) fun v s1 ⟨x,H1,I1,r1,q1⟩=>?_)
 obtain ⟨z,rfl,hz,q⟩:=q1
 obtain ⟨t,rfl⟩:=r1
 exact wpAny_formatField_str ⟨.str z,H1,I1,⟨_,rfl⟩,q⟩ ⟨.str z,H1,I1.tok _,⟨_,rfl⟩,q⟩ hz
abbrev TJ:=L2.St->Hp->(List Str->Hp->Prop)->Prop
def PJ (X:Cx)(es:ο)(t:TJ):Prop:=
 ∀(pins:δ) (s:Shared) (σ:L2.St) (H:Hp) (acc:Str) (Q:List Str->Hp->Prop),Inv X pins σ H s->acc.length+5000*es.length<=sizeLine->t σ H Q->
  Joins (model X.prog X.w) X.A X.xe (evalEach es X.env) acc (fun out s1=>∃ys H1,Inv X pins σ H1 s1/\out=ys.foldl (·++·) acc/\out.length<=sizeLine/\Q ys H1) s
def auw:TJ:=fun _ H Q=>Q [] H
inductive YK (t:TJ)(σ:L2.St)(Q:(List Str->Hp->Prop))(x:V)(H1:Hp):Prop where
 | mk (z:_) (_:x=.str z) (_:z.length<=5000) (_:t σ H1 fun ys H2=>Q (z::ys) H2):YK t σ Q x H1
def ano (te:TE)(t:TJ):TJ:=fun σ H Q=>te σ H fun x H1=>YK t σ Q x H1
theorem EF:PJ X [] auw:=fun pins s σ H acc Q I hb h=>⟨[],H,I,rfl,by simpa using hb,h⟩
theorem iN {e:Expr}{es:ο}{te:TE}{t:TJ}(he:PE X e te)(hr:PJ X es t)(hs:evalEach (e::es) X.env=eval e X.env::evalEach es X.env:=by rfl):PJ X (e::es) (ano te t):=by
 intro pins s σ H acc Q I hb h
 rw [hs]
 refine cV (he pins s σ H _ I h) fun v s1 ⟨x,H1,I1,r1,q1⟩=>?_
 obtain ⟨z,rfl,hz,q⟩:=q1
 obtain ⟨u,rfl⟩:=r1
 have vL :acc.length+5000*(es.length+1)<=sizeLine:=hb
 have hl:(acc++z).length=acc.length+z.length:=strLen_append ..
 refine ⟨z,u,rfl,by rw [hl];omega,pH (hr pins s1 σ H1 (acc++z) _ I1 (by rw [hl];omega) q) fun o s' ⟨ys,H2,I2,e,l,q2⟩=>⟨z::ys,H2,I2,e,l,q2⟩⟩
def anp (t:TJ):TE:=fun σ H Q=>t σ H fun ys H1=>Q (.str (ys.foldl (·++·) Str.empty)) H1
theorem wI {v1 v2:Expr}{rest:ο}{pos:Pos}{t:TJ}(h:PJ X (v1::v2::rest) t)(hl:5000*(v1::v2::rest).length<=sizeLine:=by decide):PE X (.JoinedStr (v1::v2::rest) pos) (anp t):=by
 intro pins s σ H Q I q
 refine wpAny_JoinedStr (pH (h pins s σ H Str.empty _ I (by rw [show Str.empty.length=0 from rfl];omega) q) fun o s' ⟨ys,H1,I1,e,l,q1⟩=>⟨l,.str o,H1,I1.tok _,⟨_,rfl⟩,?_⟩)
 rw [e]
 exact q1
inductive Th (x:V)(vs:η)(H:Hp)(Q:VK):Prop where
 | mk (z y:_) (_:x=.str z) (_:vs=[.str y]) (_:Q (.bl (Txt.startswith z y)) H):Th x vs H Q
theorem zl:MtR X "str.startswith" Th:=by
 intro pins s σ H x vs v us Q I rx rv h
 obtain ⟨z,y,rfl,rfl,q⟩:=h
 obtain ⟨t,rfl⟩:=rx
 obtain ⟨u,rfl,ru⟩:=rv.one
 obtain ⟨t',rfl⟩:=ru
 exact SC.startswith ⟨.bl _,H,I,rfl,q⟩
inductive xI (x:V)(vs:η)(H:Hp)(Q:VK):Prop where
 | mk (z y:_) (_:x=.str z) (_:vs=[.str y]) (_:(y.length==0)=false) (_:z.length<=sizeLine) (_:∀p,H p=none->Q (.ref p) (upd H p (.tup [.str (Txt.partition z y).1,.str (Txt.partition z y).2.1,.str (Txt.partition z y).2.2]))):xI x vs H Q
theorem iO:MtR X "str.partition" xI:=by
 intro pins s σ H x vs v us Q I rx rv h
 obtain ⟨z,y,rfl,rfl,hy,hz,q⟩:=h
 obtain ⟨t,rfl⟩:=rx
 obtain ⟨u,rfl,ru⟩:=rv.one
 obtain ⟨t',rfl⟩:=ru
 refine call_meets F.slot_str_partition (typeIs_str _ _ _) F.entry_str_partition (F.args_str_partition_2 _ _) (meets_str_partition z y t t' hy hz) ?_
 have sz:(3:Nat)<=sizeLine:=by decide
 have q' :=q s.heap.objs.size (I.bR.fresh (abt _))
 unfold Txt.partition at q'
 revert q'
 cases Builtin.Str.occurrences z y 0 z.length 1 with
 | nil=>
  intro q'
  refine ⟨.ref s.heap.objs.size,_,I.laid (t' :=s.toks+1) (fun b o e=>Heap.get?_push_of_some _ e) (abt _) (show bL X.prog X.w _ _ _ (.tup [.str z,.str Str.empty,.str Str.empty]) from ⟨sz,[.str z t,.str Str.empty s.toks,.str Str.empty s.toks],.cons ⟨_,rfl⟩ (.cons ⟨_,rfl⟩ (.cons ⟨_,rfl⟩ .nil)),IsTup.new _ _⟩),rfl,q'⟩
 | cons i r=>
  intro q'
  refine ⟨.ref s.heap.objs.size,_,I.laid (t' :=s.toks+1+1) (fun b o e=>Heap.get?_push_of_some _ e) (abt _) (show bL X.prog X.w _ _ _ (.tup [.str (Builtin.Str.strSub z 0 i),.str y,.str (Builtin.Str.strSub z (i+y.length) z.length)]) from ⟨sz,[.str (Builtin.Str.strSub z 0 i) s.toks,.str y t',.str (Builtin.Str.strSub z (i+y.length) z.length) (s.toks+1)],.cons ⟨_,rfl⟩ (.cons ⟨_,rfl⟩ (.cons ⟨_,rfl⟩ .nil)),IsTup.new _ _⟩),rfl,q'⟩
inductive anq (x:V)(lo:Option Int)(hi:Option Int)(H:Hp)(Q:VK):Prop where
 | mk (z:_) (_:x=.str z) (_:z.length<=sizeLine) (_:Q (.str (Txt.slice z lo hi)) H):anq x lo hi H Q
theorem aiM:SlR X anq:=by
 intro pins s σ H x v vl vu lo hi sl Q I rx hs pl pu h
 obtain ⟨z,rfl,hz,q⟩:=h
 obtain ⟨t,rfl⟩:=rx
 refine ⟨"str",_,F.slot_str_getitem.lookup,typeIs_str _ _ _,?_⟩
 cases pl <;> cases pu
 ·exact wpAny_getItem_str_slice (l:=none) (u:=none) (st:=none) hs rfl (post_val_or_str ⟨ir (Txt.slice_le z _ _) hz,fun t' k=>⟨.str _,H,I.tok k,⟨t',rfl⟩,q⟩⟩)
 ·rename_i j uj
  exact wpAny_getItem_str_slice (l:=none) (u:=some (j,uj)) (st:=none) hs rfl (post_val_or_str ⟨ir (Txt.slice_le z _ _) hz,fun t' k=>⟨.str _,H,I.tok k,⟨t',rfl⟩,q⟩⟩)
 ·rename_i i ui
  exact wpAny_getItem_str_slice (l:=some (i,ui)) (u:=none) (st:=none) hs rfl (post_val_or_str ⟨ir (Txt.slice_le z _ _) hz,fun t' k=>⟨.str _,H,I.tok k,⟨t',rfl⟩,q⟩⟩)
 ·rename_i i ui j uj
  exact wpAny_getItem_str_slice (l:=some (i,ui)) (u:=some (j,uj)) (st:=none) hs rfl (post_val_or_str ⟨ir (Txt.slice_le z _ _) hz,fun t' k=>⟨.str _,H,I.tok k,⟨t',rfl⟩,q⟩⟩)
inductive LO (xs:η)(H:Hp)(Q:VK):Prop where
 | mk (z n:_) (_:xs=[.str z]) (_:PySem.intText? z=some n) (_:z.length<=640) (_:Q (.int n) H):LO xs H Q
theorem zm:i9 X (.type "int") LO:=by
 intro pins s σ H xs us Q I r h
 obtain ⟨z,n,rfl,e,hl,q⟩:=h
 obtain ⟨u,rfl,t,rfl⟩:=vals1 r
 exact PySem.W.KIN.call_text e hl ⟨.int n,H,I.tok _,⟨_,rfl⟩,q⟩
inductive agp (x:V)(y:V)(H:Hp)(Q:VK):Prop where
 | mk (z n:_) (_:x=.str z) (_:y=.int n) (_:MulOk z n) (_:Q (.str (Txt.mul z n)) H):agp x y H Q
theorem jI:mD X (binaryOp .Mult) agp:=by
 intro pins s σ H x y v u Q I rx ry h
 obtain ⟨z,n,rfl,rfl,ok,q⟩:=h
 obtain ⟨t,rfl⟩:=rx
 obtain ⟨t',rfl⟩:=ry
 exact SB.mul ok fun t' k=>⟨.str _,H,I.tok k,⟨t',rfl⟩,q⟩
theorem all_range (bs:List Bool):(ai_ bs.length).all (fun i=>(bs[i]?).getD true)=bs.all id:=by
 induction bs with
 | nil=>rfl
 | cons b r ih=>
  rw [abC,amH,ag_,alI,ag_, <- ih]
  rfl
inductive anr (K:Frag)(xs:η)(H:Hp)(Q:VK):Prop where
 | mk (p:Addr) (bs:List Bool) (_:xs=[.ref p]) (_:bq K H p (bs.map V.bl)) (_:Q (.bl (bs.all id)) H):anr K xs H Q
theorem tH (hc:X.calm=true):i9 X (.builtin "all") (anr X.K):=by
 intro pins s σ H xs us Q I r h
 obtain ⟨p,bs,rfl,hq,q⟩:=h
 obtain ⟨u,rfl,r1⟩:=vals1 r
 cases r1
 obtain ⟨its,rv,pl,hz⟩:=I.list hq
 refine call_all_walk (wpAny_pyIter_list pl.isList ?_)
 have Qx:p≠s.heap.objs.size:=by obtain ⟨o,ho,_⟩:=pl.isList;exact ab_ (Heap.lt_size ho)
 have I1:Inv X pins σ H {s with heap:=s.heap.push {cls:=.type "list_iterator",data:=.fields #[.ref p,.int 0 0]}}:=I.kept (t' :=s.toks) fun b o e=>Heap.get?_push_of_some _ e
 obtain ⟨f0,f1,f2,f3,f4,f5⟩:=I.zc (H' :=H) (abt s.heap.objs.size) (I.bR.fresh (abt _))
 have hl:its.length=bs.length:=by rw [<- rv.length,Wp]
 refine ⟨s.heap.objs.size,_,_,_,_,_,fun i=>(bs[i]?).getD true,rfl,Walks.list (A:=X.A.in1) (I.ok.hd hc) s.heap.objs.size p Qx its.toArray,⟨⟨_,Heap.get?_push_size _ rfl,rfl,rfl⟩,pl.isList.at fun o e=>Heap.get?_push_of_some _ e⟩,?_,fun h' tk kk=>?_⟩
 ·intro i v s' Q' E' hv nS
  have hv' :its[i]? =some v:=by simpa using hv
  have hi:i < bs.length:=by rw [<- hl];exact (W1.mp hv').1
  have eb:(bs.map V.bl)[i]? =some (.bl bs[i]):=by rw [abx,gE hi];rfl
  obtain ⟨u,eu,ru⟩:=rv.get eb
  rw [hv'] at eu
  cases eu
  cases ru
  dsimp only at nS
  rw [gE hi] at nS
  exact wpAny_truthy_bool nS
 ·refine ⟨.bl (bs.all id),H,I1.turned (t' :=tk) (it:=s.heap.objs.size) (fun b o hb e=>kk b o (by simpa using hb) e) f0 f1 f3 f4 f5,?_,q⟩
  show _=_
  rw [<- all_range bs,aei,hl]
end
end Ty
set_option maxHeartbeats 4000000
namespace Ty
open PySem PySem.Spec PyProof.Rows L2 PySem.NumText
theorem EG {x y:Str}(h:x.cps.toList=y.cps.toList):x=y:=by
 obtain ⟨a⟩:=x
 obtain ⟨b⟩:=y
 exact congrArg Str.mk (aos.mp h)
theorem cps_append (x y:Str):(x++y).cps.toList=x.cps.toList++y.cps.toList:=by
 show (x.cps++y.cps).toList=_
 simp
theorem bf (x:Str):x.length=x.cps.toList.length:=by simp [Str.length]
def dg (m:Nat):List Nat:=(amN 10 m).map Char.toNat
theorem xJ:∀d:Nat,d < 10->(anA d).toNat=48+d:=by decide
theorem agq {m:Nat}(h:m < 10):dg m=[48+m]:=by
 unfold dg
 rw [alY h]
 show [(anA m).toNat]=_
 rw [xJ m h]
theorem Ti {m:Nat}(h:10<=m):dg m=dg (m / 10)++[48+m % 10]:=by
 have hm:m % 10 < 10:=Nat.mod_lt m (by decide)
 have t:amN 10 (m / 10)++amN 10 (m % 10)=amN 10 (10*(m / 10)+m % 10):=Nat.toDigits_append_toDigits (by decide) (by omega) hm
 rw [Nat.div_add_mod] at t
 unfold dg
 rw [<- t,aeU,alY hm]
 show _++[(anA (m % 10)).toNat]=_
 rw [xJ _ hm]
theorem YL (m:Nat):digitsVal (dg m)=m:=PySem.W.KIN.val_back m
theorem tI (m:Nat):AllDigits (dg m):=by
 induction m using Nat.strongRecOn with
 | _ m ih=>
  by_cases h:m < 10
  ·rw [agq h]
   intro c hc
   have:c=48+m:=by simpa using hc
   omega
  ·rw [Ti (by omega)]
   intro c hc
   rcases abB.mp hc with z | z
   ·exact ih (m / 10) (by omega) c z
   ·have:c=48+m % 10:=by simpa using z
    omega
theorem Tj (m:Nat):dg m≠[]:=by
 by_cases h:m < 10
 ·rw [agq h];simp
 ·rw [Ti (by omega)];simp
theorem YM {m k:Nat}(hk:1<=k)(h:m < 10^k):(dg m).length<=k:=by
 unfold dg
 rw [Wp]
 exact toDigits_len_pow (by decide) hk h
def tx (n:Int):Str:=Str.ofString (toString n)
theorem aiN (m:Nat):(tx (m:Int)).cps.toList=dg m:=PySem.W.KIN.signs_num m
theorem aiO {m:Nat}(h:0 < m):(tx (-(m:Int))).cps.toList=45::dg m:=by
 obtain ⟨k,rfl⟩:∃k,m=k+1:=⟨m - 1,by omega⟩
 unfold tx
 rw [signs_ofString]
 show (Int.repr (Int.negSucc k)).toList.map Char.toNat=_
 show (("-"++Nat.repr (k+1)):String).toList.map Char.toNat=_
 rw [String.toList_append,aeU,Nat.toList_repr]
 rfl
theorem tJ (n:Int):(tx n).cps.toList=if n < 0 then 45::dg n.natAbs else dg n.natAbs:=by
 by_cases h:n < 0
 ·rw [if_pos h]
  have e:n= -((n.natAbs:Nat):Int):=by omega
  have:=aiO (m:=n.natAbs) (by omega)
  rw [<- e] at this
  exact this
 ·rw [if_neg h]
  have e:n=((n.natAbs:Nat):Int):=by omega
  have:=aiN n.natAbs
  rw [<- e] at this
  exact this
theorem Qz {n:Int}{k:Nat}(hk:1<=k)(h:n.natAbs < 10^k):(tx n).length<=k+1:=by
 rw [bf,tJ]
 have:=YM hk h
 split
 ·rw [abC];omega
 ·omega
theorem fY {n:Int}(h:n.natAbs < 10^4000):intText? (tx n)=some n:=by
 have hl:=Qz (by decide) h
 by_cases c:n < 0
 ·have e:=tJ n
  rw [if_pos c] at e
  rw [intText_neg e (tI _) (Tj _) (ir hl (by decide)),YL]
  congr 1
  omega
 ·have e:=tJ n
  rw [if_neg c] at e
  have a:AllDigits (tx n).cps.toList:=by rw [e];exact tI _
  rw [intText_digits a (by rw [e];exact Tj _) (ir hl (by decide)),e,YL]
  congr 1
  omega
theorem oJ {n:Int}{c:Nat}(h:c≠45)(h2:c < 48\/57 < c):c∉(tx n).cps.toList:=by
 intro m
 rw [tJ] at m
 split at m
 ·rcases aby.mp m with z | z
  ·exact h z
  ·have:=tI _ c z
   omega
 ·have:=tI _ c m
  omega
def xK:Str:=Str.ofString "/"
theorem nH:xK.cps.toList=[47]:=by decide+kernel
def nt (q:Int×Int):Str:=if q.2=1 then tx q.1 else tx q.1++xK++tx q.2
theorem wJ {a b:Str}(h:47∉a.cps.toList):Txt.partition (a++(⟨#[47]⟩:Str)++b) ⟨#[47]⟩=(a,⟨#[47]⟩,b):=by
 have ec:(a++(⟨#[47]⟩:Str)++b).cps.toList=a.cps.toList++(47::b.cps.toList):=by
  rw [cps_append,cps_append,ajD]
  rfl
 rcases partition_whole (a++(⟨#[47]⟩:Str)++b) ⟨#[47]⟩ with ⟨_,hn⟩ | ⟨i,e,hi,hk⟩
 ·exfalso
  have:(47:Nat)∈(a++(⟨#[47]⟩:Str)++b).cps.toList:=by rw [ec];simp
  obtain ⟨i,hi⟩:=(mem_iff_at _ 47).mp this
  exact hn i hi
 ·have h1:=(StrLaws.subAt_one _ 47 i).mp hi
  have h2:¬ i < a.cps.toList.length:=fun c=>by
   rw [ec,aeE c] at h1
   exact h (abw h1)
  have h3:¬ a.cps.toList.length < i:=fun c=>by
   refine hk a.cps.toList.length c ((StrLaws.subAt_one _ 47 _).mpr ?_)
   rw [ec,aea (abt _),Nat.sub_self]
   rfl
  have ei:i=a.cps.toList.length:=by omega
  rw [e]
  have l:(a++(⟨#[47]⟩:Str)++b).length=a.cps.toList.length+1+b.cps.toList.length:=by
   rw [bf,ec,aa_,abC]
   omega
  have sub:∀(x:Str) (i j:Nat),(Builtin.Str.strSub x i j).cps.toList=(x.cps.toList.take j).drop i:=fun x i j=>by
   show (x.cps.extract i j).toList=_
   simp [alN,am8]
  have l1:(⟨#[47]⟩:Str).length=1:=rfl
  have p1:Builtin.Str.strSub (a++(⟨#[47]⟩:Str)++b) 0 i=a:=EG (by
   rw [sub,ec,ei,List.drop_zero,aoS rfl])
  have p2:Builtin.Str.strSub (a++(⟨#[47]⟩:Str)++b) (i+(⟨#[47]⟩:Str).length) (a++(⟨#[47]⟩:Str)++b).length=b:=EG (by
   rw [sub,l,l1,ec,ei]
   rw [agN (by rw [aa_,abC];omega)]
   rw [show a.cps.toList++(47::b.cps.toList)=(a.cps.toList++[47])++b.cps.toList by simp]
   rw [List.drop_left' (by simp)])
  rw [p1,p2]
theorem one_sign (c:Nat):(⟨#[c]⟩:Str).length=1:=rfl
theorem QC (x:Str)(c:Nat):(!(Builtin.Str.occurrences x ⟨#[c]⟩ 0 x.length 1).isEmpty)=decide (c∈x.cps.toList):=by
 rcases StrLaws.occ_head x ⟨#[c]⟩ 1 (abt 1) with ⟨h0,hn⟩ | ⟨i,r,h0,hi,_⟩
 ·rw [h0,decide_eq_false fun m=>by obtain ⟨i,hi⟩:=(mem_iff_at x c).mp m;exact hn i hi]
  rfl
 ·rw [h0,decide_eq_true ((mem_iff_at x c).mpr ⟨i,hi⟩)]
  rfl
theorem QD {x:Str}{c d:Nat}{cs:Α}(h:x.cps.toList=d::cs):Txt.startswith x ⟨#[c]⟩=decide (d=c):=by
 have hl:x.length=cs.length+1:=by rw [bf,h];rfl
 unfold Txt.startswith
 have e1:decide (0+(⟨#[c]⟩:Str).length<=x.length)=true:=decide_eq_true (by rw [one_sign,hl];omega)
 rw [e1,asX]
 by_cases e:d=c
 ·rw [decide_eq_true e]
  have:StrLaws.At x ⟨#[c]⟩ x.length 0:=(StrLaws.subAt_one x c 0).mpr (by rw [h,e];rfl)
  exact this.2
 ·rw [decide_eq_false e]
  refine adv.mpr fun z=>e ?_
  have:StrLaws.At x ⟨#[c]⟩ x.length 0:=⟨by rw [one_sign,hl];omega,z⟩
  have:=(StrLaws.subAt_one x c 0).mp this
  rw [h] at this
  exact abq this
theorem UN {x:Str}{d:Nat}{cs:Α}(h:x.cps.toList=d::cs):(Txt.slice x (some 1) none).cps.toList=cs:=by
 have hl:x.length=cs.length+1:=by rw [bf,h];rfl
 rw [slice_from_eq (i:=1) (b:=(x.length:Int)) (by decide) (by rw [hl];omega) rfl,h]
 show ((cs.take _).toArray).toList=cs
 rw [agN (by rw [hl];omega)]
theorem empty_app (x:Str):Str.empty++x=x:=EG (by rw [cps_append];rfl)
theorem YN {c:Nat}(h:48<=c/\c<=57):c∈(Str.ofString "0123456789").cps.toList:=by
 have e:(Str.ofString "0123456789").cps.toList=[48,49,50,51,52,53,54,55,56,57]:=by decide+kernel
 rw [e]
 simp
 omega
end Ty
set_option maxHeartbeats 4000000
namespace Ty
open PySem PySem.Spec PyProof.Rows L2 PySem.NumText
structure YO (x:Str):Prop where
 len:x.length<=400
 Pz:∀c∈x.cps.toList,c < 1000
section
variable {X:Cx}
inductive agr (Q:VK)(x:V)(H1:Hp):Prop where
 | mk (z:_) (_:x=.str z) (_:YO z) (_:∀y:Str,y.length<=5000->Q (.str y) H1):agr Q x H1
def auy (te:TE):TE:=fun σ H Q=>te σ H fun x H1=>agr Q x H1
theorem QE {e:Expr}{te:TE}{pos:Pos}(he:PE X e te):PE X (.FormattedValue e 114 none pos) (auy te):=by
 intro pins s σ H Q I h
 refine wpAny_FormattedValue_repr (cV (he pins s σ H _ I h) fun v s1 ⟨x,H1,I1,r1,q1⟩=>?_)
 obtain ⟨z,rfl,hz,q⟩:=q1
 obtain ⟨t,rfl⟩:=r1
 have l1:=StrLaws.reprText_len z (fun c hc=>abu (hz.Pz c hc) (by decide))
 have l2:=hz.len
 have l3:(reprText z).length<=5000:=by omega
 have l4:(reprText z).length<=sizeLine:=ir l3 (by decide)
 refine wpAny_pyReprObj_str ?_ l4
 have I2:Inv X pins σ H1 {s1 with toks:=s1.toks+1}:=I1.tok _
 exact wpAny_formatField_str ⟨.str _,H1,I2,⟨_,rfl⟩,q _ l3⟩ ⟨.str _,H1,I2.tok _,⟨_,rfl⟩,q _ l3⟩ l4
theorem xM:∀{ys:ζ} {us:θ},Vals (ys.map V.str) us->StrsAre us ys
 | [],[],.nil=>.nil
 | _::_,_::_,.cons ⟨t,e⟩ r=>by subst e;exact .cons _ _ (xM r)
inductive YQ (K:Frag)(x:V)(vs:η)(H:Hp)(Q:VK):Prop where
 | mk (z:Str) (p:Addr) (ys:ζ) (_:x=.str z) (_:vs=[.ref p]) (_:bq K H p (ys.map V.str)) (_:(ys.map (·.length)).sum+ys.length*z.length<=16777216) (_:Q (.str (Txt.join z ys)) H):YQ K x vs H Q
theorem Tn:MtR X "str.join" (YQ X.K):=by
 intro pins s σ H x vs v us Q I rx rv h
 obtain ⟨z,p,ys,rfl,rfl,hq,hl,q⟩:=h
 obtain ⟨t,rfl⟩:=rx
 obtain ⟨u,rfl,ru⟩:=rv.one
 cases ru
 obtain ⟨its,r,pl,hz⟩:=I.list hq
 exact join_list pl.isList (xM (by simpa using r)) hl fun t' k=>⟨.str _,H,I.tok k,⟨t',rfl⟩,q⟩
end
def isStar:Expr->Bool
 | .Starred .. =>true
 | _=>false
theorem UO {e:Expr}{es:ο}{env:Env}(h:isStar e=false):starEach (e::es) env=(false,eval e env)::starEach es env:=by
 cases e <;> first | rfl | (cases h;done)
theorem mw {X:Cx}{e:Expr}{es:ο}{te:TE}{t:TA}(ha:PE X e te)(hr:PA X es t)(h:isStar e=false:=by rfl):PA X (e::es) (uS te t):=adF ha hr (UO h)
def To:List Expr->Option (List Str)
 | []=>some []
 | .Constant (.str x) _ _::r=>(To r).map (x::·)
 | _=>none
def ans (xs:ζ):TA:=fun _ H Q=>Q (xs.map V.str) H
theorem qY {X:Cx}(xs:ζ){es:ο}(h:To es=some xs):PA X es (ans xs):=by
 induction es generalizing xs with
 | nil=>cases h;exact ja
 | cons e es ih=>
  unfold To at h
  split at h
  ·rename_i h0;cases h0
  ·rename_i x j pos r h0
   cases h0
   cases hr:To es with
   | none=>rw [hr] at h;cases h
   | some ys=>
    rw [hr] at h
    cases h
    exact mw au (ih ys hr)
  ·cases h
end Ty
set_option maxHeartbeats 4000000
namespace Ty
open PySem PySem.Spec PyProof.Rows L2
section
variable {D:Addr}{te:TE}{cap:L2.St}{H1:Hp}{Q:VK}
def eh (D:Addr)(H H' :Hp):Prop:=∀b o,b≠D->H b=some o->H' b=some o
theorem eh.of {H H' :Hp}(s:az H H'):eh D H H' :=fun b o _ e=>s b o e
theorem eh.upd {H:Hp}{o:HO}:eh D H (upd H D o):=fun b o' n e=>by rw [ah n];exact e
theorem xN {J:It}(n:Nat)(xs:Nat->V)(Rel:Nat->V->Hp->Prop)(nD:H1 D=none)(hn:n < sizeLine)
  (go:∀i H,i < n->az H1 H->J.go i H/\∀x H',J.yld i H x H' ->H' =H/\x=xs i) (stop:∀H,az H1 H->J.stop n H)
  (hR:∀i v H H' ys,H D=some (.lst ys)->eh D H H' ->Rel i v H->Rel i v H')
  (he:∀i H (R:VK),i < n->az H1 H->(∀v H6,az H H6->Rel i v H6->R v H6)->te (some (xs i)::cap) H R)
  (hd:∀ys H,ys.length=n->(∀i v,ys[i]? =some v->Rel i v H)->az H1 H->H D=some (.lst ys)->Q (.ref D) H):
  LN D (g9 0) zk te J (none::cap) H1 Q:=by
 refine YG n xs (fun i ys H=>ys.length=i/\(∀i v,ys[i]? =some v->Rel i v H)/\az H1 H) ⟨rfl,fun i v e=>by simp at e,fun b o e=>by rw [ah (ak e nD)];exact e⟩ ?_ ?_ ?_ ?_
 ·rintro i ys H hi ⟨_,_,s⟩
  exact go i H hi s
 ·rintro ys H ⟨_,_,s⟩
  exact stop H s
 ·rintro i ys H R hi ⟨l,r,s⟩ hD k
  refine he i H R hi s fun v H6 s6 rv=>k v H6 (s6 _ _ hD) (by omega) ⟨by simp [l],fun j u e=>?_,fun b o e=>?_⟩
  ·by_cases c:j < ys.length
   ·rw [aeE c] at e
    have ru:=hR j u H H6 ys hD (eh.of s6) (r j u e)
    exact hR j u H6 _ ys (s6 _ _ hD) eh.upd ru
   ·rw [aea (by omega)] at e
    have ej:j=i:=by
     by_cases z:j - ys.length=0
     ·omega
     ·rw [aeD (by simp;omega)] at e
      cases e
    subst ej
    have:v=u:=by
     rw [show j - ys.length=0 by omega] at e
     exact abq e
    subst this
    exact hR j v H6 _ ys (s6 _ _ hD) eh.upd rv
  ·rw [ah (ak e nD)]
   exact s6 _ _ (s _ _ e)
 ·rintro ys H ⟨l,r,s⟩ hD
  exact hd ys H l r s hD
theorem tK {K:Frag}{a:Addr}{xs:η}(Rel:Nat->V->Hp->Prop)(nD:H1 D=none)(hn:xs.length < sizeLine)(hS:∀H,az H1 H->bq K H a xs)
  (hR:∀i v H H' ys,H D=some (.lst ys)->eh D H H' ->Rel i v H->Rel i v H')
  (he:∀i x H (R:VK),xs[i]? =some x->az H1 H->(∀v H6,az H H6->Rel i v H6->R v H6)->te (some x::cap) H R)
  (hd:∀ys H,ys.length=xs.length->(∀i v,ys[i]? =some v->Rel i v H)->az H1 H->H D=some (.lst ys)->Q (.ref D) H):
  LN D (g9 0) zk te (Itl K a) (none::cap) H1 Q:=by
 refine xN xs.length (fun i=>(xs[i]?).getD .bN) Rel nD hn (fun i H hi s=>⟨⟨xs,xs[i],hS H s,gE hi⟩,fun x H' y=>⟨y.1,?_⟩⟩) (fun H s=>⟨xs,hS H s,abt _⟩) hR (fun i H R hi s k=>?_) hd
 ·rw [y.2 xs (hS H s)];rfl
 ·have e:xs[i]? =some xs[i]:=gE hi
  have k' :=he i _ H R e s k
  rw [<- (show (xs[i]?).getD .bN=xs[i] by rw [e];rfl)] at k'
  exact k'
theorem QF {lo:Int}{n:Nat}(Rel:Nat->V->Hp->Prop)(nD:H1 D=none)(hn:n < sizeLine)
  (hR:∀i v H H' ys,H D=some (.lst ys)->eh D H H' ->Rel i v H->Rel i v H')
  (he:∀(i:Nat) H (R:VK),i < n->az H1 H->(∀v H6,az H H6->Rel i v H6->R v H6)->te (some (.int (lo+i))::cap) H R)
  (hd:∀ys H,ys.length=n->(∀i v,ys[i]? =some v->Rel i v H)->az H1 H->H D=some (.lst ys)->Q (.ref D) H):
  LN D (g9 0) zk te (Itr lo n) (none::cap) H1 Q:=
 xN n (fun i=>.int (lo+i)) Rel nD hn (fun i H hi s=>⟨hi,fun x H' y=>y⟩) (fun H s=>abt n) hR he hd
end
section
variable {X:Cx}{pins:δ}{σ:L2.St}{H:Hp}{s:Shared}{h' :Heap}
theorem Inv.Tp {t' :Nat}{fp:π}(I:Inv X pins σ H s)(k:∀b o,b∉fp->s.heap.get? b=some o->h'.get? b=some o)(hf:∀b∈fp,vE X pins H b):Inv X pins σ H {s with heap:=h',toks:=t' }:=by
 have nit:∀b u,H b=some u->b∉fp:=fun b u e z=>by rw [(hf b z).1] at e;cases e
 refine I.step (g' :=s.gens) (d' :=s.drawn) (ch:=fp) (fun b hb=>?_) (fun b o _ _ hc e _=>k b o hc e) (fun b o _ _ hc e _=>⟨o.slots,k b o hc e⟩) (fun _ _ _ _ n=>n)
  (fun b o hc e=>⟨o,k b o hc e⟩) (fun _ _ e=>e) (fun _ _ _ e=>e) (fun b ps e=>⟨#[],by rw [e];simp⟩) (fun m hm=>?_) (fun b u e=>?_) I.bare
 ·obtain ⟨f0,f1,f2,f3,f4,f5⟩:=hf b hb
  exact ⟨f3,f1,f4,f5⟩
 ·obtain ⟨o,es,ep,ho,r⟩:=hm
  exact ⟨o,es,ep,k _ o (fun z=>(hf _ z).2.1 rfl) ho,r⟩
 ·refine (I.bR b u e).qF (fun c v hc q=>k c v ?_ q) (fun _ q=>q) fun _ _ q=>q
  rcases hc with z | z
  ·rw [z];exact nit b u e
  ·exact nit c _ z
theorem Inv.EH {t' :Nat}{fp:π}{T:Addr}{xs:η}{its:θ}(I:Inv X pins σ H s)(k:∀b o,b∉fp->s.heap.get? b=some o->h'.get? b=some o)(hf:∀b∈fp,vE X pins H b)(hT:s.heap.objs.size<=T)
  (hz:xs.length<=sizeLine) (rv:Vals xs its) (ht:IsTup h' T its.toArray):Inv X pins σ (upd H T (.tup xs)) {s with heap:=h',toks:=t' }:=by
 have hn:=I.bR.fresh hT
 have nit:∀b u,H b=some u->b∉fp:=fun b u e z=>by rw [(hf b z).1] at e;cases e
 have ne:∀b o,s.heap.get? b=some o->b≠T:=fun b o e=>ab_ (abu (Heap.lt_size e) hT)
 refine I.step (g' :=s.gens) (d' :=s.drawn) (ch:=fp) (fun b hb=>?_) (fun b o _ _ hc e _=>k b o hc e) (fun b o _ _ hc e _=>⟨o.slots,k b o hc e⟩) (fun b o _ e n=>by rw [ah (ne b o e)];exact n)
  (fun b o hc e=>⟨o,k b o hc e⟩) (fun b ys e=>by rw [ah (ak e hn)];exact e) (fun b o u e=>by rw [ah (ak e hn)];exact e) (fun b ps e=>⟨#[],by rw [ah (ak e hn),e];simp⟩) (fun m hm=>?_) (fun b u e=>?_) I.bare
 ·obtain ⟨f0,f1,f2,f3,f4,f5⟩:=hf b hb
  exact ⟨f3,f1,f4,f5⟩
 ·obtain ⟨o,es,ep,ho,r⟩:=hm
  exact ⟨o,es,ep,k _ o (fun z=>(hf _ z).2.1 rfl) ho,r⟩
 ·by_cases hb:b=T
  ·subst hb
   rw [aj] at e
   cases e
   exact ⟨hz,its,rv,ht⟩
  ·rw [ah hb] at e
   refine (I.bR b u e).qF (fun c v hc q=>k c v ?_ q) (fun c q=>by rw [ah (ak q hn)];exact q) fun c ys q=>by rw [ah (ak q hn)];exact q
   rcases hc with z | z
   ·rw [z];exact nit b u e
   ·exact nit c _ z
end
def Itz (K:Frag)(a b:Addr):It:=
 ⟨fun i H=>∃xs ys x y,bq K H a xs/\bq K H b ys/\xs[i]? =some x/\ys[i]? =some y,
  fun i H v H' =>∃p x y,(∀xs,bq K H a xs->xs[i]? =some x)/\(∀ys,bq K H b ys->ys[i]? =some y)/\v=.ref p/\H p=none/\H' =upd H p (.tup [x,y]),
  fun i H=>∃xs ys,bq K H a xs/\bq K H b ys/\(xs.length<=i\/ys.length<=i)⟩
theorem YR {P:Program}{w:World}{K:Frag}{es:ο}{k:Nat}{pos:Pos}(a b z TI TO i1 i2:Addr)(D:ZipApart z TI TO i1 i2 a b):
  Turn P w K (.Tuple es k pos) (Itz K a b) [z,TI,TO,i1,i2] z (fun i h=>IsZip h z TI TO .none/\IsPair h TI (.ref i1) (.ref i2)/\(∃x y,IsPair h TO x y)/\h.IsListIter i1 a i/\h.IsListIter i2 b i) where
 mem:=by simp
 obj:=fun i h st c hc=>by
  obtain ⟨hz,YS,⟨x,y,hTO⟩,⟨o1,e1,c1,d1⟩,⟨o2,e2,c2,d2⟩⟩:=st
  have DI :c=z\/c=TI\/c=TO\/c=i1\/c=i2:=by simpa using hc
  rcases DI with e | e | e | e | e <;> subst e
  ·exact ⟨_,hz,fun v z=>by cases z⟩
  ·exact ⟨_,YS,fun v z=>by cases z⟩
  ·exact ⟨_,hTO,fun v z=>by cases z⟩
  ·exact ⟨_,e1,fun v z=>by rw [d1] at z;cases z⟩
  ·exact ⟨_,e2,fun v z=>by rw [d2] at z;cases z⟩
 keep:=fun i h h' st k=>by
  obtain ⟨hz,YS,⟨x,y,hTO⟩,h1,h2⟩:=st
  exact ⟨k z (by simp) _ hz,k TI (by simp) _ YS,⟨x,y,k TO (by simp) _ hTO⟩,h1.at fun o e=>k i1 (by simp) o e,h2.at fun o e=>k i2 (by simp) o e⟩
 item:=by
  intro X hP hw hK hc i pins s σ H E I hf st hg
  subst hP hw hK
  obtain ⟨hz,YS,⟨x0,y0,hTO⟩,h1,h2⟩:=st
  obtain ⟨xs,ys,x,y,qx,qy,ex,ey⟩:=hg
  obtain ⟨its,rv,p,_⟩:=I.list qx
  obtain ⟨jts,BG,p',_⟩:=I.list qy
  obtain ⟨u,hu,ru⟩:=rv.get ex
  obtain ⟨v,hv,rv'⟩:=BG.get ey
  refine wpAny_pyNext_zip_item D hz YS hTO h1 h2 p.isList p'.isList (x:=u) (y:=v) (by simpa using hu) (by simpa using hv) fun h' a1 a2 a3 a4 a5 a6 a7=>?_
  refine ⟨_,rfl,wpAny_letOwnedTupleGo_zip (s:={s with heap:=h' }) a1 fun h'' b1 sb=>?_⟩
  have nz:∀c,c≠z->∀o,h'.get? c=some o->h''.get? c=some o:=fun c hc o e=>(sb.2 c hc).trans e
  have kk:∀b o,b∉[z,TI,TO,i1,i2]->s.heap.get? b=some o->h''.get? b=some o:=fun b o hb e=>by
   have vL :b≠z/\b≠TI/\b≠TO/\b≠i1/\b≠i2:=by simpa using hb
   exact nz b vL.1 o (a7 b o vL.1 vL.2.2.1 vL.2.2.2.1 vL.2.2.2.2 e)
  have sz:∀c o,s.heap.get? c=some o->s.heap.objs.size≠c:=fun c o e=>amz (Heap.lt_size e)
  have tz:s.heap.objs.size≠z:=sz _ _ hz
  have hn:=I.bR.fresh (abt s.heap.objs.size)
  have I2:Inv X pins σ (upd H s.heap.objs.size (.tup [x,y])) {s with heap:=h'',toks:=s.toks}:=
   Inv.EH I kk hf (abt _) (by show 2<=sizeLine;decide) (its:=[u,v]) (.cons ru (.cons rv' .nil)) ⟨_,nz _ tz _ a5,rfl,_,rfl⟩
  refine ⟨.ref s.heap.objs.size,_,I2,rfl,⟨s.heap.objs.size,x,y,fun xs' q=>by rw [I.mB q qx];exact ex,fun ys' q=>by rw [I.mB q qy];exact ey,rfl,hn,rfl⟩,⟨b1,nz _ D.TIz _ (a7 _ _ D.TIz D.TITO D.TIi1 D.TIi2 YS),⟨_,_,nz _ D.TOz _ a2⟩,a3.at fun o e=>nz _ D.i1z o e,a4.at fun o e=>nz _ D.i2z o e⟩,fun b hb=>?_⟩
  have ob:∃o,s.heap.get? b=some o:=by
   obtain ⟨o1,e1,_⟩:=h1
   obtain ⟨o2,e2,_⟩:=h2
   have DI :b=z\/b=TI\/b=TO\/b=i1\/b=i2:=by simpa using hb
   rcases DI with e | e | e | e | e <;> subst e
   ·exact ⟨_,hz⟩
   ·exact ⟨_,YS⟩
   ·exact ⟨_,hTO⟩
   ·exact ⟨_,e1⟩
   ·exact ⟨_,e2⟩
  obtain ⟨o,e⟩:=ob
  rw [ah (ac_ (sz _ _ e))]
  exact (hf b hb).1
 done:=by
  intro X hP hw hK hc i pins s σ H E I hf st hg
  subst hP hw hK
  obtain ⟨hz,YS,⟨x0,y0,hTO⟩,h1,h2⟩:=st
  obtain ⟨xs,ys,qx,qy,ee⟩:=hg
  obtain ⟨its,rv,p,_⟩:=I.list qx
  obtain ⟨jts,BG,p',_⟩:=I.list qy
  have l1:=rv.length
  have l2:=BG.length
  refine wpAny_pyNext_zip_end (I.ok.hd hc) D hz YS hTO h1 h2 p.isList p'.isList ?_ fun h' kk=>⟨rfl,Inv.Tp I (fun b o hb e=>?_) hf⟩
  ·rcases ee with e | e
   ·exact .inl (by simp;omega)
   ·exact .inr (by simp;omega)
  ·have vL :b≠z/\b≠TI/\b≠TO/\b≠i1/\b≠i2:=by simpa using hb
   exact kk b o vL.1 vL.2.2.1 vL.2.2.2.1 vL.2.2.2.2 e
 self:=fun _ _ _ _ _ st h=>wpAny_pyIter_zip st.1 h
theorem boot_zip:bootBuiltins "zip"=some (.type "zip"):=by decide+kernel
section
variable {X:Cx}
inductive ags (K:Frag)(R:(It->Hp->Prop))(vs:η)(H1:Hp):Prop where
 | mk (a b:_) (_:vs=[.ref a,.ref b]) (_:(∃xs,bq K H1 a xs)) (_:(∃ys,bq K H1 b ys)) (_:R (Itz K a b) H1):ags K R vs H1
def auA (K:Frag)(ta:TA):TI:=fun σ H R=>ta σ H fun vs H1=>ags K R vs H1
theorem aiP {e1 e2:Expr}{ta:TA}{p pos:Pos}{es:ο}{k:Nat}{KS:Pos}(hg:Gl X "zip")(hm:X.mg "zip"=none)(ha:PA X [e1,e2] ta)(hs:starEach [e1,e2] X.env=[(false,eval e1 X.env),(false,eval e2 X.env)]:=by rfl)(Xw:starEach [e2] X.env=[(false,eval e2 X.env)]:=by rfl):
  PI X (.Tuple es k KS) (.Call (.Name "zip" p) [e1,e2] [] pos) (auA X.K ta):=by
 intro pins s σ H R I h
 refine Call_ (tf I hg hm boot_zip (PyProof.Rows.callWith_type1 (cV (ha pos pins s σ H _ I h) fun us s1 ⟨vs,H1,I1,r1,q1⟩=>?_) (by rw [hs,Xw]) (by rw [Xw];rfl)))
 obtain ⟨a,b,e,⟨xs,hx⟩,⟨ys,hy⟩,q⟩:=q1
 subst e
 cases r1 with
 | cons r rr=>
  cases rr with
  | cons r' rr=>
   cases rr
   cases r
   cases r'
   obtain ⟨its,rv,pl,_⟩:=I1.list hx
   obtain ⟨jts,BG,pl',_⟩:=I1.list hy
   have lt1:a < s1.heap.objs.size:=by obtain ⟨o,ho,_⟩:=pl.isList;exact Heap.lt_size ho
   have lt2:b < s1.heap.objs.size:=by obtain ⟨o,ho,_⟩:=pl'.isList;exact Heap.lt_size ho
   refine call_zip_2 pl.isList pl'.isList fun h' hz YS hTO hi1 hi2 hsz hk=>wpAny_pyIter_zip (s:={s1 with heap:=h' }) hz ?_
   refine ⟨s1.heap.objs.size+4,[s1.heap.objs.size+4,s1.heap.objs.size+2,s1.heap.objs.size+3,s1.heap.objs.size,s1.heap.objs.size+1],_,_,H1,rfl,I1.kept (t' :=s1.toks) hk,YR a b _ _ _ _ _ ?_,⟨hz,YS,⟨_,_,hTO⟩,hi1,hi2⟩,fun c hc=>?_,q⟩
   ·constructor <;> (intro z;simp only [Addr] at*;omega)
   ·have DI :s1.heap.objs.size<=c:=by
     have:c=s1.heap.objs.size+4\/c=s1.heap.objs.size+2\/c=s1.heap.objs.size+3\/c=s1.heap.objs.size\/c=s1.heap.objs.size+1:=by simpa using hc
     simp only [Addr] at*
     omega
    exact I1.zc DI (I1.bR.fresh DI)
inductive YT (K:Frag)(xs:η)(H:Hp)(Q:VK):Prop where
 | mk (p:Addr) (ys:η) (_:xs=[.ref p]) (_:bq K H p ys) (_:∀l,H l=none->Q (.ref l) (upd H l (.lst ys))):YT K xs H Q
theorem QG:i9 X (.type "list") (YT X.K):=by
 intro pins s σ H xs us Q I r h
 obtain ⟨p,ys,rfl,hq,q⟩:=h
 obtain ⟨u,rfl,r1⟩:=vals1 r
 cases r1
 obtain ⟨its,rv,⟨o,n,e,c,d1,d⟩,hz⟩:=I.list hq
 have hlen:=rv.length
 refine call_list_seq p (.inl rfl) e c d (fun h' c' hk hl=>?_) (by simp;omega)
 have hn:=I.bR.fresh (abt s.heap.objs.size)
 have I2:Inv X pins σ (upd H s.heap.objs.size (.lst ys)) {s with heap:=h',toks:=s.toks}:=I.laid (t' :=s.toks) hk (abt _) ⟨hz,its,c',rv,hl⟩
 exact ⟨.ref _,_,I2,rfl,q _ hn⟩
end
section
variable {X:Cx}{K:Frag}
theorem EI (h:X.K=K):IxR X (adK K):=by subst h;exact Yc
theorem YU (h:X.K=K):IxR X (adJ K):=by subst h;exact d9
theorem ad4 {es:ο}{k:Nat}{t:TGs}{n:Nat}{pos:Pos}(hK:X.K=K)(hc:X.calm=true)(h:PGs X es t)
  (hn:(assignEach es X.env).length=n:=by rfl) (hst:(assignEach es X.env).findIdx? (·.1)=none:=by rfl):PG X (.Tuple es k pos) (adx K n t):=by subst hK;exact pA hc h hn hst
end
section
variable {D:Addr}{te:TE}{cap:L2.St}{H1:Hp}{Q:VK}
theorem YV {K:Frag}{a b:Addr}{xs ys:η}(Rel:Nat->V->Hp->Prop)(nD:H1 D=none)(hn:xs.length < sizeLine)(hl:ys.length=xs.length)(hX:∀H,az H1 H->bq K H a xs)(hY:∀H,az H1 H->bq K H b ys)
  (hR:∀i v H H' ys,H D=some (.lst ys)->eh D H H' ->Rel i v H->Rel i v H')
  (he:∀i x y H (R:VK),xs[i]? =some x->ys[i]? =some y->az H1 H->(∀v H6,az H H6->Rel i v H6->R v H6)->te (some x::some y::cap) H R)
  (hd:∀zs H,zs.length=xs.length->(∀i v,zs[i]? =some v->Rel i v H)->az H1 H->H D=some (.lst zs)->Q (.ref D) H):
  LN D (adx K 2 (XT (g9 0) (XT (g9 1) amG))) zk te (Itz K a b) (none::none::cap) H1 Q:=by
 refine ⟨fun i m σ zs H=>m=xs.length - i/\i<=xs.length/\(∃o o',σ=o::o' ::cap)/\(zs.length=i/\(∀i v,zs[i]? =some v->Rel i v H)/\az H1 H)/\H D=some (.lst zs),⟨xs.length,by simp,af0 _,⟨none,none,rfl⟩,⟨rfl,fun i v e=>by simp at e,fun b o e=>by rw [ah (ak e nD)];exact e⟩,aj⟩,?_⟩
 rintro i m σ zs H ⟨rfl,hi,⟨o,o',rfl⟩,⟨l,r,s⟩,hD⟩
 by_cases JT:i < xs.length
 ·have e1:xs[i]? =some xs[i]:=gE JT
  have e2:ys[i]? =some (ys[i]'(by omega)):=gE (by omega)
  refine .inr ⟨⟨xs,ys,_,_,hX H s,hY H s,e1,e2⟩,fun v H' y=>?_⟩
  obtain ⟨p,x,y,q1,q2,rfl,np,rfl⟩:=y
  have e1:=q1 xs (hX H s)
  have e2:=q2 ys (hY H s)
  have sp:az H (upd H p (.tup [x,y])):=fun b o e=>by rw [ah (ak e np)];exact e
  refine ⟨p,_,rfl,cT.of aj,rfl,_,_,rfl,_,_,rfl,rfl,?_⟩
  unfold zk
  dsimp only
  rw [if_pos rfl]
  refine he i x y _ _ e1 e2 (fun b o e=>sp _ _ (s _ _ e)) fun v H6 s6 rv=>⟨s6 _ _ (sp _ _ hD),by omega,xs.length - (i+1),by omega,rfl,by omega,⟨_,_,rfl⟩,⟨by simp [l],fun j u e=>?_,fun b o e=>?_⟩,aj⟩
  ·by_cases c:j < zs.length
   ·rw [aeE c] at e
    have ru:=hR j u H H6 zs hD (eh.of fun b o q=>s6 _ _ (sp _ _ q)) (r j u e)
    exact hR j u H6 _ zs (s6 _ _ (sp _ _ hD)) eh.upd ru
   ·rw [aea (by omega)] at e
    have ej:j=i:=by
     by_cases z:j - zs.length=0
     ·omega
     ·rw [aeD (by simp;omega)] at e
      cases e
    subst ej
    have:v=u:=by
     rw [show j - zs.length=0 by omega] at e
     exact abq e
    subst this
    exact hR j v H6 _ zs (s6 _ _ (sp _ _ hD)) eh.upd rv
  ·rw [ah (ak e nD)]
   exact s6 _ _ (sp _ _ (s _ _ e))
 ·have e:i=xs.length:=by omega
  subst e
  exact .inl ⟨⟨xs,ys,hX H s,hY H s,.inl (abt _)⟩,hd zs H l r s hD⟩
end
open Builtin.Int (intBits)
def vl (q:Int×Int):Rat:=(q.1:Rat) / (q.2:Rat)
theorem LP {b:Int}(h:b≠0):(b:Rat)≠0:=by simpa using h
theorem YW {t b:Int}(h:b≠0):vl (low t b)=(t:Rat) / (b:Rat):=by
 have c:=UE (t:=t) h
 have p:=qQ (t:=t) h
 have h1:=LP h
 have h2:=LP (b:=(low t b).2) (by omega)
 have c' :((low t b).1:Rat)*b=t*(low t b).2:=by exact_mod_cast c
 unfold vl
 grind
theorem LQ {t b u c:Int}(hb:b≠0)(hc:c≠0)(h:(t:Rat) / b=(u:Rat) / c):t*c=u*b:=by
 have h1:=LP hb
 have h2:=LP hc
 have:(t:Rat)*c=u*b:=by grind
 exact_mod_cast this
theorem aiQ {q r:Int×Int}(hq:0 < q.2)(hr:0 < r.2)(gq:af1 q.1 q.2=1)(gr:af1 r.1 r.2=1)(h:vl q=vl r):q=r:=by
 have c:=LQ (t:=q.1) (b:=q.2) (u:=r.1) (c:=r.2) (by omega) (by omega) h
 have e:=zf (t:=q.1) (b:=q.2) (u:=r.1) (c:=r.2) (by omega) (by omega) c
 rw [xy hq gq,xy hr gr] at e
 exact agx (congrArg al_ e) (congrArg Prod.snd e)
section
variable {D:Addr}{te:TE}{cap:L2.St}{H1:Hp}{Q:VK}
end
section
variable {X:Cx}
end
end Ty
namespace L2
open PySem PySem.Spec PyProof.Rows
section
variable {κ:Type}[DecidableEq κ]
def gZ (kvs:List (κ×V))(k:κ):Option V:=(kvs.find? fun kv=>decide (kv.1=k)).map (·.2)
def putK (kvs:List (κ×V))(k:κ)(v:V):List (κ×V):=
 if (kvs.any fun kv=>decide (kv.1=k))=true then kvs.map (fun kv=>if kv.1=k then (kv.1,v) else kv) else kvs++[(k,v)]
theorem jd {p:κ×V}{r:List (κ×V)}{k:κ}(e:p.1=k):gZ (p::r) k=some p.2:=by simp [gZ,agP,e]
theorem ip {p:κ×V}{r:List (κ×V)}{k:κ}(e:¬ p.1=k):gZ (p::r) k=gZ r k:=by simp [gZ,agP,e]
theorem xO (k:κ):∀kvs:List (κ×V),(kvs.any fun kv=>decide (kv.1=k))=(gZ kvs k).isSome
 | []=>rfl
 | p::r=>by
  rw [ah_]
  by_cases e:p.1=k
  ·simp only [jd e,decide_eq_true e,Bool.true_or,Option.isSome_some]
  ·rw [ip e,decide_eq_false e,asY];exact xO k r
theorem uX (kvs:List (κ×V))(k:κ)(v:V):(putK kvs k v).length<=kvs.length+1:=by
 unfold putK
 split
 ·rw [Wp];omega
 ·rw [aa_,abC,agh];omega
theorem kg {kvs:List (κ×V)}{k:κ}(v:V)(h:gZ kvs k=none):putK kvs k v=kvs++[(k,v)]:=by
 unfold putK
 rw [xO,h]
 exact if_neg (by decide)
theorem jD.kh {o:Η}{u:Ι}(r:jD o u):o.isSome=u.isSome:=by
 cases o with
 | none=>cases u with
  | none=>rfl
  | some _=>exact (show False from r).elim
 | some _=>cases u with
  | none=>exact (show False from r).elim
  | some _=>rfl
theorem KV.val {kvs:List (κ×V)}{vs:List (κ×Value)}(r:KV kvs vs)(k:κ):jD (gZ kvs k) (valueAt vs k):=by
 unfold KV at r
 induction r with
 | nil=>exact True.intro
 | @cons p q ps qs h t ih=>
  obtain ⟨h1,h2⟩:=h
  by_cases e:p.1=k
  ·have e' :q.1=k:=h1.symm.trans e
   have b:valueAt (q::qs) k=some q.2:=by simp [valueAt,agP,e']
   rw [jd e,b];exact h2
  ·have e' :¬ q.1=k:=fun z=>e (h1.trans z)
   have b:valueAt (q::qs) k=valueAt qs k:=by simp [valueAt,agP,e']
   rw [ip e,b];exact ih
theorem KV.any {kvs:List (κ×V)}{vs:List (κ×Value)}(r:KV kvs vs)(k:κ):(kvs.any fun kv=>decide (kv.1=k))=vs.any fun kv=>decide (kv.1=k):=by
 unfold KV at r
 induction r with
 | nil=>rfl
 | cons h t ih=>rw [ah_,ah_,ih,h.1]
theorem KV.aiR {kvs:List (κ×V)}{vs:List (κ×Value)}(r:KV kvs vs)(k:κ){y:V}{u:Value}(ry:RelV y u):
  KV (kvs.map fun kv=>if kv.1=k then (kv.1,y) else kv) (vs.map fun kv=>if kv.1=k then (kv.1,u) else kv):=by
 unfold KV at r ⊢
 induction r with
 | nil=>exact .nil
 | @cons p q ps qs h t ih=>
  rw [adA,adA]
  refine .cons ?_ ih
  obtain ⟨h1,h2⟩:=h
  by_cases e:p.1=k
  ·rw [if_pos e,if_pos (h1.symm.trans e)];exact ⟨h1,ry⟩
  ·rw [if_neg e,if_neg (fun z=>e (h1.trans z))];exact ⟨h1,h2⟩
theorem KV.put {kvs:List (κ×V)}{vs:List (κ×Value)}(r:KV kvs vs)(k:κ){y:V}{u:Value}(ry:RelV y u):KV (putK kvs k y) (stored vs k u):=by
 unfold putK stored
 rw [r.any k]
 by_cases e:(vs.any fun kv=>decide (kv.1=k))=true
 ·rw [if_pos e,if_pos e];exact r.aiR k ry
 ·rw [if_neg e,if_neg e];exact Paired.snoc r ⟨rfl,ry⟩
theorem KV.length {kvs:List (κ×V)}{vs:List (κ×Value)}(r:KV kvs vs):kvs.length=vs.length:=Paired.length r
end
theorem LS {P:Program}{w:World}{k:Key}{u:Value}(r:RelV (kV k) u):(cE P w).is k u=true:=by
 cases k with
 | inl i=>obtain ⟨t,e⟩:=(show ∃t,u=Value.int i t from r);subst e;exact KH P w i t
 | inr x=>obtain ⟨t,e⟩:=(show ∃t,u=Value.str x t from r);subst e;exact KI P w x t
theorem BN {P:Program}{w:World}:∀{ks:List Key} {us:θ},Vals (ks.map kV) us->ItemsAre (cE P w) ks us
 | [],_,r=>by rw [agj] at r;cases r;exact .nil
 | k::ks,_,r=>by
  rw [adA] at r
  cases r with
  | cons h t=>exact .cons (LS h) (BN t)
abbrev KT (H:Hp):List (List Key×V)->List (List Key×Addr×Value)->Prop:=Paired fun p q=>p.1=q.1/\H q.2.1=some (.tup (p.1.map kV))/\RelV p.2 q.2.2
theorem KT.val {H:Hp}{kvs:Δ}{xs:Λ}(r:KT H kvs xs)(k:List Key):jD (gZ kvs k) ((atKey xs k).map (·.2)):=by
 induction r with
 | nil=>exact True.intro
 | @cons p q ps qs h t ih=>
  obtain ⟨h1,_,h2⟩:=h
  by_cases e:p.1=k
  ·have e' :q.1=k:=h1.symm.trans e
   have b:atKey (q::qs) k=some q.2:=by simp [atKey,agP,e']
   rw [jd e,b];exact h2
  ·have e' :¬ q.1=k:=fun z=>e (h1.trans z)
   have b:atKey (q::qs) k=atKey qs k:=by simp [atKey,agP,e']
   rw [ip e,b];exact ih
theorem KT.aiR {H:Hp}{kvs:Δ}{xs:Λ}(r:KT H kvs xs)(k:List Key){y:V}{u:Value}(ry:RelV y u):
  KT H (kvs.map fun kv=>if kv.1=k then (kv.1,y) else kv) (xs.map (putAt k u)):=by
 induction r with
 | nil=>exact .nil
 | @cons p q ps qs h t ih=>
  rw [adA,adA]
  refine .cons ?_ ih
  obtain ⟨h1,h2,h3⟩:=h
  unfold putAt
  by_cases e:p.1=k
  ·rw [if_pos e,if_pos (h1.symm.trans e)];exact ⟨h1,h2,ry⟩
  ·rw [if_neg e,if_neg (fun z=>e (h1.trans z))];exact ⟨h1,h2,h3⟩
theorem KT.put {H:Hp}{kvs:Δ}{xs:Λ}(r:KT H kvs xs)(k:List Key){b:Addr}{y:V}{u:Value}(hb:H b=some (.tup (k.map kV)))(ry:RelV y u):
  KT H (putK kvs k y) (storedH xs k b u):=by
 have e:(kvs.any fun kv=>decide (kv.1=k))=(atKey xs k).isSome:=by
  rw [xO,(r.val k).kh,alS]
 unfold putK storedH
 rw [e]
 by_cases q:(atKey xs k).isSome=true
 ·rw [if_pos q,if_pos q];exact r.aiR k ry
 ·rw [if_neg q,if_neg q];exact Paired.snoc r ⟨rfl,hb,ry⟩
theorem KT.keeps {H H' :Hp}{kvs:Δ}{xs:Λ}(r:KT H kvs xs)(ht:∀b ys,H b=some (.tup ys)->H' b=some (.tup ys)):KT H' kvs xs:=
 Paired.cy r fun _ _ z=>⟨z.1,ht _ _ z.2.1,z.2.2⟩
section
variable {P:Program}{w:World}{H:Hp}{h:Heap}{a:Addr}
theorem agt {u:HO}(ok:kQ P w H h)(e:Rd H a u):bL P w H h a u:=e.ok ok
theorem xP {kvs:ι}(ok:kQ P w H h)(e:Rd H a (.dK kvs)):kvs.length<=sizeLine/\(a==sysModules)=false/\∃vs,KV kvs vs/\h.DictOf (cE P w) a vs:=
 show bL P w H h a (.dK kvs) from agt ok e
theorem agu {kvs:ι}(ok:kQ P w H h)(e:H a=some (.dK kvs)):kvs.length<=sizeLine/\(a==sysModules)=false/\∃vs,KV kvs vs/\h.DictOf (cE P w) a vs:=xP ok (.inl e)
theorem xQ {ks:List Key}(ok:kQ P w H h)(e:H a=some (.tup (ks.map kV))):(tupleKind (cE P w)).is h ks a:=by
 obtain ⟨_,its,r,o,h1,h2,n,h3⟩:=(show bL P w H h a (.tup (ks.map kV)) from ok a _ e)
 exact ⟨o,its.toArray,n,h1,h2,h3,by simpa using BN r⟩
theorem LU {kvs:Δ}(ok:kQ P w H h)(e:Rd H a (.dT kvs)):kvs.length<=sizeLine/\(a==sysModules)=false/\
  ∃xs,KT H kvs xs/\h.DictOfH (tupleKind (cE P w)) a xs:=by
 obtain ⟨z,y,xs,r,o,es,ep,h1,h2,h3,h4,h5⟩:=(show bL P w H h a (.dT kvs) from agt ok e)
 refine ⟨z,y,xs,r,o,es,ep,h1,h2,h3,h4,fun x hx=>?_,h5⟩
 have all:∀{l:Δ} {m:Λ},KT H l m->∀x∈m,(tupleKind (cE P w)).is h x.1 x.2.1:=by
  intro l m q
  induction q with
  | nil=>intro x hx;exact nomatch hx
  | @cons p q ps qs hq t ih=>
   intro x hx
   rcases aby.mp hx with e | hx
   ·subst e
    exact xQ ok (by rw [<- hq.1];exact hq.2.1)
   ·exact ih x hx
 exact all r x hx
theorem ant {kvs:Δ}(ok:kQ P w H h)(e:H a=some (.dT kvs)):kvs.length<=sizeLine/\(a==sysModules)=false/\
  ∃xs,KT H kvs xs/\h.DictOfH (tupleKind (cE P w)) a xs:=LU ok (.inl e)
end
def ki (H:Hp)(a:Addr)(y:V)(r:Η):Prop:=
 (∃kvs k,Rd H a (.dK kvs)/\y=kV k/\r=gZ kvs k)\/∃kvs k b,Rd H a (.dT kvs)/\y=.ref b/\H b=some (.tup (k.map kV))/\r=gZ kvs k
def zo (H:Hp)(a:Addr)(y v:V)(H' :Hp):Prop:=
 (∃kvs k,H a=some (.dK kvs)/\y=kV k/\kvs.length < sizeLine/\H' =upd H a (.dK (putK kvs k v)))\/
 ∃kvs k b,H a=some (.dT kvs)/\y=.ref b/\H b=some (.tup (k.map kV))/\kvs.length < sizeLine/\H' =upd H a (.dT (putK kvs k v))
theorem ki.k {H:Hp}{a:Addr}{kvs:ι}{k:Key}(e:H a=some (.dK kvs)):ki H a (kV k) (gZ kvs k):=.inl ⟨kvs,k,.inl e,rfl,rfl⟩
theorem zo.k {H:Hp}{a:Addr}{kvs:ι}{k:Key}{v:V}(e:H a=some (.dK kvs))(hl:kvs.length < sizeLine):zo H a (kV k) v (upd H a (.dK (putK kvs k v))):=.inl ⟨kvs,k,e,rfl,hl,rfl⟩
section
variable {X:Cx}{pins:δ}{σ:St}{H:Hp}{s:Shared}{a:Addr}{y v:V}{u r:Value}{o:Η}{A:Around}{E:γ}
theorem Inv.big (I:Inv X pins σ H s):sysModules < s.heap.objs.size:=by
 have h:mainGlobals < s.heap.objs.size:=(I.mod.glob.keeps I.bk).lt
 exact Nat.lt_trans (by decide) h
theorem UP {Q:γ}(hu:A.units+1 < cLine)(I:Inv X pins σ H s)(g:ki H a y (some v))(ry:RelV y u)(h:∀w' s',Inv X pins σ H s' ->RelV v w' ->Q w' s'):
  wpAny (model X.prog X.w) A (getItem (.ref a) u) Q E s:=by
 rcases g with ⟨kvs,k,e,ey,l⟩ | ⟨kvs,k,b,e,ey,eb,l⟩
 ·subst ey
  obtain ⟨z,hd,vs,rel,dd⟩:=xP I.bR e
  obtain ⟨w',hw,BG⟩:=jD.some_of (v:=v) (o:=valueAt vs k) (by rw [l];exact rel.val k)
  exact wpAny_getItem_of (LS ry) dd.mapOf hw (h w' _ (I.tok _) BG)
 ·subst ey
  cases (show u=Value.ref b from ry)
  obtain ⟨z,hd,xs,rel,dd⟩:=LU I.bR e
  obtain ⟨w',hw,BG⟩:=jD.some_of (v:=v) (o:=(atKey xs k).map (·.2)) (by rw [l];exact rel.val k)
  obtain ⟨p,hp,hp2⟩:=abD.mp hw
  refine wpAny_getItem_heap (tupleKind_room_in1 hu) (xQ I.bR eb) dd hp ?_
  rw [hp2]
  exact h w' _ (I.tok _) BG
theorem auB {Q:γ}(hu:A.units+1 < cLine)(I:Inv X pins σ H s)(g:ki H a y o)(ry:RelV y u)(h:∀s',Inv X pins σ H s' ->Q (.bool o.isSome) s'):
  wpAny (model X.prog X.w) A (compareOp .In u (.ref a)) Q E s:=by
 rcases g with ⟨kvs,k,e,ey,l⟩ | ⟨kvs,k,b,e,ey,eb,l⟩
 ·subst ey
  obtain ⟨z,hd,vs,rel,dd⟩:=xP I.bR e
  refine wpAny_in_of (LS ry) hd dd.mapOf ?_
  rw [<- (rel.val k).kh, <- l]
  exact h _ (I.tok _)
 ·subst ey
  cases (show u=Value.ref b from ry)
  obtain ⟨z,hd,xs,rel,dd⟩:=LU I.bR e
  refine wpAny_in_heap (tupleKind_room_in1 hu) (xQ I.bR eb) hd dd ?_
  have q:=(rel.val k).kh
  rw [alS] at q
  rw [<- q, <- l]
  exact h _ (I.tok _)
theorem ad5 {Q:γ}(hu:A.units+1 < cLine)(I:Inv X pins σ H s)(g:ki H a y o)(ry:RelV y u)(h:∀s',Inv X pins σ H s' ->Q (.bool (!o.isSome)) s'):
  wpAny (model X.prog X.w) A (compareOp .NotIn u (.ref a)) Q E s:=by
 rcases g with ⟨kvs,k,e,ey,l⟩ | ⟨kvs,k,b,e,ey,eb,l⟩
 ·subst ey
  obtain ⟨z,hd,vs,rel,dd⟩:=xP I.bR e
  refine wpAny_notIn_of (LS ry) hd dd.mapOf ?_
  rw [<- (rel.val k).kh, <- l]
  exact h _ (I.tok _)
 ·subst ey
  cases (show u=Value.ref b from ry)
  obtain ⟨z,hd,xs,rel,dd⟩:=LU I.bR e
  refine wpAny_notIn_heap (tupleKind_room_in1 hu) (xQ I.bR eb) hd dd ?_
  have q:=(rel.val k).kh
  rw [alS] at q
  rw [<- q, <- l]
  exact h _ (I.tok _)
theorem Tq {h' :Heap}{t' :Nat}{ob:HO}(I:Inv X pins σ H s)(mu:Mut (H a))(hs:Heap.SameBut a s.heap h')(he:∃q,h'.get? a=some q)(new:bL X.prog X.w (upd H a ob) h' a ob):
  Inv X pins σ (upd H a ob) {s with heap:=h',toks:=t' }:=
 I.write (x:=a) (e:=a) mu (.inl rfl) (fun b q hb z=>(hs.2 b hb).trans z) he new
theorem aiS {P:Program}{w:World}{H' :Hp}{h' :Heap}{kvs:ι}{vs:List (Key×Value)}(z:kvs.length<=sizeLine)(hd:(a==sysModules)=false)(rel:KV kvs vs)(dd:h'.DictOf (cE P w) a vs):
  bL P w H' h' a (.dK kvs):=⟨z,hd,vs,rel,dd⟩
theorem UQ {H' :Hp}{Q:ω}(hu:A.units+1 < cLine)(I:Inv X pins σ H s)(g:zo H a y v H')(ry:RelV y u)(rv:RelV v r)(h:∀s',Inv X pins σ H' s' ->Q () s'):
  wpAny (model X.prog X.w) A (setItem (.ref a) u r) Q E s:=by
 rcases g with ⟨kvs,k,e,ey,l,eH⟩ | ⟨kvs,k,b,e,ey,eb,l,eH⟩
 ·subst ey eH
  obtain ⟨z,hd,vs,rel,dd⟩:=agu I.bR e
  have hz:vs.length<=sizeLine:=by rw [<- rel.length];exact z
  have hl:(putK kvs k v).length<=sizeLine:=by have:=uX kvs k v;omega
  refine wpAny_setItem_pairs (hsz:=hz) (LS ry) dd fun h' dd' hs=>h _ ?_
  have he:∃q,h'.get? a=some q:=let ⟨q,_,_,hq,_⟩:=dd';⟨q,hq⟩
  exact Tq I (by rw [e];exact True.intro) hs he (aiS hl hd (rel.put k rv) dd')
 ·subst ey eH
  cases (show u=Value.ref b from ry)
  obtain ⟨z,hd,xs,rel,dd⟩:=ant I.bR e
  have hz:xs.length<=sizeLine:=by rw [<- Paired.length rel];exact z
  have hl:(putK kvs k v).length<=sizeLine:=by have:=uX kvs k v;omega
  refine wpAny_setItem_heap (hsz:=hz) (tupleKind_room_in1 hu) (xQ I.bR eb) dd fun h' dd' hs=>h _ ?_
  obtain ⟨q,es,ep,hq,h2,h3,h4,_,h5⟩:=dd'
  refine Tq I (by rw [e];exact True.intro) hs ⟨q,hq⟩ ⟨hl,hd,_,(rel.put k eb rv).keeps fun c ys ec=>?_,q,es,ep,hq,h2,h3,h4,h5⟩
  rw [ah (amw ec e (fun z=>nomatch z))]
  exact ec
end
section
variable {X:Cx}{pins:δ}{σ:St}{H:Hp}{s:Shared}{a:Addr}{kvs:ι}{k:Key}{u:Value}{A:Around}{E:γ}
theorem anu {Q:γ}(I:Inv X pins σ H s)(e:Rd H a (.dK kvs))(h:∀t s',Inv X pins σ H s' ->Q (.int kvs.length t) s'):wpAny (model X.prog X.w) A (call (.builtin "len") [.ref a]) Q E s:=by
 obtain ⟨z,hd,vs,rel,dd⟩:=xP I.bR e
 refine call_len_dict hd dd (by rw [<- rel.length];rw [sizeLine_eq] at z;omega) ?_
 rw [<- rel.length]
 exact h _ _ (I.tok _)
end
def anv (i:Expr):Prop:=∀ov iv,subscripted i false ov iv=operate [ov,iv] (getItem ov iv)
theorem ad6 {prog:Program}{w:World}{A:Around}{E:γ}{s:Shared}{env:Env}{value slice:Expr}{pos:Pos}{T id:String}{Q:γ}
  (hl:typeLookup (.type T) "__getitem__"=pure (some (.builtin id))) (hs:anv slice)
  (h:wpAny (model prog w) A (eval value env) (fun o s₁=>wpAny (model prog w) A (eval slice env) (fun i s₂=>s₂.TypeIs o T/\wpAny (model prog w) A (getItem o i) Q E s₂) E s₁) E s):
  wpAny (model prog w) A (eval (.Subscript value slice pos) env) Q E s:=by
 refine Subscript_ (wpAny_mono h (fun o s₁ h₁=>wpAny_mono h₁ (fun i s₂ h₂=>?_) fun _ _ x=>x) fun _ _ x=>x)
 obtain ⟨hT,h₂⟩:=h₂
 unfold subscriptTail
 refine wpAny_bind ?_
 rw [getitemInPython_of_ne hT.not_modules]
 refine wpAny_bind (wpAny_specialOf hT hl ?_)
 have fin:wpAny (model prog w) A (subscripted slice false o i) (fun r s₃=>wpAny (model prog w) A (letTemporaryGo value o r >>=fun _=>pure r) Q E s₃) E s₂:=by
  rw [hs o i]
  exact wpAny_operating (wpAny_mono h₂ (fun r s₃ h₃=>wpAny_bind (wpAny_letTemporaryGo (wpAny_pure h₃))) fun _ _ x=>x)
 first
  | exact wpAny_pure (wpAny_bind fin)
  | exact wpAny_bind (wpAny_pure (wpAny_bind fin))
  | exact wpAny_bind fin
theorem LV {X:Cx}{pins:δ}{σ:St}{H:Hp}{s:Shared}{a:Addr}{y:V}{o:Η}(I:Inv X pins σ H s)(g:ki H a y o):s.TypeIs (.ref a) "dict":=by
 rcases g with ⟨kvs,k,e,_,_⟩ | ⟨kvs,k,b,e,_,_,_⟩
 ·obtain ⟨_,_,vs,_,dd⟩:=xP I.bR e
  exact dd.typeIs
 ·obtain ⟨_,_,xs,_,dd⟩:=LU I.bR e
  exact dd.typeIs
inductive YX (Q:VK)(x:V)(y:V)(H2:Hp):Prop where
 | mk (a v:_) (_:x=.ref a) (_:ki H2 a y (some v)) (_:Q v H2):YX Q x y H2
def anw (td ty:TE):TE:=fun σ H Q=>td σ H fun x H1=>ty σ H1 fun y H2=>YX Q x y H2
inductive agv (Q:VK)(y:V)(x:V)(H2:Hp):Prop where
 | mk (a o:_) (_:x=.ref a) (_:ki H2 a y o) (_:Q (.bl o.isSome) H2):agv Q y x H2
def auC (ty td:TE):TE:=fun σ H Q=>ty σ H fun y H1=>td σ H1 fun x H2=>agv Q y x H2
inductive LW (Q:VK)(y:V)(x:V)(H2:Hp):Prop where
 | mk (a o:_) (_:x=.ref a) (_:ki H2 a y o) (_:Q (.bl (!o.isSome)) H2):LW Q y x H2
def ad7 (ty td:TE):TE:=fun σ H Q=>ty σ H fun y H1=>td σ H1 fun x H2=>LW Q y x H2
inductive YY (D:Ends)(σ:L2.St)(v:V)(x:V)(y:V)(H3:Hp):Prop where
 | mk (a H4:_) (_:x=.ref a) (_:zo H3 a y v H4) (_:D.nx σ H4):YY D σ v x y H3
def anx (td ty tv:TE):TS:=fun D σ H=>tv σ H fun v H1=>td σ H1 fun x H2=>ty σ H2 fun y H3=>YY D σ v x y H3
section
variable {X:Cx}{o i e value:Expr}{pos pos' KS:Pos}{td ty tv:TE}
theorem wK (hu:X.A.units+1 < cLine)(ho:PE X o td)(hi:PE X i ty)(hs:anv i):PE X (.Subscript o i pos) (anw td ty):=by
 intro pins s σ H Q I h
 refine ad6 PySem.F.slot_dict_getitem.lookup hs (cV (ho pins s σ H _ I h) fun u s1 ⟨x,H1,I1,rx,q1⟩=>cV (hi pins s1 σ H1 _ I1 q1) fun iv s2 ⟨y,H2,I2,ry,a,v,ex,g,q2⟩=>?_)
 subst ex
 obtain rfl:u=Value.ref a:=rx
 exact ⟨LV I2 g,UP hu I2 g ry fun w' s3 I3 BG =>⟨v,H2,I3,BG,q2⟩⟩
theorem EJ (hu:X.A.units+1 < cLine)(hi:PE X i ty)(ho:PE X o td):PC X .In i o (auC ty td):=by
 intro pins s σ H Q I h
 refine cV (hi pins s σ H _ I h) fun iv s1 ⟨y,H1,I1,ry,q1⟩=>cV (ho pins s1 σ H1 _ I1 q1) fun u s2 ⟨x,H2,I2,rx,a,ov,ex,g,q2⟩=>?_
 subst ex
 obtain rfl:u=Value.ref a:=rx
 exact auB hu I2 g ry fun s3 I3=>⟨.bl ov.isSome,H2,I3,rfl,q2⟩
theorem tL (hu:X.A.units+1 < cLine)(hi:PE X i ty)(ho:PE X o td):PC X .NotIn i o (ad7 ty td):=by
 intro pins s σ H Q I h
 refine cV (hi pins s σ H _ I h) fun iv s1 ⟨y,H1,I1,ry,q1⟩=>cV (ho pins s1 σ H1 _ I1 q1) fun u s2 ⟨x,H2,I2,rx,a,ov,ex,g,q2⟩=>?_
 subst ex
 obtain rfl:u=Value.ref a:=rx
 exact ad5 hu I2 g ry fun s3 I3=>⟨.bl (!ov.isSome),H2,I3,rfl,q2⟩
theorem qZ (hu:X.A.units+1 < cLine)(ho:PE X o td)(hi:PE X i ty)(hv:PE X value tv)(hs:swapsWith value (some (.Subscript o i pos')) pos.line X.env=pure false):
  PS X (.Assign [.Subscript o i pos'] value pos) (anx td ty tv):=by
 intro pins s σ H D I h
 refine wpAny_Assign_Subscript (cV (hv pins s σ H _ I h) fun r s1 ⟨v,H1,I1,rv,q1⟩=>cV (ho pins s1 σ H1 _ I1 q1) fun u s2 ⟨x,H2,I2,rx,q2⟩=>cV (hi pins s2 σ H2 _ I2 q2) fun iv s3 ⟨y,H3,I3,ry,a,H4,ex,g,q3⟩=>?_) hs
 subst ex
 obtain rfl:u=Value.ref a:=rx
 exact UQ hu I3 g ry rv fun s4 I4=>⟨σ,H4,I4,q3⟩
end
theorem YZ {P:Program}{w:World}{H:Hp}(h:Heap)(hb:sysModules < h.objs.size):bL P w H (h.push {cls:=.type "dict",data:=.dict #[]}) h.objs.size (.dK []):=
 ⟨af0 _,beq_eq_false_iff_ne.mpr (ac_ (ab_ hb)),[],.nil,Heap.DictOf.new h⟩
def aiT:TE:=fun _ H Q=>∀p,H p=none->Q (.ref p) (upd H p (.dK []))
section
variable {X:Cx}{pos:Pos}
theorem iq:PE X (.Dict [] [] pos) aiT:=fun pins s σ H Q I h=>
 wpAny_Dict_empty ⟨.ref s.heap.objs.size,_,I.laid (a:=s.heap.objs.size) (o:=.dK []) (t' :=s.toks) (fun _ _ q=>Heap.get?_push_of_some _ q) (abt _) (YZ s.heap I.big),rfl,h _ (I.bR.fresh (abt _))⟩
end
section
variable {X:Cx}{pins:δ}{σ:St}{H:Hp}{s:Shared}{a:Addr}{y d:V}{u r:Value}{o:Η}{A:Around}{E:γ}
end
section
variable {X:Cx}{o e f:Expr}{apos hJ:Pos}{td ty tx:TE}
end
section
variable {X:Cx}{pins:δ}{σ:St}{H:Hp}{s:Shared}{a:Addr}{kvs:ι}{A:Around}{E:γ}
end
section
variable {X:Cx}{pins:δ}{σ:St}{H:Hp}{s:Shared}{a:Addr}{y:V}{u:Value}{A:Around}{E:γ}
end
end L2
set_option maxHeartbeats 4000000
namespace Ty
open PySem PySem.Spec PyProof.Rows L2
section
variable {X:Cx}
theorem ad8 {pins:δ}{σ:L2.St}{H:Hp}{s:Shared}(I:Inv X pins σ H s):s.heap.NoSeer:=I.ok.mod.seer.keeps I.bk
theorem cF.py {k:Nat}{A:Around}(r:cF k A)(h:32<=k):A.depth+Builtin.pylongFrames < recursionLimit:=by
 have:=r.dp
 have:Builtin.pylongFrames=100:=rfl
 omega
theorem LX {env:Env}{l:List Env}(ht:X.prog.given.tree=none)(hd:X.A.depth+Builtin.pylongFrames < recursionLimit)(hst:X.stack=env::l)(h1:env.scope.isGenerator=false)(h2:env.scope.isCoroutine=false)(h3:env.builtins=builtinsNs)(h4:env.globals=mainGlobals):
  mD X (binaryOp .FloorDiv) (rI aiz fun i j=>.int (i.fdiv j)):=by
 intro pins s σ H x y v u Q I rx ry h
 obtain ⟨i,j,rfl,rfl,hc,q⟩:=h
 obtain ⟨t,rfl⟩:=rx
 obtain ⟨t',rfl⟩:=ry
 exact floordiv_int hc ⟨.int _,H,I.tok _,⟨_,rfl⟩,q⟩ (.inr (PylongRoom.of I.nolimit hd (SeerAt.of (ad8 I) ht (by rw [I.ok.frames,hst]) h1 h2 h3 h4)))
end
section
variable {prog:Program}{w:World}{A:Around}{E:γ}{s:Shared}{KK:Type}[DecidableEq KK]{knd:KeyKind prog w KK}
theorem UR {d:Addr}{kvs:List (KK×Value)}{Q:Bool->Shared->Prop}(hm:s.heap.DictOf knd d kvs)(h:Q false s):wpAny (model prog w) A (Builtin.List.listLengthHint (.ref d)) Q E s:=by
 unfold Builtin.List.listLengthHint
 refine wpAny_bind (wpAny_specialOf (name:=Str.ofString "__len__") hm.typeIs F.slot_dict_len.lookup ?_)
 generalize hid:("dict.__len__":String)=id0
 wp_delta
 rw [show splitId id0=some ("dict","__len__") from by subst hid;decide+kernel]
 subst hid
 refine wpAny_bind (wpAny_isInstance (T:="dict") (b:=true) hm.typeIs (by rw [isSubtype_type];kernel_rfl) ?_)
 refine wpAny_ite_split (fun hab=>absurd hab (by decide)) (fun _=>?_)
 refine wpAny_ite_split (fun _=>?_) (fun hab=>absurd (by decide+kernel) hab)
 refine wpAny_bind (wpAny_typeOf (T:="dict") hm.typeIs ?_)
 exact wpAny_pure h
theorem LY {R:ς}{d:Addr}{kvs:List (KK×Value)}{ep:Nat}(hh:A.handled=none)(hd:(d==sysModules)=false)(hm:s.heap.DictAt knd d kvs ep)(hlen:kvs.length<=sizeLine)(S:Addr)(res:Value)(c₀:Nat)(hS:s.heap.get? S=some {cls:=.type "list",data:=.seq #[] c₀})
  (hR:∀h' tk mM c',(∀b o,b≠S->s.heap.get? b=some o->h'.get? b=some o)->h'.get? S=some {cls:=.type "list",dict:=none,data:=.seq mM c',slots:= #[]}->
   ItemsOf (fun i v=>∃k x,kvs[i]? =some (k,x)/\knd.is k v=true) mM kvs.length->R (.ok (.ret res)) {s with heap:=h',toks:=tk}):
  wpAny (model prog w) A.in1 (Builtin.List.listExtendWith (.ref S) (.ref d) res)
   (fun fin s' =>match fin with | .done f=>R (.ok f) s' | .again c' =>c'.quiet=true/\codeAny (model prog w) A c' R s') (fun e s' =>R (.error e) s') s:=by
 obtain ⟨od,es,hod,pj,xR,hk0,hp0,hn0⟩:=id hm
 have hT:s.TypeIs (.ref d) "dict":=hm.dictOf.typeIs
 have hSd:S≠d:=fun e=>by
  rw [e] at hS
  rw [hS] at hod
  cases hod
  cases xR
 have hdI:d≠s.heap.objs.size:=ab_ (Heap.lt_size hod)
 have hSI:S≠s.heap.objs.size:=ab_ (Heap.lt_size hS)
 have hSf:S∉[s.heap.objs.size,d]:=fun hm=>by
  rcases aby.mp hm with z | z
  ·exact hSI z
  ·exact hSd (abv.mp z)
 have W:=(Walks.dictKeys (knd:=knd) (A:=A.in1) hh s.heap.objs.size d hdI kvs ep).toS
 unfold Builtin.List.listExtendWith
 refine wpAny_bind (wpAny_typeOf (T:="dict") hT ?_)
 have h1:Builtin.List.listSameRef (.ref S) (.ref d)=false:=by simp [Builtin.List.listSameRef,hSd]
 have h2:(Value.type "dict"==Value.type "list")=false:=by decide
 have h3:(Value.type "dict"==Value.type "tuple")=false:=by decide
 simp only [h1,h2,h3,asZ,anC,if_false]
 refine wpAny_bind (wpAny_pyIter_dict hd hm ?_)
 have hm1:(s.heap.push {cls:=.type "dict_keyiterator",data:=.fields #[.ref d,.int 0 0,.int kvs.length 0,.int ep 0]}).DictAt knd d kvs ep:=hm.at' fun o e=>Heap.get?_push_of_some _ e
 refine wpAny_bind (wpAny_holding (UR (knd:=knd) hm1.dictOf ?_))
 have hS₁:=Heap.get?_push_of_some {cls:=.type "dict_keyiterator",data:=.fields #[.ref d,.int 0 0,.int kvs.length 0,.int ep 0]} hS
 have it₁:(s.heap.push {cls:=.type "dict_keyiterator",data:=.fields #[.ref d,.int 0 0,.int kvs.length 0,.int ep 0]}).IsKeyIter s.heap.objs.size d 0 kvs.length ep:=⟨_,Heap.get?_push_size _ rfl,rfl,rfl⟩
 have key:∀(h:Heap) (c₁ tk:Nat),h.IsKeyIter s.heap.objs.size d 0 kvs.length ep->h.DictAt knd d kvs ep->(∀b o,b≠S->s.heap.get? b=some o->h.get? b=some o)->
   h.get? S=some {cls:=.type "list",data:=.seq #[] c₁}->codeAny (model prog w) A (.builtin "list.extend.loop" ⟨[.ref S,.ref s.heap.objs.size,res],[]⟩) R {s with heap:=h,toks:=tk}:=by
  intro h c₁ tk hit hdm hk hS₁
  refine codeAny_extend_loopS W hlen S hSf res kvs.length 0 _ #[] c₁ rfl (af0 _) ⟨hit,hdm⟩ hS₁ (ItemsOf.nil _) fun s' mM c' hm' hS' LZ=>?_
  rw [Moved.eq_with hm']
  refine hR s'.heap s'.toks mM c' (fun b o hb e=>hm'.heap b o (fun aiU=>?_) (hk b o hb e)) hS' LZ
  rcases aby.mp aiU with e' | aiU
  ·exact hb e'
  ·exact absurd (Heap.lt_size e) (by rw [abv.mp aiU];exact af3 _)
 refine wpAny_ite_split (fun _=>?_) (fun _=>wpAny_pure ⟨plainId_quiet F.plain_extend_loop _,key _ c₀ _ it₁ hm1 (fun b o _ e=>Heap.get?_push_of_some _ e) hS₁⟩)
 refine wpAny_bind (wpAny_rule ?_)
 refine wpAny_bind ?_
 show wpAny _ _ (updateSeq S (·.push .none) >>=fun _=>updateSeq S (·.pop)) _ _ _
 refine wpAny_bind (wpAny_updateSeq hS₁ rfl ?_)
 have hS₂:=Heap.get?_update_self (Obj.mapSeq (·.push Value.none)) hS₁ rfl
 refine wpAny_updateSeq (hz:=by seq_fits) hS₂ rfl ?_
 have hS₃:=Heap.get?_update_self (Obj.mapSeq (·.pop)) hS₂ rfl
 refine wpAny_pure ⟨plainId_quiet F.plain_extend_loop _,key _ _ _ (it₁.at fun o e=>?_) (hm1.at' fun o e=>?_) (fun b o hb e=>?_) hS₃⟩
 ·exact (Heap.get?_update_other _ _ hSI).trans ((Heap.get?_update_other _ _ hSI).trans e)
 ·exact (Heap.get?_update_other _ _ hSd).trans ((Heap.get?_update_other _ _ hSd).trans e)
 ·exact (Heap.get?_update_other _ _ (ac_ hb)).trans ((Heap.get?_update_other _ _ (ac_ hb)).trans (Heap.get?_push_of_some _ e))
theorem xS {R:ς}{d:Addr}{kvs:List (KK×Value)}{ep:Nat}(hh:A.handled=none)(hd:(d==sysModules)=false)(hm:s.heap.DictAt knd d kvs ep)(hlen:kvs.length<=sizeLine)(S:Addr)(hS:s.heap.get? S=some {cls:=.type "list",data:=.seq #[]})
  (hR:∀h' tk mM c',(∀b o,b≠S->s.heap.get? b=some o->h'.get? b=some o)->h'.get? S=some {cls:=.type "list",dict:=none,data:=.seq mM c',slots:= #[]}->
   ItemsOf (fun i v=>∃k x,kvs[i]? =some (k,x)/\knd.is k v=true) mM kvs.length->R (.ok (.ret .none)) {s with heap:=h',toks:=tk}):
  wpAny (model prog w) A.in1 (Builtin.«list.__init__» ⟨[.ref S,.ref d],[]⟩)
   (fun fin s' =>match fin with | .done f=>R (.ok f) s' | .again c' =>c'.quiet=true/\codeAny (model prog w) A c' R s') (fun e s' =>R (.error e) s') s:=by
 obtain ⟨od,es,hod,pj,xR,hk0,hp0,hn0⟩:=id hm
 have hSd:S≠d:=fun e=>by
  rw [e] at hS
  rw [hS] at hod
  cases hod
  cases xR
 show wpAny _ _ (do let old <- Builtin.List.listItems (.ref S);Builtin.List.listUpdate (.ref S) (fun _=> #[]);letGo old.toList.reverse;Builtin.List.listExtendWith (.ref S) (.ref d) .none) _ _ s
 refine wpAny_bind ?_
 unfold Builtin.List.listItems
 refine wpAny_bind (wpAny_seqItems hS rfl (wpAny_pure ?_))
 show wpAny _ _ (updateSeq S (fun _=> #[]) >>=fun _=>letGo (#[]:Array Value).toList.reverse >>=fun _=>Builtin.List.listExtendWith (.ref S) (.ref d) .none) _ _ s
 refine wpAny_bind (wpAny_updateSeq hS rfl ?_)
 have hS₂:=Heap.get?_update_self (Obj.mapSeq (fun _=>(#[]:Array Value))) hS rfl
 have oth:∀b o,b≠S->s.heap.get? b=some o->(s.heap.update S (Obj.mapSeq (fun _=>(#[]:Array Value)))).get? b=some o:=
  fun b o hb e=>(Heap.get?_update_other _ _ (ac_ hb)).trans e
 refine wpAny_bind (wpAny_letGo ?_)
 refine LY hh hd (hm.at' fun o e=>oth d o (ac_ hSd) e) hlen S .none _ hS₂ fun h' tk mM c' hk hS' LZ=>?_
 exact hR h' tk mM c' (fun b o hb e=>hk b o hb (oth b o hb e)) hS' LZ
theorem xT {Q:γ}{d:Addr}{kvs:List (KK×Value)}{ep:Nat}(hh:A.handled=none)(hd:(d==sysModules)=false)(hm:s.heap.DictAt knd d kvs ep)(hlen:kvs.length<=sizeLine)
  (hQ:∀h' tk mM c',(∀b o,s.heap.get? b=some o->h'.get? b=some o)->
   h'.get? s.heap.objs.size=some {cls:=.type "list",dict:=none,data:=.seq mM c',slots:= #[]}->ItemsOf (fun i v=>∃k x,kvs[i]? =some (k,x)/\knd.is k v=true) mM kvs.length->Q (.ref s.heap.objs.size) {s with heap:=h',toks:=tk}):
  wpAny (model prog w) A (call (.type "list") [.ref d]) Q E s:=by
 refine callType_codes (Q₁:=fun obj s₁=>obj=.ref s.heap.objs.size/\s₁={s with heap:=s.heap.push {cls:=.type "list",data:=.seq #[]}}) F.called_list (F.typeCall_list_1 _) F.entry_list_init
  (code_list_new _ ⟨rfl,rfl⟩) fun obj s₁ h₁=>?_
 obtain ⟨rfl,rfl⟩:=h₁
 have hS:(s.heap.push {cls:=.type "list",data:=.seq #[]}).get? s.heap.objs.size=some {cls:=.type "list",data:=.seq #[]}:=Heap.get?_push_size _ rfl
 refine ⟨⟨_,hS,rfl⟩,F.args_list_init_2 _ _,xS (A:=A.in1) hh hd (hm.at' fun o e=>Heap.get?_push_of_some _ e) hlen _ hS fun h' tk mM c' hk hS' LZ=>?_⟩
 exact ⟨rfl,hQ h' tk mM c' (fun b o e=>hk b o (ab_ (Heap.lt_size e)) (Heap.get?_push_of_some _ e)) hS' LZ⟩
end
theorem b8 {α β:Type}{F:α->β->Prop}:∀{l₁:List α} {l₂:List β} {i:Nat} {a:α},Paired F l₁ l₂->l₁[i]? =some a->∃b,l₂[i]? =some b/\F a b
 | _,_,_,_,.nil,h=>by simp at h
 | _,_,0,_,.cons r _,h=>by
  cases h
  exact ⟨_,rfl,r⟩
 | _,_,i+1,_,.cons _ t,h=>by
  obtain ⟨b,e,f⟩:=b8 (i:=i) t (by simpa using h)
  exact ⟨b,by simpa using e,f⟩
theorem kj {α β:Type}{F:α->β->Prop}:∀{l₁:List α} {l₂:List β},l₁.length=l₂.length->(∀(i:Nat) (a:α) (b:β),l₁[i]? =some a->l₂[i]? =some b->F a b)->Paired F l₁ l₂
 | [],[],_,_=>.nil
 | a::l₁,b::l₂,h,f=>.cons (f 0 a b rfl rfl) (kj (by simpa using h) fun i a b e1 e2=>f (i+1) a b (by simpa using e1) (by simpa using e2))
 | [],_::_,h,_=>by simp at h
 | _::_,[],h,_=>by simp at h
theorem Tr {P:Program}{w:World}{k:Key}{u:Value}(h:(cE P w).is k u=true):RelV (kV k) u:=by
 rcases cJ h with ⟨i,t,rfl,rfl⟩ | ⟨x,t,rfl,rfl⟩
 ·exact ⟨t,rfl⟩
 ·exact ⟨t,rfl⟩
section
variable {X:Cx}
inductive Y0 (xs:η)(H:Hp)(Q:VK):Prop where
 | mk (p:Addr) (kvs:ι) (_:xs=[.ref p]) (_:Rd H p (.dK kvs)) (_:∀l,H l=none->Q (.ref l) (upd H l (.lst (kvs.map fun kv=>kV kv.1)))):Y0 xs H Q
theorem QH (hc:X.calm=true):i9 X (.type "list") Y0:=by
 intro pins s σ H xs us Q I r h
 obtain ⟨p,kvs,rfl,hq,q⟩:=h
 obtain ⟨u,rfl,r1⟩:=vals1 r
 cases r1
 obtain ⟨z,hd,vs,rel,o,es,ep,ho,hx,xR,hk,hp,hn⟩:=xP I.bR hq
 have hl:=rel.length
 refine xT (knd:=cE X.prog X.w) (I.ok.hd hc) hd ⟨o,es,ho,hx,xR,hk,hp,hn⟩ (by omega) fun h' tk mM c' kk hS LZ=>?_
 have hn' :=I.bR.fresh (abt s.heap.objs.size)
 have rv:Vals (kvs.map fun kv=>kV kv.1) mM.toList:=kj (by have:=LZ.1;simp;omega) fun i a b e1 e2=>by
  rw [abx] at e1
  obtain ⟨kv,ek,rfl⟩:=abD.mp e1
  obtain ⟨q',eq,e3,_⟩:=b8 rel ek
  obtain ⟨k,x,e4,e5⟩:=LZ.2 i b (by simpa using e2)
  rw [eq] at e4
  cases e4
  rw [e3]
  exact Tr e5
 have I2:Inv X pins σ (upd H s.heap.objs.size (.lst (kvs.map fun kv=>kV kv.1))) {s with heap:=h',toks:=tk}:=I.laid (t' :=tk) kk (abt _) ⟨by rw [Wp];exact z,mM.toList,c',rv,by simpa using hS⟩
 exact ⟨.ref _,_,I2,rfl,q _ hn'⟩
theorem Inv.freeze {pins:δ}{σ:L2.St}{H:Hp}{s:Shared}{d:Addr}{kvs:ι}{o:Obj}(I:Inv X pins σ H s)(e:H d=some (.dK kvs))(ho:s.heap.get? d=some o):Inv X pins σ (upd H d (.j8 o (.dK kvs))) s:=by
 have nx:∀b u,H b=some u->b≠d->upd H d (.j8 o (.dK kvs)) b=some u:=fun b u q n=>by rw [ah n];exact q
 refine I.step (g' :=s.gens) (t' :=s.toks) (d' :=s.drawn) (ch:=[]) (fun _ z=>nomatch z) (fun b o _ _ _ e _=>e) (fun b o _ _ _ e _=>⟨o.slots,e⟩) (fun b o _ _ n=>by rw [ah (fun z=>by rw [z,e] at n;cases n)];exact n) (fun b o _ e=>⟨o,e⟩)
  (fun b xs q=>nx b _ q fun z=>by rw [z,e] at q;cases q) (fun b o' u q=>nx b _ q fun z=>by rw [z,e] at q;cases q) (fun b ps q=>⟨#[],by rw [nx b _ q fun z=>by rw [z,e] at q;cases q];simp⟩) (fun m hm=>hm) (fun b u q=>?_) I.bare
 by_cases hb:b=d
 ·subst hb
  rw [aj] at q
  cases q
  exact ⟨ho,I.bR b _ e⟩
 ·rw [ah hb] at q
  exact (I.bR b u q).qF (fun _ _ _ k=>k) (fun c k=>nx c _ k fun z=>by rw [z,e] at k;cases k) fun c xs k=>nx c _ k fun z=>by rw [z,e] at k;cases k
def Itd (d:Addr)(o:Obj)(kvs:ι):It:=
 ⟨fun i H=>H d=some (.j8 o (.dK kvs))/\i < kvs.length,
  fun i H v H' =>∃p k x,kvs[i]? =some (k,x)/\v=.ref p/\H p=none/\H' =upd H p (.tup [kV k,x]),
  fun i H=>H d=some (.j8 o (.dK kvs))/\kvs.length<=i⟩
theorem Y1 {P:Program}{w:World}{H:Hp}{h:Heap}{d:Addr}{o:Obj}{kvs:ι}{es0:Array DictEntry}{ep:Nat}(ok:kQ P w H h)(e:H d=some (.j8 o (.dK kvs)))(he:o.data=.dict es0 ep):
  (d==sysModules)=false/\∃vs,KV kvs vs/\h.DictAt (cE P w) d vs ep/\kvs.length<=sizeLine:=by
 obtain ⟨h1,z,hd,vs,rel,o',es,Us,ho,hx,xR,hk,hp,hn⟩:=ok d _ e
 rw [h1] at ho
 cases ho
 rw [he] at xR
 cases xR
 exact ⟨hd,vs,rel,⟨o,es0,h1,hx,he,hk,hp,hn⟩,z⟩
theorem tO:entryFor table "dict_itemiterator.__iter__"=some Builtin.«dict_keyiterator.__iter__»:=
 entryFor_alias (id' :="dict_keyiterator.__iter__") (by kernel_rfl) (by first | rfl | decide+kernel | (unfold String.splitOn;simp+decide [String.splitOnAux])) (by decide+kernel) (by kernel_rfl)
theorem QI {P:Program}{w:World}{A:Around}{E:γ}{s:Shared}{it d:Addr}{i n ep:Nat}{ok ov:Value}{Q:γ}(st:IsItemIter s.heap it d i n ep ok ov)(h:Q (.ref it) s):wpAny (model P w) A (pyIter (.ref it)) Q E s:=by
 have hT:s.TypeIs (.ref it) "dict_itemiterator":=⟨_,st,rfl⟩
 refine wpAny_pyIter_slot hT F.slot_dict_itemiterator_iter (wpAny_call_entry F.slot_dict_itemiterator_iter hT tO ?_ (F.args_dict_itemiterator_iter_1 _))
 show wpAny _ _ (ret (.ref it)) _ _ s
 exact wpAny_pure ⟨_,rfl,"dict_itemiterator",_,hT,F.slot_dict_itemiterator_next.lookup,h⟩
theorem QJ {P:Program}{w:World}{K:Frag}{es:ο}{k:Nat}{pos:Pos}(d it:Addr)(o:Obj)(kvs:ι){es0:Array DictEntry}{ep:Nat}(he:o.data=.dict es0 ep)(Qx:it≠d):
  Turn P w K (.Tuple es k pos) (Itd d o kvs) [it] it (fun i h=>∃ok ov,IsItemIter h it d i kvs.length ep ok ov) where
 mem:=by simp
 obj:=fun i h st b hb=>by
  have e:b=it:=by simpa using hb
  subst e
  obtain ⟨ok,ov,st⟩:=st
  exact ⟨_,st,fun v z=>by cases z⟩
 keep:=fun i h h' st k=>by
  obtain ⟨ok,ov,st⟩:=st
  exact ⟨ok,ov,k it (by simp) _ st⟩
 item:=by
  intro X hP hw hK hc i pins s σ H E I hf st hg
  subst hP hw hK
  obtain ⟨ok,ov,st⟩:=st
  obtain ⟨fz,hi⟩:=hg
  obtain ⟨hd,vs,rel,da,_⟩:=Y1 I.bR fz he
  have ek:kvs[i]? =some kvs[i]:=gE hi
  obtain ⟨⟨k',u⟩,ev,e1,ru⟩:=b8 rel ek
  have lv:=rel.length
  rw [lv] at st
  refine wpAny_pyNext_items_item st da ev fun key h' air out tup sz kk=>?_
  refine ⟨_,rfl,wpAny_letOwnedTupleGo_items (s:={s with heap:=h' }) out fun h'' auF sb=>?_⟩
  have hsz:∀c o,s.heap.get? c=some o->s.heap.objs.size≠c:=fun c o e=>amz (Heap.lt_size e)
  have tz:s.heap.objs.size≠it:=hsz _ _ st
  have nz:∀c,c≠it->∀o,h'.get? c=some o->h''.get? c=some o:=fun c hc o e=>(sb.2 c hc).trans e
  have hn:=I.bR.fresh (abt s.heap.objs.size)
  have Tg :kvs[i].1=k' :=e1
  have I2:Inv X pins σ (upd H s.heap.objs.size (.tup [kV kvs[i].1,kvs[i].2])) {s with heap:=h'',toks:=s.toks}:=
   Inv.EH I (fun b o hb e=>nz b (by simpa using hb) o (kk b o (by simpa using hb) e)) hf (abt _) (by show 2<=sizeLine;decide) (its:=[key,u]) (.cons (by rw [Tg];exact Tr air) (.cons ru .nil)) ⟨_,nz _ tz _ tup,rfl,_,rfl⟩
  refine ⟨.ref s.heap.objs.size,_,I2,rfl,⟨s.heap.objs.size,kvs[i].1,kvs[i].2,ek,rfl,hn,rfl⟩,⟨_,_,by rw [lv];exact auF⟩,fun b hb=>?_⟩
  have eb:b=it:=by simpa using hb
  rw [ah (by rw [eb];exact ac_ tz)]
  exact (hf b hb).1
 done:=by
  intro X hP hw hK hc i pins s σ H E I hf st hg
  subst hP hw hK
  obtain ⟨ok,ov,st⟩:=st
  obtain ⟨fz,hi⟩:=hg
  obtain ⟨hd,vs,rel,da,_⟩:=Y1 I.bR fz he
  have lv:=rel.length
  rw [lv] at st
  obtain ⟨f0,f1,f2,f3,f4,f5⟩:=hf it (by simp)
  exact wpAny_pyNext_items_end (I.ok.hd hc) st da (aeD (by omega)) fun h' eb=>⟨rfl,I.turned (t' :=s.toks) (fun b o hb e=>eb b o hb e) f0 f1 f3 f4 f5⟩
 self:=fun _ _ _ _ _ st h=>by
  obtain ⟨ok,ov,st⟩:=st
  exact QI st h
inductive Ts (R:(It->Hp->Prop))(x:V)(H1:Hp):Prop where
 | mk (d kvs:_) (_:x=.ref d) (_:H1 d=some (.dK kvs)) (_:∀o,R (Itd d o kvs) (upd H1 d (.j8 o (.dK kvs)))):Ts R x H1
def aiV (te:TE):TI:=fun σ H R=>te σ H fun x H1=>Ts R x H1
theorem L_ {e:Expr}{te:TE}{apos hJ:Pos}{es:ο}{k:Nat}{KS:Pos}(ho:PE X e te)(qO:attributeBase e "items" X.env (eval e X.env)=eval e X.env:=by rfl)(K':(apos.endLine==hJ.line)=true:=by rfl):
  PI X (.Tuple es k KS) (.Call (.Attribute e "items" apos) [] [] hJ) (aiV te):=by
 intro pins s σ H R I h
 refine wpAny_Call_method0_late qO K' (cV (ho pins s σ H _ I h) fun v s1 ⟨x,H1,I1,r1,q1⟩=>?_)
 obtain ⟨d,kvs,rfl,e,q⟩:=q1
 cases r1
 obtain ⟨z,hd,vs,rel,o,es1,ep,ho1,hx,xR,hk,hp,hn⟩:=agu I1.bR e
 obtain ⟨h1,h2⟩:=Yf (T:="dict") I1 (show RelV (.ref d) (.ref d) from rfl) (.inr (.inr (.inl ⟨rfl,.inl ⟨kvs,e⟩⟩)))
 have da:s1.heap.DictAt (cE X.prog X.w) d vs ep:=⟨o,es1,ho1,hx,xR,hk,hp,hn⟩
 have lv:=rel.length
 refine ⟨"dict","dict.items",F.plainAttrs_dict,F.slot_dict_items,F.type_dict_items,h1,h2,Calls.callWith_builtin rfl (PySem.evalArgs_none ?_)⟩
 refine call_meetsIn F.slot_dict_items h1 F.entry_dict_items (F.args_dict_items_1 _) (meets_dict_items (cE X.prog X.w) d hd) ⟨⟨vs,da.dictOf⟩,?_⟩
 have I2:=Inv.freeze I1 e ho1
 have da2:(s1.heap.push {cls:=.type "dict_items",data:=.fields #[.ref d]}).DictAt (cE X.prog X.w) d vs ep:=da.at' fun o e=>Heap.get?_push_of_some _ e
 show wpAny (model X.prog X.w) X.A (pyIter (.ref s1.heap.objs.size)) _ _ _
 refine wpAny_pyIter_items (s:={s1 with heap:=s1.heap.push {cls:=.type "dict_items",data:=.fields #[.ref d]}}) ⟨_,Heap.get?_push_size _ rfl,rfl,rfl⟩ da2 ?_
 have sz:(s1.heap.push {cls:=.type "dict_items",data:=.fields #[.ref d]}).objs.size=s1.heap.objs.size+1:=Heap.size_push ..
 have ne:(s1.heap.push {cls:=.type "dict_items",data:=.fields #[.ref d]}).objs.size≠d:=by
  rw [sz]
  exact ac_ (ab_ (Nat.lt_succ_of_lt (Heap.lt_size ho1)))
 have I3:Inv X pins σ (upd H1 d (.j8 o (.dK kvs))) {s1 with heap:=(s1.heap.push {cls:=.type "dict_items",data:=.fields #[.ref d]}).push {cls:=.type "dict_itemiterator",data:=.fields #[.none,.bool false,.ref d,.int 0 0,.int vs.length 0,.int ep 0,.none,.none]}}:=I2.kept (t' :=s1.toks) fun b o e=>Heap.get?_push_of_some _ (Heap.get?_push_of_some _ e)
 refine ⟨_,[_],_,_,_,rfl,I3,QJ d _ o kvs xR ne,⟨_,_,by rw [lv];exact Heap.get?_push_size _ rfl⟩,fun b hb=>?_,q o⟩
 have eb:b=(s1.heap.push {cls:=.type "dict_items",data:=.fields #[.ref d]}).objs.size:=by simpa using hb
 have le:s1.heap.objs.size<=b:=by rw [eb,sz];exact agl _
 exact I2.zc le (I2.bR.fresh le)
end
end Ty
set_option maxHeartbeats 4000000
namespace Ty
def ev:List Int->(Nat->Rat)->Rat
 | [],_=>0
 | a::r,z=>(a:Rat)*z 0+ev r (fun i=>z (i+1))
end Ty
set_option maxHeartbeats 4000000
namespace Ty
open PySem PySem.Spec PyProof.Rows L2
def Itn (K:Frag)(a:Addr):It:=
 ⟨fun i H=>∃xs x,bq K H a xs/\xs[i]? =some x,
  fun i H v H' =>∃p x,(∀xs,bq K H a xs->xs[i]? =some x)/\v=.ref p/\H p=none/\H' =upd H p (.tup [.int (i:Int),x]),
  fun i H=>∃xs,bq K H a xs/\xs.length<=i⟩
theorem US {P:Program}{w:World}{K:Frag}{es:ο}{k:Nat}{pos:Pos}(a e it:Addr)(Qx:e≠it):
  Turn P w K (.Tuple es k pos) (Itn K a) [e,it] e (fun i h=>(∃old,IsEnum h e it ((i:Nat):Int) old)/\h.IsListIter it a i) where
 mem:=by simp
 obj:=fun i h st c hc=>by
  obtain ⟨⟨old,he⟩,⟨o1,e1,c1,d1⟩⟩:=st
  have DI :c=e\/c=it:=by simpa using hc
  rcases DI with z | z <;> subst z
  ·exact ⟨_,he,fun v z=>by cases z⟩
  ·exact ⟨_,e1,fun v z=>by rw [d1] at z;cases z⟩
 keep:=fun i h h' st k=>by
  obtain ⟨⟨old,he⟩,h1⟩:=st
  exact ⟨⟨old,k e (by simp) _ he⟩,h1.at fun o e=>k it (by simp) o e⟩
 item:=by
  intro X hP hw hK hc i pins s σ H E I hf st hg
  subst hP hw hK
  obtain ⟨⟨old,he⟩,h1⟩:=st
  obtain ⟨xs,x,qx,ex⟩:=hg
  obtain ⟨its,rv,p,_⟩:=I.list qx
  obtain ⟨u,hu,ru⟩:=rv.get ex
  refine wpAny_pyNext_enum_item he h1 p.isList (x:=u) (by simpa using hu) Qx fun h' a1 a2 a3 a4 a5=>?_
  refine ⟨_,rfl,wpAny_letOwnedTupleGo_enum (s:={s with heap:=h',toks:=s.toks+1}) a1 fun h'' b1 sb=>?_⟩
  have nz:∀c,c≠e->∀o,h'.get? c=some o->h''.get? c=some o:=fun c hc o q=>(sb.2 c hc).trans q
  have kk:∀b o,b∉[e,it]->s.heap.get? b=some o->h''.get? b=some o:=fun b o hb q=>by
   have vL :b≠e/\b≠it:=by simpa using hb
   exact nz b vL.1 o (a5 b o vL.1 vL.2 q)
  have sz:∀c o,s.heap.get? c=some o->s.heap.objs.size≠c:=fun c o q=>amz (Heap.lt_size q)
  have tz:s.heap.objs.size≠e:=sz _ _ he
  have hn:=I.bR.fresh (abt s.heap.objs.size)
  have I2:Inv X pins σ (upd H s.heap.objs.size (.tup [.int (i:Int),x])) {s with heap:=h'',toks:=s.toks+1}:=
   Inv.EH I kk hf (abt _) (by show 2<=sizeLine;decide) (its:=[.int i s.toks,u]) (.cons ⟨_,rfl⟩ (.cons ru .nil)) ⟨_,nz _ tz _ a3,rfl,_,rfl⟩
  refine ⟨.ref s.heap.objs.size,_,I2,rfl,⟨s.heap.objs.size,x,fun xs' q=>by rw [I.mB q qx];exact ex,rfl,hn,rfl⟩,⟨⟨_,by exact b1⟩,a2.at fun o q=>nz _ (ac_ Qx) o q⟩,fun b hb=>?_⟩
  have ob:∃o,s.heap.get? b=some o:=by
   obtain ⟨o1,e1,_⟩:=h1
   have DI :b=e\/b=it:=by simpa using hb
   rcases DI with z | z <;> subst z
   ·exact ⟨_,he⟩
   ·exact ⟨_,e1⟩
  obtain ⟨o,q⟩:=ob
  rw [ah (ac_ (sz _ _ q))]
  exact (hf b hb).1
 done:=by
  intro X hP hw hK hc i pins s σ H E I hf st hg
  subst hP hw hK
  obtain ⟨⟨old,he⟩,h1⟩:=st
  obtain ⟨xs,qx,ee⟩:=hg
  obtain ⟨its,rv,p,_⟩:=I.list qx
  have l1:=rv.length
  refine wpAny_pyNext_enum_end (I.ok.hd hc) he h1 p.isList (by simp;omega) fun h' kk=>⟨rfl,Inv.Tp I (fun b o hb q=>?_) hf⟩
  have vL :b≠e/\b≠it:=by simpa using hb
  exact kk b o vL.2 q
 self:=fun _ _ _ _ _ st h=>by
  obtain ⟨⟨old,he⟩,_⟩:=st
  exact wpAny_pyIter_enum he h
theorem boot_enumerate:bootBuiltins "enumerate"=some (.type "enumerate"):=by decide+kernel
section
variable {X:Cx}
inductive Y2 (K:Frag)(R:(It->Hp->Prop))(vs:η)(H1:Hp):Prop where
 | mk (a:_) (_:vs=[.ref a]) (_:(∃xs,bq K H1 a xs)) (_:R (Itn K a) H1):Y2 K R vs H1
def anF (K:Frag)(ta:TA):TI:=fun σ H R=>ta σ H fun vs H1=>Y2 K R vs H1
theorem Tt {e1:Expr}{ta:TA}{p pos:Pos}{es:ο}{k:Nat}{KS:Pos}(hg:Gl X "enumerate")(hm:X.mg "enumerate"=none)(ha:PA X [e1] ta)(hs:starEach [e1] X.env=[(false,eval e1 X.env)]:=by rfl):
  PI X (.Tuple es k KS) (.Call (.Name "enumerate" p) [e1] [] pos) (anF X.K ta):=by
 intro pins s σ H R I h
 refine Call_ (tf I hg hm boot_enumerate (PyProof.Rows.callWith_type1 (cV (ha pos pins s σ H _ I h) fun us s1 ⟨vs,H1,I1,r1,q1⟩=>?_) hs rfl))
 obtain ⟨a,e,⟨xs,hx⟩,q⟩:=q1
 subst e
 cases r1 with
 | cons r rr=>
  cases rr
  cases r
  obtain ⟨its,rv,pl,_⟩:=I1.list hx
  refine call_enumerate_list pl.isList fun h' hE hI hsz hk=>wpAny_pyIter_enum (s:={s1 with heap:=h' }) hE ?_
  refine ⟨s1.heap.objs.size+1,[s1.heap.objs.size+1,s1.heap.objs.size],_,_,H1,rfl,I1.kept (t' :=s1.toks) hk,US a _ _ (Nat.succ_ne_self _),⟨⟨_,hE⟩,hI⟩,fun c hc=>?_,q⟩
  have DI :s1.heap.objs.size<=c:=by
   have:c=s1.heap.objs.size+1\/c=s1.heap.objs.size:=by simpa using hc
   simp only [Addr] at*
   omega
  exact I1.zc DI (I1.bR.fresh DI)
theorem any_range (bs:List Bool):(ai_ bs.length).any (fun i=>(bs[i]?).getD true)=bs.any id:=by
 rw [agO,ak_,ak_]
 constructor
 ·rintro ⟨i,hi,h⟩
  have hi' :i < bs.length:=alJ.mp hi
  rw [gE hi'] at h
  exact ⟨bs[i],alw hi',h⟩
 ·rintro ⟨b,hb,h⟩
  obtain ⟨i,hi⟩:=aeV hb
  exact ⟨i,alJ.mpr (W1.mp hi).1,by rw [hi];exact h⟩
theorem anG:bootBuiltins "any"=some (.builtin "any"):=by decide+kernel
end
theorem Y3 {K:Frag}{a:Addr}{xs:η}{g:TG}{tb:TS}{D:Ends}{σ:L2.St}{H:Hp}(Pv:Nat->L2.St->Hp->Prop)(h0:Pv 0 σ H)(hl:∀i σ H,i<=xs.length->Pv i σ H->bq K H a xs)
  (hs:∀i x σ H p,xs[i]? =some x->Pv i σ H->H p=none->g (.ref p) σ (upd H p (.tup [.int (i:Int),x])) fun σ2 H2=>tb {D with nx:=Pv (i+1),ct:=Pv (i+1),bk:=D.nx} σ2 H2) (hd:∀σ H,Pv xs.length σ H->D.nx σ H):
  ∃W:Nat->Nat->L2.St->Hp->Prop,(∃m,W 0 m σ H)/\∀i m σ H,W i m σ H->
   ((Itn K a).stop i H/\D.nx σ H)\/((Itn K a).go i H/\∃N:L2.St->Hp->Prop,(∀σ' H',N σ' H' ->∃m',m' < m/\W (i+1) m' σ' H')/\∀x H',(Itn K a).yld i H x H' ->g x σ H' fun σ2 H2=>tb {D with nx:=N,ct:=N,bk:=D.nx} σ2 H2):=by
 refine ⟨fun i m σ H=>m=xs.length - i/\i<=xs.length/\Pv i σ H,⟨xs.length,by simp,af0 _,h0⟩,?_⟩
 rintro i m σ H ⟨rfl,hi,p⟩
 have q:=hl i σ H hi p
 by_cases JT:i < xs.length
 ·have e:xs[i]? =some xs[i]:=gE JT
  refine .inr ⟨⟨xs,_,q,e⟩,Pv (i+1),fun σ' H' z=>⟨xs.length - (i+1),by omega,rfl,by omega,z⟩,fun x H' y=>?_⟩
  obtain ⟨pp,x',y1,rfl,np,rfl⟩:=y
  exact hs i x' σ H pp (y1 xs q) p np
 ·have e:i=xs.length:=by omega
  subst e
  exact .inl ⟨⟨xs,q,abt _⟩,hd σ H p⟩
theorem BO {d:Addr}{o:Obj}{kvs:ι}{g:TG}{tb:TS}{D:Ends}{σ:L2.St}{H:Hp}(Pv:Nat->L2.St->Hp->Prop)(h0:Pv 0 σ H)(hl:∀i σ H,i<=kvs.length->Pv i σ H->H d=some (.j8 o (.dK kvs)))
  (hs:∀i k x σ H p,kvs[i]? =some (k,x)->Pv i σ H->H p=none->g (.ref p) σ (upd H p (.tup [kV k,x])) fun σ2 H2=>tb {D with nx:=Pv (i+1),ct:=Pv (i+1),bk:=D.nx} σ2 H2) (hd:∀σ H,Pv kvs.length σ H->D.nx σ H):
  ∃W:Nat->Nat->L2.St->Hp->Prop,(∃m,W 0 m σ H)/\∀i m σ H,W i m σ H->
   ((Itd d o kvs).stop i H/\D.nx σ H)\/((Itd d o kvs).go i H/\∃N:L2.St->Hp->Prop,(∀σ' H',N σ' H' ->∃m',m' < m/\W (i+1) m' σ' H')/\∀x H',(Itd d o kvs).yld i H x H' ->g x σ H' fun σ2 H2=>tb {D with nx:=N,ct:=N,bk:=D.nx} σ2 H2):=by
 refine ⟨fun i m σ H=>m=kvs.length - i/\i<=kvs.length/\Pv i σ H,⟨kvs.length,by simp,af0 _,h0⟩,?_⟩
 rintro i m σ H ⟨rfl,hi,p⟩
 have q:=hl i σ H hi p
 by_cases JT:i < kvs.length
 ·refine .inr ⟨⟨q,JT⟩,Pv (i+1),fun σ' H' z=>⟨kvs.length - (i+1),by omega,rfl,by omega,z⟩,fun x H' y=>?_⟩
  obtain ⟨pp,k,x',y1,rfl,np,rfl⟩:=y
  exact hs i k x' σ H pp y1 p np
 ·have e:i=kvs.length:=by omega
  subst e
  exact .inl ⟨⟨q,abt _⟩,hd σ H p⟩
open Builtin.Int (intBits)
section
variable {X:Cx}
end
theorem az.km {K:Frag}{H H' :Hp}{a:Addr}{xs:η}(e:az H H')(h:cT K H a xs):cT K H' a xs:=by
 rcases h with (h | ⟨o,h⟩) | h
 ·exact .inl (.inl (e _ _ h))
 ·exact .inl (.inr ⟨o,e _ _ h⟩)
 ·exact .inr h
section
variable {D:Addr}{te:TE}{cap:L2.St}{H1:Hp}{Q:VK}
end
def sZ (K:Frag)(H:Hp)(v:V)(q:Int×Int):Prop:=∃p,v=.ref p/\cT K H p [.int q.1,.int q.2]
theorem sZ.same {K:Frag}{H H' :Hp}{v:V}{q:Int×Int}(h:sZ K H v q)(s:az H H'):sZ K H' v q:=by
 obtain ⟨p,e,k⟩:=h
 exact ⟨p,e,Ty.az.km s k⟩
section
variable {X:Cx}
end
section
variable {D:Addr}{te:TE}{cap:L2.St}{H1:Hp}{Q:VK}
end
section
variable {X:Cx}
inductive agw (xs:η)(H:Hp)(Q:VK):Prop where
 | mk (p:Addr) (kvs:ι) (_:xs=[.ref p]) (_:Rd H p (.dK kvs)) (_:Q (.int (kvs.length:Int)) H):agw xs H Q
theorem BP:i9 X (.builtin "len") agw:=by
 intro pins s σ H xs us Q I r h
 obtain ⟨p,kvs,rfl,hq,q⟩:=h
 obtain ⟨u,rfl,r1⟩:=vals1 r
 cases r1
 exact anu I hq fun t s' I' =>⟨.int _,H,I',⟨t,rfl⟩,q⟩
end
section
variable {D:Addr}{te:TE}{cap:L2.St}{H1:Hp}{Q:VK}
end
section
variable {X:Cx}
theorem Inv.anH {pins:δ}{σ:L2.St}{H:Hp}{s:Shared}{d:Addr}{u:HO}{o:Obj}(I:Inv X pins σ H s)(e:H d=some (.j8 o u))(n:∀o' u',X.H₀ d≠some (.j8 o' u'))(nt:∀xs,u≠.tup xs):Inv X pins σ (upd H d u) s:=by
 have nx:∀b u',H b=some u' ->b≠d->upd H d u b=some u' :=fun b u q n=>by rw [ah n];exact q
 have nn:∀b,H b=none->upd H d u b=none:=fun b q=>by rw [ah (fun z=>by rw [z,e] at q;cases q)];exact q
 refine ⟨I.ok,I.os,I.bare,⟨I.base.keep,I.base.slot,fun b ob q z hx=>nn b (I.base.free b ob q z hx),I.base.there,fun b xs q=>?_,fun b ob u' q=>?_,fun b ps q=>?_⟩,I.loc,I.cell,nn _ I.free,fun x c q=>nn _ (I.iI x c q),fun p hp=>?_,?_,I.len⟩
 ·have z:=I.base.me b xs q
  exact nx b _ z fun y=>by rw [y,e] at z;cases z
 ·have z:=I.base.kR b ob u' q
  exact nx b _ z fun y=>by rw [y] at q;exact n _ _ q
 ·obtain ⟨m,z⟩:=I.base.mf b ps q
  exact ⟨m,nx b _ z fun y=>by rw [y,e] at z;cases z⟩
 ·obtain ⟨a1,a2,a3⟩:=I.pin p hp
  exact ⟨a1,nn _ a2,a3⟩
 ·have st:∀{b u'},bL X.prog X.w H s.heap b u' ->bL X.prog X.w (upd H d u) s.heap b u' :=fun {b u'} k=>k.qF (fun _ _ _ z=>z) (fun c z=>nx c _ z fun y=>by rw [y,e] at z;cases z) fun c xs z=>nx c _ z fun y=>by rw [y,e] at z;cases z
  intro b u' q
  by_cases hb:b=d
  ·subst hb
   rw [aj] at q
   cases q
   exact st (I.bR b _ e).2
  ·rw [ah hb] at q
   exact st (I.bR b u' q)
def anI (H0:Hp)(t:TS):TS:=fun D σ H=>t {D with nx:=fun σ' H' =>∃d o kvs,H' d=some (.j8 o (.dK kvs))/\(∀o' u',H0 d≠some (.j8 o' u'))/\D.nx σ' (upd H' d (.dK kvs))} σ H
theorem Tu {st:Stmt}{t:TS}(h:PS X st t):PS X st (anI X.H₀ t):=by
 intro pins s σ H D I q
 refine wpAny_mono (h pins s σ H _ I q) (fun f s' z=>?_) fun _ _ z=>z
 cases f with
 | next=>
  obtain ⟨σ',H',I',d,o,kvs,e,n,k⟩:=z
  exact ⟨σ',_,Inv.anH I' e n (fun _ z=>nomatch z),k⟩
 | brk=>exact z
 | cont=>exact z
 | ret u=>exact z
end
section
variable {prog:Program}{w:World}{KK:Type}[DecidableEq KK]{knd:KeyKind prog w KK}{A:Around}{E:γ}{s:Shared}
open MeetsSeq MeetsSeq2 MeetsSeq3 SeqRoads2 in
open MeetsSeq MeetsSeq2 MeetsSeq3 SeqRoads2 in
end
section
variable {X:Cx}
end
structure aiW (K:Frag)(x qual:Str)(st:Stmt)(f:Addr)(fd:FuncData):Prop where
 ex:∃(dV oc:Value) (od:ξ) (kV doc pm:Value) (an:ξ) (cdv ct:Value) (nj:τ),
  fd=fnOf x qual (ar st) (aq st) (aa st) dV kV doc pm an cdv ct/\K.lookup f=some ⟨oc,od,.func fd,nj⟩/\codeIn K cdv qual=true
 kp:keepIn K (.ref f)=true
section
variable {P:Program}{w:World}{K:Frag}{mg:ε}{base:Heap}{CX:sY}
theorem ad9 {x qual:Str}{st:Stmt}{f:Addr}{dV oc:Value}{od an:ξ}{nj:τ}{kV doc pm cdv ct:Value}(l:K.lookup f=some ⟨oc,od,.func (fnOf x qual (ar st) (aq st) (aa st) dV kV doc pm an cdv ct),nj⟩)
  (c:codeIn K cdv qual=true) (k:keepIn K (.ref f)=true):aiW K x qual st f (fnOf x qual (ar st) (aq st) (aa st) dV kV doc pm an cdv ct):=⟨⟨dV,oc,od,kV,doc,pm,an,cdv,ct,nj,rfl,l,c⟩,k⟩
theorem ad' {name qual:Str}{st:Stmt}{f:Addr}{fd:FuncData}{N ps:ζ}{k:Nat}{sp:Sp}(F:lV K name qual st f fd)(S:av N ps (aa st))(len:∀vs H Q E,sp vs H Q E->vs.length=ps.length)
  (dP:∀(cdv:Value) (A:Around) (outer:List Env) (s:Shared) (H:Hp) (vs:η) (Q:VK) (E:XK),cF k (A.deeper (envOfC qual (aa st) s.heap.objs.size f cdv))->sp vs H Q E->
   ∃t,PSs (gK P w K mg base N qual (aa st) f cdv A outer s H E).pq (aq st) t/\t {nx:=fun _ H' =>Q .bN H',rt:=Q} (start N vs) H):bH P w K mg base (aV P w) (k+1) f fd ps sp:=by
 obtain ⟨oc,od,kV,doc,pm,an,cdv,ct,nj,rfl,lk,pj⟩:=F.ex
 exact xu lk pj S len fun A outer s H vs Q E hr vH=>by
  obtain ⟨t,h,q⟩:=dP cdv A outer s H vs Q E hr vH
  exact ⟨t,h.pq,q⟩
end
section
variable {X:Cx}{CX:sY}{k:Nat}{E:XK}{m:Str}{pos apos:Pos}{e o:Expr}{es:ο}{ta:TE}{t:TA}
end
theorem dk {κ:Type}[DecidableEq κ]{k:κ}:∀{kvs:List (κ×V)},k∉kvs.map (·.1)->gZ kvs k=none
 | [],_=>rfl
 | p::r,h=>by
  rw [adA,aby,not_or] at h
  rw [ip (fun e=>h.1 e.symm)]
  exact dk h.2
theorem kr {κ:Type}[DecidableEq κ]{k:κ}:∀{kvs:List (κ×V)},k∈kvs.map (·.1)->∃v,gZ kvs k=some v
 | p::r,h=>by
  by_cases e:p.1=k
  ·exact ⟨_,jd e⟩
  ·rw [ip e]
   rw [adA,aby] at h
   rcases h with h | h
   ·exact absurd h.symm e
   ·exact kr h
structure FrC (K:Frag)(C:Addr):Prop where
 cls:vF K C
 pl:cp K C "pin_places"
 wy:cp K C "pin_ways"
 br:cp K C "bar_ends"
abbrev frF (pP pW pB:Addr):List (Str×V):=[("pin_places",.ref pP),("pin_ways",.ref pW),("bar_ends",.ref pB)]
abbrev Pt:=(Int×Int)×(Int×Int)
abbrev _root_.υ:=List (Str×Pt)
abbrev je (p:Pt):List Da:=[.t [.v (.int p.1.1),.v (.int p.1.2)],.t [.v (.int p.2.1),.v (.int p.2.2)]]
def bg (H H' :Hp):Prop:=∀b xs,Rd H b (.tup xs)->Rd H' b (.tup xs)
theorem bg.of {H H' :Hp}(s:az H H'):bg H H' :=fun b xs e=>by
 rcases e with e | ⟨o,e⟩
 ·exact .inl (s _ _ e)
 ·exact .inr ⟨o,s _ _ e⟩
theorem bg.trans {H H1 H2:Hp}(a:bg H H1)(b:bg H1 H2):bg H H2:=fun c xs e=>b c xs (a c xs e)
theorem bg.dict {H:Hp}{d:Addr}{kvs:ι}{o:HO}(e:H d=some (.dK kvs)):bg H (upd H d o):=fun b xs r=>by
 rcases r with r | ⟨o,r⟩
 ·exact .inl (by rw [ah (fun z=>by rw [z,e] at r;cases r)];exact r)
 ·exact .inr ⟨o,by rw [ah (fun z=>by rw [z,e] at r;cases r)];exact r⟩
theorem bg.list {H:Hp}{d:Addr}{xs:η}{o:HO}(e:H d=some (.lst xs)):bg H (upd H d o):=fun b xs r=>by
 rcases r with r | ⟨o,r⟩
 ·exact .inl (by rw [ah (fun z=>by rw [z,e] at r;cases r)];exact r)
 ·exact .inr ⟨o,by rw [ah (fun z=>by rw [z,e] at r;cases r)];exact r⟩
theorem bg.km {K:Frag}{H H' :Hp}(s:bg H H'){p:Addr}{xs:η}(q:cT K H p xs):cT K H' p xs:=by
 rcases q with q | q
 ·exact .inl (s _ _ q)
 ·exact .inr q
theorem sZ.aZ {K:Frag}{H H' :Hp}{v:V}{q:Int×Int}(h:sZ K H v q)(s:bg H H'):sZ K H' v q:=by
 obtain ⟨p,e,k⟩:=h
 exact ⟨p,e,s.km k⟩
def Spot (K:Frag)(H:Hp)(v:V)(p:Pt):Prop:=∃a u1 u2,v=.ref a/\cT K H a [u1,u2]/\sZ K H u1 p.1/\sZ K H u2 p.2
theorem Spot.aZ {K:Frag}{H H' :Hp}{v:V}{p:Pt}(h:Spot K H v p)(s:bg H H'):Spot K H' v p:=by
 obtain ⟨a,u1,u2,e,h1,h2,h3⟩:=h
 exact ⟨a,u1,u2,e,s.km h1,h2.aZ s,h3.aZ s⟩
theorem EK {K:Frag}{H:Hp}{v:V}{q:Int×Int}(h:sZ K H v q):Is K H (.t [.v (.int q.1),.v (.int q.2)]) v:=by
 obtain ⟨p,rfl,e⟩:=h
 unfold Is
 refine ⟨p,_,rfl,e,?_⟩
 unfold mh
 refine ⟨by unfold Is;exact ⟨rfl,rfl⟩,?_⟩
 unfold mh
 refine ⟨by unfold Is;exact ⟨rfl,rfl⟩,?_⟩
 unfold mh
 trivial
theorem Spot.is {K:Frag}{H:Hp}{v:V}{p:Pt}(h:Spot K H v p):Is K H (.t (je p)) v:=by
 obtain ⟨a,u1,u2,rfl,h1,h2,h3⟩:=h
 unfold Is
 refine ⟨a,_,rfl,h1,?_⟩
 unfold mh
 refine ⟨EK h2,?_⟩
 unfold mh
 refine ⟨EK h3,?_⟩
 unfold mh
 trivial
theorem L' (p q:Pt):gG (je p) (je q)=decide (p=q):=by
 have e:gG (je p) (je q)=((p.1.1==q.1.1 && (p.1.2==q.1.2 && true)) && ((p.2.1==q.2.1 && (p.2.2==q.2.2 && true)) && true)):=by
  simp only [je,gG,jE,vI]
 rw [e]
 obtain ⟨⟨a,b⟩,c,d⟩:=p
 obtain ⟨⟨a',b'⟩,c',d'⟩:=q
 by_cases h:a=a' <;> by_cases h1:b=b' <;> by_cases h2:c=c' <;> by_cases h3:d=d' <;> simp [h,h1,h2,h3,Prod.mk.injEq]
theorem uY (p q:Pt):gm (je p) (je q)=true:=by simp [je,gm,alike]
theorem BQ (p:Pt):qR (je p)<=60:=by simp [je,qR,dep]
structure jC (K:Frag)(H:Hp)(C a dx pP pW pB:Addr)(ps:υ)(bs:ρ)(kP kW kB:ι):Prop where
 obj:H a=some (.ins C dx (frF pP pW pB))
 pl:H pP=some (.dK kP)
 wy:H pW=some (.dK kW)
 br:H pB=some (.dK kB)
 ne1:pP≠pW
 ne2:pP≠pB
 ne3:pW≠pB
 rp:Paired (fun (p:Str×Pt) (kv:Key×V)=>kv.1=.inr p.1/\Spot K H kv.2 p.2) ps kP
 rb:Paired (fun (b:Str×Str×Str) (kv:Key×V)=>kv.1=.inr b.1/\∃p,kv.2=.ref p/\Rd H p (.tup [.str b.2.1,.str b.2.2])) bs kB
section
variable {K:Frag}{H H' :Hp}{C a dx pP pW pB:Addr}{ps:υ}{bs:ρ}{kP kW kB:ι}
theorem jJ {α:Type}{R:(Str×α)->(Key×V)->Prop}:∀{l:List (Str×α)} {kvs:ι},Paired (fun b kv=>kv.1=.inr b.1/\R b kv) l kvs->kvs.map (·.1)=l.map (fun b=>(agK b.1:Key))
 | _,_,.nil=>rfl
 | _,_,.cons h t=>by rw [adA,adA,h.1,jJ t]
theorem eL {l:ζ}{x:Str}:(agK x:Key)∈l.map (fun b=>(agK b:Key)) ↔ x∈l:=by
 constructor
 ·intro h
  obtain ⟨y,hy,e⟩:=aeu.mp h
  exact alR e▸hy
 ·exact fun h=>aeu.mpr ⟨x,h,rfl⟩
theorem jC.Y4 (R:jC K H C a dx pP pW pB ps bs kP kW kB)(s:bg H H')(h1:H' a=H a)(h2:H' pP=H pP)(h3:H' pW=H pW)(h4:H' pB=H pB):jC K H' C a dx pP pW pB ps bs kP kW kB:=
 ⟨h1.trans R.obj,h2.trans R.pl,h3.trans R.wy,h4.trans R.br,R.ne1,R.ne2,R.ne3,Paired.cy R.rp fun _ _ h=>⟨h.1,h.2.aZ s⟩,Paired.cy R.rb fun _ _ h=>⟨h.1,by obtain ⟨p,e,k⟩:=h.2;exact ⟨p,e,s _ _ k⟩⟩⟩
theorem jC.same (R:jC K H C a dx pP pW pB ps bs kP kW kB)(s:az H H'):jC K H' C a dx pP pW pB ps bs kP kW kB:=
 R.Y4 (.of s) ((s _ _ R.obj).trans R.obj.symm) ((s _ _ R.pl).trans R.pl.symm) ((s _ _ R.wy).trans R.wy.symm) ((s _ _ R.br).trans R.br.symm)
theorem jC.Y5 (R:jC K H C a dx pP pW pB ps bs kP kW kB):kB.map (·.1)=(bs.map (·.1)).map (fun b=>(agK b:Key)):=by
 rw [jJ R.rb,agJ]
 rfl
theorem jC.Tv (R:jC K H C a dx pP pW pB ps bs kP kW kB):kP.map (·.1)=(ps.map (·.1)).map (fun b=>(agK b:Key)):=by
 rw [jJ R.rp,agJ]
 rfl
theorem jC.bar (R:jC K H C a dx pP pW pB ps bs kP kW kB)(x:Str):(gZ kB (.inr x)).isSome=decide (x∈bs.map (·.1)):=by
 by_cases h:x∈bs.map (·.1)
 ·obtain ⟨v,e⟩:=kr (kvs:=kB) (k:=.inr x) (by rw [R.Y5];exact eL.mpr h)
  rw [e,decide_eq_true h]
  rfl
 ·rw [dk (by rw [R.Y5];exact fun z=>h (eL.mp z)),decide_eq_false h]
  rfl
theorem jC.pin (R:jC K H C a dx pP pW pB ps bs kP kW kB)(x:Str):(gZ kP (.inr x)).isSome=decide (x∈ps.map (·.1)):=by
 by_cases h:x∈ps.map (·.1)
 ·obtain ⟨v,e⟩:=kr (kvs:=kP) (k:=.inr x) (by rw [R.Tv];exact eL.mpr h)
  rw [e,decide_eq_true h]
  rfl
 ·rw [dk (by rw [R.Tv];exact fun z=>h (eL.mp z)),decide_eq_false h]
  rfl
theorem jC.ab (R:jC K H C a dx pP pW pB ps bs kP kW kB):a≠pP/\a≠pW/\a≠pB:=
 ⟨fun z=>(by have h:=R.obj;rw [z,R.pl] at h;cases h),fun z=>(by have h:=R.obj;rw [z,R.wy] at h;cases h),fun z=>(by have h:=R.obj;rw [z,R.br] at h;cases h)⟩
theorem jC.aiX (R:jC K H C a dx pP pW pB ps bs kP kW kB){x one other:Str}{t:Addr}(ht:Rd H t (.tup [.str one,.str other])):
  jC K (upd H pB (.dK (kB++[(.inr x,.ref t)]))) C a dx pP pW pB ps (bs++[(x,one,other)]) kP kW (kB++[(.inr x,.ref t)]):=by
 have s:bg H (upd H pB (.dK (kB++[(.inr x,.ref t)]))):=.dict R.br
 exact ⟨by rw [ah R.ab.2.2];exact R.obj,by rw [ah R.ne2];exact R.pl,by rw [ah R.ne3];exact R.wy,aj,R.ne1,R.ne2,R.ne3,Paired.cy R.rp fun _ _ h=>⟨h.1,h.2.aZ s⟩,
  Paired.snoc (Paired.cy R.rb fun _ _ h=>⟨h.1,by obtain ⟨p,e,k⟩:=h.2;exact ⟨p,e,s _ _ k⟩⟩) ⟨rfl,t,rfl,s _ _ ht⟩⟩
theorem jK {α β:Type}{R:α->β->Prop}:∀{l:List α} {m:List β},Paired R l m->Paired (fun b a=>R a b) m l
 | _,_,.nil=>.nil
 | _,_,.cons h t=>.cons h (jK t)
theorem jC.aiY (R:jC K H C a dx pP pW pB ps bs kP kW kB){x:Str}{p:Pt}{t:Addr}(ht:Spot K H (.ref t) p):
  jC K (upd H pP (.dK (kP++[(.inr x,.ref t)]))) C a dx pP pW pB (ps++[(x,p)]) bs (kP++[(.inr x,.ref t)]) kW kB:=by
 have s:bg H (upd H pP (.dK (kP++[(.inr x,.ref t)]))):=.dict R.pl
 exact ⟨by rw [ah R.ab.1];exact R.obj,aj,by rw [ah (ac_ R.ne1)];exact R.wy,by rw [ah (ac_ R.ne2)];exact R.br,R.ne1,R.ne2,R.ne3,
  Paired.snoc (Paired.cy R.rp fun _ _ h=>⟨h.1,h.2.aZ s⟩) ⟨rfl,ht.aZ s⟩,Paired.cy R.rb fun _ _ h=>⟨h.1,by obtain ⟨p,e,k⟩:=h.2;exact ⟨p,e,s _ _ k⟩⟩⟩
theorem jC.Tw (R:jC K H C a dx pP pW pB ps bs kP kW kB)(kW' :ι):jC K (upd H pW (.dK kW')) C a dx pP pW pB ps bs kP kW' kB:=by
 have s:bg H (upd H pW (.dK kW')):=.dict R.wy
 exact ⟨by rw [ah R.ab.2.1];exact R.obj,by rw [ah R.ne1];exact R.pl,aj,by rw [ah (ac_ R.ne3)];exact R.br,R.ne1,R.ne2,R.ne3,
  Paired.cy R.rp fun _ _ h=>⟨h.1,h.2.aZ s⟩,Paired.cy R.rb fun _ _ h=>⟨h.1,by obtain ⟨p,e,k⟩:=h.2;exact ⟨p,e,s _ _ k⟩⟩⟩
theorem BR (xs:ζ):(xs.map V.str).all j9=true:=by
 rw [alI,alx]
 exact fun _ _=>rfl
theorem MA {x:Str}:∀(xs:ζ),inV (.str x) (xs.map V.str)=decide (x∈xs)
 | []=>rfl
 | y::ys=>by
  have ih:=MA (x:=x) ys
  unfold inV at ih ⊢
  rw [adA,ah_,ih]
  by_cases e:y=x
  ·subst e
   simp [vI]
  ·have e' :¬ x=y:=fun z=>e z.symm
   simp [vI,e,e']
end
open Builtin.Int (intBits)
def qr (r:Rat):Int×Int:=(r.num,(r.den:Int))
theorem jf (r:Rat):0 < (qr r).2:=by
 have:=r.den_pos
 show (0:Int) < (r.den:Int)
 omega
theorem aiZ (r:Rat):af1 (qr r).1 (qr r).2=1:=by
 have:=r.reduced
 show af1 r.num (r.den:Int)=1
 unfold af1
 simpa [Nat.Coprime] using this
theorem uZ (r:Rat):vl (qr r)=r:=by
 show (r.num:Rat) / ((r.den:Int):Rat)=r
 rw [<- Rat.divInt_eq_div]
 exact Rat.num_divInt_den r
theorem MB {q:Int×Int}(h:0 < q.2)(g:af1 q.1 q.2=1):q=qr (vl q):=aiQ h (jf _) g (aiZ _) (uZ _).symm
theorem QK {t b:Int}(h:b≠0):low t b=qr ((t:Rat) / (b:Rat)):=by
 rw [<- YW h]
 exact MB (qQ h) (wA h)
theorem xU {a b:Rat}(h:qr a=qr b):a=b:=by
 rw [<- uZ a, <- uZ b,h]
theorem xV (i:Int):qr (i:Rat)=(i,1):=by
 have e:(i,(1:Int))=qr (vl (i,1)):=MB (by show (0:Int) < 1;decide) (by show af1 i 1=1;simp)
 have v:vl (i,(1:Int))=(i:Rat):=by
  unfold vl
  show (i:Rat) / ((1:Int):Rat)=i
  have:((1:Int):Rat)=1:=by rfl
  rw [this]
  grind
 rw [e,v]
theorem Y6 {r:Rat}:((qr r).2:Rat)≠0:=LP (ajE (jf r))
theorem Y7 (a b:Rat):low ((qr a).1*(qr b).2+(qr b).1*(qr a).2) ((qr a).2*(qr b).2)=qr (a+b):=by
 have ha:=jf a
 have hb:=jf b
 rw [QK (ajE (alT ha hb))]
 have e1:=uZ a
 have e2:=uZ b
 have z1:=Y6 (r:=a)
 have z2:=Y6 (r:=b)
 unfold vl at e1 e2
 congr 1
 push_cast
 grind
theorem Y8 (a b:Rat):low ((qr a).1*(qr b).1) ((qr a).2*(qr b).2)=qr (a*b):=by
 have ha:=jf a
 have hb:=jf b
 rw [QK (ajE (alT ha hb))]
 have e1:=uZ a
 have e2:=uZ b
 have z1:=Y6 (r:=a)
 have z2:=Y6 (r:=b)
 unfold vl at e1 e2
 congr 1
 push_cast
 grind
structure Sz (k:Nat)(r:Rat):Prop where
 top:intBits (qr r).1<=k
 bot:intBits (qr r).2<=k
theorem Sz.up {k l:Nat}{r:Rat}(h:Sz k r)(kl:k<=l):Sz l r:=⟨ir h.top kl,ir h.bot kl⟩
theorem UT {a b:Int}{k:Nat}(ha:intBits a<=k)(hb:intBits b<=k):intBits (a+b)<=k+1:=by
 rw [intBits_le_iff] at ha hb ⊢
 have:=Int.natAbs_add_le a b
 rw [Nat.pow_succ]
 omega
theorem ai0 {t b:Int}{k:Nat}(hb:b≠0)(h1:intBits t<=k)(h2:intBits b<=k):Sz k ((t:Rat) / (b:Rat)):=by
 rw [<- YW hb]
 have e:=MB (qQ (t:=t) hb) (wA hb)
 exact ⟨by rw [<- e];exact intBits_le_of_natAbs (xv hb) h1,by rw [<- e];exact intBits_le_of_natAbs (xw hb) h2⟩
theorem agy {t b:Int}{k:Nat}{r:Rat}(hb:b≠0)(e:low t b=qr r)(h1:intBits t<=k)(h2:intBits b<=k):Sz k r:=by
 have z:=QK (t:=t) hb
 rw [z] at e
 have:=xU e
 rw [<- this]
 exact ai0 hb h1 h2
theorem Sz.add {k l:Nat}{a b:Rat}(ha:Sz k a)(hb:Sz l b):Sz (k+l+1) (a+b):=
 agy (ajE (alT (jf a) (jf b))) (Y7 a b) (UT (intBits_mul_le ha.top hb.bot) (by rw [Nat.add_comm];exact intBits_mul_le hb.top ha.bot)) (aga (intBits_mul_le ha.bot hb.bot))
theorem Sz.mul {k l:Nat}{a b:Rat}(ha:Sz k a)(hb:Sz l b):Sz (k+l) (a*b):=
 agy (ajE (alT (jf a) (jf b))) (Y8 a b) (intBits_mul_le ha.top hb.top) (intBits_mul_le ha.bot hb.bot)
theorem Y9 {i:Int}{k:Nat}(h:i.natAbs < 2^k)(hk:1<=k):Sz k (i:Rat):=by
 refine ⟨?_,?_⟩
 ·rw [xV]
  exact intBits_le_iff.mpr h
 ·rw [xV]
  refine intBits_le_iff.mpr ?_
  show 1 < 2^k
  exact Nat.one_lt_two_pow (by omega)
def oK (K:Frag)(H:Hp)(v:V)(r:Rat):Prop:=sZ K H v (qr r)
def wL (K:Frag)(H:Hp)(v:V)(p:Rat×Rat):Prop:=∃a u1 u2,v=.ref a/\cT K H a [u1,u2]/\oK K H u1 p.1/\oK K H u2 p.2
section
variable {K:Frag}{H H' :Hp}{v:V}{r:Rat}{p:Rat×Rat}
theorem oK.aZ (h:oK K H v r)(s:bg H H'):oK K H' v r:=sZ.aZ h s
theorem oK.same (h:oK K H v r)(s:az H H'):oK K H' v r:=sZ.same h s
theorem wL.aZ (h:wL K H v p)(s:bg H H'):wL K H' v p:=by
 obtain ⟨a,u1,u2,e,h1,h2,h3⟩:=h
 exact ⟨a,u1,u2,e,s.km h1,h2.aZ s,h3.aZ s⟩
theorem wL.same (h:wL K H v p)(s:az H H'):wL K H' v p:=h.aZ (.of s)
abbrev ptQ (p:Rat×Rat):Pt:=(qr p.1,qr p.2)
def EL (K:Frag)(H:Hp)(us:η)(ps:χ):Prop:=Paired (wL K H) us ps
theorem EL.aZ {us:η}{ps:χ}(h:EL K H us ps)(s:bg H H'):EL K H' us ps:=Paired.cy h fun _ _ z=>z.aZ s
theorem EL.same {us:η}{ps:χ}(h:EL K H us ps)(s:az H H'):EL K H' us ps:=h.aZ (.of s)
end
section
variable {X:Cx}
end
theorem QL {α:Type}{R:(Str×α)->(Key×V)->Prop}{x:Str}{y:α}:∀{l:List (Str×α)} {kvs:ι},Paired (fun b kv=>kv.1=.inr b.1/\R b kv) l kvs->(l.map (·.1)).Nodup->(x,y)∈l->∃v,gZ kvs (.inr x)=some v/\R (x,y) (.inr x,v):=fun {l kvs} p nd m=>by
 induction p with
 | nil=>cases m
 | cons h t ih=>
  rw [adA,agf] at nd
  rcases aby.mp m with e | m
  ·subst e
   refine ⟨_,jd h.1,?_⟩
   have h2:=h.2
   rw [<- h.1]
   exact h2
  ·obtain ⟨v,e,r⟩:=ih nd.2 m
   refine ⟨v,?_,r⟩
   rw [ip (fun z=>?_)]
   ·exact e
   ·rw [h.1] at z
    exact nd.1 (alR z▸aeu.mpr ⟨_,m,rfl⟩)
def WyR (K:Frag)(H:Hp)(pw:List (Str×List (Rat×Rat)))(kW:ι):Prop:=
 Paired (fun (p:Str×List (Rat×Rat)) (kv:Key×V)=>kv.1=.inr p.1/\∃l us,kv.2=.ref l/\H l=some (.lst us)/\EL K H us p.2) pw kW
theorem WyR.same {K:Frag}{H H' :Hp}{pw:List (Str×List (Rat×Rat))}{kW:ι}(h:WyR K H pw kW)(s:az H H'):WyR K H' pw kW:=
 Paired.cy h fun _ _ z=>⟨z.1,by obtain ⟨l,us,e1,e2,e3⟩:=z.2;exact ⟨l,us,e1,s _ _ e2,e3.same s⟩⟩
theorem WyR.dict {K:Frag}{H:Hp}{pw:List (Str×List (Rat×Rat))}{kW kvs:ι}{d:Addr}{o:HO}(h:WyR K H pw kW)(e:H d=some (.dK kvs)):WyR K (upd H d o) pw kW:=
 Paired.cy h fun _ _ z=>⟨z.1,by
  obtain ⟨l,us,e1,e2,e3⟩:=z.2
  exact ⟨l,us,e1,by rw [ah (fun q=>by rw [q,e] at e2;cases e2)];exact e2,e3.aZ (.dict e)⟩⟩
theorem jC.place {K:Frag}{H:Hp}{C a dx pP pW pB:Addr}{ps:υ}{bs:ρ}{kP kW kB:ι}(R:jC K H C a dx pP pW pB ps bs kP kW kB)(nd:(ps.map (·.1)).Nodup){x:Str}{p:Pt}(m:(x,p)∈ps):
  ∃v,gZ kP (.inr x)=some v/\Spot K H v p:=QL R.rp nd m
end Ty
namespace Ty
open PySem PySem.Spec PyProof.Rows L2
structure nT where
 nm:Str
 sp:Rat×Rat
 ws:List (Rat×Rat)
section
variable {K:Frag}{H H' :Hp}{kvs:ι}
end
end Ty
namespace Ty
open PySem PySem.Spec PyProof.Rows L2
end Ty
namespace Ty
open PySem PySem.Spec PyProof.Rows L2
theorem take_snoc {α:Type}{l:List α}{i:Nat}{b:α}(h:l[i]? =some b):l.take (i+1)=l.take i++[b]:=by rw [List.take_add_one,h];rfl
end Ty
namespace Ty
open PySem PySem.Spec PyProof.Rows L2
theorem aw {H1 H2 H3:Hp}(a:az H1 H2)(b:az H2 H3):az H1 H3:=fun c o z=>b _ _ (a _ _ z)
theorem aJ {H H' :Hp}(s:az H H'){p:Addr}(n:H' p=none):H p=none:=by
 cases e:H p with
 | none=>rfl
 | some o=>rw [s _ _ e] at n;cases n
end Ty
namespace Ty
open PySem PySem.Spec PyProof.Rows L2
section
variable {X:Cx}
end
section
variable {D:Addr}{te:TE}{cap:L2.St}{H1:Hp}{Q:VK}
end
section
variable {prog:Program}{w:World}{A:Around}{E:γ}{s:Shared}
end
section
variable {prog:Program}{w:World}{A:Around}{E:γ}{s:Shared}{z TI TO i1 i2 a b S:Addr}{i:Nat}
end
end Ty
namespace Ty
open PySem PySem.Spec PyProof.Rows L2
section
variable {X:Cx}{pins:δ}{σ:L2.St}
end
section
variable {X:Cx}
section
variable {k:Nat}{m:Str}{pos apos:Pos}{e o:Expr}{es:ο}{ta:TE}{t:TA}
end
def tNo (cv:Value)(K:Frag)(ts:TS)(tr:TH):TH:=fun cls dx D σ H=>∃b,PySem.W.exmOne K cls cv=some b/\
 if b=true then ts D σ H else tr cls dx D σ H
theorem agz {c:Str}{cv:Value}{b₀:Stmt}{MD:List Stmt}{np pos:Pos}{rest:List ExceptHandler}{ts:TS}{tr:TH}(hc:Qw X c cv)
  (ht:∀a,PSs (hnd X a) (b₀::MD) ts) (hr:PH X rest tr):PH X (.ExceptHandler (some (.Name c np)) none (b₀::MD) pos::rest) (tNo cv X.K ts tr):=by
 intro pins s σ H a cls dx D L h
 obtain ⟨b,hb,h⟩:=h
 have I:=L.inv
 refine wpAny_handleBy_cons (codeAny_handlers_test (hc.ld a pins s σ H np _ _ (DZ I) ?_)) (by intro q;cases q)
 obtain ⟨H0,s0,a0,B,I0,fl,da,un,ok,os,bare,th,tr'⟩:=L.ex
 obtain ⟨ob,hob,Qm⟩:=fl.there
 have LT:PySem.W.Looks (model X.prog X.w) s.heap (typeOf (.ref a)) cls:=by
  subst Qm
  exact (PySem.W.Looks.ld hob).andThen .now
 refine (PySem.W.exm_one I.iB LT hb).here ?_
 cases b with
 | false=>
  rw [if_neg abr] at h
  exact hr pins s σ H a cls dx D L h
 | true=>
  rw [if_pos rfl] at h
  refine codeAny_handlers_suite ?_
  refine lands_againW fl fun h6 fl6 up=>?_
  have un6:=wD un fl.1 fl6.1 th fl.2.2.1 up
  have ok6:=qV ok fl.1 fl6.1 tr'
  have I6:Inv X pins σ H {s with heap:=h6}:=I0.KL (ch:=[]) os un6 ok6 bare fun b z=>absurd z (by simp)
  refine wpAny_mono (ht a pins _ _ _ _ (DZ I6) h) (fun f s9 q=>?_) fun _ _ z=>z.elim
  cases f with
  | next=>
   obtain ⟨σ2,H2,J,q⟩:=q
   exact ⟨_,_,mJ I0.ok J,q⟩
  | brk=>
   obtain ⟨σ2,H2,J,q⟩:=q
   exact ⟨_,_,mJ I0.ok J,q⟩
  | cont=>
   obtain ⟨σ2,H2,J,q⟩:=q
   exact ⟨_,_,mJ I0.ok J,q⟩
  | ret u=>
   obtain ⟨v,σ2,H2,J,r,q⟩:=q
   exact ⟨v,_,_,mJ I0.ok J,r,q⟩
theorem Y_ {K:Frag}{e:Expr}{f:Str}{pos:Pos}{ta:TE}(hK:X.K=K)(he:PE X e ta)(hb:attributeBase e f X.env (eval e X.env)=eval e X.env):PE X (.Attribute e f pos) (agi K ta f):=by
 subst hK
 exact adU he hb
end
def thE (H0:Hp)(E:XK):XK:=fun cls dx H' =>E cls dx H' \/∃d o kvs,H' d=some (.j8 o (.dK kvs))/\(∀o' u',H0 d≠some (.j8 o' u'))/\E cls dx (upd H' d (.dK kvs))
theorem aV.auK {P:Program}{w:World}{outer:List Env}{H:Hp}{s:Shared}{E:XK}{e:Value}{s' :Shared}(h:aV P w outer H s (thE H E) e s'):aV P w outer H s E e s' :=by
 obtain ⟨a,cls,a0,dx,H',B,rfl,fl,da,un,ok,os,bare,th,tr,hE⟩:=h
 rcases hE with hE | ⟨d,o,kvs,ed,nf,hE⟩
 ·exact ⟨a,cls,a0,dx,H',B,rfl,fl,da,un,ok,os,bare,th,tr,hE⟩
 ·have nx:∀b u',H' b=some u' ->b≠d->upd H' d (.dK kvs) b=some u' :=fun b u q n=>by rw [ah n];exact q
  refine ⟨a,cls,a0,dx,upd H' d (.dK kvs),B,rfl,fl,da,⟨un.keep,un.slot,fun b ob q n hx=>?_,un.there,fun b xs q=>?_,fun b ob u q=>?_,fun b ps q=>?_⟩,?_,os,bare,th,fun b u q=>?_,hE⟩
  ·have z:=un.free b ob q n hx
   rw [ah (fun y=>by rw [y,ed] at z;cases z)]
   exact z
  ·have z:=un.me b xs q
   exact nx b _ z fun y=>by rw [y,ed] at z;cases z
  ·have z:=un.kR b ob u q
   exact nx b _ z fun y=>by rw [y] at q;exact nf _ _ q
  ·obtain ⟨m,z⟩:=un.mf b ps q
   exact ⟨m,nx b _ z fun y=>by rw [y,ed] at z;cases z⟩
  ·have stt:∀{b u'},bL P w H' s'.heap b u' ->bL P w (upd H' d (.dK kvs)) s'.heap b u' :=fun {b u'} k=>k.qF (fun _ _ _ z=>z) (fun c z=>nx c _ z fun y=>by rw [y,ed] at z;cases z) fun c xs z=>nx c _ z fun y=>by rw [y,ed] at z;cases z
   intro b u' q
   by_cases hb:b=d
   ·subst hb
    rw [aj] at q
    cases q
    exact stt (ok b _ ed).2
   ·rw [ah hb] at q
    exact stt (ok b u' q)
  ·by_cases hb:b=d
   ·subst hb
    exact tr b _ ed
   ·rw [ah hb] at q
    exact tr b u q
section
variable {P:Program}{w:World}{K:Frag}{mg:ε}{base:Heap}
theorem aeb {k:Nat}{f:Addr}{fd:FuncData}{ps:ζ}{sp sp' :Sp}(len:∀vs H Q E,sp vs H Q E->vs.length=ps.length)(h:∀vs H Q E,sp vs H Q E->sp' vs H Q (thE H E))(F:bH P w K mg base (aV P w) k f fd ps sp'):bH P w K mg base (aV P w) k f fd ps sp:=
 ⟨len,fun A outer s H args us vs Q E hr he hb hv hs=>codeAny_mono (F.run A outer s H args us vs Q (thE H E) hr he hb hv (h _ _ _ _ hs)) fun r s' hq=>by
  cases r with
  | error e=>exact aV.auK hq
  | ok fl=>
   cases fl with
   | ret u=>exact hq
   | next=>exact hq
   | brk=>exact hq
   | cont=>exact hq⟩
theorem Y' {name qual:Str}{st:Stmt}{f:Addr}{fd:FuncData}{N ps:ζ}{k:Nat}{sp:Sp}(F:aiW K name qual st f fd)(S:av N ps (aa st))(len:∀vs H Q E,sp vs H Q E->vs.length=ps.length)
  (dP:∀(cdv:Value) (A:Around) (outer:List Env) (s:Shared) (H:Hp) (vs:η) (Q:VK) (E:XK),cF k (A.deeper (envOfC qual (aa st) s.heap.objs.size f cdv))->sp vs H Q E->
   ∃t,PSs (gK P w K mg base N qual (aa st) f cdv A outer s H E) (aq st) t/\t {nx:=fun _ H' =>Q .bN H',rt:=Q} (start N vs) H):bH P w K mg base (aV P w) (k+1) f fd ps sp:=by
 obtain ⟨dV,oc,od,kV,doc,pm,an,cdv,ct,nj,rfl,lk,pj⟩:=F.ex
 exact xu lk pj S len fun A outer s H vs Q E hr vH=>dP cdv A outer s H vs Q E hr vH
end
section
variable {X:Cx}{pins:δ}{σ:L2.St}{H:Hp}{s:Shared}
end
section
variable {prog:Program}{w:World}{KK:Type}[DecidableEq KK]{knd:KeyKind prog w KK}{A:Around}{E:γ}{s:Shared}
end
section
variable {X:Cx}
end
theorem Za {prog:Program}{w:World}{A:Around}{E:γ}{s:Shared}{x y:Str}{t u:Tok}{Q:γ}(hy:(y.length==0)=false)(hsz:x.length+2<=sizeLine)
  (hq:∀(l:List (Str×Tok)) (k:Nat),l.map (·.1)=Txt.split x y->Q (.ref s.heap.objs.size) {s with heap:=s.heap.push {cls:=.type "list",data:=.seq (strValues l).toArray},toks:=k}):
  wpAny (model prog w) A (call (.builtin "str.split") [.str x t,.str y u]) Q E s:=by
 have hn:(Builtin.Str.partsBetween x (Builtin.Str.occurrences x y 0 x.length (x.length+1)) y.length).length<=sizeLine:=by
  have e1:=StrLaws.occ_length_le x y 0 x.length (x.length+1)
  rw [len_partsBetween]
  omega
 cases h1:(decide (x.length < y.length) || decide (Builtin.Str.strKind x < Builtin.Str.strKind y))
 ·cases hf:(Builtin.Str.occurrences x y 0 x.length (x.length+1)).isEmpty
  ·refine call_meets F.slot_str_split (typeIs_str _ _ _) F.entry_str_split (F.args_str_split_2 _ _) (meets_str_split_sep x y t u h1 hy hf (by omega) hn) ?_
   show wants Q E _ {s with toks:=_,heap:=s.heap.push {cls:=.type "list",data:=.seq (strsFrom s.toks (Builtin.Str.partsBetween x (Builtin.Str.occurrences x y 0 x.length (x.length+1)) y.length)).toArray}}
   rw [strsFrom_eq]
   exact hq (numbered s.toks _) _ ((numbered_texts _ _).trans ((if_neg (ne_true_of_eq_false h1)).trans (if_neg (ne_true_of_eq_false hf))).symm)
  ·exact call_meets F.slot_str_split (typeIs_str _ _ _) F.entry_str_split (F.args_str_split_2 _ _) (meets_str_split_not_found x y t u h1 hy hf) (hq [(x,t)] s.toks ((if_neg (ne_true_of_eq_false h1)).trans (if_pos hf)).symm)
 ·exact call_meets F.slot_str_split (typeIs_str _ _ _) F.entry_str_split (F.args_str_split_2 _ _) (meets_str_split_cannot_occur x y t u h1) (hq [(x,t)] s.toks (if_pos h1).symm)
theorem BS:∀l:List (Str×Tok),Vals ((l.map (·.1)).map V.str) (strValues l)
 | []=>.nil
 | p::l=>.cons ⟨p.2,rfl⟩ (BS l)
section
variable {X:Cx}
inductive Zb (x:V)(vs:η)(H:Hp)(Q:VK):Prop where
 | mk (z y:_) (_:x=.str z) (_:vs=[.str y]) (_:(y.length==0)=false) (_:z.length+2<=sizeLine) (_:∀l,H l=none->Q (.ref l) (upd H l (.lst ((Txt.split z y).map V.str)))):Zb x vs H Q
theorem q0:MtM X "str.split" Zb:=by
 intro pins s σ H x vs v us Q I rx rv h
 obtain ⟨z,y,rfl,rfl,hy,hz,q⟩:=h
 obtain ⟨t,rfl⟩:=rx
 obtain ⟨u,rfl,ru⟩:=rv.one
 obtain ⟨t',rfl⟩:=ru
 have hn:=I.bR.fresh (abt s.heap.objs.size)
 refine Za hy hz fun l k el=>?_
 have hl:(Txt.split z y).length<=sizeLine:=by
  have:=split_le z y
  omega
 have I2:=I.laid (h' :=s.heap.push {cls:=.type "list",data:=.seq (strValues l).toArray}) (t' :=k) (o:=.lst ((Txt.split z y).map V.str)) (fun b o e=>Heap.get?_push_of_some _ e) (abt _) ⟨by rw [Wp];exact hl,strValues l,0,by rw [<- el];exact BS l,Heap.get?_push_size _ rfl⟩
 exact ⟨.ref _,_,I2,rfl,q _ hn⟩
end
def jn (c:Nat):List (List Nat)->List Nat
 | []=>[]
 | [w]=>w
 | w::v::ws=>w++c::jn c (v::ws)
theorem ai1 {c:Nat}:∀{as bs:List (List Nat)},as≠[]->bs≠[]->(∀a∈as,c∉a)->(∀b∈bs,c∉b)->jn c as=jn c bs->as=bs:=by
 have cut:∀{a b r s:Α},c∉a->c∉b->a++c::r=b++c::s->a=b/\r=s:=by
  intro a
  induction a with
  | nil=>
   intro b r s _ hb e
   cases b with
   | nil=>exact ⟨rfl,(af5 e).2⟩
   | cons x b=>exact absurd (by rw [(af5 e).1];exact abE) hb
  | cons x a ih=>
   intro b r s ha hb e
   cases b with
   | nil=>exact absurd (by rw [(af5 e).1];exact abE) ha
   | cons y b=>
    obtain ⟨e1,e2⟩:=af5 e
    obtain ⟨h1,h2⟩:=ih (fun z=>ha (abz _ z)) (fun z=>hb (abz _ z)) e2
    exact ⟨by rw [e1,h1],h2⟩
 have no:∀{a b r:Α},c∉a->a≠b++c::r:=fun ha e=>ha (by rw [e];simp)
 intro as
 induction as with
 | nil=>intro bs h;exact absurd rfl h
 | cons a as ih=>
  intro bs _ hb h1 h2 e
  cases bs with
  | nil=>exact absurd rfl hb
  | cons b bs=>
   have ha:=h1 a abE
   have vL :=h2 b abE
   cases as with
   | nil=>
    cases bs with
    | nil=>
     have e' :a=b:=e
     rw [e']
    | cons b2 bs=>exact absurd e (no ha)
   | cons a2 as=>
    cases bs with
    | nil=>exact absurd e.symm (no vL)
    | cons b2 bs=>
     obtain ⟨h3,h4⟩:=cut ha vL e
     rw [h3,ih (by simp) (by simp) (fun z hz=>h1 z (abz _ hz)) (fun z hz=>h2 z (abz _ hz)) h4]
theorem q_ (c:Nat):∀ws:List Str,(Str.join ⟨#[c]⟩ ws).cps.toList=jn c (ws.map fun w=>w.cps.toList)
 | []=>rfl
 | [w]=>rfl
 | w::v::ws=>by
  have ih:=q_ c (v::ws)
  show (w++(⟨#[c]⟩:Str)++Str.join ⟨#[c]⟩ (v::ws)).cps.toList=w.cps.toList++c::jn c ((v::ws).map fun w=>w.cps.toList)
  rw [<- ih]
  show (w.cps++ #[c]++(Str.join ⟨#[c]⟩ (v::ws)).cps).toList=_
  simp
theorem Tx {x y:Str}(h:x.cps.toList=y.cps.toList):x=y:=by
 cases x
 cases y
 congr 1
 exact aos.mp h
theorem pI {c:Nat}{ws:ζ}(ne:ws≠[])(h:∀w∈ws,c∉w.cps.toList):Txt.split (Txt.join ⟨#[c]⟩ ws) ⟨#[c]⟩=ws:=by
 have e0:Txt.join ⟨#[c]⟩ ws=Str.join ⟨#[c]⟩ ws:=StrLaws.glued_eq_join _ _
 have e1:=congrArg (fun x:Str=>x.cps.toList) (StrLaws.join_split (Txt.join ⟨#[c]⟩ ws) ⟨#[c]⟩)
 have e2:jn c ((Txt.split (Txt.join ⟨#[c]⟩ ws) ⟨#[c]⟩).map fun w=>w.cps.toList)=jn c (ws.map fun w=>w.cps.toList):=by
  rw [<- q_, <- q_, <- e0]
  exact e1
 have p1:=split_pos (Txt.join ⟨#[c]⟩ ws) ⟨#[c]⟩
 have e3:=ai1 (fun z=>by rw [alF] at z;rw [z] at p1;simp at p1) (fun z=>ne (alF.mp z)) (fun a ha=>by
  obtain ⟨w,hw,rfl⟩:=aeu.mp ha
  exact StrLaws.split_free _ c w hw) (fun a ha=>by
  obtain ⟨w,hw,rfl⟩:=aeu.mp ha
  exact h w hw) e2
 have inj:∀{as bs:ζ},(as.map fun w=>w.cps.toList)=(bs.map fun w=>w.cps.toList)->as=bs:=by
  intro as
  induction as with
  | nil=>intro bs e;exact (alF.mp e.symm).symm
  | cons a as ih=>
   intro bs e
   cases bs with
   | nil=>simp at e
   | cons b bs=>
    rw [adA,adA] at e
    obtain ⟨h1,h2⟩:=af5 e
    rw [Tx h1,ih h2]
 exact inj e3
section
variable {X:Cx}
theorem aec {e:Expr}{te:TEx}{pos:Pos}(he:PEx X e te):PSx X (.Return (some e) pos) (fun D E σ H=>te σ H (fun v H1=>D.rt v H1) (E σ)):=by
 intro pins s σ H D E I h
 refine wpAny_Return_some (wpAny_mono (he pins s σ H _ _ I h) (fun v s1 z=>?_) fun e s' z=>⟨σ,z⟩)
 obtain ⟨y,H1,I1,r1,q1⟩:=z
 exact ⟨y,σ,H1,I1,r1,q1⟩
inductive Tz (K:Frag)(x:V)(y:V)(H:Hp)(Q:VK):Prop where
 | mk (l us:_) (_:x=.bN) (_:y=.ref l) (_:bq K H l us) (_:(∀u∈us,j9 u=true\/∃p xs,u=.ref p/\cT K H p xs)) (_:Q (.bl (us.any fun u=>decide (u=V.bN))) H):Tz K x y H Q
theorem UU (hu:X.A.units+64 < cLine):mD X (compareOp .In) (Tz X.K):=by
 intro pins s σ H x y v u Q I rx ry h
 obtain ⟨l,us,rfl,rfl,hq,hk,q⟩:=h
 cases ry
 cases rx
 obtain ⟨its,rv,pl,hz⟩:=I.list hq
 let e:Value->Bool:=fun y=>match y with | .none=>true | _=>false
 have key:∀(j:Nat) (y:Value),its[j]? =some y->∃w,us[j]? =some w/\RelV w y:=fun j y ey=>b8 (jK rv) ey
 have he:∀(w:V) (y:Value),RelV w y->(j9 w=true\/∃p xs,w=.ref p/\cT X.K H p xs)->SeqAt.EqAt X.A.in1 s y .none (e y)/\e y=decide (w=V.bN):=fun w y r hw=>by
  rcases hw with hf | ⟨p,xs,rfl,ht⟩
  ·cases w with
   | bN=>cases r;exact ⟨.same _,rfl⟩
   | bl b=>cases r;exact ⟨.bool_none b,rfl⟩
   | int i=>obtain ⟨t,rfl⟩:=r;exact ⟨.int_none i t,rfl⟩
   | str z=>obtain ⟨t,rfl⟩:=r;exact ⟨.str_none z t,rfl⟩
   | _=>exact absurd (show false=true from hf) abr
  ·cases r
   obtain ⟨its',_,t',_⟩:=I.tuple ht
   exact ⟨.tuple_none t' (by rw [in1_units];omega),rfl⟩
 refine SeqAt.in_listAt e pl.isList (fun y hy=>?_) ⟨.bl _,H,I,rfl,?_⟩
 ·obtain ⟨j,hj,ej⟩:=aim.mp (by simpa using hy:y∈its)
  obtain ⟨w,ew,BG⟩:=key j y (by rw [gE hj,ej])
  exact (he w y BG (hk w (abw ew))).1
 ·have ea:its.toArray.any e=us.any fun u=>decide (u=V.bN):=by
   rw [agO]
   simp only [List.any_toArray,ak_]
   constructor
   ·rintro ⟨y,hy,ey⟩
    obtain ⟨j,hj,ej⟩:=aim.mp hy
    obtain ⟨w,ew,BG⟩:=key j y (by rw [gE hj,ej])
    have:=(he w y BG (hk w (abw ew))).2
    exact ⟨w,abw ew,by rw [<- this];exact ey⟩
   ·rintro ⟨w,hw,ew⟩
    obtain ⟨j,hj,ej⟩:=aim.mp hw
    obtain ⟨y,ey,ry⟩:=b8 rv (by rw [gE hj,ej])
    have:=(he w y ry (hk w hw)).2
    exact ⟨y,abw ey,by rw [this];exact ew⟩
  rw [ea]
  exact q
end
theorem Zc {D:Addr}{te:TE}{cap:L2.St}{H1:Hp}{Q:VK}{x:Str}(Rel:Nat->V->Hp->Prop)(nD:H1 D=none)(hn:x.cps.size < sizeLine)
  (hR:∀i v H H' ys,H D=some (.lst ys)->eh D H H' ->Rel i v H->Rel i v H')
  (he:∀(i:Nat) (c:Nat) H (R:VK),x.cps[i]? =some c->az H1 H->(∀v H6,az H H6->Rel i v H6->R v H6)->te (some (.str ⟨#[c]⟩)::cap) H R)
  (hd:∀ys H,ys.length=x.cps.size->(∀i v,ys[i]? =some v->Rel i v H)->az H1 H->H D=some (.lst ys)->Q (.ref D) H):
  LN D (g9 0) zk te (Its x) (none::cap) H1 Q:=by
 refine xN x.cps.size (fun i=>.str ⟨#[(x.cps[i]?).getD 0]⟩) Rel nD hn (fun i H hi s=>⟨hi,fun v H' y=>?_⟩) (fun H s=>rfl) hR (fun i H R hi s k=>?_) hd
 ·obtain ⟨y1,c,y2,y3⟩:=y
  refine ⟨y1,?_⟩
  rw [y3,y2]
  rfl
 ·have e:x.cps[i]? =some x.cps[i]:=alQ hi
  have k' :=he i _ H R e s k
  rw [<- (show (x.cps[i]?).getD 0=x.cps[i] by rw [e];rfl)] at k'
  exact k'
end Ty
set_option maxHeartbeats 4000000
namespace Ty
open PySem PySem.Spec PyProof.Rows L2 Builtin Builtin.Str
noncomputable def rep1 (x y z:Str):Str:=if (occurrences x y 0 x.length 1).isEmpty=true then x else glued z (partsBetween x (occurrences x y 0 x.length 1) y.length)
theorem xW (x y z:Str)(t u v k:Tok)(hy:(y.length==0)=false)(h0:(u==0 || v==0)=false)(huv:(u==v)=false)(hyz:(y==z)=false)(hl:tooLong (x.length+(occurrences x y 0 x.length 1).length*z.length)=false):
  Gives («str.replace» ⟨[.str x t,.str y u,.str z v,.int 1 k],[]⟩) (if (occurrences x y 0 x.length 1).isEmpty=true then .val (.str x t) else .str (glued z (partsBetween x (occurrences x y 0 x.length 1) y.length))):=by
 show Gives (if ((occurrences x y 0 x.length 1).isEmpty || (y.length==0 && z.length==0))=true then (do rule "str.replace.nothing";ret (.str x t)) else
     (do let same <- isSame (.str y u) (.str z v)
         if same=true then (do rule "str.replace.old-is-new";ret (.str x t)) else
         if tooLong (x.length+(occurrences x y 0 x.length 1).length*z.length)=true then unsupported "str.replace:memory" else
         retStr (glued z (partsBetween x (occurrences x y 0 x.length 1) y.length)))) _
 rw [hy,am5,asZ]
 cases hc:(occurrences x y 0 x.length 1).isEmpty
 ·rw [isSame_str_other y z u v h0 huv hyz,hl]
  exact .of_eq rfl
 ·exact .rule (.of_eq rfl)
theorem UW {x y z:Str}(hb:x.length+z.length<=16777216):(glued z (partsBetween x (occurrences x y 0 x.length 1) y.length)).length<=sizeLine:=by
 have h1:=StrLaws.occ_length_le x y 0 x.length 1
 have hy:(glued y (partsBetween x (occurrences x y 0 x.length 1) y.length)).length=x.length:=by rw [StrLaws.glued_between_self]
 rw [size_glued,length_partsBetween,anD] at hy
 rw [size_glued,length_partsBetween,anD,sizeLine_eq]
 have h2:(occurrences x y 0 x.length 1).length*z.length<=1*z.length:=agI _ h1
 omega
theorem UX {prog:Program}{w:World}{A:Around}{E:γ}{s:Shared}{x y z:Str}{t u v k:Tok}{Q:γ}(hy:(y.length==0)=false)(hu:u≠0)(hv:v≠0)(huv:u≠v)(hyz:(y==z)=false)(hb:x.length+z.length<=16777216)
  (hq:∀t' k,Q (.str (rep1 x y z) t') {s with toks:=k}):wpAny (model prog w) A (call (.builtin "str.replace") [.str x t,.str y u,.str z v,.int 1 k]) Q E s:=by
 have e:(2:Nat)^24=16777216:=by decide
 have hl:tooLong (x.length+(occurrences x y 0 x.length 1).length*z.length)=false:=by
  have h1:=StrLaws.occ_length_le x y 0 x.length 1
  have h2:(occurrences x y 0 x.length 1).length*z.length<=1*z.length:=agI _ h1
  unfold tooLong sizeLine
  exact decide_eq_false (by omega)
 refine call_gives F.slot_str_replace (typeIs_str _ _ _) F.entry_str_replace (F.args_str_replace_4 _ _ _ _)
  (xW x y z t u v k hy (by simp [hu,hv]) (by simp [huv]) hyz hl) ?_
 have nS :=hq
 unfold rep1 at nS
 cases hc:(occurrences x y 0 x.length 1).isEmpty
 ·rw [hc] at nS
  simp only [anC,if_false] at nS ⊢
  exact ⟨UW hb,nS _ _⟩
 ·rw [hc] at nS
  simp only [if_true] at nS ⊢
  exact nS t s.toks
theorem pJ (x y z:Str):((occurrences x y 0 x.length 1).isEmpty=true/\rep1 x y z=x)\/((occurrences x y 0 x.length 1).isEmpty=false/\∃a b,x.cps.toList=a++y.cps.toList++b/\(rep1 x y z).cps.toList=a++z.cps.toList++b):=by
 cases hc:(occurrences x y 0 x.length 1).isEmpty with
 | true=>exact .inl ⟨rfl,by unfold rep1;rw [hc];rfl⟩
 | false=>
  refine .inr ⟨rfl,?_⟩
  have h1:=StrLaws.occ_length_le x y 0 x.length 1
  have lp:=length_partsBetween x (occurrences x y 0 x.length 1) y.length
  have l1:(occurrences x y 0 x.length 1).length=1:=by
   have:(occurrences x y 0 x.length 1)≠[]:=fun z=>by rw [z] at hc;cases hc
   have:=anh.mpr this
   omega
  rw [l1] at lp
  have gs:=StrLaws.glued_between_self x y 1
  have er:rep1 x y z=glued z (partsBetween x (occurrences x y 0 x.length 1) y.length):=by unfold rep1;rw [hc];rfl
  generalize partsBetween x (occurrences x y 0 x.length 1) y.length=ps at lp gs er
  match ps,lp with
  | [p,q],_=>
   have g:∀w:Str,(glued w [p,q]).cps.toList=p.cps.toList++w.cps.toList++q.cps.toList:=fun w=>by
    show (p.cps++w.cps++q.cps).toList=_
    rw [ani,ani]
   exact ⟨p.cps.toList,q.cps.toList,by rw [<- g,gs],by rw [er,g]⟩
def anK (K:Frag)(i:Int)(y z:Str)(ta:TE):TE:=fun σ H Q=>ta σ H fun v H1=>∃p xs x,v=.ref p/\cT K H1 p xs/\mv xs i=some (.str x)/\(y.length==0)=false/\(y==z)=false/\x.length+z.length<=16777216/\Q (.str (rep1 x y z)) H1
theorem TB {X:Cx}{a:Expr}{ta:TE}{i:Int}{j j1 j2 j3:Nat}{y z:Str}{p1 tw apos q1 q2 q3 hJ:Pos}(ha:PE X a ta)
  (qO:attributeBase (.Subscript a (.Constant (.int i) j p1) tw) "replace" X.env (eval (.Subscript a (.Constant (.int i) j p1) tw) X.env)=eval (.Subscript a (.Constant (.int i) j p1) tw) X.env:=by rfl)
  (hs:subscripted (.Constant (.int i) j p1) false=fun v u=>operate [v,u] (getItem v u):=by rfl)
  (aiv:((backTo hJ (starEach [.Constant (.str y) j1 q1,.Constant (.str z) j2 q2,.Constant (.int 1) j3 q3] X.env)).all (fun x=> !x.1) && (backToKw hJ (keywordEach [] X.env)).all (fun x=>x.1.isSome)
   && decide (([.Constant (.str y) j1 q1,.Constant (.str z) j2 q2,.Constant (.int 1) j3 q3]:List Expr).length+([]:List Keyword).length+(if ([]:List Keyword).isEmpty then 0 else 1) < 30))=true:=by rfl)
  (K':(apos.endLine==hJ.line)=true:=by rfl):
  PE X (.Call (.Attribute (.Subscript a (.Constant (.int i) j p1) tw) "replace" apos) [.Constant (.str y) j1 q1,.Constant (.str z) j2 q2,.Constant (.int 1) j3 q3] [] hJ) (anK X.K i y z ta):=by
 intro pins s σ H Q I h
 refine wpAny_Call_method_late qO aiv K' rfl (Subscript_ (cV (ha pins s σ H _ I h) fun v s1 ⟨x0,H1,I1,r1,q⟩=>?_))
 obtain ⟨p,xs,x,rfl,hq,he,hy,hyz,hb,q⟩:=q
 cases r1
 refine wpAny_Constant_int ?_
 have I2:Inv X pins σ H1 {s1 with toks:=s1.toks+1}:=I1.tok _
 obtain ⟨its,r,pl,hz⟩:=I2.tuple hq
 obtain ⟨jj,h1,h2,h3,h4,h5⟩:=DO he
 obtain ⟨w,ew,BG⟩:=r.get h2
 have hl:=r.length
 have hn:=xo
 obtain ⟨t,rfl⟩:=BG
 refine subscriptTail_builtinR (x:=.str x t) pl.typeIs slot_tuple_getitem.lookup
  (getItem_tuple (j:=jj) pl (by omega) (by omega) (by rw [aei, <- hl];exact h1) (by simpa using ew) ⟨rfl,?_⟩) (congrFun (congrFun hs _) _)
 refine ⟨"str","str.replace",PySem.F.plainAttrs_str,PySem.F.slot_str_replace,PySem.F.type_str_replace,typeIs_str _ _ _,?_,?_⟩
 ·exact fun _ e=>nomatch e
 ·refine Calls.callWith_builtin (by rfl) (Calls.evalArgs_plain ?_)
  show wpAny _ _ (spliced [(false,eval (.Constant (.str y) j1 q1) X.env),(false,eval (.Constant (.str z) j2 q2) X.env),(false,eval (.Constant (.int 1) j3 q3) X.env)]) _ _ _
  refine Calls.spliced_cons (Calls.Constant_str ?_)
  refine Calls.spliced_cons (Calls.Constant_str ?_)
  refine Calls.spliced_cons (wpAny_Constant_int ?_)
  refine Calls.spliced_nil ?_
  refine UX hy (aot _) (aot _) (fun e=>absurd e (ab_ (ais _))) hyz hb fun t' k=>?_
  exact ⟨.str _,H1,(I1.tok _),⟨_,rfl⟩,q⟩
end Ty
set_option maxHeartbeats 4000000
namespace Ty
open PySem PySem.Spec PyProof.Rows L2
section
variable {X:Cx}
end
section
variable {D:Addr}{te:TE}{cap:L2.St}{H1:Hp}{Q:VK}
end
section
variable {X:Cx}
theorem ai2 {c:Expr}{a b:Stmt}{pos:Pos}{tc:TT}{ta tb:TSx}(hc:PT X.pq c tc)(ha:PSx X a ta)(hb:PSx X b tb):
  PSx X (.If c [a] [b] pos) (fun D E σ H=>tc σ H fun d H1=>if d=true then ta D E σ H1 else tb D E σ H1):=by
 intro pins s σ H D E I h
 refine wpAny_If (wpAny_mono (hc pins s σ H _ (I.pk _) h) (fun d s1 ⟨H1,I1,q1⟩=>?_) fun _ _ z=>z.elim)
 have I2:=I1.hG
 cases d with
 | true=>
  refine wpAny_execs_cons (wpAny_mono (ha pins s1 σ H1 D E I2 q1) (fun f s2 q=>?_) fun _ _ z=>z)
  cases f with
  | next=>exact wpAny_execs_nil q
  | ret v=>exact q
  | brk=>exact q
  | cont=>exact q
 | false=>
  refine wpAny_execs_cons (wpAny_mono (hb pins s1 σ H1 D E I2 q1) (fun f s2 q=>?_) fun _ _ z=>z)
  cases f with
  | next=>exact wpAny_execs_nil q
  | ret v=>exact q
  | brk=>exact q
  | cont=>exact q
end
end Ty
set_option maxHeartbeats 4000000
namespace PySem
open Builtin Builtin.Str
section
variable {prog:Program}{w:World}{A:Around}{E:γ}{s:Shared}
theorem zp:entryFor table "proto.unchain"=some Builtin.«proto.unchain»:=entryFor_of_tree (by kernel_rfl)
theorem UY {it l a:Addr}{i:Nat}{items}{ox:Obj}{vs:Μ}{Q:Option Value->Shared->Prop}(hh:A.handled=some (.ref a))(hx:s.heap.get? a=some ox)(hv:ox.data=.fields vs)(h2:vs[2]? =some .none)(hai:a≠it)
  (hit:s.heap.IsListIter it l i) (hl:s.heap.IsList l items) (hi:items[i]? =none)
  (hQ:∀h',Heap.ExtBut it s.heap h' ->Q none {s with heap:=h' }):wpAny (model prog w) A (pyNext (.ref it)) Q E s:=by
 obtain ⟨o,ho,hc,hd⟩:=id hit
 obtain ⟨ol,hol,_,nl,hdl⟩:=hl
 unfold pyNext
 refine wpAny_bind (wpAny_attempt (wpAny_callSpecial?_slot (name:=Str.ofString "__next__") hit.typeIs slot_listiter_next
  (wpAny_call_entry slot_listiter_next hit.typeIs entry_listiter_next ?_ (args_listiter_next _))))
 show wpAny _ _ (field (.ref it) 0 >>=_) _ _ s
 refine wpAny_bind (wpAny_field ho hd (x:=.ref l) rfl ?_)
 show wpAny _ _ (if (Value.ref l==Value.none)=true then _ else _) _ _ s
 rw [if_neg (show ¬ ((Value.ref l==Value.none)=true) from abr)]
 show wpAny _ _ (field (.ref it) 1 >>=_) _ _ s
 refine wpAny_bind (wpAny_field ho hd (x:=.int i 0) rfl ?_)
 show wpAny _ _ (seqItems? (.ref l) >>=_) _ _ s
 refine wpAny_bind (wpAny_seqItems hol hdl ?_)
 simp only [Int.toNat_natCast,hi]
 refine wpAny_bind (wpAny_rule (wpAny_bind (wpAny_setField ho hd (by simp) ?_)))
 show wpAny _ _ (newExc (.type "StopIteration") [] >>=_) _ _ _
 refine wpAny_bind ?_
 simp only [newExc,newTuple]
 refine wpAny_bind (wpAny_newObj_type ?_ (by size_fits))
 refine wpAny_bind (m:=firstArgMember _ _) (wpAny_of_eq (a:=Value.none) (by first | rfl | (simp only [firstArgMember];rfl)) ?_)
 refine wpAny_newObj_type ?_ (by size_fits)
 simp only [raiseNew]
 refine wpAny_bind (wpAny_handled ?_)
 rw [show A.in1.handled=some (.ref a) from hh]
 have k1:∀b o',b≠it->s.heap.get? b=some o' ->(s.heap.update it (Obj.mapFields fun x=>x.setIfInBounds 0 Value.none)).get? b=some o' :=fun b o' n e=>(Heap.get?_update_other _ _ (ac_ n)).trans e
 generalize s.heap.update it (Obj.mapFields fun x=>x.setIfInBounds 0 Value.none)=h1 at k1 ⊢
 have k2:∀b o',b≠it->s.heap.get? b=some o' ->(h1.push {cls:=Value.type "tuple",data:=Data.seq #[]}).get? b=some o' :=fun b o' n e=>Heap.get?_push_of_some _ (k1 b o' n e)
 generalize h1.push {cls:=Value.type "tuple",data:=Data.seq #[]}=h3 at k2 ⊢
 have ha3:=k2 a ox hai hx
 have Qx:a≠h3.objs.size:=ab_ (Heap.lt_size ha3)
 show wpAny _ _ (if (Value.ref a !=Value.ref h3.objs.size)=true then _ else _) _ _ _
 rw [if_pos (by simpa using Qx)]
 have hn:=Heap.get?_push_size h3 (o:={cls:=Value.type "StopIteration",data:=Data.fields (#[Value.ref h1.objs.size,Value.none,Value.none,Value.none,Value.bool false,Value.none]++ownMembersOf (Value.type "StopIteration") [])}) rfl
 have k4:∀b o',b≠it->s.heap.get? b=some o' ->(h3.push {cls:=Value.type "StopIteration",data:=Data.fields (#[Value.ref h1.objs.size,Value.none,Value.none,Value.none,Value.bool false,Value.none]++ownMembersOf (Value.type "StopIteration") [])}).get? b=some o' /\b≠h3.objs.size:=fun b o' n e=>⟨Heap.get?_push_of_some _ (k2 b o' n e),ab_ (Heap.lt_size (k2 b o' n e))⟩
 generalize h3.push {cls:=Value.type "StopIteration",data:=Data.fields (#[Value.ref h1.objs.size,Value.none,Value.none,Value.none,Value.bool false,Value.none]++ownMembersOf (Value.type "StopIteration") [])}=h4 at hn k4 ⊢
 refine wpAny_bind (wpAny_holding (wpAny_runValue (codeAny_builtin zp ?_)))
 show wpAny _ _ (field (.ref a) 2 >>=_) _ _ _
 refine wpAny_bind (wpAny_field (k4 a ox hai hx).1 hv h2 ?_)
 refine wpAny_pure ?_
 refine wpAny_bind (show wpAny _ _ (setField (.ref h3.objs.size) 2 (.ref a)) _ _ _ from wpAny_setField hn rfl (by simp;omega) ?_)
 refine wpAny_throw ?_
 refine wpAny_bind (wpAny_isInstance (T:="StopIteration") (b:=true) ⟨_,Heap.get?_update_self _ hn rfl,rfl⟩ isSubtype_stop ?_)
 refine wpAny_pure (hQ _ fun b o' n e=>?_)
 exact (Heap.get?_update_other _ _ (ac_ (k4 b o' n e).2)).trans (k4 b o' n e).1
end
end PySem
set_option maxHeartbeats 4000000
namespace Ty
open PySem PySem.Spec PyProof.Rows L2
open Builtin.Int (intBits)
theorem ME {prog:Program}{w:World}{A:Around}{a:Addr}(hh:A.handled=some (.ref a))(I ax:Addr)(Qx:ax≠I)(hai:a≠I)(items:Μ):
  Walks prog w A I [I,ax,a] [I] items.size (fun i v=>items[i]? =some v) (fun i h=>h.IsListIter I ax i/\h.IsList ax items/\∃ox vs,h.get? a=some ox/\ox.data=.fields vs/\vs[2]? =some .none) where
 sub:=fun b hb=>by simp at hb;simp [hb]
 frame:=fun _ _ _ st hk=>⟨st.1.at fun o e=>hk I (by simp) o e,st.2.1.at fun o e=>hk ax (by simp) o e,by
  obtain ⟨ox,vs,e,r⟩:=st.2.2
  exact ⟨ox,vs,hk a (by simp) ox e,r⟩⟩
 item:=fun i s Q E hi st hQ=>by
  refine wpAny_pyNext_list_item st.1 st.2.1 (x:=items[i]) (by simp [hi]) fun h' auM hs' =>?_
  obtain ⟨ox,vs,e,r⟩:=st.2.2
  exact hQ _ h' s.toks (by simp [hi]) ⟨auM,st.2.1.extBut hs'.extBut Qx,ox,vs,hs'.extBut a ox hai e,r⟩ fun b o hb e=>hs'.extBut b o (fun h=>hb (by simp [h])) e
 done:=fun s Q E st hQ=>by
  obtain ⟨ox,vs,e,r1,r2⟩:=st.2.2
  exact UY hh e r1 r2 hai st.1 st.2.1 (by simp) fun h' he' =>hQ h' s.toks fun b o hb e=>he' b o (fun h=>hb (by simp [h])) e
 self:=fun _ _ _ _ st hQ=>wpAny_pyIter_listiter st.1 hQ
def anM (K:Frag)(a:Addr):List V->Hp->VK->Prop:=fun xs H Q=>∃(p:Addr) (bs:List Bool) (cls:Value) (dx:ξ),xs=[.ref p]/\bq K H p (bs.map V.bl)/\H a=some (j' cls a dx)/\Q (.bl (bs.any id)) H
theorem UZ {X:Cx}{a:Addr}(hA:X.A.handled=some (.ref a)):i9 X (.builtin "any") (anM X.K a):=by
 intro pins s σ H xs us Q I r h
 obtain ⟨p,bs,cls,dx,rfl,hq,hex,q⟩:=h
 obtain ⟨u,rfl,r1⟩:=vals1 r
 cases r1
 obtain ⟨its,rv,pl,hz⟩:=I.list hq
 obtain ⟨⟨ox,vs,x1,_,x2,_,x3⟩,_⟩:=(show bL X.prog X.w H s.heap a (j' cls a dx) from I.bR a _ hex)
 refine call_any_walk (wpAny_pyIter_list pl.isList ?_)
 have Qx:p≠s.heap.objs.size:=by obtain ⟨o,ho,_⟩:=pl.isList;exact ab_ (Heap.lt_size ho)
 have I1:Inv X pins σ H {s with heap:=s.heap.push {cls:=.type "list_iterator",data:=.fields #[.ref p,.int 0 0]}}:=I.kept (t' :=s.toks) fun b o e=>Heap.get?_push_of_some _ e
 obtain ⟨f0,f1,f2,f3,f4,f5⟩:=I.zc (H' :=H) (abt s.heap.objs.size) (I.bR.fresh (abt _))
 have hl:its.length=bs.length:=by rw [<- rv.length,Wp]
 refine ⟨s.heap.objs.size,_,_,_,_,_,fun i=>(bs[i]?).getD true,rfl,ME (A:=X.A.in1) (a:=a) hA s.heap.objs.size p Qx (ab_ (Heap.lt_size x1)) its.toArray,⟨⟨_,Heap.get?_push_size _ rfl,rfl,rfl⟩,pl.isList.at fun o e=>Heap.get?_push_of_some _ e,ox,vs,Heap.get?_push_of_some _ x1,x2,x3⟩,?_,fun h' tk kk=>?_⟩
 ·intro i v s' Q' E' hv nS
  have hv' :its[i]? =some v:=by simpa using hv
  have hi:i < bs.length:=by rw [<- hl];exact (W1.mp hv').1
  have eb:(bs.map V.bl)[i]? =some (.bl bs[i]):=by rw [abx,gE hi];rfl
  obtain ⟨u,eu,ru⟩:=rv.get eb
  rw [hv'] at eu
  cases eu
  cases ru
  dsimp only at nS
  rw [gE hi] at nS
  exact wpAny_truthy_bool nS
 ·refine ⟨.bl (bs.any id),H,I1.turned (t' :=tk) (it:=s.heap.objs.size) (fun b o hb e=>kk b o (by simpa using hb) e) f0 f1 f3 f4 f5,?_,q⟩
  rw [show its.toArray.size=bs.length by simpa using hl,any_range]
  rfl
structure agA (P:Program)(w:World)(K:Frag)(mg:ε)(base:Heap)(k:Nat)(f:Addr)(fd:FuncData)(ps:ζ)(sp:Addr->Sp):Prop where
 len:∀a vs H Q E,sp a vs H Q E->vs.length=ps.length
 run:∀(A:Around) (outer:List Env) (s:Shared) (H:Hp) (args:Args) (us:θ) (vs:η) (Q:VK) (a:Addr),A.handled=some (.ref a)->oI k A->DL P w K mg base A outer s H->BindsTo s fd args (ps.zip us)->Vals vs us->sp a vs H Q E0->
  codeAny (model P w) A (.call (.ref f) args) (CR CX0 outer P w H s Q E0) s
theorem ai4 {P:Program}{w:World}{K:Frag}{mg:ε}{base:Heap}{k:Nat}{f:Addr}{name qual:Str}{params:Arguments}{body:List Stmt}{scope:Scope}{dV kV doc pm cdv ct oc:Value}{an od:ξ}
  {nj:τ} {N ps:ζ} {sp:Addr->Sp} (lk:K.lookup f=some ⟨oc,od,.func (fnOf name qual params body scope dV kV doc pm an cdv ct),nj⟩) (pj:codeIn K cdv qual=true) (S:av N ps scope)
  (len:∀a vs H Q E,sp a vs H Q E->vs.length=ps.length)
  (dP:∀(A:Around) (outer:List Env) (s:Shared) (H:Hp) (vs:η) (Q:VK) (a:Addr),A.handled=some (.ref a)->oI k (A.deeper (envOfC qual scope s.heap.objs.size f cdv))->sp a vs H Q E0->
   ∃t,PSs (cxh P w K mg base N qual scope f cdv A outer s H) body t/\t {nx:=fun _ H' =>Q .bN H',rt:=Q} (start N vs) H):
  agA P w K mg base (k+1) f (fnOf name qual params body scope dV kV doc pm an cdv ct) ps sp:=by
 refine ⟨len,fun A outer s H args us vs Q a hA hr e0 hb r vH=>?_⟩
 have hl:=len _ _ _ _ _ vH
 have KX:K.In s.heap:=e0.mod.XI.keeps fun b o e=>(e0.bs b o e).1
 have lim:s.heap.NoLimit:=e0.mod.nolimit.keeps fun b o e=>(e0.bs b o e).1
 have X':∀y∈ps.zip us,scope.names.lookup y.1=some .local\/(scope.names.lookup y.1=some .cell/\((cellsFrom (s.heap.objs.size+1) scope.names []).lookup y.1).isSome=true):=fun ⟨n,v⟩ hy=>by
  rcases S.par n (alD hy).1 with q | q
  ·exact .inl q
  ·exact .inr ⟨q,PySem.W.cellsFrom_some _ _ _ (.inl q)⟩
 refine codeAny_call_function (by have:=hr.dp;omega) (KX _ _ lk) rfl S.co S.gen rfl (PySem.W.codeRec_of KX pj) (hb _ _ _ _ ?_)
 refine wpAny_newFunctionEnv_cells S.kind X' fun env he s1 x=>?_
 subst he
 refine ⟨lim.keeps x.toInCall.keep,codeAny_func ?_⟩
 obtain ⟨t,ht,hq⟩:=dP A outer s H vs Q a hA (hr.deeper _) vH
 have e1:DL P w K mg base {A with handled:=none} outer s H:=⟨e0.frames,e0.mod,e0.bs,e0.Xv,e0.ph,e0.frf,e0.bR,e0.bare⟩
 have J:Inv (fu CX0 P w K mg base N qual scope f cdv {A with handled:=none} outer s H E0) [] (start N vs) H s1:=BF S rfl e1 hl r x
 have okh:(cxh P w K mg base N qual scope f cdv A outer s H).Ok:=⟨J.ok.mod,J.ok.kind,J.ok.glob,J.ok.blt,J.ok.above,J.ok.inj,J.ok.has,J.ok.cab,fun z=>(nomatch z),Around.frames_deeper e0.frames,J.ok.stk,J.ok.exf,J.ok.bs,J.ok.Xv,J.ok.Ql,J.ok.Ur,J.ok.ph,J.ok.frf⟩
 have I:Inv (cxh P w K mg base N qual scope f cdv A outer s H) [] (start N vs) H s1:=⟨okh,J.os,J.bare,J.base,J.loc,J.cell,J.free,J.iI,J.pin,J.bR,J.len⟩
 refine wpAny_mono (ht [] s1 (start N vs) H _ I hq) (fun fl s' hs=>?_) fun e s' hs=>hs.elim
 have fin:∀{σ' :L2.St} {H' :Hp} {v:V} {u:Value},Inv (cxh P w K mg base N qual scope f cdv A outer s H) [] σ' H' s' ->RelV v u->Q v H' ->CE outer P w H s Q u s' :=
  fun {σ' H' v u} J rv q=>⟨v,H',J.os,J.bare,J.base,J.bR,rv,q⟩
 cases fl with
 | ret u=>
  obtain ⟨v,σ',H',J,rv,q⟩:=hs
  exact fin J rv q
 | next=>
  obtain ⟨σ',H',J,q⟩:=hs
  exact fin (v:=V.bN) (u:=Value.none) J rfl q
 | brk=>
  obtain ⟨_,_,_,q⟩:=hs
  exact False.elim q
 | cont=>
  obtain ⟨_,_,_,q⟩:=hs
  exact False.elim q
structure FnA (P:Program)(w:World)(K:Frag)(mg:ε)(base:Heap)(k:Nat)(x:Str)(ps:ζ)(sp:Addr->Sp):Prop where
 ex:∃(f:Addr) (fd:FuncData),agA P w K mg base k f fd ps sp/\Binds K fd ps []/\mg x=some (.ref f)/\keepIn K (.ref f)=true
theorem Def.okA {P:Program}{w:World}{K:Frag}{mg:ε}{base:Heap}{x:Str}{st:Stmt}{N ps:ζ}{k:Nat}{sp:Addr->Sp}(D:Def K mg x st ps)(S:av N ps (aa st))(len:∀a vs H Q E,sp a vs H Q E->vs.length=ps.length)
  (dP:∀(f:Addr) (cdv:Value) (A:Around) (outer:List Env) (s:Shared) (H:Hp) (vs:η) (Q:VK) (a:Addr),A.handled=some (.ref a)->oI k (A.deeper (envOfC x (aa st) s.heap.objs.size f cdv))->sp a vs H Q E0->
   ∃t,PSs (cxh P w K mg base N x (aa st) f cdv A outer s H) (aq st) t/\t {nx:=fun _ H' =>Q .bN H',rt:=Q} (start N vs) H):FnA P w K mg base (k+1) x ps sp:=by
 obtain ⟨f,dV,oc,od,kV,doc,pm,an,cdv,ct,nj,lk,pj,kp,b,m⟩:=D.ex
 exact ⟨f,_,ai4 lk pj S len fun A outer s H vs Q a hA hr vH=>dP f cdv A outer s H vs Q a hA hr vH,b,m,kp⟩
theorem ai5 {X:Cx}{a:Addr}{k:Nat}{ps:ζ}{sp:Addr->Sp}{x:Str}{p pos:Pos}{e:Expr}{es:ο}{t:TA}(F:FnA X.prog X.w X.K X.mg X.base k x ps sp)(hA:X.A.handled=some (.ref a))(hr:oI k X.A)(ha:PA X (e::es) t)(hg:Gl X x:=by rfl)(vG:(x==("__debug__":Str))=false:=by decide)
  (he:starEach (e::es) X.env=(false,eval e X.env)::starEach es X.env:=by rfl) (wx:(backTo pos (starEach es X.env)).any (·.1)=false:=by rfl):
  PE X (.Call (.Name x p) (e::es) [] pos) (KU (sp a) [] E0 t):=by
 intro pins s σ H Q I h
 obtain ⟨f,fd,G,b,m,kp⟩:=F.ex
 refine wpAny_Call_Name_kw (gf I hg m ?_ vG)
 refine PySem.W.callWith_K (h₀:=X.base) I.ok.mod.XI kp (cV (ha pos pins s σ H _ I h) fun us s1 ⟨vs,H1,I1,r,q⟩=>⟨I1.iB,?_⟩) he wx
 dsimp only at q
 rw [ad_] at q
 have hl:us.length=ps.length:=by rw [<- r.length];exact G.len _ _ _ _ _ q
 have bt:=b s1 us I1.iB (by rw [ad_];exact hl)
 rw [ad_] at bt
 refine wpAny_call (codeAny_mono (G.run X.A X.stack s1 H1 ⟨us,[]⟩ us vs Q a hA hr I1.Uy bt r q) fun r s' hq=>?_)
 cases r with
 | error e=>exact False.elim hq
 | ok fl=>
  cases fl with
  | ret u=>exact I1.after hq
  | next=>exact False.elim hq
  | brk=>exact False.elim hq
  | cont=>exact False.elim hq
section
variable {X:Cx}{pins:δ}{σ:L2.St}{H H' :Hp}{s:Shared}
def auO (i:Nat)(cv:Value)(K:Frag)(ts:Addr->TS)(tr:TH):TH:=fun cls dx D σ H=>∃b,PySem.W.exmOne K cls cv=some b/\
 if b=true then ∀a,H a=none->ts a {nx:=fun σ2 H2=>D.nx (σ2.set i none) H2,rt:=D.rt,bk:=fun σ2 H2=>D.bk (σ2.set i none) H2,ct:=fun σ2 H2=>D.ct (σ2.set i none) H2} (σ.set i (some (.ref a))) (upd H a (j' cls a dx)) else tr cls dx D σ H
theorem ai6 {c n:Str}{cv:Value}{i:Nat}{b₀:Stmt}{MD:List Stmt}{np pos:Pos}{rest:List ExceptHandler}{ts:Addr->TS}{tr:TH}(hc:Qw X c cv)(hN:X.N.Nodup)(hi:X.N[i]? =some n)(hk:X.env.scope.names.lookup n=some .local)
  (ht:∀a,PSs (hnd X a) (b₀::MD) (ts a)) (hr:PH X rest tr) (hex:X.ex=[]:=by rfl):PH X (.ExceptHandler (some (.Name c np)) (some n) (b₀::MD) pos::rest) (auO i cv X.K ts tr):=by
 intro pins s σ H a cls dx D L h
 obtain ⟨b,hb,h⟩:=h
 have I:=L.inv
 refine wpAny_handleBy_cons (codeAny_handlers_test (hc.ld a pins s σ H np _ _ (DZ I) ?_)) (by intro q;cases q)
 obtain ⟨H0,s0,a0,B,I0,fl,da,un,ok,os,bare,th,tr'⟩:=L.ex
 obtain ⟨ob,hob,Qm⟩:=fl.there
 have LT:PySem.W.Looks (model X.prog X.w) s.heap (typeOf (.ref a)) cls:=by
  subst Qm
  exact (PySem.W.Looks.ld hob).andThen .now
 refine (PySem.W.exm_one I.iB LT hb).here ?_
 cases b with
 | false=>
  rw [if_neg abr] at h
  exact hr pins s σ H a cls dx D L h
 | true=>
  rw [if_pos rfl] at h
  refine codeAny_handlers_suite_as ?_
  refine wpAny_mono (Kp.any lq (lands_againW (Q:=fun _ s6=>∃h6,s6={s with heap:=h6}/\B.FlyingW X.stack a cls a0 h6/\s.heap.UpToSlots h6) (E:=fun _ _=>False) fl fun h6 fl6 up=>⟨h6,rfl,fl6,up⟩)) (fun _ s6 z=>?_) fun _ _ z=>z.elim
  obtain ⟨⟨h6,rfl,fl6,up⟩,kd⟩:=z
  have da6:DictAt h6 a dx:=da.kd kd
  have un6:=wD un fl.1 fl6.1 th fl.2.2.1 up
  have ok6:=qV ok fl.1 fl6.1 tr'
  have I6:Inv X pins σ H {s with heap:=h6}:=I0.KL (ch:=[]) os un6 ok6 bare fun b z=>absurd z (by simp)
  have fr:=L.free
  obtain ⟨oe,ws,hoe,auP,Zd,_⟩:=fl6.first
  obtain ⟨auQ,auR⟩:oe.dict=dx/\ws[2]? =some .none:=by
   obtain ⟨o',e',d',c'⟩:=da6
   rw [hoe] at e'
   cases e'
   exact ⟨d',(LG Zd).symm.trans c'⟩
  have ne:∀b u,H b=some u->b≠a:=fun b u e z=>by rw [z,fr] at e;cases e
  have anO:∀o,s0.heap.get? a≠some o:=fun o e=>by
   by_cases hb:a∈mx X.stack
   ·obtain ⟨_,o',e',nf⟩:=fl6.2.2.1.mem hb
    rw [hoe] at e'
    cases e'
    exact nf _ Zd
   ·obtain ⟨o',eB⟩:=th a o e hb
    rw [fl.2.1] at eB
    cases eB
  have I7:Inv X pins σ (upd H a (j' cls a dx)) {s with heap:=h6}:=by
   refine am7 I6 (fun o e=>?_) (fun p hp z=>?_) (fun z=>?_) (fun x c e z=>?_) fr (adS hoe auP Zd auQ auR)
   ·obtain ⟨o',e'⟩:=I0.base.there a o e (by rw [hex];simp)
    exact anO o' e'
   ·have q:=(I0.pin p hp).1
    rw [z] at q
    exact anO _ q
   ·obtain ⟨m,⟨oL,es,ep,ho,hd,_⟩,_⟩:=I6.loc
    rw [<- z,show ({s with heap:=h6}:Shared).heap.get? a=some oe from hoe] at ho
    cases ho
    rw [Zd] at hd
    cases hd
   ·obtain ⟨v,⟨oc,ho,hd⟩⟩:=I6.cell x c e
    rw [z,show ({s with heap:=h6}:Shared).heap.get? a=some oe from hoe] at ho
    cases ho
    rw [Zd] at hd
    cases hd
  refine xi I7 hN hi (.inl hk) (v:=.ref a) (u:=.ref a) rfl (fun s8 I8=>?_) (.inr hk)
  refine wpAny_mono (ht a pins s8 _ _ _ (DZ I8) (h a fr)) (fun f s9 q=>?_) fun _ _ z=>z.elim
  cases f with
  | next=>
   obtain ⟨σ2,H2,J,q⟩:=q
   exact wH (mJ I0.ok J) hN hi hk fun s' J' =>⟨_,_,J',q⟩
  | brk=>
   obtain ⟨σ2,H2,J,q⟩:=q
   exact wH (mJ I0.ok J) hN hi hk fun s' J' =>⟨_,_,J',q⟩
  | cont=>
   obtain ⟨σ2,H2,J,q⟩:=q
   exact wH (mJ I0.ok J) hN hi hk fun s' J' =>⟨_,_,J',q⟩
  | ret u=>
   obtain ⟨v,σ2,H2,J,r,q⟩:=q
   exact wH (mJ I0.ok J) hN hi hk fun s' J' =>⟨v,_,_,J',r,q⟩
end
section
variable {X:Cx}
end
section
variable {prog:Program}{w:World}{A:Around}{E:γ}{s:Shared}
end
section
variable {X:Cx}{pins:δ}{σ:L2.St}
end
variable {X:Cx}
section
variable {X:Cx}{o e:Expr}{es:ο}{to:TE}{t:TA}{name:Str}{apos hJ:Pos}{T id:String}{r:Ο}
end
theorem bg.ks {H H' :Hp}{D:Addr}{ys:η}(h0:H D=some (.lst ys))(ks:eh D H H'):bg H H' :=fun b xs r=>by
 rcases r with r | ⟨o',r⟩
 ·exact .inl (ks _ _ (fun e=>by rw [e,h0] at r;cases r) r)
 ·exact .inr ⟨o',ks _ _ (fun e=>by rw [e,h0] at r;cases r) r⟩
section
variable {X:Cx}{K:Frag}
end
section
variable {D:Addr}{te:TE}{cap:L2.St}{H1:Hp}{Q:VK}
end
end Ty
set_option maxHeartbeats 4000000
namespace Ty
def col (l:List Int)(j:Nat):Rat:=((l.getD j 0:Int):Rat)
end Ty
set_option maxHeartbeats 4000000
namespace Ty
open PySem PySem.Spec PyProof.Rows L2
section
variable {prog:Program}{w:World}{A:Around}{E:γ}{s:Shared}
end
section
variable {X:Cx}
end
section
variable {prog:Program}{w:World}{A:Around}{E:γ}{s:Shared}
end
section
variable {X:Cx}
end
section
variable {prog:Program}{w:World}{A:Around}{E:γ}{s:Shared}
end
section
variable {X:Cx}{pins:δ}{σ:L2.St}
end
inductive Ex2 {A0 A1:Type}(p:A0->A1->Prop):Prop where
 | mk (a0:A0) (a1:A1) (h:p a0 a1):Ex2 p
inductive Ex3 {A0 A1 A2:Type}(p:A0->A1->A2->Prop):Prop where
 | mk (a0:A0) (a1:A1) (a2:A2) (h:p a0 a1 a2):Ex3 p
inductive Ex5 {A0 A1 A2 A3 A4:Type}(p:A0->A1->A2->A3->A4->Prop):Prop where
 | mk (a0:A0) (a1:A1) (a2:A2) (a3:A3) (a4:A4) (h:p a0 a1 a2 a3 a4):Ex5 p
inductive Ex6 {A0 A1 A2 A3 A4 A5:Type}(p:A0->A1->A2->A3->A4->A5->Prop):Prop where
 | mk (a0:A0) (a1:A1) (a2:A2) (a3:A3) (a4:A4) (a5:A5) (h:p a0 a1 a2 a3 a4 a5):Ex6 p
inductive Ex7 {A0 A1 A2 A3 A4 A5 A6:Type}(p:A0->A1->A2->A3->A4->A5->A6->Prop):Prop where
 | mk (a0:A0) (a1:A1) (a2:A2) (a3:A3) (a4:A4) (a5:A5) (a6:A6) (h:p a0 a1 a2 a3 a4 a5 a6):Ex7 p
inductive Ex8 {A0 A1 A2 A3 A4 A5 A6 A7:Type}(p:A0->A1->A2->A3->A4->A5->A6->A7->Prop):Prop where
 | mk (a0:A0) (a1:A1) (a2:A2) (a3:A3) (a4:A4) (a5:A5) (a6:A6) (a7:A7) (h:p a0 a1 a2 a3 a4 a5 a6 a7):Ex8 p
section
variable {P:Program}{w:World}{K:Frag}{mg:ε}{base:Heap}{CX:sY}{N ps:ζ}{k:Nat}{sp:Sp}{st:Stmt}
theorem Def.oo {x:Str}(D:Def K mg x st ps)(S:av N ps (aa st))
  (dP:∀{f:Addr} {cdv:Value} {A:Around} {outer:List Env} {s:Shared} {vs:η} {Q:VK} {E:XK} (H:Hp),cF k (A.deeper (envOfC x (aa st) s.heap.objs.size f cdv))->sp vs H Q E->
   ∃t,PSs (fu CX P w K mg base N x (aa st) f cdv A outer s H E).pq (aq st) t/\t {nx:=fun _ H' =>Q .bN H',rt:=Q} (start N vs) H) (len:∀vs H Q E,sp vs H Q E->vs.length=ps.length:=by intro vs H Q E h;cases h;subst_vars;rfl):Fn P w K mg base CX (k+1) x ps sp:=D.ok S len fun _ _ _ _ _ H _ _ _ hr h=>dP H hr h
theorem Def.op {x:Str}(D:Def K mg x st ps)(S:av N ps (aa st))
  (dP:∀(f:Addr) (cdv:Value) (A:Around) (outer:List Env) (s:Shared) (H:Hp) (vs:η) (Q:VK) (E:XK),cF k (A.deeper (envOfC x (aa st) s.heap.objs.size f cdv))->sp vs H Q E->
   ∃t,PSs (fu CX P w K mg base N x (aa st) f cdv A outer s H E).pq (aq st) t/\t {nx:=fun _ H' =>Q .bN H',rt:=Q} (start N vs) H) (len:∀vs H Q E,sp vs H Q E->vs.length=ps.length:=by intro vs H Q E h;cases h;subst_vars;rfl):Fn P w K mg base CX (k+1) x ps sp:=D.ok S len dP
theorem d6 {name qual:Str}{f:Addr}{fd:FuncData}(F:lV K name qual st f fd)(S:av N ps (aa st))
  (dP:∀{cdv:Value} {A:Around} {outer:List Env} {s:Shared} {vs:η} {Q:VK} {E:XK} (H:Hp),cF k (A.deeper (envOfC qual (aa st) s.heap.objs.size f cdv))->sp vs H Q E->
   ∃t,PSs (gK P w K mg base N qual (aa st) f cdv A outer s H E).pq (aq st) t/\t {nx:=fun _ H' =>Q .bN H',rt:=Q} (start N vs) H) (len:∀vs H Q E,sp vs H Q E->vs.length=ps.length:=by intro vs H Q E h;cases h;subst_vars;rfl):bH P w K mg base (aV P w) (k+1) f fd ps sp:=ad' F S len fun _ _ _ _ H _ _ _ hr h=>dP H hr h
theorem q_Y (P:Program)(w:World){X:Cx}:Passes (aV P w) X.pq E0:=gQ aV.zg
theorem q_X {X:Cx}:Passes (aV P w) X.pq E0:=gQ aV.zg
end
section
variable {X:Cx}{i:Nat}{x y:Str}{a b c d e e1 e2 e3 e4 e5 elt target iter:Expr}{es ifs:ο}{te ta tb t1 t2 t3 t4 t5:TE}{wi:TI}{g:TG}{tt:TT}{pos pos' py tw p:Pos}{scope:Scope}{tn fr:ζ}{caps:Α}
theorem aO (hN:X.N.Nodup)(he:PE X e te)(hi:X.N[i]? =some x:=by rfl)(hx:Loc X.env.scope x:=by first | exact .inl rfl | exact .inr rfl)(hs:swapsWith e (some (.Name x pos')) pos.line X.env=pure false:=by rfl)(hf:X.fn x=true\/X.env.scope.names.lookup x=some .local:=by first | exact .inl rfl | exact .inr rfl | assumption):
  PS X (.Assign [.Name x pos'] e pos) (KN te (g9 i)):=ail hN hi hx he hs hf
theorem ku (hN:X.N.Nodup)(hi:X.N[i]? =some x:=by rfl)(hx:Loc X.env.scope x:=by first | exact .inl rfl | exact .inr rfl)(hf:X.fn x=true\/X.env.scope.names.lookup x=some .local:=by first | exact .inl rfl | exact .inr rfl | assumption):PG X (.Name x pos) (g9 i):=wq hN hi hx hf
theorem nU {r:R2}(hr:IxR X r)(ha:PE X a ta)(hb:PE X b tb)(hs:Ta b:=by exact fun _ _=>rfl):PE X (.Subscript a b pos) (tOp r ta tb):=Yb hr ha hb hs
theorem aE {op:CmpOp}{r:R2}(ho:mD X (compareOp op) r)(ha:PE X a ta)(hb:PE X b tb)(hm:behindInMarks op b=false:=by exact i_ _):PT X (.Compare a [op] [b] pos) (X8 (tOp r ta tb)):=wt ho ha hb hm
theorem aG (h1:PE X e1 t1)(s1:isStar e1=false:=by rfl):PA X [e1] (uS t1 zd):=mw h1 ja s1
theorem aU (h1:PE X e1 t1)(h2:PE X e2 t2)(s1:isStar e1=false:=by rfl)(s2:isStar e2=false:=by rfl):PA X [e1,e2] (uS t1 (uS t2 zd)):=mw h1 (aG h2 s2) s1
theorem dm (h1:PE X e1 t1)(h2:PE X e2 t2)(h3:PE X e3 t3)(s1:isStar e1=false:=by rfl)(s2:isStar e2=false:=by rfl)(s3:isStar e3=false:=by rfl):PA X [e1,e2,e3] (uS t1 (uS t2 (uS t3 zd))):=mw h1 (aU h2 h3 s2 s3) s1
theorem agB (h1:closureFor scope X.env=pure (bp X.env fr):=by exact rfl)(h2:∀y∈scope.names,y.2≠.cell:=by decide+kernel)(h3:scope.kind=.function:=by exact rfl)(h4:∀y∈scope.names,y.2=.local->scope.names.lookup y.1=some .local:=by decide+kernel)(h5:∀y∈scope.names,y.2=.free->y.1∈fr:=by decide+kernel)(h6:caps.map (fun i=>X.N[i]?)=fr.map some:=by exact rfl)
  (h7:jY X.env fr:=by repeat (first | exact trivial | refine ⟨by first | exact aq_ rfl | exact aol rfl,?_⟩)) (h8:jY (compEnvC scope [] 0 X.env) fr:=by repeat (first | exact trivial | refine ⟨by first | exact aq_ rfl | exact aol rfl,?_⟩)):Qy X scope fr caps:=⟨h1,h2,h3,h4,h5,h6,h7,h8⟩
theorem auT (hN:(tn++fr).Nodup)(h0:(tn++fr)[0]? =some y)(hx:∀C s H fp,Loc (LM X (tn++fr) scope (bp X.env fr) C s H fp).env.scope y)(hl:∀C s H fp,(LM X (tn++fr) scope (bp X.env fr) C s H fp).fn y=true\/(LM X (tn++fr) scope (bp X.env fr) C s H fp).env.scope.names.lookup y=some .local):∀C s H fp,PG (LM X (tn++fr) scope (bp X.env fr) C s H fp) (.Name y py) (g9 0):=fun C s H fp=>wq hN h0 (hx C s H fp) (hl C s H fp)
theorem nL (hi:PI X (.Name y py) iter wi)(he:∀{C s H fp},PE (LM X (tn++fr) scope (bp X.env fr) C s H fp) elt te)
  (hc:X.calm=true:=by rfl) (B:Qy X scope fr caps:=by exact agB) (hs:∀x,foldedSetIterable iter X.env x=pure x:=by intro _;rfl) (hN:(tn++fr).Nodup:=by decide+kernel) (h0:(tn++fr)[0]? =some y:=by rfl) (hx:∀C s H fp,Loc (LM X (tn++fr) scope (bp X.env fr) C s H fp).env.scope y:=by exact fun _ _ _ _=>.inl rfl) (hl:∀C s H fp,(LM X (tn++fr) scope (bp X.env fr) C s H fp).fn y=true\/(LM X (tn++fr) scope (bp X.env fr) C s H fp).env.scope.names.lookup y=some .local:=by intro _ _ _ _;first | exact .inl rfl | exact .inr rfl):PE X (.ListComp elt [⟨.Name y py,iter,[],0⟩] scope pos) (BM tn.length caps wi (g9 0) zk te):=adZ hc B hi (auT hN h0 hx hl) (fun _ _ _ _=>YC) (fun _ _ _ _=>he) hs
theorem ai7 (hN:X.N.Nodup)(hi:PI X target iter wi)(hg:∀C s H fp,PG (LM X (tn++fr) scope (bp X.env fr) C s H fp) target g)(ht:∀C s H fp,PF (LM X (tn++fr) scope (bp X.env fr) C s H fp) ifs tt)(he:∀{C s H fp},PE (LM X (tn++fr) scope (bp X.env fr) C s H fp) elt te)
  (hiN:X.N[i]? =some x:=by rfl) (hx:Loc X.env.scope x:=by first | exact .inl rfl | exact .inr rfl) (hc:X.calm=true:=by rfl) (B:Qy X scope fr caps:=by exact agB) (hsw:swapsWith (.ListComp elt [⟨target,iter,ifs,0⟩] scope pos) (some (.Name x py)) tw.line X.env=pure true:=by rfl)
  (hs:∀x,foldedSetIterable iter X.env x=pure x:=by intro _;rfl) (hf:X.fn x=true\/X.env.scope.names.lookup x=some .local:=by first | exact .inl rfl | exact .inr rfl | assumption):
  PS X (.Assign [.Name x py] (.ListComp elt [⟨target,iter,ifs,0⟩] scope pos) tw) (KN (BM tn.length caps wi g tt te) (g9 i)):=ad0 hN hiN hx hc B hi hg ht (fun _ _ _ _=>he) hsw hs hf
theorem xX {P:Program}{w:World}{E:XK}{k l:Nat}{ps:ζ}{sp:Sp}{t:TA}(F:Fn X.prog X.w X.K X.mg X.base (aV P w) k x ps sp)(hr:cF l X.A)(ha:PA X (e::es) t)(hk:k<=l:=by decide)(hx:Passes (aV P w) X E:=by exact gQ aV.zg)(hg:Gl X x:=by rfl)(vG:(x==("__debug__":Str))=false:=by decide)
  (he:starEach (e::es) X.env=(false,eval e X.env)::starEach es X.env:=by rfl) (wx:(backTo pos (starEach es X.env)).any (·.1)=false:=by rfl):PE X (.Call (.Name x p) (e::es) [] pos) (KU sp [] E t):=aR F (hr.mono hk) hx ha hg vG he wx
theorem Ze {P:Program}{w:World}{E:XK}{k l:Nat}{ps:ζ}{sp:Sp}{t:TA}(F:Fn X.prog X.w X.K X.mg X.base (aV P w) k x ps sp)(hr:cF l X.A)(ha:PA X (e::es) t)(hk:k<=l:=by decide)(hx:Passes (aV P w) X E:=by exact anm aV.zg rfl)(hg:Gl X x:=by rfl)(vG:(x==("__debug__":Str))=false:=by decide)
  (he:starEach (e::es) X.env=(false,eval e X.env)::starEach es X.env:=by rfl) (wx:(backTo pos (starEach es X.env)).any (·.1)=false:=by rfl):PE X (.Call (.Name x p) (e::es) [] pos) (KU sp [] E t):=aR F (hr.mono hk) hx ha hg vG he wx
end
end Ty
set_option maxHeartbeats 4000000
namespace T_k82
open PySem PySem.Spec PyProof.Rows L2 Ty
open Builtin.Int (intBits)
seal L2.PE L2.PS L2.PSs L2.PA
abbrev zaa:List Str:=["lay","NAME","NAME","NUMBER","NUMBER","MANY","NUMBER","NUMBER"]
abbrev zab:List Str:=["pin","NAME","NUMBER","NUMBER","roller","NUMBER","NUMBER"]
abbrev zac:List Str:=["self","pin"]
abbrev zad:List Str:=["pin","NAME","NUMBER","NUMBER","fixed"]
abbrev zae:List Str:=["lay","NAME","NAME","NUMBER","NUMBER"]
abbrev zaf:List Str:=["_law_cell"]
abbrev zag:List Str:=["ground","laying","row"]
abbrev zah:List Str:=["one","other"]
abbrev zai:List Str:=["_law_cell","_law_opened","_law_closed","_law_name_here","_law_parts"]
abbrev zaj:List Str:=["_law_cell","_law_part_here","_law_place"]
abbrev zak:List Str:=["_law_cell","_law_opened","_law_closed"]
abbrev zal:List Str:=["self","name","one","other"]
abbrev zam:List Str:=["self","name"]
abbrev zan:List Str:=["_law_cell","_law_opened","_law_closed","_law_name_here","_law_parts","_law_others_here"]
abbrev zao:List Str:=["ground","rows","prefix","spot"]
abbrev zap:List Str:=["_law_kind","_law_name_here","_law_parts"]
abbrev zaq:List Str:=["pin","NAME","NUMBER","NUMBER"]
abbrev zar:List Str:=["_law_script","_law_many","_law_rows_here","_law_text","_law_due_here","_law_found"]
abbrev zas:List Str:=["self"]
abbrev zat:List Str:=["bar","NAME","NAME","NAME"]
abbrev zau:List Str:=["top","bottom"]
abbrev zav:List Str:=["_law_cells","_law_rows_here","_law_opened","_law_closed","_law_cell","_law_row_here"]
abbrev zaw:List Str:=["_law_cell","_law_k"]
abbrev zax:List Str:=["_law_cell","_law_parts","_law_way","_law_both"]
abbrev zay:List Str:=["_law_cell","_law_row_here"]
abbrev zaz:List Str:=["piece","NAME"]
abbrev zaA:List Str:=["self","bar"]
abbrev zaB:List Str:=["ground","laying","row","prefix","apart","spot","below","name","pin"]
abbrev zaC:List Str:=["self","values"]
abbrev zaD:List Str:=["kind","word"]
abbrev zaE:List Str:=["text","rows","sheet","at","row","values"]
abbrev zaF:List Str:=["self","name","pin"]
abbrev zaG:List Str:=["word"]
abbrev zaH:List Str:=["self","prefix","spot"]
abbrev zaI:List Str:=["_law_script","_law_k"]
abbrev zaJ:List Str:=["_law_thing","_law_at_desk"]
abbrev zaK:List Str:=["text","parts","top","bottom","one"]
abbrev zaL:List Str:=["_law_cell","_law_good","_law_bad"]
abbrev zaM:List Str:=["text"]
abbrev zaN:List Str:=["_law_cell","_law_parts"]
abbrev zaO:List Str:=["number","pair"]
abbrev zaP:List Str:=["ground","rows","prefix","spot","laying","row"]
abbrev zaQ:List Str:=["self","name","x","y","hold"]
abbrev zaR:List Str:=["self","text"]
abbrev zaS:List Str:=["_law_cell","_law_k","_law_mixed","_law_j"]
abbrev zaT:List Str:=["self","name","x","y","hold","pin","spot"]
abbrev zaU:List Str:=["self","pieces"]
abbrev zaV:List Str:=["self","x","y"]
abbrev zaW:List Str:=["forms","row","words","form","values"]
abbrev zaX:List Str:=["ground","laying","row","one","other"]
abbrev zaY:List Str:=["end"]
abbrev zaZ:List Str:=["ground","laying","row","spot","pin"]
abbrev za0:List Str:=["_law_rows_here"]
abbrev za1:List Str:=["kinds","words"]
abbrev za2:List Str:=["rows","pieces"]
abbrev za3:List Str:=["self","at"]
abbrev za4:List Str:=["forms","row"]
abbrev za5:List Str:=["_law_cells"]
abbrev za6:List Str:=["values"]
theorem sq {N P:ζ}{sc:Scope}(a:sc.kind=.function:=by exact rfl)(b:sc.isCoroutine=false:=by exact rfl)(c:sc.isGenerator=false:=by exact rfl)(d:N.Nodup:=by decide+kernel)(e:N.take P.length=P:=by exact rfl)(f:∀x∈P,sc.names.lookup x=some .local\/sc.names.lookup x=some .cell:=by decide+kernel)(g:∀y∈sc.names,y.2≠.free:=by decide+kernel):av N P sc:=⟨a,b,c,d,e,f,g⟩
theorem pY (P:Program)(w:World){X:Cx}:Passes (aV P w) X.pq E0:=gQ aV.zg
theorem pX {P:Program}{w:World}{X:Cx}:Passes (aV P w) X.pq E0:=gQ aV.zg
theorem _root_.L2.cF.mo {j k:Nat}{A:Around}(r:L2.cF k A)(h:j<=k:=by decide):L2.cF j A:=r.mono h
theorem bh {X:Cx}{a:Expr}{ta:TE}{i j p1 p2}(h:PE X a ta):PE X (.Subscript a (.Constant (.int i) j p1) p2) (tOp (adK X.K) ta (tC (.int i))):=Yb Yc h ai (fun _ _=>rfl)
theorem cW {X:Cx}{a:Expr}{ta:TE}{i j p1 p2}(h:PE X a ta):PE X (.Subscript a (.Constant (.int i) j p1) p2) (tOp (adJ X.K) ta (tC (.int i))):=Yb d9 h ai (fun _ _=>rfl)
theorem _root_.L2.lV.tP {K:Frag}{x qual:Str}{st:Stmt}{f:Addr}{fd:FuncData}{ps:ζ}(F:L2.lV K x qual st f fd)
 (h:∀(kV doc pm:Value) (an:ξ) (cdv ct:Value) (us:θ),us.length=ps.length->bindArgs (fnOf x qual (ar st) (aq st) (aa st) .none kV doc pm an cdv ct) ⟨us,[]⟩=pure (ps.zip us):=by first | exact (fun _ _ _ _ _ _ us hl=>match us,hl with | [_],_=>rfl) | exact (fun _ _ _ _ _ _ us hl=>match us,hl with | [_,_],_=>rfl) | exact (fun _ _ _ _ _ _ us hl=>match us,hl with | [_,_,_],_=>rfl) | exact (fun _ _ _ _ _ _ us hl=>match us,hl with | [_,_,_,_],_=>rfl) | exact (fun _ _ _ _ _ _ us hl=>match us,hl with | [_,_,_,_,_],_=>rfl)):Binds K fd ps []:=F.binds h
inductive HXx (K:Frag)(x:Str)(st:Stmt):Prop|mk{f:Addr}{oc:Value}{od an:ξ}{nj:τ}{kV doc pm cdv ct:Value}(a:nsIn K mainGlobals x=some (some (.ref f)))(l:K.lookup f=some ⟨oc,od,.func (fnOf x x (ar st) (aq st) (aa st) .none kV doc pm an cdv ct),nj⟩)(c:codeIn K cdv x=true)(k:keepIn K (.ref f)=true):HXx K x st
inductive HXy (K:Frag)(C:Addr)(x q:Str)(st:Stmt):Prop|mk{f:Addr}{oc:Value}{od an:ξ}{nj:τ}{kV doc pm cdv ct:Value}(a:PySem.W.findIn K (.ref C) x=some (some (.ref f)))(i:PySem.W.isFn K (.ref f)=true)(l:K.lookup f=some ⟨oc,od,.func (fnOf x q (ar st) (aq st) (aa st) .none kV doc pm an cdv ct),nj⟩)(c:codeIn K cdv q=true)(k:keepIn K (.ref f)=true):HXy K C x q st
theorem jZ {K:Frag}{mg:ε}{h:Heap}{x:Str}{st:Stmt}{ps:ζ}(X:K.In h)(G:h.Ns mainGlobals mg)(H:HXx K x st)
 (b:∀(kV doc pm:Value) (an:ξ) (cdv ct:Value) (us:θ),us.length=ps.length->bindArgs (fnOf x x (ar st) (aq st) (aa st) .none kV doc pm an cdv ct) ⟨us,[]⟩=pure (ps.zip us):=by first | exact (fun _ _ _ _ _ _ us hl=>match us,hl with | [_],_=>rfl) | exact (fun _ _ _ _ _ _ us hl=>match us,hl with | [_,_],_=>rfl) | exact (fun _ _ _ _ _ _ us hl=>match us,hl with | [_,_,_],_=>rfl) | exact (fun _ _ _ _ _ _ us hl=>match us,hl with | [_,_,_,_],_=>rfl) | exact (fun _ _ _ _ _ _ us hl=>match us,hl with | [_,_,_,_,_],_=>rfl) | exact (fun _ _ _ _ _ _ us hl=>match us,hl with | [_,_,_,_,_,_],_=>rfl) | exact (fun _ _ _ _ _ _ us hl=>match us,hl with | [_,_,_,_,_,_,_],_=>rfl)):Def K mg x st ps:=have ⟨a,l,c,k⟩:=H;Def.of (bV l c k) ((bV l c k).binds b) (mg_of X G a)
def top (i:Nat):Stmt:=PySem.Challenge.pw_trussyard_k82_rows_that_are_none.main.body.getD i (.Pass ⟨0,0,0,0⟩)
abbrev b9:Stmt:=top 16
abbrev jg:Stmt:=top 17
abbrev dB:Stmt:=top 18
abbrev hU:Stmt:=top 19
abbrev MG:Stmt:=top 20
abbrev U0:Stmt:=top 21
abbrev fA:Stmt:=top 25
abbrev cG:Stmt:=top 26
abbrev c9:Stmt:=top 27
abbrev gn:Stmt:=top 38
abbrev fb:Stmt:=top 39
abbrev dC:Stmt:=top 44
abbrev gp:Stmt:=top 45
abbrev hV:Stmt:=top 46
abbrev hW:Stmt:=top 47
abbrev dr:Stmt:=top 48
abbrev bU:Stmt:=top 49
abbrev kz:Stmt:=top 50
abbrev gH:Stmt:=top 51
abbrev gw:Stmt:=top 56
abbrev kA:Stmt:=top 57
abbrev gA:Stmt:=top 58
abbrev iV:Stmt:=top 59
abbrev gI:Stmt:=top 60
abbrev hZ:Stmt:=top 61
abbrev cH:Stmt:=top 65
abbrev U1:Stmt:=top 69
abbrev fe:Stmt:=top 70
abbrev U2:Stmt:=top 71
abbrev U3:Stmt:=top 72
abbrev dE:Stmt:=top 73
abbrev cq:Stmt:=top 74
abbrev U4:Stmt:=top 75
abbrev dS:Stmt:=top 76
abbrev fC:Stmt:=top 77
abbrev cI:Stmt:=top 78
abbrev cO:Stmt:=top 79
abbrev fE:Stmt:=top 80
abbrev fF:Stmt:=top 81
abbrev gB:Stmt:=top 82
abbrev iW:Stmt:=top 83
abbrev fH:Stmt:=top 84
abbrev h9:Stmt:=top 85
abbrev dU:Stmt:=top 86
abbrev kC:Stmt:=top 87
abbrev U5:Stmt:=inClass (top 6) 0
abbrev cP:Stmt:=inClass (top 7) 0
abbrev U6:Stmt:=inClass (top 8) 0
abbrev cX:Stmt:=inClass (top 9) 0
abbrev cY:Stmt:=inClass (top 11) 0
abbrev dW:Stmt:=inClass (top 13) 0
abbrev U7:Stmt:=inClass (top 31) 0
abbrev tQ:Stmt:=inClass (top 31) 1
abbrev QM:Stmt:=inClass (top 31) 2
abbrev QN:Stmt:=inClass (top 31) 3
abbrev U8:Stmt:=inClass (top 31) 4
abbrev U9:Stmt:=inClass (top 31) 7
abbrev U_:Stmt:=inClass (top 31) 9
abbrev aed:Stmt:=inClass (top 33) 0
abbrev U':Stmt:=inClass (top 34) 0
abbrev Va:Stmt:=inClass (top 34) 1
abbrev Vb:Stmt:=inClass (top 35) 0
abbrev dX:Stmt:=inClass (top 42) 0
abbrev b_:Stmt:=inClass (top 42) 1
abbrev dY:Stmt:=inClass (top 43) 0
abbrev cb:Stmt:=inClass (top 43) 1
abbrev bF:Stmt:=inClass (top 43) 2
abbrev bW:Stmt:=inClass (top 43) 3
abbrev cQ:Stmt:=inClass (top 43) 4
abbrev fJ:Stmt:=inClass (top 64) 0
abbrev cn:Stmt:=inClass (top 64) 1
abbrev fK:Stmt:=inClass (top 64) 2
abbrev fh:Stmt:=inClass (top 67) 0
section
variable {P:Program}{w:World}{K:Frag}{mg:ε}{base:Heap}{CX:sY}
structure Okn (k:Nat)(q:Int×Int):Prop where
 pos:0 < q.2
 top:intBits q.1<=k
 bot:intBits q.2<=k
theorem aT {H:Hp}{p:Addr}(h:H p=none)(o:HO):az H (upd H p o):=fun b u q=>by rw [ah (ak q h)];exact q
theorem nw {H H' :Hp}{l:Addr}{o:HO}(n:H l=none)(e:upd H l o=H'):az H H' /\H' l=some o:=by subst e;exact ⟨aT n o,aj⟩
def gives (H:Hp)(Q:VK)(q:Int×Int):Prop:=∀(p:Addr) (H' :Hp),az H H' ->H' p=some (.tup [.int q.1,.int q.2])->Q (.ref p) H'
inductive xY (vs:η)(H:Hp)(Q:VK)(E_:XK):Prop where
 | mk (a b:Int) (_:vs=[.int a,.int b]) (_:Q (.int (gz a b)) H):xY vs H Q E_
def addQ (x y:Int×Int):Int×Int:=low (x.1*y.2+y.1*x.2) (x.2*y.2)
def mulQ (x y:Int×Int):Int×Int:=low (x.1*y.1) (x.2*y.2)
theorem TC {x y:Int×Int}{k l:Nat}(hx:Okn k x)(hy:Okn l y):x.2*y.2≠0:=ajE (alT hx.pos hy.pos)
theorem wM {a b:V}:mv [a,b] 0=some a:=rfl
theorem TF {a b:V}:mv [a,b] 1=some b:=rfl
theorem TK:av ["one","other","left"] zah (aa U0):=sq
theorem anQ (D:Def K mg "greatest_shared" U0 zah)(Zf:mg "abs"=none):Fn P w K mg base CX 1 "greatest_shared" zah xY:=by
 refine D.oo TK fun H hr h=>?_
 obtain ⟨a,b,rfl,q⟩:=h
 refine ⟨_,(ae (XW PassesOwn.never (aE uQ (pv 1) ai) (ae (aO (i:=2) TK.nd (aC aS (pv 0) (pv 1)))
   (ae (aO (i:=0) TK.nd (pv 1))
   (ag (aO (i:=1) TK.nd (pv 2))))))
  (ag (aA (aL X9 rfl Zf am4 (aG (pv 0)))))),?_⟩
 refine X3 (fun σ H' =>Ex3 fun (x y:Int) (l:Η)=>σ=[some (.int x),some (.int y),l]/\H' =H/\af1 x y=af1 a b) (fun σ _=>match σ with | [_,some (.int y),_]=>y.natAbs | _=>0) ⟨a,b,none,rfl,rfl,rfl⟩ ?_ ?_
 ·rintro σ H' ⟨x,y,l,rfl,rfl,g⟩
  refine ⟨_,rfl,rfl,_,rfl,?_⟩
  refine aI (fun c=>?_) (fun c=>?_)
  ·have hy:y≠0:=by
    intro z
    subst z
    simp at c
   refine ⟨_,rfl,_,rfl,_,_,rfl,rfl,hy,?_⟩
   refine ⟨_,rfl,_,rfl,?_⟩
   exact ⟨⟨_,_,_,rfl,rfl,by rw [Yh];exact g⟩,UD hy⟩
  ·have hy:y=0:=by
    have:=adv.mpr c
    simp at this
    exact this
   subst hy
   refine ⟨_,rfl,x,rfl,?_⟩
   have e:(if x < 0 then -x else x)=gz a b:=by
    rw [Int.gcd_zero_right] at g
    unfold gz
    rw [<- g]
    split <;> omega
   rw [e]
   exact q
 ·rintro σ H' Q1 Q2 h ⟨v,e1,e2,k,ek,z⟩
  exact ⟨v,e1,e2,k,ek,h _ _ z⟩
inductive kE (vs:η)(H:Hp)(Q:VK)(E_:XK):Prop where
 | mk (t b:Int) (_:vs=[.int t,.int b]) (_:b≠0) (_:gives H Q (low t b)):kE vs H Q E_
theorem Zg:av ["top","bottom","shared"] zau (aa MG):=sq
theorem anR (ht:P.given.tree=none)(D:Def K mg "lowest_terms" MG zau)(auU:Fn P w K mg base (aV P w) 1 "greatest_shared" zah xY):Fn P w K mg base (aV P w) 33 "lowest_terms" zau kE:=by
 refine D.op Zg fun f cdv A outer s H vs Q E hr h=>?_
 obtain ⟨t,b,rfl,hb,q⟩:=h
 have Zh:∃tt,PSs (fu (aV P w) P w K mg base ["top","bottom","shared"] "lowest_terms" (aa MG) f cdv A outer s H E).pq ((aq MG).drop 2) tt/\∀g:Int,g=sg t b->tt {nx:=fun _ H' =>Q .bN H',rt:=Q} [some (.int t),some (.int b),some (.int g)] H:=by
  refine ⟨_,(ag (aA (a_ (aU (aC (LX ht (Ty.cF.py hr (by decide)) rfl rfl rfl rfl rfl) (pv 0) (pv 2)) (aC (LX ht (Ty.cF.py hr (by decide)) rfl rfl rfl rfl rfl) (pv 1) (pv 2)))))),?_⟩
  rintro g rfl
  have c:=BI (t:=t) hb
  refine ⟨_,rfl,_,rfl,_,_,rfl,rfl,c,_,rfl,_,rfl,_,_,rfl,rfl,c,(by show 2<=sizeLine;decide),fun p hp=>?_⟩
  exact q p _ (aT hp _) aj
 obtain ⟨t2,p2,q2⟩:=Zh
 refine ⟨_,(ae (aO (i:=2) Zg.nd (xX auU hr (aU (pv 0) (pv 1)))) (ae (aK (aE AX (pv 1) ai) (ag (aO (i:=2) Zg.nd (S5 DK (pv 2)))) ay) p2)),?_⟩
 refine ⟨_,rfl,_,rfl,t,b,rfl,?_⟩
 refine ⟨_,rfl,_,_,rfl,rfl,_,rfl,?_⟩
 refine aI (fun c=>?_) (fun c=>?_)
 ·refine ⟨_,rfl,_,rfl,q2 _ ?_⟩
  have c' :b < 0:=of_decide_eq_true c
  unfold sg
  rw [if_pos c']
 ·refine q2 _ ?_
  have c' :¬ b < 0:=of_decide_eq_false (adv.mpr c)
  unfold sg
  rw [if_neg c']
inductive xZ (K:Frag)(f:Int×Int->Int×Int->Int×Int)(vs:η)(H:Hp)(Q:VK)(E_:XK):Prop where
 | mk (u v:V) (x y:Int×Int) (_:vs=[u,v]) (_:sZ K H u x) (_:sZ K H v y) (_:Okn 100000 x) (_:Okn 100000 y) (_:gives H Q (f x y)):xZ K f vs H Q E_
theorem Vc:av zah zah (aa jg):=sq
theorem Vd (hM:j_ CX)(D:Def K mg "sum_of" jg zah)(Ve:Fn P w K mg base CX 33 "lowest_terms" zau kE):Fn P w K mg base CX 34 "sum_of" zah (xZ K addQ):=by
 refine D.op Vc fun f cdv A outer s H vs Q E hr h=>?_
 obtain ⟨u,v,x,y,rfl,⟨p1,rfl,h1⟩,⟨p2,rfl,h2⟩,k1,k2,q⟩:=h
 have px:=gQ (X:=fu CX P w K mg base zah "sum_of" (aa jg) f cdv A outer s H E) hM
 refine ⟨_,(ag (aA (aR Ve hr.mo px (aU (aC pC (aC iL (bh (pv 0)) (bh (pv 1))) (aC iL (bh (pv 1)) (bh (pv 0)))) (aC iL (bh (pv 0)) (bh (pv 1))))))),?_⟩
 have b1:=k1.top
 have b2:=k1.bot
 have b3:=k2.top
 have b4:=k2.bot
 have c:∀{i j:Int},intBits i<=100000->intBits j<=100000->LB i j:=fun a b=>⟨ir a (by decide),ir b (by decide)⟩
 refine ⟨_,rfl,p1,_,_,_,rfl,rfl,h1,wM,_,rfl,p2,_,_,_,rfl,rfl,h2,TF,_,_,rfl,rfl,c b1 b4,?_⟩
 refine ⟨_,rfl,p2,_,_,_,rfl,rfl,h2,wM,_,rfl,p1,_,_,_,rfl,rfl,h1,TF,_,_,rfl,rfl,c b3 b2,?_⟩
 refine ⟨_,_,rfl,rfl,?_⟩
 refine ⟨_,rfl,p1,_,_,_,rfl,rfl,h1,TF,_,rfl,p2,_,_,_,rfl,rfl,h2,TF,_,_,rfl,rfl,c b2 b4,?_⟩
 exact ⟨_,_,rfl,TC k1 k2,q⟩
theorem zq:av zah zah (aa dB):=sq
theorem zr (hM:j_ CX)(D:Def K mg "product_of" dB zah)(Ve:Fn P w K mg base CX 33 "lowest_terms" zau kE):Fn P w K mg base CX 34 "product_of" zah (xZ K mulQ):=by
 refine D.op zq fun f cdv A outer s H vs Q E hr h=>?_
 obtain ⟨u,v,x,y,rfl,⟨p1,rfl,h1⟩,⟨p2,rfl,h2⟩,k1,k2,q⟩:=h
 have px:=gQ (X:=fu CX P w K mg base zah "product_of" (aa dB) f cdv A outer s H E) hM
 refine ⟨_,(ag (aA (aR Ve hr.mo px (aU (aC iL (bh (pv 0)) (bh (pv 1))) (aC iL (bh (pv 0)) (bh (pv 1))))))),?_⟩
 have b1:=k1.top
 have b2:=k1.bot
 have b3:=k2.top
 have b4:=k2.bot
 have c:∀{i j:Int},intBits i<=100000->intBits j<=100000->LB i j:=fun a b=>⟨ir a (by decide),ir b (by decide)⟩
 refine ⟨_,rfl,p1,_,_,_,rfl,rfl,h1,wM,_,rfl,p2,_,_,_,rfl,rfl,h2,wM,_,_,rfl,rfl,c b1 b3,?_⟩
 refine ⟨_,rfl,p1,_,_,_,rfl,rfl,h1,TF,_,rfl,p2,_,_,_,rfl,rfl,h2,TF,_,_,rfl,rfl,c b2 b4,?_⟩
 exact ⟨_,_,rfl,TC k1 k2,q⟩
inductive x5 (K:Frag)(f:Rat->Rat->Rat)(vs:η)(H:Hp)(Q:VK)(E_:XK):Prop where
 | mk (u v:V) (x y:Rat) (_:vs=[u,v]) (_:oK K H u x) (_:oK K H v y) (_:Sz 100000 x) (_:Sz 100000 y) (_:gives H Q (qr (f x y))):x5 K f vs H Q E_
theorem EM {k:Nat}{r:Rat}(h:Sz k r):Okn k (qr r):=⟨jf r,h.top,h.bot⟩
theorem ai8 {k:Nat}{x:Str}{ps:ζ}(F:Fn P w K mg base CX k x ps (xZ K addQ)):Fn P w K mg base CX k x ps (x5 K fun a b=>a+b):=by
 obtain ⟨f,fd,G,r⟩:=F.ex
 refine ⟨f,fd,G.imp fun vs H Q E h=>?_,r⟩
 obtain ⟨u,v,a,b,e,h1,h2,k1,k2,q⟩:=h
 refine ⟨u,v,qr a,qr b,e,h1,h2,EM k1,EM k2,?_⟩
 unfold addQ
 rw [Y7]
 exact q
theorem ai9 {k:Nat}{x:Str}{ps:ζ}(F:Fn P w K mg base CX k x ps (xZ K mulQ)):Fn P w K mg base CX k x ps (x5 K fun a b=>a*b):=by
 obtain ⟨f,fd,G,r⟩:=F.ex
 refine ⟨f,fd,G.imp fun vs H Q E h=>?_,r⟩
 obtain ⟨u,v,a,b,e,h1,h2,k1,k2,q⟩:=h
 refine ⟨u,v,qr a,qr b,e,h1,h2,EM k1,EM k2,?_⟩
 unfold mulQ
 rw [Y8]
 exact q
def Zi (K:Frag)(H:Hp)(Q:VK)(p:Rat×Rat):Prop:=∀(v:V) (H' :Hp),az H H' ->wL K H' v p->Q v H'
inductive x6 (K:Frag)(f:Rat->Rat->Rat)(vs:η)(H:Hp)(Q:VK)(E_:XK):Prop where
 | mk (u v:V) (x y:Rat×Rat) (_:vs=[u,v]) (_:wL K H u x) (_:wL K H v y) (_:Sz 100000 x.1) (_:Sz 100000 x.2) (_:Sz 100000 y.1) (_:Sz 100000 y.2) (_:Zi K H Q (f x.1 y.1,f x.2 y.2)):x6 K f vs H Q E_
theorem MI:av zah zah (aa gn):=sq
theorem MJ (hM:j_ CX)(D:Def K mg "pair_sum" gn zah)(ML:Fn P w K mg base CX 34 "sum_of" zah (x5 K fun a b=>a+b)):Fn P w K mg base CX 35 "pair_sum" zah (x6 K fun a b=>a+b):=by
 refine D.op MI fun f cdv A outer s H vs Q E hr h=>?_
 obtain ⟨u,v,x,y,rfl,⟨p1,a1,a2,rfl,h1,n1,n2⟩,⟨p2,b1,b2,rfl,h2,m1,m2⟩,k1,k2,l1,l2,q⟩:=h
 have px:=gQ (X:=(fu (aV P w) P w K mg base zah "pair_sum" (aa gn) f cdv A outer s H E)) hM
 refine ⟨_,(ag (aA (a_ (aU (aR ML hr.mo px (aU (bh (pv 0)) (bh (pv 1)))) (aR ML hr.mo px (aU (bh (pv 0)) (bh (pv 1)))))))),?_⟩
 refine ⟨_,rfl,p1,_,_,_,rfl,rfl,h1,wM,_,rfl,p2,_,_,_,rfl,rfl,h2,wM,a1,b1,_,_,rfl,n1,m1,k1,l1,fun c1 H1 s1 e1=>?_⟩
 refine ⟨_,rfl,p1,_,_,_,rfl,rfl,Ty.az.km s1 h1,TF,_,rfl,p2,_,_,_,rfl,rfl,Ty.az.km s1 h2,TF,a2,b2,_,_,rfl,n2.same s1,m2.same s1,k2,l2,fun c2 H2 s2 e2=>?_⟩
 refine ⟨(by show 2<=sizeLine;decide),fun c3 n3=>?_⟩
 have s3:=aT n3 (.tup [.ref c1,.ref c2])
 exact q (.ref c3) _ (fun b o z=>s3 _ _ (s2 _ _ (s1 _ _ z))) ⟨c3,_,_,rfl,cT.of aj,⟨c1,rfl,cT.of (s3 _ _ (s2 _ _ e1))⟩,⟨c2,rfl,cT.of (s3 _ _ e2)⟩⟩
inductive mO (K:Frag)(vs:η)(H:Hp)(Q:VK)(E_:XK):Prop where
 | mk (u v:V) (x:Rat) (y:Rat×Rat) (_:vs=[u,v]) (_:oK K H u x) (_:wL K H v y) (_:Sz 100000 x) (_:Sz 100000 y.1) (_:Sz 100000 y.2) (_:Zi K H Q (x*y.1,x*y.2)):mO K vs H Q E_
theorem EN:av zaO zaO (aa fb):=sq
theorem EO (hM:j_ CX)(D:Def K mg "stretched" fb zaO)(ra:Fn P w K mg base CX 34 "product_of" zah (x5 K fun a b=>a*b)):Fn P w K mg base CX 35 "stretched" zaO (mO K):=by
 refine D.op EN fun f cdv A outer s H vs Q E hr h=>?_
 obtain ⟨u,v,x,y,rfl,n0,⟨p2,b1,b2,rfl,h2,m1,m2⟩,k1,l1,l2,q⟩:=h
 have px:=gQ (X:=(fu (aV P w) P w K mg base zaO "stretched" (aa fb) f cdv A outer s H E)) hM
 refine ⟨_,(ag (aA (a_ (aU (aR ra hr.mo px (aU (pv 0) (bh (pv 1)))) (aR ra hr.mo px (aU (pv 0) (bh (pv 1)))))))),?_⟩
 refine ⟨_,rfl,_,rfl,p2,_,_,_,rfl,rfl,h2,wM,u,b1,_,_,rfl,n0,m1,k1,l1,fun c1 H1 s1 e1=>?_⟩
 refine ⟨_,rfl,_,rfl,p2,_,_,_,rfl,rfl,Ty.az.km s1 h2,TF,u,b2,_,_,rfl,n0.same s1,m2.same s1,k1,l2,fun c2 H2 s2 e2=>?_⟩
 refine ⟨(by show 2<=sizeLine;decide),fun c3 n3=>?_⟩
 have s3:=aT n3 (.tup [.ref c1,.ref c2])
 exact q (.ref c3) _ (fun b o z=>s3 _ _ (s2 _ _ (s1 _ _ z))) ⟨c3,_,_,rfl,cT.of aj,⟨c1,rfl,cT.of (s3 _ _ (s2 _ _ e1))⟩,⟨c2,rfl,cT.of (s3 _ _ e2)⟩⟩
inductive fT (C:Addr)(f:Str)(vs:η)(H:Hp)(Q:VK)(E_:XK):Prop where
 | mk (a:Addr) (v:V) (_:vs=[.ref a,v]) (_:H a=some (ke C a none)) (_:∀(d:Addr) (H' :Hp),(∀b o,b≠a->H b=some o->H' b=some o)->H d=none->H' d=some (Py d [(f,v)])->H' a=some (ke C a (some d))->Q .bN H'):fT C f vs H Q E_
def bS (H:Hp)(E:XK)(C:Addr)(f:Str)(v:V):Prop:=∀(d:Addr) (H' :Hp),az H H' ->H d=none->H' d=some (Py d [(f,v)])->E (.ref C) (some d) H'
theorem bS.go {H:Hp}{E:XK}{C:Addr}{f:Str}{v:V}(h:bS H E C f v):∀e,H e=none->fT C f [.ref e,v] (upd H e (ke C e none)) (fun v' H2=>v' =.bN/\∃dx,H2 e=some (ke C e dx)/\E (.ref C) dx (qX H2 e)) E0:=fun e ne=>by
 refine ⟨e,v,rfl,aj,fun d H' k nd hd he=>⟨rfl,some d,he,?_⟩⟩
 have de:d≠e:=fun z=>by rw [z,aj] at nd;cases nd
 rw [ah de] at nd
 refine h d (qX H' e) (fun b o z=>?_) nd ?_
 ·have be:b≠e:=ak z ne
  rw [fW be]
  exact k b o be (by rw [ah be];exact z)
 ·rw [fW de]
  exact hd
theorem agC (f:Str)(v:V):ady f [(f,v)]=some v:=by simp [ady]
theorem anS:av zac zac (aa U5):=sq
theorem anT {f:Addr}{fd:FuncData}{C Y:Addr}(F:lV K "__init__" "PinThere.__init__" U5 f fd)(hY:uW K Y)(jF:mg "YardError"=some (.ref Y))(xf:TyExc.mK K C "pin")(hv:PySem.W.mroIn K C (.type "ValueError")=some true):bH P w K mg base (aV P w) 1 f fd zac (fT C "pin"):=by
 refine d6 F anS fun H hr h=>?_
 obtain ⟨a,v,rfl,ea,q⟩:=h
 refine ⟨_,(ae (bj (nk hY jF (aU (pv 0) (pv 1))))
  (ag (nv (pv 0) (pv 1) rfl))),?_⟩
 refine ⟨_,rfl,_,rfl,a,C,none,[v],rfl,ea,xf.k,hv,(by show 1<=sizeLine;decide),?_⟩
 refine ⟨_,rfl,_,rfl,a,C,rfl,xf,.inl ⟨ea,fun d nd ne=>?_⟩⟩
 refine q d _ (fun b o n e=>by rw [ah n,ah (ak e nd)];exact e) nd ?_ aj
 rw [ah ne,aj]
theorem rf:av zac zac (aa cP):=sq
theorem rg {f:Addr}{fd:FuncData}{C Y:Addr}(F:lV K "__init__" "SpotTaken.__init__" cP f fd)(hY:uW K Y)(jF:mg "YardError"=some (.ref Y))(xf:TyExc.mK K C "pin")(hv:PySem.W.mroIn K C (.type "ValueError")=some true):bH P w K mg base (aV P w) 1 f fd zac (fT C "pin"):=by
 refine d6 F rf fun H hr h=>?_
 obtain ⟨a,v,rfl,ea,q⟩:=h
 refine ⟨_,(ae (bj (nk hY jF (aU (pv 0) (pv 1))))
  (ag (nv (pv 0) (pv 1) rfl))),?_⟩
 refine ⟨_,rfl,_,rfl,a,C,none,[v],rfl,ea,xf.k,hv,(by show 1<=sizeLine;decide),?_⟩
 refine ⟨_,rfl,_,rfl,a,C,rfl,xf,.inl ⟨ea,fun d nd ne=>?_⟩⟩
 refine q d _ (fun b o n e=>by rw [ah n,ah (ak e nd)];exact e) nd ?_ aj
 rw [ah ne,aj]
theorem anU:av zac zac (aa U6):=sq
theorem anV {f:Addr}{fd:FuncData}{C Y:Addr}(F:lV K "__init__" "NoPin.__init__" U6 f fd)(hY:uW K Y)(jF:mg "YardError"=some (.ref Y))(xf:TyExc.mK K C "pin")(hv:PySem.W.mroIn K C (.type "ValueError")=some true):bH P w K mg base (aV P w) 1 f fd zac (fT C "pin"):=by
 refine d6 F anU fun H hr h=>?_
 obtain ⟨a,v,rfl,ea,q⟩:=h
 refine ⟨_,(ae (bj (nk hY jF (aU (pv 0) (pv 1))))
  (ag (nv (pv 0) (pv 1) rfl))),?_⟩
 refine ⟨_,rfl,_,rfl,a,C,none,[v],rfl,ea,xf.k,hv,(by show 1<=sizeLine;decide),?_⟩
 refine ⟨_,rfl,_,rfl,a,C,rfl,xf,.inl ⟨ea,fun d nd ne=>?_⟩⟩
 refine q d _ (fun b o n e=>by rw [ah n,ah (ak e nd)];exact e) nd ?_ aj
 rw [ah ne,aj]
theorem tR:av zaA zaA (aa cX):=sq
theorem tS {f:Addr}{fd:FuncData}{C Y:Addr}(F:lV K "__init__" "BarThere.__init__" cX f fd)(hY:uW K Y)(jF:mg "YardError"=some (.ref Y))(xf:TyExc.mK K C "bar")(hv:PySem.W.mroIn K C (.type "ValueError")=some true):bH P w K mg base (aV P w) 1 f fd zaA (fT C "bar"):=by
 refine d6 F tR fun H hr h=>?_
 obtain ⟨a,v,rfl,ea,q⟩:=h
 refine ⟨_,(ae (bj (nk hY jF (aU (pv 0) (pv 1))))
  (ag (nv (pv 0) (pv 1) rfl))),?_⟩
 refine ⟨_,rfl,_,rfl,a,C,none,[v],rfl,ea,xf.k,hv,(by show 1<=sizeLine;decide),?_⟩
 refine ⟨_,rfl,_,rfl,a,C,rfl,xf,.inl ⟨ea,fun d nd ne=>?_⟩⟩
 refine q d _ (fun b o n e=>by rw [ah n,ah (ak e nd)];exact e) nd ?_ aj
 rw [ah ne,aj]
theorem tT:av zaA zaA (aa cY):=sq
theorem tU {f:Addr}{fd:FuncData}{C Y:Addr}(F:lV K "__init__" "NoLength.__init__" cY f fd)(hY:uW K Y)(jF:mg "YardError"=some (.ref Y))(xf:TyExc.mK K C "bar")(hv:PySem.W.mroIn K C (.type "ValueError")=some true):bH P w K mg base (aV P w) 1 f fd zaA (fT C "bar"):=by
 refine d6 F tT fun H hr h=>?_
 obtain ⟨a,v,rfl,ea,q⟩:=h
 refine ⟨_,(ae (bj (nk hY jF (aU (pv 0) (pv 1))))
  (ag (nv (pv 0) (pv 1) rfl))),?_⟩
 refine ⟨_,rfl,_,rfl,a,C,none,[v],rfl,ea,xf.k,hv,(by show 1<=sizeLine;decide),?_⟩
 refine ⟨_,rfl,_,rfl,a,C,rfl,xf,.inl ⟨ea,fun d nd ne=>?_⟩⟩
 refine q d _ (fun b o n e=>by rw [ah n,ah (ak e nd)];exact e) nd ?_ aj
 rw [ah ne,aj]
theorem x8:av za3 za3 (aa dW):=sq
theorem x9 {f:Addr}{fd:FuncData}{C Y:Addr}(F:lV K "__init__" "NoLine.__init__" dW f fd)(hY:uW K Y)(jF:mg "YardError"=some (.ref Y))(xf:TyExc.mK K C "at")(hv:PySem.W.mroIn K C (.type "ValueError")=some true):bH P w K mg base (aV P w) 1 f fd za3 (fT C "at"):=by
 refine d6 F x8 fun H hr h=>?_
 obtain ⟨a,v,rfl,ea,q⟩:=h
 refine ⟨_,(ae (bj (nk hY jF (aU (pv 0) (pv 1))))
  (ag (nv (pv 0) (pv 1) rfl))),?_⟩
 refine ⟨_,rfl,_,rfl,a,C,none,[v],rfl,ea,xf.k,hv,(by show 1<=sizeLine;decide),?_⟩
 refine ⟨_,rfl,_,rfl,a,C,rfl,xf,.inl ⟨ea,fun d nd ne=>?_⟩⟩
 refine q d _ (fun b o n e=>by rw [ah n,ah (ak e nd)];exact e) nd ?_ aj
 rw [ah ne,aj]
inductive ER (K:Frag)(C:Addr)(vs:η)(H:Hp)(Q:VK)(E_:XK):Prop where
 | mk (a dx:Addr) (_:vs=[.ref a]) (_:H a=some (.ins C dx [])) (_:∀(pP pW pB:Addr) (H' :Hp),eh a H H' ->H pP=none->H pW=none->H pB=none->jC K H' C a dx pP pW pB [] [] [] [] []->Q .bN H'):ER K C vs H Q E_
theorem aee {x:V}:cL "pin_places" x []=([("pin_places",x)]:List (Str×V)):=rfl
theorem aef {x y:V}:cL "pin_ways" y [("pin_places",x)]=([("pin_places",x),("pin_ways",y)]:List (Str×V)):=by
 simp only [cL]
 rw [if_neg (by decide)]
theorem aeg {x y z:V}:cL "bar_ends" z [("pin_places",x),("pin_ways",y)]=([("pin_places",x),("pin_ways",y),("bar_ends",z)]:List (Str×V)):=by
 simp only [cL]
 rw [if_neg (by decide),if_neg (by decide)]
theorem anW:av zas zas (aa U7):=sq
theorem anY {f:Addr}{fd:FuncData}{C:Addr}(F:lV K "__init__" "Frame.__init__" U7 f fd)(fc:FrC K C):bH P w K mg base (aV P w) 1 f fd zas (ER K C):=by
 refine d6 F anW fun H hr h=>?_
 obtain ⟨a,dx,rfl,ha,q⟩:=h
 refine ⟨_,(ae (dA (pv 0) iq rfl)
  (ae (dA (pv 0) iq rfl)
  (ag (dA (pv 0) iq rfl)))),?_⟩
 intro pP nP
 have aP:a≠pP:=ak ha nP
 refine ⟨_,rfl,a,C,dx,_,rfl,(by rw [ah aP];exact ha),fc.cls,fc.pl,(by show 0 < 1000;decide),?_⟩
 rw [aee]
 generalize e1:upd (upd H pP (.dK [])) a (.ins C dx [("pin_places",.ref pP)])=H1
 have o1:H1 a=some (.ins C dx [("pin_places",.ref pP)]):=by rw [<- e1,aj]
 have p1:H1 pP=some (.dK []):=by rw [<- e1,ah (ac_ aP),aj]
 have k1:∀b o,b≠a->H b=some o->H1 b=some o:=fun b o n e=>by rw [<- e1,ah n,ah (ak e nP)];exact e
 intro pW nW
 have aW:a≠pW:=ak o1 nW
 refine ⟨_,rfl,a,C,dx,_,rfl,(by rw [ah aW];exact o1),fc.cls,fc.wy,(by show 1 < 1000;decide),?_⟩
 rw [aef]
 generalize e2:upd (upd H1 pW (.dK [])) a (.ins C dx [("pin_places",.ref pP),("pin_ways",.ref pW)])=H2
 have PW:pP≠pW:=ak p1 nW
 have o2:H2 a=some (.ins C dx [("pin_places",.ref pP),("pin_ways",.ref pW)]):=by rw [<- e2,aj]
 have w2:H2 pW=some (.dK []):=by rw [<- e2,ah (ac_ aW),aj]
 have k2:∀b o,b≠a->H1 b=some o->H2 b=some o:=fun b o n e=>by rw [<- e2,ah n,ah (ak e nW)];exact e
 intro pB nB
 have aB:a≠pB:=ak o2 nB
 have p2:=k2 _ _ (ac_ aP) p1
 refine ⟨_,rfl,a,C,dx,_,rfl,(by rw [ah aB];exact o2),fc.cls,fc.br,(by show 2 < 1000;decide),?_⟩
 rw [aeg]
 have PB:pP≠pB:=ak p2 nB
 have WB:pW≠pB:=ak w2 nB
 have k3:∀b o,b≠a->H2 b=some o->(upd (upd H2 pB (.dK [])) a (.ins C dx [("pin_places",.ref pP),("pin_ways",.ref pW),("bar_ends",.ref pB)])) b=some o:=fun b o n e=>by rw [ah n,ah (ak e nB)];exact e
 have f1:∀b,b≠a->H1 b=none->H b=none:=fun b n e=>by
  cases z:H b with
  | none=>rfl
  | some o=>rw [k1 b o n z] at e;cases e
 have f2:∀b,b≠a->H2 b=none->H b=none:=fun b n e=>by
  cases z:H b with
  | none=>rfl
  | some o=>rw [k2 b o n (k1 b o n z)] at e;cases e
 refine q pP pW pB _ (fun b o n e=>k3 b o n (k2 b o n (k1 b o n e))) nP (f1 _ (ac_ aW) nW) (f2 _ (ac_ aB) nB) ⟨aj,k3 _ _ (ac_ aP) p2,k3 _ _ (ac_ aW) w2,?_,PW,PB,WB,.nil,.nil⟩
 rw [ah (ac_ aB),aj]
inductive ES (K:Frag)(C:Addr)(vs:η)(H:Hp)(Q:VK)(E_:XK):Prop where
 | mk (a dx pP pW pB:Addr) (ps:υ) (bs:ρ) (kP kW kB:ι) (_:vs=[.ref a]) (_:jC K H C a dx pP pW pB ps bs kP kW kB) (_:∀(l:Addr) (H' :Hp),az H H' ->H l=none->H' l=some (.lst ((ps.map (·.1)).map V.str))->Q (.ref l) H'):ES K C vs H Q E_
theorem anZ:av zas zas (aa U9):=sq
theorem an0 {f:Addr}{fd:FuncData}{C:Addr}(F:lV K "pins" "Frame.pins" U9 f fd)(fc:FrC K C)(tV:mg "list"=none):bH P w K mg base (aV P w) 1 f fd zas (ES K C):=by
 refine d6 F anZ fun H hr h=>?_
 obtain ⟨a,dx,pP,pW,pB,ps,bs,kP,kW,kB,rfl,R,q⟩:=h
 refine ⟨_,(ag (aA (gF (QH rfl) rfl tV Yo (aG (ba (pv 0) rfl))))),?_⟩
 refine ⟨_,rfl,a,C,dx,_,_,rfl,R.obj,fc.cls,fc.pl,rfl,pP,kP,rfl,.inl R.pl,fun l nl=>?_⟩
 refine q l _ (aT nl _) nl ?_
 rw [aj]
 have e:kP.map (fun kv=>kV kv.1)=(ps.map (·.1)).map V.str:=by
  have z:kP.map (fun kv=>kV kv.1)=(kP.map (·.1)).map kV:=by rw [agJ];rfl
  rw [z,R.Tv,agJ]
  rfl
 rw [e]
inductive iu (K:Frag)(C CN:Addr)(vs:η)(H:Hp)(Q:VK)(E:XK):Prop where
 | mk (a dx pP pW pB:Addr) (ps:υ) (bs:ρ) (kP kW kB:ι) (x:Str) (_:vs=[.ref a,.str x]) (_:jC K H C a dx pP pW pB ps bs kP kW kB) (_:(x∈ps.map (·.1)->Q .bN H)) (_:(x∉ps.map (·.1)->bS H E CN "pin" (.str x))):iu K C CN vs H Q E
theorem an1:av zac zac (aa U8):=sq
theorem an2 {f:Addr}{fd:FuncData}{C CN fN:Addr}{fdN:FuncData}(F:lV K "check_pin" "Frame.check_pin" U8 f fd)(fc:FrC K C)(ET:mg "NoPin"=some (.ref CN))(Vf:pF K CN fN)(ai':bH P w K mg base (aV P w) 1 fN fdN zac (fT CN "pin"))(Vg:Binds K fdN zac []):bH P w K mg base (aV P w) 3 f fd zac (iu K C CN):=by
 refine jH F an1 (fun vs H Q E h=>?_) (fun cdv A outer s H vs Q E hr h=>?_)
 ·obtain ⟨a,dx,pP,pW,pB,ps,bs,kP,kW,kB,x,rfl,_⟩:=h
  rfl
 obtain ⟨a,dx,pP,pW,pB,ps,bs,kP,kW,kB,x,rfl,R,q1,q2⟩:=h
 refine ⟨_,(ag (aK (xj (tL (iJ hr) (pv 1) (ba (pv 0) rfl))) (ag (cN Vf ai' hr.mo Vg ET (aG (pv 1)))) ay)),?_⟩
 refine ⟨_,rfl,_,rfl,a,C,dx,_,_,rfl,R.obj,fc.cls,fc.pl,rfl,pP,_,rfl,ki.k (k:=.inr x) R.pl,_,rfl,?_⟩
 rw [R.pin x]
 by_cases hx:x∈ps.map (·.1)
 ·rw [decide_eq_true hx]
  exact q1 hx
 ·rw [decide_eq_false hx]
  exact ⟨_,rfl,(by show 1<=sizeLine;decide),(q2 hx).go⟩
theorem aeh {k:Nat}{C:Addr}{m:Str}{ps:ζ}{sp sp' :Sp}(M:bM P w K mg base CX k C m ps sp)(h:∀vs H Q E,sp' vs H Q E->sp vs H Q E):bM P w K mg base CX k C m ps sp' :=by
 obtain ⟨f,fd,a,b,c,d⟩:=M.ex
 exact ⟨f,fd,a,b,c.imp h,d⟩
inductive pK (K:Frag)(C:Addr)(vs:η)(H:Hp)(Q:VK)(E_:XK):Prop where
 | mk (a dx pP pW pB:Addr) (ps:υ) (bs:ρ) (kP kW kB:ι) (x:Str) (_:vs=[.ref a,.str x]) (_:jC K H C a dx pP pW pB ps bs kP kW kB) (_:x∈ps.map (·.1)) (_:Q .bN H):pK K C vs H Q E_
theorem QO {k:Nat}{C CN:Addr}(M:bM P w K mg base CX k C "check_pin" zac (iu K C CN)):bM P w K mg base CX k C "check_pin" zac (pK K C):=aeh M fun vs H Q E ⟨a,dx,pP,pW,pB,ps,bs,kP,kW,kB,x,e,R,hx,q⟩=>⟨a,dx,pP,pW,pB,ps,bs,kP,kW,kB,x,e,R,fun _=>q,fun n=>absurd hx n⟩
inductive wN (K:Frag)(C:Addr)(vs:η)(H:Hp)(Q:VK)(E_:XK):Prop where
 | mk (a dx pP pW pB:Addr) (ps:υ) (bs:ρ) (kP kW kB:ι) (x:Str) (p:Pt) (_:vs=[.ref a,.str x]) (_:jC K H C a dx pP pW pB ps bs kP kW kB) (_:(ps.map (·.1)).Nodup) (_:(x,p)∈ps) (_:∀v,Spot K H v p->Q v H):wN K C vs H Q E_
theorem an4:av zac zac (aa U_):=sq
theorem an5 {f:Addr}{fd:FuncData}{C:Addr}(F:lV K "place" "Frame.place" U_ f fd)(fc:FrC K C)(MC:bM P w K mg base (aV P w) 3 C "check_pin" zac (pK K C)):bH P w K mg base (aV P w) 4 f fd zac (wN K C):=by
 refine d6 F an4 fun H hr h=>?_
 obtain ⟨a,dx,pP,pW,pB,ps,bs,kP,kW,kB,x,p,rfl,R,nd,hx,q⟩:=h
 refine ⟨_,(ae (bj (df (k:=3) (pv 0) hr.mo (q_Y P w) (aG (pv 1))))
  (ag (aA (wK (iJ hr) (ba (pv 0) rfl) (pv 1) (fun _ _=>rfl))))),?_⟩
 refine ⟨_,rfl,a,C,dx,_,_,_,rfl,R.obj,rfl,MC,_,rfl,a,dx,pP,pW,pB,ps,bs,kP,kW,kB,x,rfl,R,aeu.mpr ⟨_,hx,rfl⟩,?_⟩
 obtain ⟨v,ev,hv⟩:=R.place nd hx
 exact ⟨_,rfl,a,C,dx,_,_,rfl,R.obj,fc.cls,fc.pl,rfl,_,rfl,pP,v,rfl,(by rw [<- ev];exact ki.k (k:=.inr x) R.pl),q v hv⟩
inductive aja where
 | there | pin (p:Str) | length | many | done
def x_ (pn bn:ζ)(x one other:Str):aja:=if x∈bn then .there else if one∉pn then .pin one else if other∉pn then .pin other else if one=other then .length else if 60<=bn.length then .many else .done
def ajb (CB CN CL CT:Addr)(x:Str)(H:Hp)(E:XK)(q:Prop):aja->Prop
 | .there=>bS H E CB "bar" (.str x)
 | .pin p=>bS H E CN "pin" (.str p)
 | .length=>bS H E CL "bar" (.str x)
 | .many=>E (.ref CT) none H
 | .done=>q
inductive jL (K:Frag)(C CB CN CL CT:Addr)(vs:η)(H:Hp)(Q:VK)(E:XK):Prop where
 | mk (a dx pP pW pB:Addr) (ps:υ) (bs:ρ) (kP kW kB:ι) (x one other:Str) (_:vs=[.ref a,.str x,.str one,.str other]) (_:jC K H C a dx pP pW pB ps bs kP kW kB) (_:ajb CB CN CL CT x H E (Q .bN H) (x_ (ps.map (·.1)) (bs.map (·.1)) x one other)):jL K C CB CN CL CT vs H Q E
theorem an6:av zal zal (aa QN):=sq
theorem an7 {f:Addr}{fd:FuncData}{C CB CN CL CT fB fL:Addr}{fdB fdL:FuncData}(F:lV K "check_bar" "Frame.check_bar" QN f fd)(fc:FrC K C){tkB:Tok}(ajc:mg "MOST_BARS"=some (.int 60 tkB))(bP:mg "len"=none)
  (Vh:mg "BarThere"=some (.ref CB)) (ajd:pF K CB fB) (vM:bH P w K mg base (aV P w) 1 fB fdB zaA (fT CB "bar")) (iE:Binds K fdB zaA [])
  (Vi:mg "NoLength"=some (.ref CL)) (aje:pF K CL fL) (vN:bH P w K mg base (aV P w) 1 fL fdL zaA (fT CL "bar")) (iF:Binds K fdL zaA [])
  (vO:mg "TooMany"=some (.ref CT)) (EU:PySem.W.excIn K CT Xx "ValueError.__new__"=true)
  (MC:bM P w K mg base (aV P w) 3 C "check_pin" zac (iu K C CN)):bH P w K mg base (aV P w) 4 f fd zal (jL K C CB CN CL CT):=by
 refine jH F an6 (fun vs H Q E h=>?_) (fun cdv A outer s H vs Q E hr h=>?_)
 ·obtain ⟨a,dx,pP,pW,pB,ps,bs,kP,kW,kB,x,one,other,rfl,_⟩:=h
  rfl
 obtain ⟨a,dx,pP,pW,pB,ps,bs,kP,kW,kB,x,one,other,rfl,R,q⟩:=h
 have px:Passes (aV P w) (gK P w K mg base zal "Frame.check_bar" (aa QN) f cdv A outer s H E) E:=d_
 have L1:1<=sizeLine:=by decide
 unfold x_ at q
 refine ⟨_,(ae (aK (xj (EJ (iJ hr) (pv 1) (ba (pv 0) rfl))) (ag (cN ajd vM hr.mo iE Vh (aG (pv 1)))) ay)
  (ae (bj (df (k:=3) (pv 0) hr.mo px (aG (pv 2))))
  (ae (bj (df (k:=3) (pv 0) hr.mo px (aG (pv 3))))
  (ae (aK (aE a9 (pv 2) (pv 3)) (ag (cN aje vN hr.mo iF Vi (aG (pv 1)))) ay)
  (ag (aK (aE X6 (aL BP rfl bP g_ (aG (ba (pv 0) rfl))) (dy (v:=.int 60) rfl ajc ⟨_,rfl⟩)) (ag (cR PySem.F.excBase_ValueError vO EU hr.hd (aG au))) ay)))))),?_⟩
 refine ⟨_,rfl,_,rfl,a,C,dx,_,_,rfl,R.obj,fc.cls,fc.br,rfl,pB,_,rfl,ki.k (k:=.inr x) R.br,_,rfl,?_⟩
 rw [R.bar x]
 by_cases hx:x∈bs.map (·.1)
 ·rw [decide_eq_true hx]
  rw [if_pos hx] at q
  exact ⟨_,rfl,L1,bS.go q⟩
 rw [decide_eq_false hx]
 rw [if_neg hx] at q
 refine ⟨_,rfl,a,C,dx,_,_,_,rfl,R.obj,rfl,MC,_,rfl,a,dx,pP,pW,pB,ps,bs,kP,kW,kB,one,rfl,R,fun h1=>?_,fun h1=>?_⟩
 ·rw [if_neg (fun z=>z h1)] at q
  refine ⟨_,rfl,a,C,dx,_,_,_,rfl,R.obj,rfl,MC,_,rfl,a,dx,pP,pW,pB,ps,bs,kP,kW,kB,other,rfl,R,fun h2=>?_,fun h2=>?_⟩
  ·rw [if_neg (fun z=>z h2)] at q
   refine ⟨_,rfl,_,rfl,rfl,_,rfl,?_⟩
   by_cases ne:one=other
   ·rw [if_pos ne] at q
    refine aI (fun _=>?_) (fun c=>absurd (by rw [ne];simp [vI]) c)
    exact ⟨_,rfl,L1,bS.go q⟩
   ·rw [if_neg ne] at q
    refine aI (fun c=>absurd (by simpa [vI] using c) ne) (fun _=>?_)
    have lk:kB.length=bs.length:=(Paired.length R.rb).symm
    refine ⟨_,rfl,a,C,dx,_,_,rfl,R.obj,fc.cls,fc.br,rfl,pB,kB,rfl,.inl R.br,_,_,rfl,rfl,_,rfl,?_⟩
    by_cases hl:60<=(bs.map (·.1)).length
    ·rw [if_pos hl] at q
     rw [Wp] at hl
     refine aI (fun _=>?_) (fun c=>absurd (decide_eq_true (show (60:Int)<=(kB.length:Int) by omega)) c)
     exact ⟨L1,q⟩
    ·rw [if_neg hl] at q
     rw [Wp] at hl
     refine aI (fun c=>?_) (fun _=>q)
     have c' :(60:Int)<=(kB.length:Int):=of_decide_eq_true c
     omega
  ·rw [if_pos h2] at q
   exact q
 ·rw [if_pos h1] at q
  exact q
inductive nM (K:Frag)(C CB CN CL CT:Addr)(vs:η)(H:Hp)(Q:VK)(E:XK):Prop where
 | mk (a dx pP pW pB:Addr) (ps:υ) (bs:ρ) (kP kW kB:ι) (x one other:Str) (_:vs=[.ref a,.str x,.str one,.str other]) (_:jC K H C a dx pP pW pB ps bs kP kW kB) (_:bs.length < 500) (_:ajb CB CN CL CT x H E (∀(H' :Hp) (kB' :ι),eh pB H H' ->jC K H' C a dx pP pW pB ps (bs++[(x,one,other)]) kP kW kB' ->Q .bN H') (x_ (ps.map (·.1)) (bs.map (·.1)) x one other)):nM K C CB CN CL CT vs H Q E
theorem Zj {pn bn:ζ}{x one other:Str}(h:x_ pn bn x one other=.done):x∉bn:=fun z=>by
 unfold x_ at h
 rw [if_pos z] at h
 cases h
theorem an9:av zal zal (aa QM):=sq
theorem an' {f:Addr}{fd:FuncData}{C CB CN CL CT:Addr}(F:lV K "put_bar" "Frame.put_bar" QM f fd)(fc:FrC K C)
  (MC:bM P w K mg base (aV P w) 4 C "check_bar" zal (jL K C CB CN CL CT)):bH P w K mg base (aV P w) 5 f fd zal (nM K C CB CN CL CT):=by
 refine jH F an9 (fun vs H Q E h=>?_) (fun cdv A outer s H vs Q E hr h=>?_)
 ·obtain ⟨a,dx,pP,pW,pB,ps,bs,kP,kW,kB,x,one,other,rfl,_⟩:=h
  rfl
 obtain ⟨a,dx,pP,pW,pB,ps,bs,kP,kW,kB,x,one,other,rfl,R,hl,q⟩:=h
 have px:Passes (aV P w) (gK P w K mg base zal "Frame.put_bar" (aa QM) f cdv A outer s H E) E:=d_
 refine ⟨_,(ae (bj (df (k:=4) (pv 0) hr.mo px (dm (pv 1) (pv 2) (pv 3))))
  (ag (qZ (iJ hr) (ba (pv 0) rfl) (pv 1) (a_ (aU (pv 2) (pv 3))) rfl))),?_⟩
 refine ⟨_,rfl,a,C,dx,_,_,_,rfl,R.obj,rfl,MC,_,rfl,_,rfl,_,rfl,a,dx,pP,pW,pB,ps,bs,kP,kW,kB,x,one,other,rfl,R,?_⟩
 cases eb:x_ (ps.map (·.1)) (bs.map (·.1)) x one other with
 | there=>rw [eb] at q;exact q
 | pin p=>rw [eb] at q;exact q
 | length=>rw [eb] at q;exact q
 | many=>rw [eb] at q;exact q
 | done=>
  rw [eb] at q
  have hx:=Zj eb
  unfold ajb at q ⊢
  refine ⟨_,rfl,_,rfl,(by show 2<=sizeLine;decide),fun t nt=>?_⟩
  have s:=aT nt (.tup [.str one,.str other])
  have R' :=R.same s
  have lk:kB.length=bs.length:=(Paired.length R.rb).symm
  refine ⟨_,rfl,a,C,dx,_,_,rfl,R'.obj,fc.cls,fc.br,rfl,_,rfl,pB,_,rfl,zo.k (k:=.inr x) R'.br (abF (show kB.length<=1000 by omega) (by decide)),?_⟩
  have e:putK kB (.inr x) (.ref t)=kB++[(.inr x,.ref t)]:=kg _ (dk (by rw [R.Y5];exact fun z=>hx (eL.mp z)))
  rw [e]
  refine q _ _ (fun b o n z=>?_) (R'.aiX (.inl aj))
  rw [ah n]
  exact s _ _ z
def ajf (K:Frag)(H:Hp)(Q:VK)(ws:χ):Prop:=∀(l:Addr) (us:η) (H' :Hp),az H H' ->H l=none->H' l=some (.lst us)->EL K H' us ws->Q (.ref l) H'
theorem TL {x:Rat}(h:(qr x).1=0):x=0:=by
 have:=uZ x
 unfold vl at this
 rw [h] at this
 have z:=Y6 (r:=x)
 have e:((0:Int):Rat)=0:=by rfl
 rw [e] at this
 grind
inductive EV (K:Frag)(C:Addr)(vs:η)(H:Hp)(Q:VK)(E_:XK):Prop where
 | mk (a dx:Addr) (ux uy:V) (x y:Rat) (_:vs=[.ref a,ux,uy]) (_:H a=some (.ins C dx [])) (_:oK K H ux x) (_:oK K H uy y) (_:¬ (x=0/\y=0)) (_:∀p,H p=none->Q .bN (upd (upd H p (.tup [ux,uy])) a (.ins C dx [("way",.ref p)]))):EV K C vs H Q E_
theorem aoa:av zaV zaV (aa U'):=sq
theorem aob {f:Addr}{fd:FuncData}{C:Addr}(F:lV K "__init__" "Roller.__init__" U' f fd)(cl:vF K C)(nw:cp K C "way"):bH P w K mg base (aV P w) 1 f fd zaV (EV K C):=by
 refine d6 F aoa fun H hr h=>?_
 obtain ⟨a,dx,ux,uy,x,y,rfl,ha,⟨p1,rfl,h1⟩,⟨p2,rfl,h2⟩,nz,q⟩:=h
 have sz:(2:Nat)<=sizeLine:=by decide
 refine ⟨_,(ae (aK (PW.pt (iC (aE a9 (bh (pv 1)) ai) (gh (aE a9 (bh (pv 2)) ai)))) (ag (XR)) ay)
  (ag (dA (pv 0) (a_ (aU (pv 1) (pv 2))) rfl))),?_⟩
 refine ⟨_,rfl,p1,_,_,_,rfl,rfl,h1,wM,rfl,_,rfl,?_⟩
 refine aI (fun c1=>?_) (fun c1=>?_)
 ·have e1:(qr x).1=0:=by simpa using of_decide_eq_true c1
  refine ⟨_,rfl,p2,_,_,_,rfl,rfl,h2,wM,rfl,_,rfl,?_⟩
  refine aI (fun c2=>?_) (fun c2=>?_)
  ·have e2:(qr y).1=0:=by simpa using of_decide_eq_true c2
   exact absurd ⟨TL e1,TL e2⟩ nz
  ·exact ⟨_,rfl,_,rfl,sz,fun p hp=>⟨_,rfl,a,C,dx,[],rfl,(by rw [ah (ak ha hp)];exact ha),cl,nw,(by show 0 < 1000;decide),q p hp⟩⟩
 ·refine cM ?_
  exact ⟨_,rfl,_,rfl,sz,fun p hp=>⟨_,rfl,a,C,dx,[],rfl,(by rw [ah (ak ha hp)];exact ha),cl,nw,(by show 0 < 1000;decide),q p hp⟩⟩
inductive rh (K:Frag)(C:Addr)(vs:η)(H:Hp)(Q:VK)(E_:XK):Prop where
 | mk (a dx p:Addr) (w:Rat×Rat) (_:vs=[.ref a]) (_:H a=some (.ins C dx [("way",.ref p)])) (_:wL K H (.ref p) w) (_:ajf K H Q [w]):rh K C vs H Q E_
theorem aoc:av zas zas (aa Va):=sq
theorem aod {f:Addr}{fd:FuncData}{C:Addr}(F:lV K "ways" "Roller.ways" Va f fd)(cl:vF K C)(nw:cp K C "way"):bH P w K mg base (aV P w) 1 f fd zas (rh K C):=by
 refine d6 F aoc fun H hr h=>?_
 obtain ⟨a,dx,p,w,rfl,ha,hw,q⟩:=h
 refine ⟨_,(ag (aA (bB (aG (ba (pv 0) rfl))))),?_⟩
 refine ⟨_,rfl,a,C,dx,_,.ref p,rfl,ha,cl,nw,(by simp),(by show 1<=sizeLine;decide),fun l hl=>?_⟩
 exact q l [.ref p] _ (aT hl _) hl aj (.cons (hw.same (aT hl _)) .nil)
inductive ri (K:Frag)(vs:η)(H:Hp)(Q:VK)(E_:XK):Prop where
 | mk (a:Addr) (_:vs=[.ref a]) (_:ajf K H Q [(1,0),(0,1)]):ri K vs H Q E_
theorem Zk:qr 1=(1,1):=by
 have:=xV 1
 simpa using this
theorem cZ:qr 0=(0,1):=by
 have:=xV 0
 simpa using this
theorem agD {H:Hp}{p p1 p2:Addr}{a b:Rat}{x y:Int×Int}(ea:qr a=x)(eb:qr b=y)(h:H p=some (.tup [.ref p1,.ref p2]))(h1:H p1=some (.tup [.int x.1,.int x.2]))(h2:H p2=some (.tup [.int y.1,.int y.2])):wL K H (.ref p) (a,b):=
 ⟨p,.ref p1,.ref p2,rfl,cT.of h,⟨p1,rfl,by rw [ea];exact cT.of h1⟩,⟨p2,rfl,by rw [eb];exact cT.of h2⟩⟩
theorem aoe:av zas zas (aa Vb):=sq
theorem aof {f:Addr}{fd:FuncData}(F:lV K "ways" "Fixed.ways" Vb f fd):bH P w K mg base (aV P w) 1 f fd zas (ri K):=by
 refine d6 F aoe fun H hr h=>?_
 obtain ⟨a,rfl,q⟩:=h
 have sz:(2:Nat)<=sizeLine:=by decide
 refine ⟨_,(ag (aA (bB (aU (a_ (aU (a_ (aU ai ai)) (a_ (aU ai ai)))) (a_ (aU (a_ (aU ai ai)) (a_ (aU ai ai)))))))),?_⟩
 refine ⟨sz,fun p1 n1=>?_⟩
 have s1:=aT n1 (.tup [.int 1,.int 1])
 have e1:upd H p1 (.tup [.int 1,.int 1]) p1=some (.tup [.int 1,.int 1]):=aj
 generalize upd H p1 (.tup [.int 1,.int 1])=H1 at s1 e1 ⊢
 refine ⟨sz,fun p2 n2=>?_⟩
 have s2:=aT n2 (.tup [.int 0,.int 1])
 have e2:upd H1 p2 (.tup [.int 0,.int 1]) p2=some (.tup [.int 0,.int 1]):=aj
 generalize upd H1 p2 (.tup [.int 0,.int 1])=H2 at s2 e2 ⊢
 refine ⟨sz,fun p3 n3=>?_⟩
 have s3:=aT n3 (.tup [.ref p1,.ref p2])
 have e3:upd H2 p3 (.tup [.ref p1,.ref p2]) p3=some (.tup [.ref p1,.ref p2]):=aj
 generalize upd H2 p3 (.tup [.ref p1,.ref p2])=H3 at s3 e3 ⊢
 refine ⟨sz,fun p4 n4=>?_⟩
 have s4:=aT n4 (.tup [.int 0,.int 1])
 have e4:upd H3 p4 (.tup [.int 0,.int 1]) p4=some (.tup [.int 0,.int 1]):=aj
 generalize upd H3 p4 (.tup [.int 0,.int 1])=H4 at s4 e4 ⊢
 refine ⟨sz,fun p5 n5=>?_⟩
 have s5:=aT n5 (.tup [.int 1,.int 1])
 have e5:upd H4 p5 (.tup [.int 1,.int 1]) p5=some (.tup [.int 1,.int 1]):=aj
 generalize upd H4 p5 (.tup [.int 1,.int 1])=H5 at s5 e5 ⊢
 refine ⟨sz,fun p6 n6=>?_⟩
 have s6:=aT n6 (.tup [.ref p4,.ref p5])
 have e6:upd H5 p6 (.tup [.ref p4,.ref p5]) p6=some (.tup [.ref p4,.ref p5]):=aj
 generalize upd H5 p6 (.tup [.ref p4,.ref p5])=H6 at s6 e6 ⊢
 refine ⟨sz,fun l nl=>?_⟩
 have s7:=aT nl (.lst [.ref p3,.ref p6])
 have e7:upd H6 l (.lst [.ref p3,.ref p6]) l=some (.lst [.ref p3,.ref p6]):=aj
 generalize upd H6 l (.lst [.ref p3,.ref p6])=H7 at s7 e7 ⊢
 have s16:=s1.trans (s2.trans (s3.trans (s4.trans (s5.trans s6))))
 have w1:wL K H7 (.ref p3) (1,0):=agD Zk cZ (s7 _ _ (s6 _ _ (s5 _ _ (s4 _ _ e3)))) (s7 _ _ (s6 _ _ (s5 _ _ (s4 _ _ (s3 _ _ (s2 _ _ e1)))))) (s7 _ _ (s6 _ _ (s5 _ _ (s4 _ _ (s3 _ _ e2)))))
 have w2:wL K H7 (.ref p6) (0,1):=agD cZ Zk (s7 _ _ e6) (s7 _ _ (s6 _ _ (s5 _ _ e4))) (s7 _ _ (s6 _ _ e5))
 exact q l [.ref p3,.ref p6] H7 (s16.trans s7) (s16.free nl) e7 (.cons w1 (.cons w2 .nil))
inductive aog where
 | there | aoh (z:Str) | many | done
def ajg (ps:υ)(x:Str)(p:Pt):aog:=if x∈ps.map (·.1) then .there else match ps.find? (fun z=>decide (z.2=p)) with
 | some z=>.aoh z.1
 | none=>if 24<=ps.length then .many else .done
def aoi (CP CS CT:Addr)(x:Str)(H:Hp)(E:XK)(q:Prop):aog->Prop
 | .there=>bS H E CP "pin" (.str x)
 | .aoh z=>bS H E CS "pin" (.str z)
 | .many=>∀H',az H H' ->E (.ref CT) none H'
 | .done=>q
abbrev KyR {α:Type}(l:List (Str×α))(kW:ι):Prop:=Paired (fun (b:Str×α) (kv:Key×V)=>kv.1=(agK b.1:Key)/\True) l kW
theorem KyR.keys {α:Type}{l:List (Str×α)}{kW:ι}(h:KyR l kW):kW.map (·.1)=(l.map (·.1)).map (fun b=>(agK b:Key)):=by
 rw [jJ h,agJ]
 rfl
inductive agE (P:Program)(w:World)(K:Frag)(mg:ε)(base:Heap)(H:Hp)(h:Addr)(ws:χ):Prop where
 | mk (Ch dxh:Addr) (fsh:Ζ) (psh:ζ) (sph:Sp) (_:H h=some (.ins Ch dxh fsh)) (_:fsh.lookup ("ways":Str)=none) (_:bM P w K mg base (aV P w) 4 Ch "ways" psh sph) (_:∀H1,H1 h=some (.ins Ch dxh fsh)->bg H H1->∀Q' E2,ajf K H1 Q' ws->sph [.ref h] H1 Q' E2):agE P w K mg base H h ws
def agF (P:Program)(w:World)(K:Frag)(mg:ε)(base:Heap)(H:Hp)(hv:V)(ws:χ):Prop:=(hv=.bN/\ws=[])\/∃h,hv=.ref h/\agE P w K mg base H h ws
inductive kF (P:Program)(w:World)(K:Frag)(mg:ε)(base:Heap)(C CP CS CT:Addr)(vs:η)(H:Hp)(Q:VK)(E:XK):Prop where
 | mk (a dx pP pW pB:Addr) (ps:υ) (bs:ρ) (kP kW kB:ι) (x:Str) (u v:V) (p:Pt) (hv:V) (ws:χ) (_:vs=[.ref a,.str x,u,v,hv]) (_:jC K H C a dx pP pW pB ps bs kP kW kB) (_:KyR ps kW) (_:sZ K H u p.1) (_:sZ K H v p.2) (_:ps.length < 500) (_:agF P w K mg base H hv ws) (_:aoi CP CS CT x H E (∀(H' :Hp) (kP' :ι) (l2:Addr) (us:η),(∀b o,b≠pP->b≠pW->H b=some o->H' b=some o)->jC K H' C a dx pP pW pB (ps++[(x,p)]) bs kP' (kW++[(.inr x,.ref l2)]) kB->H l2=none->H' l2=some (.lst us)->EL K H' us ws->Q .bN H') (ajg ps x p)):kF P w K mg base C CP CS CT vs H Q E
theorem Zl:av zaT zaQ (aa tQ):=sq
theorem aok {f:Addr}{fd:FuncData}{C CP CS CT fP fS:Addr}{fdP fdS:FuncData}(F:aiW K "put_pin" "Frame.put_pin" tQ f fd)(fc:FrC K C){tkP:Tok}(ajh:mg "MOST_PINS"=some (.int 24 tkP))(bP:mg "len"=none)(tV:mg "list"=none)
  (EW:mg "PinThere"=some (.ref CP)) (Vj:pF K CP fP) (aji:bH P w K mg base (aV P w) 1 fP fdP zac (fT CP "pin")) (Vk:Binds K fdP zac [])
  (ajj:mg "SpotTaken"=some (.ref CS)) (ajk:pF K CS fS) (tW:bH P w K mg base (aV P w) 1 fS fdS zac (fT CS "pin")) (h_:Binds K fdS zac [])
  (vO:mg "TooMany"=some (.ref CT)) (EU:PySem.W.excIn K CT Xx "ValueError.__new__"=true):bH P w K mg base (aV P w) 5 f fd zaQ (kF P w K mg base C CP CS CT):=by
 refine aeb (sp' :=fun vs H Q E1=>∃E,E1=thE H E/\kF P w K mg base C CP CS CT vs H Q E) (fun vs H Q E h=>?_) (fun vs H Q E h=>⟨E,rfl,h⟩) (Y' F Zl (fun vs H Q E h=>?_) (fun cdv A outer s H vs Q E hr h=>?_))
 ·obtain ⟨a,dx,pP,pW,pB,ps,bs,kP,kW,kB,x,u,v,p,hvv,ws,rfl,_⟩:=h
  rfl
 ·obtain ⟨E',_,a,dx,pP,pW,pB,ps,bs,kP,kW,kB,x,u,v,p,hvv,ws,rfl,_⟩:=h
  rfl
 have px:Passes (aV P w) (gK P w K mg base zaT "Frame.put_pin" (aa tQ) f cdv A outer s H E) E:=d_
 have L1:1<=sizeLine:=by decide
 refine ⟨_,(ae (aK (xj (EJ (iJ hr) (pv 1) (ba (pv 0) rfl))) (ag (cN Vj aji hr.mo Vk EW (aG (pv 1)))) ay)
  (ae (Tu (i8 PassesOwn.leaving rfl (L_ (ba (pv 0) rfl)) (pA rfl (cB (ku (i:=5) Zl.nd) (cB (ku (i:=6) Zl.nd) kT))) (ag (aK (aE (wB hr.units) (pv 6) (a_ (aU (pv 2) (pv 3)))) (ag (cN ajk tW hr.mo h_ ajj (aG (pv 5)))) ay))))
  (ae (aK (aE X6 (aL BP rfl bP g_ (aG (ba (pv 0) rfl))) (dy (v:=.int 24) rfl ajh ⟨_,rfl⟩)) (ag (cR PySem.F.excBase_ValueError vO EU hr.hd (aG au))) ay)
  (ae (qZ (iJ hr) (ba (pv 0) rfl) (pv 1) (a_ (aU (pv 2) (pv 3))) rfl)
  (ag (qZ (iJ hr) (ba (pv 0) rfl) (pv 1) (eV (aE kY (pv 4) bz) (bB ja) (gF QG rfl tV Yo (aG (ED (k:=4) (pv 4) hr.mo px)))) rfl)))))),?_⟩
 clear px
 obtain ⟨E',rfl,a,dx,pP,pW,pB,ps,bs,kP,kW,kB,x,u,v,p,hvv,ws,rfl,R,W,hu,hv,hl,hH,q⟩:=h
 refine ⟨_,rfl,_,rfl,a,C,dx,_,_,rfl,R.obj,fc.cls,fc.pl,rfl,pP,_,rfl,ki.k (k:=.inr x) R.pl,_,rfl,?_⟩
 rw [R.pin x]
 unfold ajg at q
 by_cases hx:x∈ps.map (·.1)
 ·rw [decide_eq_true hx]
  rw [if_pos hx] at q
  refine ⟨_,rfl,L1,bS.go fun d H' sH nd hd=>.inl (q d H' sH nd hd)⟩
 rw [decide_eq_false hx]
 rw [if_neg hx] at q
 have lk:kP.length=ps.length:=(Paired.length R.rp).symm
 refine ⟨_,rfl,a,C,dx,_,_,rfl,R.obj,fc.cls,fc.pl,rfl,pP,kP,rfl,R.pl,fun o=>?_⟩
 have k0:eh pP H (upd H pP (.j8 o (.dK kP))):=fun b o' n e=>by rw [ah n];exact e
 refine BO (d:=pP) (o:=o) (kvs:=kP) (fun t σ H' =>Ex2 fun (o2 o3:Η)=>σ=[some (.ref a),some (.str x),some u,some v,some hvv,o2,o3]/\eh pP H H' /\H' pP=some (.j8 o (.dK kP))/\∀z∈ps.take t,z.2≠p) ⟨none,none,rfl,k0,aj,by simp⟩ (fun t σ H' _ h=>by
   obtain ⟨_,_,_,_,h,_⟩:=h
   exact h) ?_ ?_
 ·rintro t k y σ H6 p7 ekv ⟨o2,o3,rfl,k6,hd6,hs⟩ n7
  obtain ⟨z,ez,hz1,hz2⟩:=b8 (jK R.rp) ekv
  have auY :k=.inr z.1:=hz1
  subst auY
  have s6:bg H H6:=fun b xs r=>by
   rcases r with r | ⟨o',r⟩
   ·exact .inl (k6 _ _ (fun e=>by rw [e,R.pl] at r;cases r) r)
   ·exact .inr ⟨o',k6 _ _ (fun e=>by rw [e,R.pl] at r;cases r) r⟩
  have s7:=aT n7 (.tup [kV (.inr z.1),y])
  have s67:bg H (upd H6 p7 (.tup [kV (.inr z.1),y])):=s6.trans (.of s7)
  refine ⟨p7,_,rfl,cT.of aj,rfl,_,_,rfl,_,_,rfl,rfl,?_⟩
  refine ⟨_,rfl,_,rfl,_,rfl,(by show 2<=sizeLine;decide),fun t8 n8=>?_⟩
  have s8:=aT n8 (.tup [u,v])
  have s78:bg H (upd (upd H6 p7 (.tup [kV (.inr z.1),y])) t8 (.tup [u,v])):=s67.trans (.of s8)
  refine ⟨je z.2,je p,.inl ⟨(Spot.aZ hz2 s78).is,(Spot.is (p:=p) ⟨t8,u,v,rfl,cT.of aj,hu.aZ s78,hv.aZ s78⟩)⟩,uY _ _,BQ _,?_⟩
  rw [L']
  refine ⟨_,rfl,?_⟩
  have ks8:eh pP H (upd (upd H6 p7 (.tup [kV (.inr z.1),y])) t8 (.tup [u,v])):=fun b o' n e=>s8 _ _ (s7 _ _ (k6 b o' n e))
  have hd8:=s8 _ _ (s7 _ _ hd6)
  generalize upd (upd H6 p7 (.tup [kV (.inr z.1),y])) t8 (.tup [u,v])=H8 at ks8 hd8 ⊢
  refine aI (fun c=>?_) (fun c=>?_)
  ·have ep:z.2=p:=of_decide_eq_true c
   have ef:ps.find? (fun z=>decide (z.2=p))=some z:=by
    have eps:ps=ps.take t++z::ps.drop (t+1):=by
     have lt:=(W1.mp ez).1
     have e2:=(W1.mp ez).2
     rw [<- e2,amO,amU]
    rw [eps,anP]
    have n1:(ps.take t).find? (fun z=>decide (z.2=p))=none:=agG.mpr fun w hw=>by simpa using hs w hw
    rw [n1]
    simp [ep]
   rw [ef] at q
   refine ⟨_,rfl,L1,bS.go fun d H' sH nd hd=>.inr ⟨pP,o,kP,sH _ _ hd8,(fun o' u' z=>by rw [R.pl] at z;cases z),?_⟩⟩
   have dp:d≠pP:=fun z=>by rw [z,hd8] at nd;cases nd
   refine q d _ (fun b o' e=>?_) ?_ (by rw [ah dp];exact hd)
   ·by_cases n:b=pP
    ·subst n
     rw [R.pl] at e
     rw [aj]
     exact e
    ·rw [ah n]
     exact sH _ _ (ks8 b o' n e)
   ·cases e:H d with
    | none=>rfl
    | some o' =>rw [ks8 d o' dp e] at nd;cases nd
  ·refine ⟨_,_,rfl,ks8,hd8,fun w hw=>?_⟩
   rw [take_snoc ez] at hw
   rcases abB.mp hw with h | h
   ·exact hs w h
   ·rw [abv.mp h]
    exact fun e=>c (decide_eq_true e)
 ·rintro σ H1 ⟨o2,o3,rfl,k1,hd1,hs⟩
  rw [lk,amx] at hs
  have ef:ps.find? (fun z=>decide (z.2=p))=none:=agG.mpr fun w hw=>by simpa using hs w hw
  rw [ef] at q
  refine ⟨pP,o,kP,hd1,fun o' u' z=>(by have z' :H pP=some (.j8 o' u'):=z;rw [R.pl] at z';cases z'),?_⟩
  have s2:az H (upd H1 pP (.dK kP)):=fun b o' e=>by
   by_cases n:b=pP
   ·subst n
    rw [R.pl] at e
    rw [aj]
    exact e
   ·rw [ah n]
    exact k1 b o' n e
  generalize upd H1 pP (.dK kP)=H2 at s2 ⊢
  have R2:=R.same s2
  refine ⟨_,rfl,a,C,dx,_,_,rfl,R2.obj,fc.cls,fc.pl,rfl,pP,kP,rfl,.inl R2.pl,_,_,rfl,rfl,_,rfl,?_⟩
  dsimp only at q
  by_cases h24:24<=ps.length
  ·rw [if_pos h24] at q
   refine aI (fun _=>?_) (fun c=>absurd (decide_eq_true (show (24:Int)<=(kP.length:Int) by omega)) c)
   exact ⟨L1,.inl (q H2 s2)⟩
  rw [if_neg h24] at q
  refine aI (fun c=>?_) (fun _=>?_)
  ·have c' :(24:Int)<=(kP.length:Int):=of_decide_eq_true c
   omega
  unfold aoi at q
  refine ⟨_,rfl,_,rfl,(by show 2<=sizeLine;decide),fun t nt=>?_⟩
  have s3:=aT nt (.tup [u,v])
  have R3:=R2.same s3
  have hu3:=(hu.same s2).same s3
  have hv3:=(hv.same s2).same s3
  refine ⟨_,rfl,a,C,dx,_,_,rfl,R3.obj,fc.cls,fc.pl,rfl,_,rfl,pP,_,rfl,zo.k (k:=.inr x) R3.pl (abF (show kP.length<=1000 by omega) (by decide)),?_⟩
  have e:putK kP (.inr x) (.ref t)=kP++[(.inr x,.ref t)]:=kg _ (dk (by rw [R.Tv];exact fun z=>hx (eL.mp z)))
  rw [e]
  have R4:=R3.aiY (x:=x) (p:=p) (t:=t) ⟨t,u,v,rfl,cT.of aj,hu3,hv3⟩
  have k4:∀b o,b≠pP->H b=some o->(upd (upd H2 t (.tup [u,v])) pP (.dK (kP++[(.inr x,.ref t)]))) b=some o:=fun b o n e=>by rw [ah n];exact s3 _ _ (s2 _ _ e)
  generalize upd (upd H2 t (.tup [u,v])) pP (.dK (kP++[(.inr x,.ref t)]))=H4 at R4 k4 ⊢
  have lw:kW.length=ps.length:=(Paired.length W).symm
  have t4:bg H H4:=fun b xs r=>by
   rcases r with r | ⟨o',r⟩
   ·exact .inl (k4 _ _ (fun e=>by rw [e,R.pl] at r;cases r) r)
   ·exact .inr ⟨o',k4 _ _ (fun e=>by rw [e,R.pl] at r;cases r) r⟩
  refine ⟨_,rfl,rfl,_,rfl,?_⟩
  have n2a:∀{H5:Hp} {l2:Addr},az H4 H5->H5 l2=none->H l2=none:=fun {H5 l2} s5 n6=>by
   cases z:H l2 with
   | none=>rfl
   | some o=>
    by_cases c:l2=pP
    ·rw [c,s5 _ _ R4.pl] at n6;cases n6
    ·rw [s5 _ _ (k4 _ _ c z)] at n6;cases n6
  rcases hH with ⟨rfl,rfl⟩ | ⟨h,rfl,Ch,dxh,fsh,psh,sph,hh,hlk,MH,vH⟩
  ·refine aI (fun _=>?_) (fun c=>absurd (by decide) c)
   refine ⟨by show 0<=sizeLine;decide,fun l2 n6=>?_⟩
   have s6:=aT n6 (.lst [])
   have R6:=R4.same s6
   refine ⟨_,rfl,a,C,dx,_,_,rfl,R6.obj,fc.cls,fc.wy,rfl,_,rfl,pW,_,rfl,zo.k (k:=.inr x) R6.wy (abF (show kW.length<=1000 by omega) (by decide)),?_⟩
   have ek:putK kW (.inr x) (.ref l2)=kW++[(.inr x,.ref l2)]:=kg _ (dk (by rw [KyR.keys W];exact fun z=>hx (eL.mp z)))
   rw [ek]
   have ne6:l2≠pW:=fun z=>by have h:=R6.wy;rw [<- z,aj] at h;cases h
   exact q _ _ l2 [] (fun b o n1 n2 e=>by rw [ah n2];exact s6 _ _ (k4 b o n1 e)) (R6.Tw _) (n2a (az.refl _) n6) (by rw [ah ne6,aj]) .nil
  have h4:H4 h=some (.ins Ch dxh fsh):=k4 _ _ (fun e=>by rw [e,R.pl] at hh;cases hh) hh
  refine aI (fun c=>absurd (of_decide_eq_true c) (fun z=>nomatch z)) (fun _=>?_)
  refine ⟨_,rfl,h,Ch,dxh,fsh,psh,sph,rfl,h4,hlk,MH,vH H4 h4 t4 _ _ fun l1 us H5 s5 n5 e5 p5=>?_⟩
  refine ⟨l1,us,rfl,bq.of e5,fun l2 n6=>?_⟩
  have s6:=aT n6 (.lst us)
  have R6:=(R4.same s5).same s6
  refine ⟨_,rfl,a,C,dx,_,_,rfl,R6.obj,fc.cls,fc.wy,rfl,_,rfl,pW,_,rfl,zo.k (k:=.inr x) R6.wy (abF (show kW.length<=1000 by omega) (by decide)),?_⟩
  have ek:putK kW (.inr x) (.ref l2)=kW++[(.inr x,.ref l2)]:=kg _ (dk (by rw [KyR.keys W];exact fun z=>hx (eL.mp z)))
  rw [ek]
  have s46:az H4 (upd H5 l2 (.lst us)):=fun b o z=>s6 _ _ (s5 _ _ z)
  have ne6:l2≠pW:=fun z=>by have h:=R6.wy;rw [<- z,aj] at h;cases h
  refine q _ _ l2 us (fun b o n1 n2 e=>by rw [ah n2];exact s46 _ _ (k4 b o n1 e)) (R6.Tw _) (n2a s5 n6) (by rw [ah ne6,aj]) ((p5.same s6).aZ (.dict R6.wy))
abbrev QP (r:Rat):Str:=nt (qr r)
theorem lC {q:Int×Int}(h:q.2=1):nt q=tx q.1:=if_pos h
theorem lD {q:Int×Int}(h:q.2≠1):nt q=tx q.1++xK++tx q.2:=if_neg h
inductive EX (K:Frag)(vs:η)(H:Hp)(Q:VK)(E_:XK):Prop where
 | mk (u:V) (q:Int×Int) (_:vs=[u]) (_:sZ K H u q) (_:q.1.natAbs.log2 < 1900) (_:q.2.natAbs.log2 < 1900) (_:Q (.str (nt q)) H):EX K vs H Q E_
theorem j0:av ["one","top","bottom"] ["one"] (aa fA):=sq
theorem zt (D:Def K mg "show_ratio" fA ["one"])(jh:mg "str"=none):Fn P w K mg base CX 1 "show_ratio" ["one"] (EX K):=by
 refine D.op j0 fun f cdv A outer s H vs Q E hr h=>?_
 obtain ⟨u,q,rfl,⟨p,rfl,h⟩,l1,l2,k'⟩:=h
 refine ⟨_,(ae (aO (i:=1) j0.nd (gF kZ rfl jh xB (aG (bh (pv 0)))))
  (ae (aK (aE a9 (bh (pv 0)) ai) (ag (aA (pv 1))) ay)
  (ae (aO (i:=2) j0.nd (gF kZ rfl jh xB (aG (bh (pv 0)))))
  (ag (aA (wI (iN (YJ (pv 1)) (iN au (iN (YJ (pv 2)) EF))))))))),?_⟩
 have t1:(tx q.1).length<=1921:=int_text_len_1921 (by omega)
 have t2:(tx q.2).length<=1921:=int_text_len_1921 (by omega)
 have sz:(1921:Nat)<=sizeLine:=by decide
 refine ⟨_,rfl,p,_,_,_,rfl,rfl,h,wM,q.1,rfl,by omega,?_⟩
 refine ⟨_,rfl,p,_,_,_,rfl,rfl,h,TF,rfl,_,rfl,?_⟩
 refine aI (fun c=>?_) (fun c=>?_)
 ·have e:q.2=1:=by simpa using of_decide_eq_true c
  rw [lC e] at k'
  exact ⟨_,rfl,k'⟩
 ·have e:q.2≠1:=by
   have:=of_decide_eq_false (adv.mpr c)
   intro z
   exact this (by rw [z])
  rw [lD e] at k'
  refine ⟨_,rfl,p,_,_,_,rfl,rfl,h,TF,q.2,rfl,by omega,?_⟩
  refine ⟨_,rfl,tx q.1,rfl,ir t1 sz,tx q.1,rfl,ir t1 (by decide),?_⟩
  refine ⟨xK,rfl,(by decide+kernel),?_⟩
  refine ⟨_,rfl,tx q.2,rfl,ir t2 sz,tx q.2,rfl,ir t2 (by decide),?_⟩
  show Q (.str (((Str.empty++tx q.1)++xK)++tx q.2)) H
  rw [empty_app]
  exact k'
inductive Odd (H:Hp):V->Prop where
 | bN:Odd H .bN
 | bl (b:Bool):Odd H (.bl b)
 | str (x:Str):Odd H (.str x)
 | lst {a:Addr} {xs:η} (e:H a=some (.lst xs)):Odd H (.ref a)
 | tup {a:Addr} {xs:η} (e:H a=some (.tup xs)):Odd H (.ref a)
theorem au2:PySem.W.kitOne K (.type "int") (.type "int")=some true:=by unfold PySem.W.kitOne;rw [if_pos (by decide)]
theorem au3:PySem.W.kitOne K (.type "bool") (.type "bool")=some true:=by unfold PySem.W.kitOne;rw [if_pos (by decide)]
theorem aop:PySem.W.kitOne K (.type "int") (.type "bool")=some false:=e_ ⟨by decide,fun _=>⟨by decide+kernel,by decide+kernel⟩⟩
theorem au4:PySem.W.kitOne K (.type "bool") (.type "int")=some true:=e_ ⟨by decide,fun _=>⟨by decide+kernel,by decide+kernel⟩⟩
theorem au5:PySem.W.kitOne K (.type "NoneType") (.type "int")=some false:=e_ ⟨by decide,fun _=>⟨by decide+kernel,by decide+kernel⟩⟩
theorem au6:PySem.W.kitOne K (.type "str") (.type "int")=some false:=e_ ⟨by decide,fun _=>⟨by decide+kernel,by decide+kernel⟩⟩
theorem au7:PySem.W.kitOne K (.type "list") (.type "int")=some false:=e_ ⟨by decide,fun _=>⟨by decide+kernel,by decide+kernel⟩⟩
theorem au8:PySem.W.kitOne K (.type "tuple") (.type "int")=some false:=e_ ⟨by decide,fun _=>⟨by decide+kernel,by decide+kernel⟩⟩
def TM:Sp:=fun vs H Q _=>(∃i,vs=[.int i]/\Q (.bl true) H)\/(∃x,vs=[x]/\Odd H x/\Q (.bl false) H)
theorem MM:av ["value"] ["value"] (aa hU):=sq
theorem MQ (D:Def K mg "is_whole" hU ["value"])(aD:mg "isinstance"=none)(mP:mg "int"=none)(pM:mg "bool"=none):Fn P w K mg base CX 1 "is_whole" ["value"] TM:=by
 refine D.ok MM (fun vs H Q E h=>?_) (fun f cdv A outer s H vs Q E hr h=>?_)
 ·rcases h with ⟨i,rfl,_⟩ | ⟨x,rfl,_⟩ <;> rfl
 rcases h with ⟨i,rfl,q⟩ | ⟨x,rfl,od,q⟩
 ·refine ⟨_,(ag (aA (ti (aL gP rfl aD aY (aU (pv 0) (oE rfl mP LD))) (kS (xk (aL gP rfl aD aY (aU (pv 0) (oE rfl pM Qu)))))))),?_⟩
  refine ⟨_,rfl,_,_,_,true,rfl,rfl,.int i,au2,_,rfl,fw ?_⟩
  exact ⟨_,rfl,_,_,_,false,rfl,rfl,.int i,aop,_,rfl,q⟩
 ·refine ⟨_,(ag (aA (ti (aL gP rfl aD aY (aU (pv 0) (oE rfl mP LD))) (kS (xk (aL gP rfl aD aY (aU (pv 0) (oE rfl pM Qu)))))))),?_⟩
  cases od with
  | bN=>exact ⟨_,rfl,_,_,_,false,rfl,rfl,.bN,au5,_,rfl,cM q⟩
  | str y=>exact ⟨_,rfl,_,_,_,false,rfl,rfl,.str y,au6,_,rfl,cM q⟩
  | lst e=>exact ⟨_,rfl,_,_,_,false,rfl,rfl,.lst e,au7,_,rfl,cM q⟩
  | tup e=>exact ⟨_,rfl,_,_,_,false,rfl,rfl,.tup e,au8,_,rfl,cM q⟩
  | bl b=>exact ⟨_,rfl,_,_,_,true,rfl,rfl,.bl b,au4,_,rfl,fw ⟨_,rfl,_,_,_,true,rfl,rfl,.bl b,au3,_,rfl,q⟩⟩
inductive Bad (H:Hp):V->V->Prop where
 | one {x y:V} (h:Odd H x):Bad H x y
 | two {i:Int} {y:V} (h:Odd H y):Bad H (.int i) y
 | ajl (i:Int):Bad H (.int i) (.int 0)
def EY (C:Addr):Sp:=fun vs H Q E=>(∃t b:Int,vs=[.int t,.int b]/\b≠0/\intBits b<=9000/\gives H Q (low t b))\/(∃x y,vs=[x,y]/\Bad H x y/\E (.ref C) none H)
theorem MR:av zau zau (aa b9):=sq
theorem MT {C:Addr}{ds:θ}(D:adQ K mg "ratio_of" b9 zau ds)(dF:mg "NoNumber"=some (.ref C))(ia:PySem.W.excIn K C Yv "ValueError.__new__"=true)
  (lE:Fn P w K mg base (aV P w) 1 "is_whole" ["value"] TM) (Ve:Fn P w K mg base (aV P w) 33 "lowest_terms" zau kE):Fn P w K mg base (aV P w) 34 "ratio_of" zau (EY C)/\FnD P w K mg base (aV P w) 34 "ratio_of" zau ds (EY C):=by
 refine D.Yu MR (fun vs H Q E h=>?_) (fun f cdv A outer s H vs Q E hr h=>?_)
 ·rcases h with ⟨t,b,rfl,_⟩ | ⟨x,y,rfl,_⟩ <;> rfl
 have px:=d_ (P:=P) (w:=w) (K:=K) (mg:=mg) (base:=base) (N:=zau) (qual:="ratio_of") (scope:=aa b9) (f:=f) (cdv:=cdv) (A:=A) (outer:=outer) (s0:=s) (H0:=H) (E:=E)
 rcases h with ⟨t,b,rfl,hb,bb,q⟩ | ⟨x,y,rfl,hB,q⟩
 ·refine ⟨_,(ae (aK (PW.pt (lU (gN (eU (aR lE hr.mo px (aG (pv 0))))) (iZ (gN (eU (aR lE hr.mo px (aG (pv 1)))))))) (ag (cR PySem.F.excBase_ValueError dF ia hr.hd (aG au))) ay)
  (ae (aK (aE a9 (pv 1) ai) (ag (cR PySem.F.excBase_ValueError dF ia hr.hd (aG au))) ay)
  (ag (aA (aR Ve hr.mo px (aU (pv 0) (pv 1))))))),?_⟩
  refine ⟨_,rfl,.inl ⟨t,rfl,_,rfl,?_⟩⟩
  refine aI (fun c=>nomatch c) (fun _=>?_)
  refine ⟨_,rfl,.inl ⟨b,rfl,_,rfl,?_⟩⟩
  refine aI (fun c=>nomatch c) (fun _=>?_)
  refine ⟨_,rfl,rfl,_,rfl,?_⟩
  refine aI (fun z=>?_) (fun _=>?_)
  ·exact absurd (by simpa using of_decide_eq_true z) hb
  ·exact ⟨_,rfl,_,rfl,t,b,rfl,hb,q⟩
 ·refine ⟨_,(ae (aK (PW.pt (lU (gN (eU (aR lE hr.mo px (aG (pv 0))))) (iZ (gN (eU (aR lE hr.mo px (aG (pv 1)))))))) (ag (cR PySem.F.excBase_ValueError dF ia hr.hd (aG au))) ay)
  (ae (aK (aE a9 (pv 1) ai) (ag (cR PySem.F.excBase_ValueError dF ia hr.hd (aG au))) ay)
  (ag (aA (aR Ve hr.mo px (aU (pv 0) (pv 1))))))),?_⟩
  have sz:(1:Nat)<=sizeLine:=by decide
  cases hB with
  | one od=>
   refine ⟨_,rfl,.inr ⟨_,rfl,od,_,rfl,?_⟩⟩
   refine aI (fun _=>?_) (fun c=>absurd rfl c)
   exact fw ⟨sz,q⟩
  | @two i _ od=>
   refine ⟨_,rfl,.inl ⟨i,rfl,_,rfl,?_⟩⟩
   refine aI (fun c=>nomatch c) (fun _=>?_)
   refine ⟨_,rfl,.inr ⟨_,rfl,od,_,rfl,?_⟩⟩
   exact aI (fun _=>⟨sz,q⟩) (fun c=>absurd rfl c)
  | ajl i=>
   refine ⟨_,rfl,.inl ⟨i,rfl,_,rfl,?_⟩⟩
   refine aI (fun c=>nomatch c) (fun _=>?_)
   refine ⟨_,rfl,.inl ⟨0,rfl,_,rfl,?_⟩⟩
   refine aI (fun c=>nomatch c) (fun _=>?_)
   refine ⟨_,rfl,rfl,_,rfl,?_⟩
   exact aI (fun _=>⟨sz,q⟩) (fun c=>absurd rfl c)
inductive jM (H:Hp):V->Prop where
 | bN:jM H .bN
 | bl (b:Bool):jM H (.bl b)
 | int (i:Int):jM H (.int i)
 | lst {a:Addr} {xs:η} (e:H a=some (.lst xs)):jM H (.ref a)
 | tup {a:Addr} {xs:η} (e:H a=some (.tup xs)):jM H (.ref a)
theorem jM.same {H H' :Hp}{x:V}(h:jM H x)(s:az H H'):jM H' x:=by
 cases h with
 | bN=>exact .bN
 | bl b=>exact .bl b
 | int i=>exact .int i
 | lst e=>exact .lst (s _ _ e)
 | tup e=>exact .tup (s _ _ e)
theorem jM.ty {K:Frag}{H:Hp}{x:V}(h:jM H x):∃t,qI K H x t/\PySem.W.kitOne K t (adP (.ty "str"))=some false:=by
 cases h with
 | bN=>exact ⟨_,.bN,e_ ⟨by decide,fun _=>⟨by decide+kernel,by decide+kernel⟩⟩⟩
 | bl b=>exact ⟨_,.bl b,e_ ⟨by decide,fun _=>⟨by decide+kernel,by decide+kernel⟩⟩⟩
 | int i=>exact ⟨_,.int i,e_ ⟨by decide,fun _=>⟨by decide+kernel,by decide+kernel⟩⟩⟩
 | lst e=>exact ⟨_,.lst e,e_ ⟨by decide,fun _=>⟨by decide+kernel,by decide+kernel⟩⟩⟩
 | tup e=>exact ⟨_,.tup e,e_ ⟨by decide,fun _=>⟨by decide+kernel,by decide+kernel⟩⟩⟩
theorem aoq:PySem.W.kitOne K (.type "str") (.type "str")=some true:=by unfold PySem.W.kitOne;rw [if_pos (by decide)]
theorem Vl:∀{cs:Α},NumText.AllDigits cs->NumText.digitsVal cs < 10^cs.length:=by
 intro cs
 have go:∀(cs:Α) (acc:Nat),NumText.AllDigits cs->cs.foldl (fun acc c=>acc*10+(c - 48)) acc < (acc+1)*10^cs.length:=by
  intro cs
  induction cs with
  | nil=>intro acc _;simp
  | cons c r ih=>
   intro acc h
   have hc:=h.head
   have:=ih (acc*10+(c - 48)) h.tail
   rw [List.foldl_cons,abC,Nat.pow_succ]
   refine abu this ?_
   have e:(acc+1)*(10^r.length*10)=((acc+1)*10)*10^r.length:=by
    rw [Nat.mul_comm (10^r.length) 10,Nat.mul_assoc]
   rw [e]
   exact agI _ (by omega)
 intro h
 have:=go cs 0 h
 simpa [NumText.digitsVal] using this
def MU (cs:Α):List Nat:=match cs with
 | []=>[]
 | d::r=>if d=45 then r else d::r
inductive ajm (C:Addr)(vs:η)(H:Hp)(Q:VK)(E:XK):Prop where
 | mk (x:Str) (_:vs=[.str x]) (_:YO x) (_:(∀n H',n.natAbs < 10^60->az H H' ->(∀m:Int,m.natAbs < 10^60->x=tx m->n=m)->Q (.int n) H')) (_:((∀m:Int,m.natAbs < 10^60->x≠tx m)->∀H',az H H' ->E (.ref C) none H')):ajm C vs H Q E
theorem QQ {x:Str}(h:x.cps.toList=[]):Txt.startswith x ⟨#[45]⟩=false:=by
 have hl:x.length=0:=by rw [bf,h];rfl
 unfold Txt.startswith
 have e1:decide (0+(⟨#[45]⟩:Str).length<=x.length)=false:=decide_eq_false (by rw [Ty.one_sign,hl];omega)
 rw [e1,am5]
theorem TN (m:Int):MU (tx m).cps.toList=dg m.natAbs:=by
 rw [tJ]
 split
 ·rfl
 ·cases e:dg m.natAbs with
  | nil=>rfl
  | cons d r=>
   have:=tI m.natAbs d (by rw [e];exact abE)
   show (if d=45 then r else d::r)=d::r
   rw [if_neg (by omega)]
theorem TQ (cs:Α):((cs.map fun c=>decide (c∈(Str.ofString "0123456789").cps.toList)).all id)=true ↔ NumText.AllDigits cs:=by
 rw [alx]
 constructor
 ·intro h c hc
  have:=h _ (List.mem_map_of_mem hc)
  have m:c∈(Str.ofString "0123456789").cps.toList:=of_decide_eq_true this
  have e:(Str.ofString "0123456789").cps.toList=[48,49,50,51,52,53,54,55,56,57]:=by decide+kernel
  rw [e] at m
  simp at m
  omega
 ·intro h b hb
  obtain ⟨c,hc,rfl⟩:=aeu.mp hb
  exact decide_eq_true (YN (h c hc))
theorem oM:av ["text","figures"] zaM (aa c9):=sq
theorem zu {C:Addr}{tkF tkM:Tok}(D:Def K mg "read_whole" c9 zaM)(bP:mg "len"=none)(rj:mg "all"=none)(mP:mg "int"=none)(iX:mg "FIGURES"=some (.str "0123456789" tkF))(ji:mg "MOST_FIGURES"=some (.int 60 tkM))
  (b6:mg "NoText"=some (.ref C)) (dQ:PySem.W.excIn K C Yv "ValueError.__new__"=true):Fn P w K mg base (aV P w) 1 "read_whole" zaM (ajm C):=by
 refine D.Yu oM (fun vs H Q E h=>?_) (fun f cdv A outer s H vs Q E hr h=>?_)
 ·obtain ⟨x,rfl,_⟩:=h
  rfl
 obtain ⟨x,rfl,hx,q,qe⟩:=h
 have hl:=hx.len
 have hz:x.length<=sizeLine:=ir hl (by decide)
 have sz:(1:Nat)<=sizeLine:=by decide
 have tail:∃t,PSs (gK P w K mg base ["text","figures"] "read_whole" (aa c9) f cdv A outer s H E) ((aq c9).drop 1) t/\∀g:Str,g.cps.toList=MU x.cps.toList->t {nx:=fun _ H' =>Q .bN H',rt:=Q} [some (.str x),some (.str g)] H:=by
  refine ⟨_,(ae (aK (gN (xn AY AY ai (aL qN rfl bP g_ (aG (pv 1))) (dy (v:=.int 60) rfl ji ⟨_,rfl⟩))) (ag (cR PySem.F.excBase_ValueError b6 dQ hr.hd (aG au))) ay) (ae (aK (gN (eU (aL (tH rfl) rfl rj Yn (aG (nL (tn:=["sign"]) (fr:=[]) (caps:=[]) (YI (pv 1)) (dz tm (pv 0) (dy (v:=.str "0123456789") rfl iX ⟨_,rfl⟩) rfl)))))) (ag (cR PySem.F.excBase_ValueError b6 dQ hr.hd (aG (wI (iN au (iN (QE (pv 0)) EF)))))) ay) (ag (aA (gF zm rfl mP LD (aG (pv 0))))))),?_⟩
  intro g hg
  have gl:g.length=(MU x.cps.toList).length:=by rw [bf,hg]
  have gx:g.length<=400:=by
   rw [gl]
   rw [bf] at hl
   cases e:x.cps.toList with
   | nil=>simp [MU]
   | cons d r=>
    rw [e] at hl
    unfold MU
    simp only at hl ⊢
    split <;> (simp at hl ⊢;omega)
  have gz' :g.length<=sizeLine:=ir gx (by decide)
  have no1:¬ ((1:Int)<=(g.length:Int)/\(g.length:Int)<=60)->∀m:Int,m.natAbs < 10^60->x≠tx m:=fun n m hm e=>by
   rw [e,TN] at gl
   have h1:=YM (by decide) hm
   have h2:1<=(dg m.natAbs).length:=by
    cases z:dg m.natAbs with
    | nil=>exact absurd z (Tj _)
    | cons c r=>simp
   exact n (by omega)
  refine ⟨_,rfl,g,rfl,gz',_,_,rfl,rfl,_,rfl,?_⟩
  refine aI (fun c1=>?_) (fun c1=>?_)
  ·have c1' :(1:Int)<=(g.length:Int):=of_decide_eq_true c1
   refine ⟨_,_,rfl,rfl,_,rfl,?_⟩
   refine aI (fun c2=>?_) (fun c2=>?_)
   ·have c2' :¬ (g.length:Int)<=60:=of_decide_eq_false (by simpa using c2)
    exact ⟨sz,qe (no1 fun z=>c2' z.2) H (az.refl H)⟩
   ·have c2' :(g.length:Int)<=60:=of_decide_eq_true (by simpa using c2)
    refine ⟨_,rfl,g,rfl,fun D nD=>YG (cap:=[]) g.cps.size (fun i=>.str ⟨#[g.cps.getD i 0]⟩) (fun i ys H' =>ys=((g.cps.toList.take i).map fun c=>decide (c∈(Str.ofString "0123456789").cps.toList)).map V.bl/\az H H') ⟨rfl,aT nD _⟩ ?_ (fun ys H' _=>rfl) ?_ ?_⟩
    ·intro i ys H' hi _
     refine ⟨hi,fun x H'' y=>?_⟩
     obtain ⟨e1,c,ec,ex⟩:=y
     refine ⟨e1,?_⟩
     have:g.cps.getD i 0=c:=by
      rw [Array.getD_eq_getD_getElem?,ec]
      rfl
     rw [this]
     exact ex
    ·rintro i ys H' R hi ⟨hy,s1⟩ hD k
     have hi' :i < g.cps.toList.length:=by simpa using hi
     have eg:g.cps.getD i 0=g.cps.toList[i]:=by simp [Array.getD,hi]
     refine ⟨_,rfl,_,_,rfl,rfl,?_⟩
     rw [QC]
     have yl:ys.length<=i:=by rw [hy,Wp,Wp,aiC];omega
     refine k _ _ hD (abu (show ys.length < 401 by have:g.cps.size=g.length:=rfl;omega) (by decide)) ⟨?_,fun b o e=>?_⟩
     ·rw [hy,List.take_succ_eq_append_getElem hi',aeU,aeU,eg]
      rfl
     ·rw [ah (ak e nD)]
      exact s1 _ _ e
    ·rintro ys H' ⟨hy,s1⟩ hD
     have ht:g.cps.toList.take g.cps.size=g.cps.toList:=agN (by simp)
     rw [ht] at hy
     refine ⟨D,g.cps.toList.map fun c=>decide (c∈(Str.ofString "0123456789").cps.toList),rfl,by rw [<- hy];exact bq.of hD,_,rfl,?_⟩
     by_cases ad:NumText.AllDigits g.cps.toList
     ·rw [(TQ _).mpr ad]
      refine ad3 ?_
      rw [hg] at ad
      have ne:MU x.cps.toList≠[]:=fun z=>by rw [z] at gl;simp at gl;omega
      have fl:(MU x.cps.toList).length<=60:=by omega
      have vb:=abu (Vl ad) (af' (show 0 < 10 by decide) fl)
      have ava:x.length<=640:=ir hl (by decide)
      have agH:x.length<=4300:=ir hl (by decide)
      obtain ⟨n,hn,bn⟩:∃n:Int,PySem.intText? x=some n/\n.natAbs < 10^60:=by
       cases e:x.cps.toList with
       | nil=>rw [e] at ne;exact absurd rfl ne
       | cons d r=>
        rw [e] at ad ne vb
        by_cases hd:d=45
        ·subst hd
         exact ⟨_,intText_neg e ad ne agH,by rw [asc];exact vb⟩
        ·have f1:MU (d::r)=d::r:=if_neg hd
         rw [f1] at ad ne vb
         exact ⟨_,intText_digits (by rw [e];exact ad) (by rw [e];exact ne) agH,by rw [e];exact vb⟩
      refine ⟨_,rfl,x,n,rfl,hn,ava,q n _ bn s1 fun m hm e=>?_⟩
      rw [e,fY (abu hm (af' (by decide) (by decide)))] at hn
      exact (abq hn).symm
     ·have:((g.cps.toList.map fun c=>decide (c∈(Str.ofString "0123456789").cps.toList)).all id)=false:=adv.mpr fun z=>ad ((TQ _).mp z)
      rw [this]
      refine EE ?_
      refine ⟨Str.ofString "not all of these are figures: ",rfl,(by decide+kernel),?_⟩
      refine ⟨_,rfl,x,rfl,hx,fun y hy=>⟨y,rfl,hy,?_⟩⟩
      refine ⟨sz,qe (fun m hm e=>ad ?_) H' s1⟩
      rw [hg,e,TN]
      exact tI _
  ·have c1' :¬ (1:Int)<=(g.length:Int):=of_decide_eq_false (adv.mpr c1)
   refine ⟨_,rfl,?_⟩
   refine EE ?_
   exact ⟨sz,qe (no1 fun z=>c1' z.1) H (az.refl H)⟩
 obtain ⟨t1,p1,q1⟩:=tail
 refine ⟨_,ae (aO (i:=1) oM.nd (eV (eU (gO PySem.F.plainAttrs_str PySem.F.slot_str_startswith PySem.F.type_str_startswith zl (pv 0) (aG au))) (qK aiM (pv 0) (qJ ai) DN) (pv 0))) p1,?_⟩
 refine ⟨_,rfl,rfl,x,⟨#[45]⟩,rfl,rfl,_,rfl,?_⟩
 cases e:x.cps.toList with
 | nil=>
  rw [QQ e]
  refine cM ?_
  exact ⟨_,rfl,q1 x (by rw [e];rfl)⟩
 | cons d r=>
  rw [QD e]
  refine aI (fun c=>?_) (fun c=>?_)
  ·have hd:d=45:=of_decide_eq_true c
   refine ⟨_,rfl,1,rfl,x,rfl,hz,?_⟩
   refine q1 _ ?_
   rw [UN e,e]
   exact (if_pos hd).symm
  ·have hd:d≠45:=of_decide_eq_false (adv.mpr c)
   refine ⟨_,rfl,q1 _ ?_⟩
   rw [e]
   exact (if_neg hd).symm
structure Good (q:Int×Int):Prop where
 pos:0 < q.2
 low:af1 q.1 q.2=1
 top:q.1.natAbs < 10^60
 bot:q.2.natAbs < 10^60
theorem BU {n:Int}(h:n.natAbs < 10^60):n.natAbs.log2 < 1900:=by
 by_cases z:n.natAbs=0
 ·rw [z];decide
 ·exact (Nat.log2_lt z).mpr (abu h (by decide+kernel))
theorem QR {n:Int}(h:n.natAbs < 10^60):intBits n<=200:=intBits_le_iff.mpr (abu h (by decide+kernel))
theorem Zm {t b:Int}(hb:b≠0)(h1:t.natAbs < 10^60)(h2:b.natAbs < 10^60):Good (low t b):=
 ⟨qQ hb,wA hb,abF (xv hb) h1,abF (xw hb) h2⟩
def aor (C:Addr):Sp:=fun vs H Q E=>(∃x:Str,vs=[.str x]/\YO x/\(∀q,Good q->x=nt q->gives H Q q)/\((∀q,Good q->x≠nt q)->∀H',az H H' ->E (.ref C) none H'))\/
 (∃u:V,vs=[u]/\jM H u/\E (.ref C) none H)
theorem TR {x y:Str}(h:YO x)(l:y.length<=x.length)(s:∀c∈y.cps.toList,c∈x.cps.toList):YO y:=⟨ir l h.len,fun c hc=>h.Pz c (s c hc)⟩
theorem ajn {q r:Int×Int}(hq:Good q)(hr:Good r)(h:nt q=nt r):q=r:=by
 have key:∀{q r:Int×Int},Good q->Good r->nt q=nt r->q.2=1->q=r:=fun {q r} gq gr h e=>by
  by_cases e' :r.2=1
  ·rw [lC e,lC e'] at h
   have h1:=fY (n:=q.1) (abu gq.top (af' (by decide) (by decide)))
   rw [h,fY (abu gr.top (af' (by decide) (by decide)))] at h1
   exact agx (abq h1).symm (e.trans e'.symm)
  ·exfalso
   rw [lC e,lD e'] at h
   have:(47:Nat)∈(tx r.1++xK++tx r.2).cps.toList:=by
    rw [cps_append,cps_append,nH]
    simp
   rw [<- h] at this
   exact oJ (by decide) (by decide) this
 by_cases e:q.2=1
 ·exact key hq hr h e
 ·by_cases e' :r.2=1
  ·exact (key hr hq h.symm e').symm
  ·have p1:=wJ (a:=tx q.1) (b:=tx q.2) (oJ (by decide) (by decide))
   have p2:=wJ (a:=tx r.1) (b:=tx r.2) (oJ (by decide) (by decide))
   rw [lD e,lD e'] at h
   have h' :tx q.1++(⟨#[47]⟩:Str)++tx q.2=tx r.1++(⟨#[47]⟩:Str)++tx r.2:=h
   rw [h',p2] at p1
   have a:tx r.1=tx q.1:=congrArg al_ p1
   have b:tx r.2=tx q.2:=congrArg (fun z=>z.2.2) p1
   have up:∀{n:Int},n.natAbs < 10^60->n.natAbs < 10^4000:=fun h=>abu h (af' (by decide) (by decide))
   have a1:=fY (up hq.top)
   rw [<- a,fY (up hr.top)] at a1
   have b1:=fY (up hq.bot)
   rw [<- b,fY (up hr.bot)] at b1
   exact agx (abq a1).symm (abq b1).symm
theorem cj:av zaK zaM (aa cG):=sq
theorem zv {C CN:Addr}(D:Def K mg "read_ratio" cG zaM)(aD:mg "isinstance"=none)(jh:mg "str"=none)(b6:mg "NoText"=some (.ref C))(dQ:PySem.W.excIn K C Yv "ValueError.__new__"=true)
  (iP:Fn P w K mg base (aV P w) 1 "read_whole" zaM (ajm C))
  (ya:Fn P w K mg base (aV P w) 34 "ratio_of" zau (EY CN)) (rk:Fn P w K mg base (aV P w) 1 "show_ratio" ["one"] (EX K)):Fn P w K mg base (aV P w) 35 "read_ratio" zaM (aor C):=by
 refine D.Yu cj (fun vs H Q E h=>?_) (fun f cdv A outer s H vs Q E hr h=>?_)
 ·rcases h with ⟨x,rfl,_⟩ | ⟨u,rfl,_⟩ <;> rfl
 have px:=d_ (P:=P) (w:=w) (K:=K) (mg:=mg) (base:=base) (N:=zaK) (qual:="read_ratio") (scope:=aa cG) (f:=f) (cdv:=cdv) (A:=A) (outer:=outer) (s0:=s) (H0:=H) (E:=E)
 have sz:(1:Nat)<=sizeLine:=by decide
 rcases h with ⟨x,rfl,hx,q,qe⟩ | ⟨u,rfl,hu,qe⟩
 ·have hz:x.length<=sizeLine:=ir hx.len (by decide)
  have tail:∃t,PSs (gK P w K mg base zaK "read_ratio" (aa cG) f cdv A outer s H E) ((aq cG).drop 4) t/\∀(H1:Hp) (o:Η) (n m:Int),az H H1->n.natAbs < 10^60->m.natAbs < 10^60->(∀r,Good r->x=nt r->r=(n,m))->
    t {nx:=fun _ H' =>Q .bN H',rt:=Q} [some (.str x),o,some (.int n),some (.int m),none] H1:=by
   refine ⟨_,(ae (aK (aE a9 (pv 3) ai) (ag (cR PySem.F.excBase_ValueError b6 dQ hr.hd (aG au))) ay) (ae (aO (i:=4) cj.nd (aR ya hr.mo px (aU (pv 2) (pv 3)))) (ae (aK (aE uQ (aR rk hr.mo px (aG (pv 4))) (pv 0)) (ag (cR PySem.F.excBase_ValueError b6 dQ hr.hd (aG (wI (iN au (iN (QE (pv 0)) EF)))))) ay) (ag (aA (pv 4)))))),?_⟩
   intro H1 o n m s1 hn hm hr'
   refine ⟨_,rfl,rfl,_,rfl,?_⟩
   refine aI (fun c=>?_) (fun c=>?_)
   ·have e:m=0:=by simpa using of_decide_eq_true c
    refine ⟨sz,qe (fun r gr z=>?_) H1 s1⟩
    have e' :=hr' r gr z
    have p:=gr.pos
    rw [e',e] at p
    exact absurd (show (0:Int) < 0 from p) (by decide)
   ·have e:m≠0:=by
     have:=of_decide_eq_false (adv.mpr c)
     intro z
     exact this (by rw [z])
    have gl:=Zm e hn hm
    refine ⟨_,rfl,_,rfl,.inl ⟨n,m,rfl,e,ir (QR hm) (by decide),fun p H2 s2 e2=>?_⟩⟩
    refine ⟨_,rfl,_,low n m,rfl,⟨p,rfl,cT.of e2⟩,BU gl.top,BU gl.bot,_,rfl,rfl,_,rfl,?_⟩
    by_cases ez:nt (low n m)=x
    ·refine am2 (congrArg V.str ez) ?_
     exact ⟨_,rfl,q _ gl ez.symm p H2 (s1.trans s2) e2⟩
    ·rw [decide_eq_false (fun z=>ez (V.str.inj z))]
     refine EE ?_
     refine ⟨Str.ofString "not as a number is written: ",rfl,(by decide+kernel),?_⟩
     refine ⟨_,rfl,x,rfl,hx,fun y hy=>⟨y,rfl,hy,?_⟩⟩
     refine ⟨sz,qe (fun r gr z=>ez ?_) H2 (s1.trans s2)⟩
     have e' :=hr' r gr z
     have e3:low n m=r:=by
      rw [e']
      have h1:=gr.pos
      have h2:=gr.low
      rw [e'] at h1 h2
      exact xy h1 h2
     rw [e3]
     exact z.symm
  obtain ⟨t4,p4,q4⟩:=tail
  refine ⟨_,(ae (aK (gN (eU (aL gP rfl aD aY (aU (pv 0) (oE rfl jh xB))))) (ag (cR PySem.F.excBase_ValueError b6 dQ hr.hd (aG au))) ay) (ae (aO (i:=1) cj.nd (gO PySem.F.plainAttrs_str PySem.F.slot_str_partition PySem.F.type_str_partition iO (pv 0) (aG au))) (ae (aO (i:=2) cj.nd (aR iP hr.mo px (aG (bh (pv 1))))) (ae (aO (i:=3) cj.nd (eV (aE a9 (bh (pv 1)) au) (aR iP hr.mo px (aG (bh (pv 1)))) ai)) p4)))),?_⟩
  refine ⟨_,rfl,_,_,_,true,rfl,rfl,.str x,aoq,_,rfl,?_⟩
  refine aI (fun c=>nomatch c) (fun _=>?_)
  refine ⟨_,rfl,rfl,x,⟨#[47]⟩,rfl,rfl,rfl,hz,fun p np=>?_⟩
  rcases partition_whole x ⟨#[47]⟩ with ⟨e1,hn⟩ | ⟨i,e1,hi,hk⟩
  ·have avb:47∉x.cps.toList:=fun m=>by obtain ⟨i,hi⟩:=(mem_iff_at x 47).mp m;exact hn i hi
   have one:∀r,Good r->x=nt r->r.2=1/\x=tx r.1:=fun r gr z=>by
    by_cases e:r.2=1
    ·exact ⟨e,by rw [z,lC e]⟩
    ·exfalso
     refine avb ?_
     rw [z,lD e,cps_append,cps_append,nH]
     simp
   rw [e1]
   have s1:=aT np (.tup [.str x,.str Str.empty,.str Str.empty])
   have h1:upd H p (.tup [.str x,.str Str.empty,.str Str.empty]) p=some (.tup [.str x,.str Str.empty,.str Str.empty]):=aj
   refine ⟨_,rfl,p,_,_,_,rfl,rfl,cT.of h1,rfl,x,rfl,hx,fun n H2 S9 s2 hm2=>?_,fun nt' H2 s2=>qe (fun r gr z=>nt' r.1 gr.top (one r gr z).2) H2 (s1.trans s2)⟩
   refine ⟨_,rfl,p,_,_,_,rfl,rfl,cT.of (s2 _ _ h1),rfl,rfl,_,rfl,?_⟩
   refine aI (fun c=>absurd (of_decide_eq_true c) (by decide+kernel)) (fun _=>?_)
   refine q4 H2 (some (.ref p)) n 1 (s1.trans s2) S9 (by decide+kernel) fun r gr z=>?_
   obtain ⟨a,b⟩:=one r gr z
   exact agx (hm2 r.1 gr.top b).symm a
  ·rw [e1]
   have sub:∀(i j:Nat) (c:Nat),c∈(Builtin.Str.strSub x i j).cps.toList->c∈x.cps.toList:=fun i j c hc=>by
    have:(Builtin.Str.strSub x i j).cps.toList=(x.cps.toList.take j).drop i:=by
     show (x.cps.extract i j).toList=_
     simp [alN,am8]
    rw [this] at hc
    exact alC (am9 hc)
   have aou:∀(i j:Nat),(Builtin.Str.strSub x i j).length<=x.length:=fun i j=>by
    show (x.cps.extract i j).size<=x.cps.size
    simp
    omega
   have ka:=TR hx (aou 0 i) (sub 0 i)
   have kb:=TR hx (aou (i+(⟨#[47]⟩:Str).length) x.length) (sub (i+(⟨#[47]⟩:Str).length) x.length)
   have two:∀r,Good r->x=nt r->Builtin.Str.strSub x 0 i=tx r.1/\Builtin.Str.strSub x (i+(⟨#[47]⟩:Str).length) x.length=tx r.2:=fun r gr z=>by
    by_cases e:r.2=1
    ·exfalso
     have:(47:Nat)∈x.cps.toList:=(mem_iff_at x 47).mpr ⟨i,hi⟩
     rw [z,lC e] at this
     exact oJ (by decide) (by decide) this
    ·have p1:=wJ (a:=tx r.1) (b:=tx r.2) (oJ (by decide) (by decide))
     have z' :x=tx r.1++(⟨#[47]⟩:Str)++tx r.2:=by rw [z,lD e];rfl
     rw [<- z',e1] at p1
     exact ⟨congrArg al_ p1,congrArg (fun z=>z.2.2) p1⟩
   generalize Builtin.Str.strSub x 0 i=sa at ka two ⊢
   generalize Builtin.Str.strSub x (i+(⟨#[47]⟩:Str).length) x.length=sb at kb two ⊢
   have s1:=aT np (.tup [.str sa,.str ⟨#[47]⟩,.str sb])
   have h1:upd H p (.tup [.str sa,.str ⟨#[47]⟩,.str sb]) p=some (.tup [.str sa,.str ⟨#[47]⟩,.str sb]):=aj
   refine ⟨_,rfl,p,_,_,_,rfl,rfl,cT.of h1,rfl,sa,rfl,ka,fun n H2 S9 s2 hm2=>?_,fun nt' H2 s2=>qe (fun r gr z=>nt' r.1 gr.top (two r gr z).1) H2 (s1.trans s2)⟩
   refine ⟨_,rfl,p,_,_,_,rfl,rfl,cT.of (s2 _ _ h1),rfl,rfl,_,rfl,?_⟩
   refine aI (fun _=>?_) (fun c=>absurd (decide_eq_true (by decide+kernel)) c)
   refine ⟨_,rfl,p,_,_,_,rfl,rfl,cT.of (s2 _ _ h1),rfl,sb,rfl,kb,fun m H3 hn3 s3 hm3=>?_,fun nt' H3 s3=>qe (fun r gr z=>nt' r.2 gr.bot (two r gr z).2) H3 ((s1.trans s2).trans s3)⟩
   refine q4 H3 (some (.ref p)) n m ((s1.trans s2).trans s3) S9 hn3 fun r gr z=>?_
   obtain ⟨a,b⟩:=two r gr z
   exact agx (hm2 r.1 gr.top a).symm (hm3 r.2 gr.bot b).symm
 ·refine ⟨_,(ae (aK (gN (eU (aL gP rfl aD aY (aU (pv 0) (oE rfl jh xB))))) (ag (cR PySem.F.excBase_ValueError b6 dQ hr.hd (aG au))) ay)
  (ae (aO (i:=1) cj.nd (gO PySem.F.plainAttrs_str PySem.F.slot_str_partition PySem.F.type_str_partition iO (pv 0) (aG au)))
  (ae (aO (i:=2) cj.nd (aR iP hr.mo px (aG (bh (pv 1)))))
  (ae (aO (i:=3) cj.nd (eV (aE a9 (bh (pv 1)) au) (aR iP hr.mo px (aG (bh (pv 1)))) ai))
  (ae (aK (aE a9 (pv 3) ai) (ag (cR PySem.F.excBase_ValueError b6 dQ hr.hd (aG au))) ay)
  (ae (aO (i:=4) cj.nd (aR ya hr.mo px (aU (pv 2) (pv 3))))
  (ae (aK (aE uQ (aR rk hr.mo px (aG (pv 4))) (pv 0)) (ag (cR PySem.F.excBase_ValueError b6 dQ hr.hd (aG (wI (iN au (iN (QE (pv 0)) EF)))))) ay)
  (ag (aA (pv 4)))))))))),?_⟩
  obtain ⟨t,ty,kt⟩:=hu.ty (K:=K)
  refine ⟨_,rfl,_,_,t,false,rfl,rfl,ty,kt,_,rfl,?_⟩
  refine aI (fun _=>?_) (fun c=>absurd rfl c)
  exact ⟨sz,qe⟩
inductive TU (K:Frag)(vs:η)(H:Hp)(Q:VK)(E_:XK):Prop where
 | mk (x:Str) (_:vs=[.str x]) (_:YO x) (_:(∀r:Rat,Good (qr r)->x=QP r->∀v H',az H H' ->oK K H' v r->Q v H')) (_:((∀r:Rat,Good (qr r)->x≠QP r)->∀H',az H H' ->Q .bN H')):TU K vs H Q E_
theorem EZ:av zaG zaG (aa gI):=sq
theorem FA {C:Addr}(D:Def K mg "number_of" gI zaG)(b6:mg "NoText"=some (.ref C))(e1:PySem.W.exmOne K (.ref C) (.ref C)=some true)(hC:(PySem.W.clsIn K C).isSome=true)
  (FC:Fn P w K mg base (aV P w) 35 "read_ratio" zaM (aor C)):Fn P w K mg base (aV P w) 36 "number_of" zaG (TU K):=by
 refine D.op EZ fun f cdv A outer s H vs Q E hr h=>?_
 obtain ⟨x,rfl,hx,q1,q2⟩:=h
 refine ⟨_,(ag (Yr ⟨rfl,rfl⟩ (aec (agd FC hr.mo (aG (pv 0)))) (agz (Qw.own b6) (fun a=>(ag (aA bz))) Yq))),?_⟩
 refine ⟨_,rfl,.inl ⟨x,rfl,hx,fun q g e p H' s e2=>?_,fun no H' s=>?_⟩⟩
 ·have eq:=MB g.pos g.low
  refine q1 (vl q) (by rw [<- eq];exact g) (by rw [e];unfold QP;rw [<- eq]) _ H' s ⟨p,rfl,?_⟩
  rw [<- eq]
  exact cT.of e2
 ·exact ⟨true,e1,q2 (fun r g e=>no (qr r) g e) H' s⟩
def kG (c:Nat):Bool:=decide (c∈("abcdefghijklmnopqrstuvwxyz":Str).cps.toList) || decide (c∈("0123456789":Str).cps.toList)
def isName (x:Str):Bool:= !decide (V.str x=V.str "") && x.cps.toList.all kG
inductive yb (vs:η)(H:Hp)(Q:VK)(E_:XK):Prop where
 | mk (x:Str) (_:vs=[.str x]) (_:x.length<=400) (_:∀H',az H H' ->Q (.bl (isName x)) H'):yb vs H Q E_
theorem QS:av zaG zaG (aa iV):=sq
theorem QT (hM:j_ CX){tkF tkL:Tok}(D:Def K mg "is_name" iV zaG)(rj:mg "all"=none)(iX:mg "FIGURES"=some (.str "0123456789" tkF))(tX:mg "LETTERS"=some (.str "abcdefghijklmnopqrstuvwxyz" tkL)):Fn P w K mg base CX 1 "is_name" zaG yb:=by
 refine D.oo QS fun H hr h=>?_
 obtain ⟨x,rfl,hx,q⟩:=h
 have hx' :x.cps.size<=400:=hx
 refine ⟨_,(ag (aA (ti (dz uQ (pv 0) au (i_ _)) (kS (aL (tH rfl) rfl rj Yn (aG (nL (tn:=["sign"]) (fr:=[]) (caps:=[]) (YI (pv 0)) (XQ (dz tm (pv 0) (dy (v:=.str "abcdefghijklmnopqrstuvwxyz") rfl tX ⟨_,rfl⟩) rfl) (kS (dz tm (pv 0) (dy (v:=.str "0123456789") rfl iX ⟨_,rfl⟩) rfl)))))))))),?_⟩
 refine ⟨_,rfl,rfl,_,rfl,?_⟩
 by_cases c:V.str x=V.str ""
 ·rw [decide_eq_true c]
  refine cM ?_
  have:=q H (az.refl H)
  unfold isName at this
  rw [decide_eq_true c] at this
  exact this
 rw [decide_eq_false c]
 refine fw ?_
 refine ⟨_,rfl,x,rfl,fun D nD=>Zc (x:=x) (fun i v _=>∃c,x.cps[i]? =some c/\v=.bl (kG c)) nD (abF hx' (by decide)) (fun _ _ _ _ _ _ _ h=>h) (fun i c H2 R hc s2 k=>?_) (fun ys H2 ly hy s2 hD=>?_)⟩
 ·refine ⟨_,rfl,_,_,rfl,rfl,?_⟩
  rw [QC]
  by_cases c1:c∈("abcdefghijklmnopqrstuvwxyz":Str).cps.toList
  ·rw [decide_eq_true c1]
   refine ⟨_,rfl,fw (k _ H2 (az.refl _) ⟨c,hc,?_⟩)⟩
   unfold kG
   rw [decide_eq_true c1]
   rfl
  ·rw [decide_eq_false c1]
   refine ⟨_,rfl,cM ⟨_,rfl,_,_,rfl,rfl,?_⟩⟩
   rw [QC]
   refine k _ H2 (az.refl _) ⟨c,hc,?_⟩
   unfold kG
   rw [decide_eq_false c1]
   rfl
 ·have ey:ys=(x.cps.toList.map kG).map V.bl:=by
   refine ajW fun i=>?_
   rw [abx,abx]
   by_cases hi:i < ys.length
   ·obtain ⟨c,e1,e2⟩:=hy i ys[i] (gE hi)
    rw [gE hi,e2]
    have e3:x.cps.toList[i]? =some c:=by rw [Array.getElem?_toList];exact e1
    rw [e3]
    rfl
   ·rw [aeD (by omega)]
    have e3:x.cps.toList[i]? =none:=aeD (by rw [alE];omega)
    rw [e3]
    rfl
  refine ⟨D,x.cps.toList.map kG,rfl,by rw [<- ey];exact bq.of hD,?_⟩
  have:=q H2 s2
  unfold isName at this
  rw [decide_eq_false c] at this
  rw [alI]
  exact this
open Classical in
noncomputable def numOf (x:Str):Option Rat:=if h:∃r:Rat,Good (qr r)/\x=QP r then some h.choose else none
theorem kH {r:Rat}(g:Good (qr r)):numOf (QP r)=some r:=by
 unfold numOf
 have h:∃r' :Rat,Good (qr r')/\QP r=QP r' :=⟨r,g,rfl⟩
 rw [dif_pos h]
 have:=h.choose_spec
 exact congrArg some (xU (ajn g this.1 this.2)).symm
theorem rl {x:Str}(h:∀r:Rat,Good (qr r)->x≠QP r):numOf x=none:=by
 unfold numOf
 rw [dif_neg]
 rintro ⟨r,g,e⟩
 exact h r g e
def BV (r:Rat):Option Int:=if (qr r).2=1/\1<=(qr r).1/\(qr r).1<=60 then some (qr r).1 else none
noncomputable def gS (x:Str):Option Int:=(numOf x).bind BV
theorem pN {r:Rat}(g:Good (qr r)):gS (QP r)=BV r:=by
 unfold gS
 rw [kH g]
 rfl
theorem Vm {x:Str}(h:∀r:Rat,Good (qr r)->x≠QP r):gS x=none:=by
 unfold gS
 rw [rl h]
 rfl
inductive QU (vs:η)(H:Hp)(Q:VK)(E_:XK):Prop where
 | mk (x:Str) (_:vs=[.str x]) (_:YO x) (_:(∀k,gS x=some k->∀H',az H H' ->Q (.int k) H')) (_:(gS x=none->∀H',az H H' ->Q .bN H')):QU vs H Q E_
theorem yc:av ["word","number"] zaG (aa hZ):=sq
theorem QV (hM:j_ (aV P w)){tkG:Tok}(D:Def K mg "many_of" hZ zaG)(iG:mg "GREATEST_MANY"=some (.int 60 tkG))(mQ:Fn P w K mg base (aV P w) 36 "number_of" zaG (TU K)):Fn P w K mg base (aV P w) 37 "many_of" zaG QU:=by
 refine D.op yc fun f cdv A outer s H vs Q E hr h=>?_
 obtain ⟨x,rfl,hx,q1,q2⟩:=h
 have px:=gQ (X:=(fu (aV P w) P w K mg base ["word","number"] "many_of" (aa hZ) f cdv A outer s H E)) hM
 refine ⟨_,(ae (aO (i:=1) yc.nd (aR mQ hr.mo px (aG (pv 0))))
  (ae (aK (PW.pt (lU (aE kY (pv 1) bz) (lU (aE uQ (bh (pv 1)) ai) (iZ (gN (xn AY AY ai (bh (pv 1)) (dy (v:=.int 60) rfl iG ⟨_,rfl⟩))))))) (ag (aA bz)) ay)
  (ag (aA (bh (pv 1)))))),?_⟩
 refine ⟨_,rfl,x,rfl,hx,fun r g e v H' s h=>?_,fun no H' s=>?_⟩
 ·obtain ⟨p,rfl,h⟩:=h
  rw [e,pN g] at q1 q2
  unfold BV at q1 q2
  refine ⟨_,rfl,rfl,_,rfl,?_⟩
  refine aI (fun c=>absurd (of_decide_eq_true c) (fun z=>nomatch z)) (fun _=>?_)
  refine ⟨_,rfl,p,_,_,_,rfl,rfl,h,TF,rfl,_,rfl,?_⟩
  by_cases c1:(qr r).2=1
  ·refine aI (fun c=>absurd c1 (by simpa using c)) (fun _=>?_)
   refine ⟨_,rfl,p,_,_,_,rfl,rfl,h,wM,_,_,rfl,rfl,_,rfl,?_⟩
   by_cases c2:1<=(qr r).1
   ·refine aI (fun _=>?_) (fun c=>absurd (decide_eq_true c2) c)
    refine ⟨_,_,rfl,rfl,_,rfl,?_⟩
    by_cases c3:(qr r).1<=60
    ·refine aI (fun c=>absurd c3 (of_decide_eq_false (by simpa using c))) (fun _=>?_)
     exact ⟨_,rfl,p,_,_,_,rfl,rfl,h,wM,q1 _ (if_pos ⟨c1,c2,c3⟩) H' s⟩
    ·refine aI (fun _=>?_) (fun c=>absurd (of_decide_eq_true (by simpa using c)) c3)
     exact q2 (if_neg fun z=>c3 z.2.2) H' s
   ·refine aI (fun c=>absurd (of_decide_eq_true c) c2) (fun _=>?_)
    refine ⟨_,rfl,fw ?_⟩
    exact q2 (if_neg fun z=>c2 z.2.1) H' s
  ·refine aI (fun _=>?_) (fun c=>absurd (by simpa using c) c1)
   exact q2 (if_neg fun z=>c1 z.1) H' s
 ·refine ⟨_,rfl,rfl,_,rfl,?_⟩
  refine aI (fun _=>?_) (fun c=>absurd (by decide) c)
  exact q2 (Vm no) H' s
inductive RV where
 | w (s:Str)
 | q (r:Rat)
 | n (k:Int)
def lY (K:Frag)(H:Hp)(v:V):RV->Prop
 | .w s=>v=.str s
 | .q r=>oK K H v r
 | .n k=>v=.int k
theorem lY.aZ {K:Frag}{H H' :Hp}{v:V}{a:RV}(h:lY K H v a)(s:bg H H'):lY K H' v a:=by
 cases a with
 | w x=>exact h
 | q r=>exact oK.aZ h s
 | n k=>exact h
def OvR (K:Frag)(H:Hp)(v:V):Option RV->Prop
 | none=>v=.bN
 | some a=>lY K H v a
theorem OvR.aZ {K:Frag}{H H' :Hp}{v:V}{a:Option RV}(h:OvR K H v a)(s:bg H H'):OvR K H' v a:=by
 cases a with
 | none=>exact h
 | some r=>exact lY.aZ h s
noncomputable def valOf (k x:Str):Option RV:=
 if V.str k=V.str "NUMBER" then (numOf x).map RV.q else
 if V.str k=V.str "MANY" then (gS x).map RV.n else
 if V.str k=V.str "NAME" then (if (isName x && decide ((x.length:Int)<=20))=true then some (.w x) else none) else
 if V.str k=V.str "WORD" then (if isName x=true then some (.w x) else none) else
 if V.str x=V.str k then some (.w x) else none
inductive Zn (K:Frag)(vs:η)(H:Hp)(Q:VK)(E_:XK):Prop where
 | mk (k x:Str) (_:vs=[.str k,.str x]) (_:YO x) (_:∀v H',az H H' ->OvR K H' v (valOf k x)->Q v H'):Zn K vs H Q E_
theorem MV:av zaD zaD (aa gA):=sq
theorem MW (hM:j_ (aV P w)){tkN:Tok}(D:Def K mg "value_of" gA zaD)(bP:mg "len"=none)(jk:mg "LONGEST_NAME"=some (.int 20 tkN))(mQ:Fn P w K mg base (aV P w) 36 "number_of" zaG (TU K))(Vn:Fn P w K mg base (aV P w) 37 "many_of" zaG QU)(BW:Fn P w K mg base (aV P w) 1 "is_name" zaG yb):Fn P w K mg base (aV P w) 38 "value_of" zaD (Zn K):=by
 refine D.op MV fun f cdv A outer s H vs Q E hr h=>?_
 obtain ⟨k,x,rfl,hx,q⟩:=h
 have px:=gQ (X:=(fu (aV P w) P w K mg base zaD "value_of" (aa gA) f cdv A outer s H E)) hM
 have x4:=hx.len
 have xz:x.length<=sizeLine:=ir x4 (by decide)
 refine ⟨_,(ae (aK (aE a9 (pv 0) au) (ag (aA (aR mQ hr.mo px (aG (pv 1))))) ay)
  (ae (aK (aE a9 (pv 0) au) (ag (aA (aR Vn hr.mo px (aG (pv 1))))) ay)
  (ae (aK (aE a9 (pv 0) au) (ag (aA (eV (PW.pt (iC (eU (aR BW hr.mo px (aG (pv 1)))) (gh (aE AY (aL qN rfl bP g_ (aG (pv 1))) (dy (v:=.int 20) rfl jk ⟨_,rfl⟩))))) (pv 1) bz))) ay)
  (ae (aK (aE a9 (pv 0) au) (ag (aA (eV (eU (aR BW hr.mo px (aG (pv 1)))) (pv 1) bz))) ay)
  (ag (aA (eV (aE a9 (pv 1) (pv 0)) (pv 1) bz))))))),?_⟩
 refine ⟨_,rfl,rfl,_,rfl,?_⟩
 refine aI (fun c=>?_) (fun c=>?_)
 ·have c' :=of_decide_eq_true c
  refine ⟨_,rfl,x,rfl,hx,fun r g e v H' s h=>q v H' s ?_,fun no H' s=>q _ H' s ?_⟩
  ·unfold valOf
   rw [if_pos c',e,kH g]
   exact h
  ·unfold valOf
   rw [if_pos c',rl no]
   rfl
 have c1:=of_decide_eq_false (adv.mpr c)
 refine ⟨_,rfl,rfl,_,rfl,?_⟩
 refine aI (fun c=>?_) (fun c=>?_)
 ·have c' :=of_decide_eq_true c
  have e:valOf k x=(gS x).map RV.n:=by
   unfold valOf
   rw [if_neg c1,if_pos c']
  refine ⟨_,rfl,x,rfl,hx,fun m em H' s=>q _ H' s ?_,fun em H' s=>q _ H' s ?_⟩
  ·rw [e,em]
   rfl
  ·rw [e,em]
   rfl
 have cm:=of_decide_eq_false (adv.mpr c)
 refine ⟨_,rfl,rfl,_,rfl,?_⟩
 refine aI (fun c=>?_) (fun c=>?_)
 ·have c' :=of_decide_eq_true c
  refine ⟨_,rfl,x,rfl,x4,fun H' s=>?_⟩
  have e:valOf k x=if (isName x && decide ((x.length:Int)<=20))=true then some (.w x) else none:=by
   unfold valOf
   rw [if_neg c1,if_neg cm,if_pos c']
  refine ⟨_,rfl,?_⟩
  refine aI (fun n1=>?_) (fun n1=>?_)
  ·refine ⟨_,rfl,x,rfl,xz,_,_,rfl,rfl,_,rfl,?_⟩
   refine aI (fun n2=>?_) (fun n2=>?_)
   ·refine ⟨_,rfl,q _ H' s ?_⟩
    rw [e,n1,n2]
    rfl
   ·refine q _ H' s ?_
    rw [e,adv.mpr n2,alL]
    rfl
  ·refine q _ H' s ?_
   rw [e,adv.mpr n1]
   rfl
 have c2:=of_decide_eq_false (adv.mpr c)
 refine ⟨_,rfl,rfl,_,rfl,?_⟩
 refine aI (fun c=>?_) (fun c=>?_)
 ·have c' :=of_decide_eq_true c
  refine ⟨_,rfl,x,rfl,x4,fun H' s=>?_⟩
  have e:valOf k x=if isName x=true then some (.w x) else none:=by
   unfold valOf
   rw [if_neg c1,if_neg cm,if_neg c2,if_pos c']
  refine ⟨_,rfl,?_⟩
  refine aI (fun n1=>?_) (fun n1=>?_)
  ·refine ⟨_,rfl,q _ H' s ?_⟩
   rw [e,if_pos n1]
   rfl
  ·refine q _ H' s ?_
   rw [e,if_neg n1]
   rfl
 have c3:=of_decide_eq_false (adv.mpr c)
 have e:valOf k x=if V.str x=V.str k then some (.w x) else none:=by
  unfold valOf
  rw [if_neg c1,if_neg cm,if_neg c2,if_neg c3]
 refine ⟨_,rfl,_,rfl,rfl,_,rfl,?_⟩
 refine aI (fun c=>?_) (fun c=>?_)
 ·refine ⟨_,rfl,q _ H (az.refl H) ?_⟩
  rw [e,if_pos (of_decide_eq_true c)]
  rfl
 ·refine q _ H (az.refl H) ?_
  rw [e,if_neg (of_decide_eq_false (adv.mpr c))]
  rfl
def gT:List (Option RV)->Option (List RV)
 | []=>some []
 | none::_=>none
 | some a::t=>(gT t).map (a::·)
noncomputable def fit (ks ws:ζ):Option (List RV):=if ks.length=ws.length then gT (aj3 valOf ks ws) else none
theorem all_some {K:Frag}{H:Hp}:∀{us:η} {os:List (Option RV)},Paired (OvR K H) us os->(us.any (fun u=>decide (u=V.bN))=true/\gT os=none)\/(us.any (fun u=>decide (u=V.bN))=false/\∃rs,gT os=some rs/\Paired (lY K H) us rs)
 | [],[],.nil=>.inr ⟨rfl,[],rfl,.nil⟩
 | u::us,o::os,.cons h t=>by
  rw [ah_]
  cases o with
  | none=>
   have e:u=V.bN:=h
   rw [decide_eq_true e]
   exact .inl ⟨rfl,rfl⟩
  | some a=>
   have ne:u≠V.bN:=fun e=>by
    rw [e] at h
    cases a with
    | w x=>exact V.noConfusion (show V.bN=V.str x from h)
    | q r=>
     obtain ⟨p,z,_⟩:=(show sZ K H V.bN (qr r) from h)
     cases z
    | n k=>exact V.noConfusion (show V.bN=V.int k from h)
   rw [decide_eq_false ne,asY]
   rcases all_some t with ⟨e1,e2⟩ | ⟨e1,rs,e2,e3⟩
   ·refine .inl ⟨e1,?_⟩
    show (gT os).map (a::·)=none
    rw [e2]
    rfl
   ·refine .inr ⟨e1,a::rs,?_,.cons h e3⟩
    show (gT os).map (a::·)=some (a::rs)
    rw [e2]
    rfl
inductive Zo (K:Frag)(vs:η)(H:Hp)(Q:VK)(E_:XK):Prop where
 | mk (l1 l2:Addr) (ks ws:ζ) (_:vs=[.ref l1,.ref l2]) (_:H l1=some (.lst (ks.map V.str))) (_:H l2=some (.lst (ws.map V.str))) (_:ks.length<=100) (_:ws.length<=1000) (_:(∀x∈ws,YO x)) (_:(fit ks ws=none->∀H',az H H' ->Q .bN H')) (_:∀rs,fit ks ws=some rs->∀(l:Addr) (us:η) (H' :Hp),az H H' ->H l=none->H' l=some (.lst us)->Paired (lY K H') us rs->Q (.ref l) H'):Zo K vs H Q E_
theorem BX:av ["kinds","words","values"] za1 (aa kA):=sq
theorem Vo (hM:j_ (aV P w))(D:Def K mg "fitted" kA za1)(bP:mg "len"=none)(Zp:mg "zip"=none)(QW:Fn P w K mg base (aV P w) 38 "value_of" zaD (Zn K)):Fn P w K mg base (aV P w) 39 "fitted" za1 (Zo K):=by
 refine D.op BX fun f cdv A outer s H vs Q E hr h=>?_
 obtain ⟨l1,l2,ks,ws,rfl,h1,h2,lk,lw,tk,qn,qs⟩:=h
 refine ⟨_,(ae (aK (aE uQ (aL bw rfl bP g_ (aG (pv 0))) (aL bw rfl bP g_ (aG (pv 1)))) (ag (aA bz)) ay)
  (ae (ai7 (i:=2) (tn:=zaD) (fr:=[]) (caps:=[]) BX.nd (aiP rfl Zp (aU (pv 0) (pv 1))) (fun _ _ _ _=>(ad4 (K:=K) (n:=2) rfl rfl (cB (wq (i:=0) (show (zaD:List Str).Nodup from by decide+kernel) rfl (aq_ rfl)) (cB (wq (i:=1) (show (zaD:List Str).Nodup from by decide+kernel) rfl (aq_ rfl)) kT)))) (fun _ _ _ _=>YC) (Ze QW hr (aU (pv 0) (pv 1))))
  (ag (aA (eV (wt (UU hr.units) bz (pv 2) rfl) bz (pv 2)))))),?_⟩
 refine ⟨_,rfl,l1,_,rfl,.inl (bq.of h1),_,rfl,l2,_,rfl,.inl (bq.of h2),rfl,_,rfl,?_⟩
 rw [Wp,Wp]
 refine aI (fun c=>?_) (fun c=>?_)
 ·have ne:ks.length≠ws.length:=fun e=>by rw [e] at c;simp at c
  exact qn (by unfold fit;rw [if_neg ne]) H (az.refl H)
 have ee:ks.length=ws.length:=by
  have:=adv.mpr c
  simp at this
  omega
 have ef:fit ks ws=gT (aj3 valOf ks ws):=by unfold fit;rw [if_pos ee]
 refine ⟨_,rfl,_,rfl,l1,l2,rfl,⟨_,bq.of h1⟩,⟨_,bq.of h2⟩,fun D nD=>YV (K:=K) (a:=l1) (b:=l2) (xs:=ks.map V.str) (ys:=ws.map V.str) (fun i v H' =>∃k x,ks[i]? =some k/\ws[i]? =some x/\OvR K H' v (valOf k x)) nD (by rw [Wp];exact abF lk (by decide)) (by rw [Wp,Wp,ee]) (fun H' s=>bq.of (s _ _ h1)) (fun H' s=>bq.of (s _ _ h2)) (fun i v H2 H3 ys e k h=>?_) (fun i x y H2 R ex ey s2 k=>?_) (fun zs H2 lz hz s2 hD=>?_)⟩
 ·obtain ⟨k',x',a1,a2,a3⟩:=h
  refine ⟨k',x',a1,a2,a3.aZ fun b xs r=>?_⟩
  rcases r with r | ⟨o,r⟩
  ·exact .inl (k _ _ (fun z=>by rw [z,e] at r;cases r) r)
  ·exact .inr ⟨o,k _ _ (fun z=>by rw [z,e] at r;cases r) r⟩
 ·rw [abx] at ex ey
  obtain ⟨k',e1,rfl⟩:=abD.mp ex
  obtain ⟨x',e2,rfl⟩:=abD.mp ey
  exact ⟨_,rfl,_,rfl,k',x',rfl,tk x' (abw e2),fun v H' s' h=>k v H' s' ⟨k',x',e1,e2,h⟩⟩
 ·rw [Wp] at lz
  have pr:Paired (OvR K H2) zs (aj3 valOf ks ws):=kj (by rw [lz,anj];omega) fun i a b ea eb=>by
   obtain ⟨k',x',a1,a2,a3⟩:=hz i a ea
   rw [am0,a1,a2] at eb
   rw [<- abq eb]
   exact a3
  refine ⟨_,rfl,D,zs,rfl,rfl,bq.of hD,fun u hu=>?_,_,rfl,?_⟩
  ·obtain ⟨i,hi,ei⟩:=aim.mp hu
   obtain ⟨k',x',a1,a2,a3⟩:=hz i u (by rw [gE hi,ei])
   cases e:valOf k' x' with
   | none=>
    rw [e] at a3
    have z:u=V.bN:=a3
    rw [z]
    exact .inl rfl
   | some a=>
    rw [e] at a3
    cases a with
    | w x=>
     have z:u=V.str x:=a3
     rw [z]
     exact .inl rfl
    | q r=>
     obtain ⟨p,z,t⟩:=(show sZ K H2 u (qr r) from a3)
     exact .inr ⟨p,_,z,t⟩
    | n k=>
     have z:u=V.int k:=a3
     rw [z]
     exact .inl rfl
  ·rcases all_some pr with ⟨e1,e2⟩ | ⟨e1,rs,e2,e3⟩
   ·rw [e1]
    refine fw ?_
    exact qn (by rw [ef];exact e2) H2 s2
   ·rw [e1]
    refine cM ?_
    exact ⟨_,rfl,qs rs (by rw [ef];exact e2) D zs H2 s2 nD hD e3⟩
noncomputable def cU (f:Str):List Str:=Txt.split f " "
noncomputable def ck:List Str->List Str->Option (List RV)
 | [],_=>none
 | f::fs,ws=>match fit (cU f) ws with
  | some rs=>some rs
  | none=>ck fs ws
inductive Zq (K:Frag)(vs:η)(H:Hp)(Q:VK)(E_:XK):Prop where
 | mk (p:Addr) (fs:ζ) (x:Str) (_:vs=[.ref p,.str x]) (_:cT K H p (fs.map V.str)) (_:(∀f∈fs,f.length<=90)) (_:x.length+2<=sizeLine) (_:(Txt.split x " ").length<=1000) (_:(∀w∈Txt.split x " ",YO w)) (_:(ck fs (Txt.split x " ")=none->∀H',az H H' ->Q .bN H')) (_:∀rs,ck fs (Txt.split x " ")=some rs->∀(l:Addr) (us:η) (H' :Hp),az H H' ->H l=none->H' l=some (.lst us)->Paired (lY K H') us rs->Q (.ref l) H'):Zq K vs H Q E_
theorem jN:av zaW za4 (aa gw):=sq
theorem MX (hM:j_ (aV P w))(D:Def K mg "read_row" gw za4)(Zr:Fn P w K mg base (aV P w) 39 "fitted" za1 (Zo K)):Fn P w K mg base (aV P w) 40 "read_row" za4 (Zq K):=by
 refine D.op jN fun f cdv A outer s H vs Q E hr h=>?_
 obtain ⟨p,fs,x,rfl,hp,fl,hz,lw,tk,qn,q⟩:=h
 have px:=gQ (X:=(fu (aV P w) P w K mg base zaW "read_row" (aa gw) f cdv A outer s H E)) hM
 have l1:((" ":Str).length==0)=false:=by decide+kernel
 refine ⟨_,(ae (aO (i:=2) jN.nd (gO PySem.F.plainAttrs_str PySem.F.slot_str_split PySem.F.type_str_split q0 (pv 1) (aG au)))
  (ae (i8 PassesOwn.never rfl (ain (pv 0)) (ku (i:=3) jN.nd) (ae (aO (i:=4) jN.nd (aR Zr hr.mo px (aU (gO PySem.F.plainAttrs_str PySem.F.slot_str_split PySem.F.type_str_split q0 (pv 3) (aG au)) (pv 2))))
   (ag (aK (aE iK (pv 4) bz) (ag (aA (pv 4))) ay))))
  (ag (aA bz)))),?_⟩
 refine ⟨_,rfl,rfl,x," ",rfl,rfl,l1,hz,?_⟩
 intro lW nW;generalize eX:upd _ lW _=H1;have ⟨sW,eW⟩:=nw nW eX;clear eX
 generalize Txt.split x " "=ws at lw tk qn q eW
 refine ⟨_,rfl,p,rfl,⟨_,Ty.az.km sW hp⟩,adz (K:=K) (a:=p) (xs:=fs.map V.str) (fun i σ H' =>Ex2 fun (o3 o4:Η)=>σ=[some (.ref p),some (.str x),some (.ref lW),o3,o4]/\az H H' /\H' lW=some (.lst (ws.map V.str))/\ck fs ws=ck (fs.drop i) ws) ⟨none,none,rfl,sW,eW,rfl⟩ (fun i σ H' _ h=>by
   obtain ⟨_,_,_,h,_⟩:=h
   exact Ty.az.km h hp) ?_ ?_⟩
 ·rintro i z σ H2 hi ⟨o3,o4,rfl,s2,e2,r2⟩
  rw [abx] at hi
  obtain ⟨f',ef,rfl⟩:=abD.mp hi
  have il:i < fs.length:=(W1.mp ef).1
  have ed:fs.drop i=f' ::fs.drop (i+1):=by
   rw [afZ il]
   rw [gE il] at ef
   rw [abq ef]
  rw [ed] at r2
  have f90:=fl f' (abw ef)
  refine ⟨_,rfl,rfl,f'," ",rfl,rfl,l1,ir (show f'.length+2<=100 by omega) (by decide),?_⟩
  intro lK nK;generalize eX:upd _ lK _=H3;have ⟨sK,eK⟩:=nw nK eX;clear eX
  have kl:(cU f').length<=100:=by
   have:=split_le f' " "
   unfold cU
   omega
  refine ⟨_,rfl,lK,lW,cU f',ws,rfl,eK,sK _ _ e2,kl,lw,tk,?_,?_⟩
  ·intro fn H4 s4
   refine ⟨_,rfl,rfl,_,rfl,?_⟩
   refine aI (fun c=>by simp at c) (fun _=>?_)
   refine ⟨_,_,rfl,aw s2 (aw sK s4),s4 _ _ (sK _ _ e2),?_⟩
   rw [r2]
   show (match fit (cU f') ws with | some rs=>some rs | none=>ck (fs.drop (i+1)) ws)=_
   rw [fn]
  ·intro rs' fn l us H4 s4 n4 e4 p4
   have e5:ck fs ws=some rs' :=by
    rw [r2]
    show (match fit (cU f') ws with | some rs=>some rs | none=>ck (fs.drop (i+1)) ws)=_
    rw [fn]
   refine ⟨_,rfl,rfl,_,rfl,?_⟩
   refine aI (fun _=>?_) (fun c=>by simp at c)
   exact ⟨_,rfl,q rs' e5 l us H4 (aw s2 (aw sK s4)) (aJ (aw s2 sK) n4) e4 p4⟩
 ·rintro σ H2 ⟨o3,o4,rfl,s2,e2,r2⟩
  rw [Wp,agM] at r2
  exact qn r2 H2 s2
def mR:List (Rat×Rat)->List RV
 | []=>[]
 | [w]=>[.w "roller",.q w.1,.q w.2]
 | _=>[.w "fixed"]
def tY (p:nT):List RV:=[RV.w "pin",.w p.nm,.q p.sp.1,.q p.sp.2]++mR p.ws
structure fj (x:Str):Prop where
 nm:isName x=true
 len:x.length<=20
structure Wd (x:Str):Prop where
 len:x.length<=400
 Pz:∀c∈x.cps.toList,c < 1000/\c≠32/\c≠10
theorem Wd.no {x:Str}(h:Wd x):32∉x.cps.toList/\10∉x.cps.toList:=⟨fun z=>(h.Pz _ z).2.1 rfl,fun z=>(h.Pz _ z).2.2 rfl⟩
theorem blank:(" ":Str)=⟨#[32]⟩:=by decide+kernel
theorem ajp:("\n":Str)=⟨#[10]⟩:=by decide+kernel
theorem yd {ws:ζ}(ne:ws≠[])(h:∀x∈ws,Wd x):Txt.split (Txt.join " " ws) " "=ws:=by
 rw [blank]
 exact pI ne fun w hw=>(h w hw).no.1
theorem ne_str {x y:Str}(h:x≠y):V.str x≠V.str y:=fun z=>h (V.str.inj z)
theorem kinds_of {f:Str}{ks:ζ}(e:Txt.join " " ks=f)(ne:ks≠[])(h:∀k∈ks,32∉k.cps.toList):cU f=ks:=by
 unfold cU
 rw [<- e,blank]
 exact pI ne h
theorem ajq:cU "pin NAME NUMBER NUMBER"=(zaq:List Str):=kinds_of (by decide+kernel) (by simp) (by decide+kernel)
theorem ajr:cU "pin NAME NUMBER NUMBER fixed"=(zad:List Str):=kinds_of (by decide+kernel) (by simp) (by decide+kernel)
theorem ajs:cU "pin NAME NUMBER NUMBER roller NUMBER NUMBER"=(zab:List Str):=kinds_of (by decide+kernel) (by simp) (by decide+kernel)
theorem ajt:cU "bar NAME NAME NAME"=(zat:List Str):=kinds_of (by decide+kernel) (by simp) (by decide+kernel)
theorem aju:cU "piece NAME"=(zaz:List Str):=kinds_of (by decide+kernel) (by simp) (by decide+kernel)
theorem ajv:cU "end"=(zaY:List Str):=kinds_of (by decide+kernel) (by simp) (by decide+kernel)
theorem ajw:cU "lay NAME NAME NUMBER NUMBER"=(zae:List Str):=kinds_of (by decide+kernel) (by simp) (by decide+kernel)
theorem ajx:cU "lay NAME NAME NUMBER NUMBER MANY NUMBER NUMBER"=(zaa:List Str):=kinds_of (by decide+kernel) (by simp) (by decide+kernel)
def bX:List Str:=["pin NAME NUMBER NUMBER","pin NAME NUMBER NUMBER fixed","pin NAME NUMBER NUMBER roller NUMBER NUMBER","bar NAME NAME NAME","piece NAME","end","lay NAME NAME NUMBER NUMBER","lay NAME NAME NUMBER NUMBER MANY NUMBER NUMBER"]
theorem Vp:∀f∈bX,f.length<=90:=by decide+kernel
theorem aQ {ks ws:ζ}(h:ks.length≠ws.length):fit ks ws=none:=by
 unfold fit
 rw [if_neg h]
structure Gd where
 pins:List nT
 mi:List (Str×Str×Str)
 done:Nat
inductive gL where
 | there (x:Str) | BY (x:Str) | rm (x:Str) | length (x:Str) | many
abbrev _root_.Ξ:=gL->Prop
inductive Rw where
 | pin (p:nT)
 | bar (x one other:Str)
 | lay (pc pre:Str) (a:Rat×Rat) (st:Κ)
abbrev _root_.ν:=List (Str×List Rw)
abbrev Own:=List (Str×Str)
def fm (own:Own):List (Key×V):=own.map fun z=>(.inr z.1,.str z.2)
def fU:Rw->List RV
 | .pin p=>tY p
 | .bar x a b=>[.w "bar",.w x,.w a,.w b]
 | .lay pc pre a none=>[.w "lay",.w pc,.w pre,.q a.1,.q a.2]
 | .lay pc pre a (some (k,s))=>[.w "lay",.w pc,.w pre,.q a.1,.q a.2,.n (k:Int),.q s.1,.q s.2]
def QX (c s:Rat×Rat):Rat×Rat:=(c.1+s.1,c.2+s.2)
def marks (pre:Str)(a:Rat×Rat):Option (Nat×(Rat×Rat))->List (Str×(Rat×Rat))
 | none=>[(pre,a)]
 | some (k,s)=>(ai_ k).map fun (i:Nat)=>(pre++tx (i:Int),QX a ((i:Rat)*s.1,(i:Rat)*s.2))
abbrev GO:=Gd->Own->Prop
abbrev _root_.Ε:=Str->Str->Rat×Rat->Gd->GO->(gL->Prop)->Prop
abbrev _root_.Θ:=Str->Rat×Rat->Gd->GO->(gL->Prop)->Prop
def Zs (g:Gd)(x:Str)(s:Rat×Rat)(ws:χ):Gd:={g with pins:=g.pins++[⟨x,s,ws⟩]}
open Classical in
noncomputable def MY (x:Str)(c:Rat×Rat)(p:nT)(g:Gd)(own:Own)(Q:GO)(E:Ξ):Prop:=
 if p.nm∈own.map (·.1) then E (.there (x++p.nm)) else
 match g.pins.find? (fun z=>decide (z.sp=QX c p.sp)) with
 | some z=>Q g (own++[(p.nm,z.nm)])
 | none=>if x++p.nm∈g.pins.map (·.nm) then E (.there (x++p.nm)) else if 24<=g.pins.length then E .many else Q (Zs g (x++p.nm) (QX c p.sp) p.ws) (own++[(p.nm,x++p.nm)])
def aow (x:Str)(g:Gd)(n:Str)(a b:Str)(own:Own)(Q:GO)(E:Ξ):aja->Prop
 | .there=>E (.rm (x++n))
 | .pin p=>E (.BY p)
 | .length=>E (.length (x++n))
 | .many=>E .many
 | .done=>Q {g with mi:=g.mi++[(x++n,a,b)]} own
def ownAt (own:Own)(y:Str):Option Str:=(own.find? (fun z=>decide (z.1=y))).map (·.2)
def MZ (x n one other:Str)(g:Gd)(own:Own)(Q:GO)(E:Ξ):Prop:=
 match ownAt own one with
 | none=>E (.BY one)
 | some a=>match ownAt own other with
  | none=>E (.BY other)
  | some b=>aow x g n a b own Q E (x_ (g.pins.map (·.nm)) (g.mi.map (·.1)) (x++n) a b)
def lF (x m:Str):Own->Own->(Own->Prop)->(gL->Prop)->Prop
 | [],own,Q,_=>Q own
 | z::t,own,Q,E=>if m++z.1∈own.map (·.1) then E (.there (x++(m++z.1))) else lF x m t (own++[(m++z.1,z.2)]) Q E
def mS (rec:Θ)(x:Str)(c:Rat×Rat):List (Str×(Rat×Rat))->Gd->Own->GO->(gL->Prop)->Prop
 | [],g,own,Q,_=>Q g own
 | (m,a)::t,g,own,Q,E=>rec (x++m) (QX c a) g (fun g1 below=>lF x m below own (fun gU=>mS rec x c t g1 gU Q E) E) E
noncomputable def avc (rec:Ε)(x:Str)(c:Rat×Rat)(g:Gd)(own:Own)(Q:GO)(E:Ξ):Rw->Prop
 | .pin p=>MY x c p g own Q E
 | .bar n a b=>MZ x n a b g own Q E
 | .lay pc pre a st=>mS (rec pc) x c (marks pre a st) g own Q E
noncomputable def mT (rec:Ε)(x:Str)(c:Rat×Rat):List Rw->Gd->Own->GO->(gL->Prop)->Prop
 | [],g,own,Q,_=>Q g own
 | r::t,g,own,Q,E=>if 500<=g.done then E .many else avc rec x c {g with done:=g.done+1} own (fun g1 gU=>mT rec x c t g1 gU Q E) E r
def rowsOf (ps:ν)(pc:Str):List Rw:=((ps.find? (fun z=>decide (z.1=pc))).map (·.2)).getD []
noncomputable def zx (ps:ν):Nat->List Rw->Str->Rat×Rat->Gd->GO->(gL->Prop)->Prop
 | 0,rows,x,c,g,Q,E=>mT (fun _ _ _ _ _ E=>E .many) x c rows g [] Q E
 | n+1,rows,x,c,g,Q,E=>mT (fun pc x c g Q E=>zx ps n (rowsOf ps pc) x c g Q E) x c rows g [] Q E
theorem Zt {x:Str}{c:Rat×Rat}{p:nT}{g:Gd}{own:Own}{Q:GO}{E:Ξ}(hq:∀g o,Q g o)(he:∀e,E e):MY x c p g own Q E:=by
 unfold MY
 split
 ·exact he _
 split
 ·exact hq _ _
 split
 ·exact he _
 split
 ·exact he _
 ·exact hq _ _
theorem Zu {x n one other:Str}{g:Gd}{own:Own}{Q:GO}{E:Ξ}(hq:∀g o,Q g o)(he:∀e,E e):MZ x n one other g own Q E:=by
 unfold MZ
 split
 ·exact he _
 split
 ·exact he _
 cases x_ (g.pins.map (·.nm)) (g.mi.map (·.1)) (x++n) _ _ with
 | there=>exact he _
 | pin p=>exact he _
 | length=>exact he _
 | many=>exact he _
 | done=>exact hq _ _
theorem ye {x m:Str}{Q:Own->Prop}{E:Ξ}(hq:∀o,Q o)(he:∀e,E e):∀(below own:Own),lF x m below own Q E
 | [],_=>hq _
 | z::t,own=>by
  unfold lF
  split
  ·exact he _
  ·exact ye hq he t _
theorem yf {rec:Θ}{x:Str}{c:Rat×Rat}{Q:GO}{E:Ξ}(hr:∀x c g Q E,(∀g o,Q g o)->(∀e,E e)->rec x c g Q E)(hq:∀g o,Q g o)(he:∀e,E e):∀(ms:List (Str×(Rat×Rat))) (g:Gd) (own:Own),mS rec x c ms g own Q E
 | [],_,_=>hq _ _
 | (m,a)::t,g,own=>hr _ _ _ _ _ (fun g1 b=>ye (fun o=>yf hr hq he t g1 o) he b own) he
theorem kI {rec:Ε}{x:Str}{c:Rat×Rat}{Q:GO}{E:Ξ}(hr:∀pc x c g Q E,(∀g o,Q g o)->(∀e,E e)->rec pc x c g Q E)(hq:∀g o,Q g o)(he:∀e,E e):∀(rs:List Rw) (g:Gd) (own:Own),mT rec x c rs g own Q E
 | [],_,_=>hq _ _
 | r::t,g,own=>by
  unfold mT
  split
  ·exact he _
  cases r with
  | pin p=>exact Zt (fun g o=>kI hr hq he t g o) he
  | bar n a b=>exact Zu (fun g o=>kI hr hq he t g o) he
  | lay pc pre a st=>exact yf (hr pc) (fun g o=>kI hr hq he t g o) he _ _ _
theorem M_ (ps:ν):∀(n:Nat) (rows:List Rw) (x:Str) (c:Rat×Rat) (g:Gd) (Q:GO) (E:Ξ),(∀g o,Q g o)->(∀e,E e)->zx ps n rows x c g Q E
 | 0,rows,x,c,g,Q,E,hq,he=>kI (fun _ _ _ _ _ _ _ he=>he _) hq he rows g []
 | n+1,rows,x,c,g,Q,E,hq,he=>kI (fun pc x c g Q E hq he=>M_ ps n _ x c g Q E hq he) hq he rows g []
inductive Sg where
 | du (n:Str) | fin | row (r:Rw)
def dq:Sg->List RV
 | .du n=>[.w "piece",.w n]
 | .fin=>[.w "end"]
 | .row r=>fU r
def zy:Rw->Prop
 | .pin p=>fj p.nm/\Good (qr p.sp.1)/\Good (qr p.sp.2)/\(p.ws=[]\/p.ws=[(1,0),(0,1)]\/∃w,p.ws=[w]/\Good (qr w.1)/\Good (qr w.2))
 | .bar x a b=>fj x/\fj a/\fj b
 | .lay pc pre a st=>fj pc/\fj pre/\Good (qr a.1)/\Good (qr a.2)/\∀k s,st=some (k,s)->1<=k/\k<=60/\Good (qr s.1)/\Good (qr s.2)
def FD:Sg->Prop
 | .du n=>fj n
 | .fin=>True
 | .row r=>zy r
theorem Zv {ws vs:χ}(h1:ws=[]\/ws=[(1,0),(0,1)]\/∃w,ws=[w])(h2:vs=[]\/vs=[(1,0),(0,1)]\/∃w,vs=[w])(e:mR ws=mR vs):ws=vs:=by
 rcases h1 with rfl | rfl | ⟨w,rfl⟩ <;> rcases h2 with rfl | rfl | ⟨v,rfl⟩ <;> first | rfl | (simp [mR] at e) | skip
 all_goals first | (obtain ⟨e1,e2⟩:=e;exact congrArg (fun z=>[z]) (agx e1 e2)) | skip
structure Sh where
 outside:List Rw
 pieces:List (Str×List Rw)
 cur:Option Str
open Classical in
noncomputable def bJ (sh:Sh):Sg->Bool
 | .du n=>decide (sh.cur=none) && !decide (n∈sh.pieces.map (·.1))
 | .fin=> !decide (sh.cur=none)
 | .row (.lay pc _ _ _)=>decide (pc∈sh.pieces.map (·.1)) && !decide (sh.cur=some pc)
 | .row (.pin p)=> !decide (p.ws=[(0,0)])
 | .row (.bar _ _ _)=>true
def cw (ps:ν)(n:Str)(r:Rw):List (Str×List Rw):=ps.map fun p=>if p.1=n then (p.1,p.2++[r]) else p
def di (sh:Sh):Sg->Sh
 | .du n=>{sh with cur:=some n,pieces:=sh.pieces++[(n,[])]}
 | .fin=>{sh with cur:=none}
 | .row r=>match sh.cur with
  | none=>{sh with outside:=sh.outside++[r]}
  | some n=>{sh with pieces:=cw sh.pieces n r}
theorem BZ {ps:ν}{n:Str}{r:Rw}:(cw ps n r).map (·.1)=ps.map (·.1):=by
 unfold cw
 rw [agJ]
 refine List.map_congr_left fun p _=>?_
 show (if p.1=n then (p.1,p.2++[r]) else p).1=p.1
 split <;> rfl
def pO (ps:ν)(n:Nat)(rows:List Rw):Prop:=∀pc pre a st,Rw.lay pc pre a st∈rows->pc∈(ps.take n).map (·.1)
structure QY (sh:Sh):Prop where
 nd:(sh.pieces.map (·.1)).Nodup
 ok:∀r∈sh.outside,zy r
 okp:∀p∈sh.pieces,∀r∈p.2,zy r
 hold:∀p:nT,(Rw.pin p∈sh.outside\/∃q∈sh.pieces,Rw.pin p∈q.2)->p.ws≠[(0,0)]
 out:pO sh.pieces sh.pieces.length sh.outside
 lay:∀i p,sh.pieces[i]? =some p->pO sh.pieces i p.2
 cur:∀n,sh.cur=some n->(sh.pieces.map (·.1)).getLast? =some n
theorem yg {ps qs:ν}(h:qs.map (·.1)=ps.map (·.1))(i:Nat):(qs.take i).map (·.1)=(ps.take i).map (·.1):=by
 rw [alz,alz,h]
noncomputable def lZ (R:Str->Option Sg):List Str->Nat->Sh->(Sh->Prop)->(Nat->Prop)->Prop
 | [],k,sh,Q,E=>if sh.cur=none then Q sh else E k
 | x::t,k,sh,Q,E=>match R x with
  | none=>E k
  | some sg=>if bJ sh sg=true then lZ R t (k+1) (di sh sg) Q E else E k
theorem tZ {ps:ν}{i j:Nat}{rows:List Rw}(h:pO ps i rows)(l:i<=j):pO ps j rows:=fun pc pre a st m=>by
 have:=h pc pre a st m
 rw [alz] at this ⊢
 exact alC (by rw [List.take_take,aoT l];exact this)
theorem M' {ps qs:ν}{i:Nat}{rows:List Rw}(h:pO ps i rows):pO (ps++qs) i rows:=fun pc pre a st m=>by
 have:=h pc pre a st m
 rw [List.take_append,aeU]
 exact af_ _ this
theorem yh {α:Type}{l:List α}{x:α}(h:l.getLast? =some x):l[l.length - 1]? =some x:=by
 rw [<- List.getLast?_eq_getElem?]
 exact h
theorem QY.last {sh:Sh}(h:QY sh){n:Str}(e:sh.cur=some n):0 < sh.pieces.length/\∀i p,sh.pieces[i]? =some p->(p.1=n ↔ i=sh.pieces.length - 1):=by
 have l:=yh (h.cur n e)
 rw [Wp] at l
 have p0:0 < sh.pieces.length:=by
  cases z:sh.pieces with
  | nil=>rw [z] at l;cases l
  | cons a t=>simp
 refine ⟨p0,fun i p ei=>⟨fun en=>?_,fun Xy =>?_⟩⟩
 ·have e1:(sh.pieces.map (·.1))[i]? =some n:=by rw [abx,ei, <- en];rfl
  have li:=(W1.mp ei).1
  exact (alU (by rw [Wp];exact li) h.nd).mp (e1.trans l.symm)
 ·rw [Xy,] at ei
  rw [abx,ei] at l
  exact abq l
theorem aej {sh:Sh}{sg:Sg}(h:QY sh)(st:bJ sh sg=true)(ok:FD sg):QY (di sh sg):=by
 cases sg with
 | du n=>
  simp only [bJ,abA,decide_eq_true_eq,ae_,decide_eq_false_iff_not] at st
  obtain ⟨c,nn⟩:=st
  refine ⟨?_,h.ok,?_,?_,?_,?_,?_⟩
  ·show ((sh.pieces++[(n,([]:List Rw))]).map al_).Nodup
   rw [aeU,aie]
   exact ⟨h.nd,by simp,fun a ha b hb z=>nn (by rw [show b=n by simpa using hb] at z;rw [<- z];exact ha)⟩
  ·intro p hp r hr
   rcases abB.mp hp with hp | hp
   ·exact h.okp p hp r hr
   ·rw [abv.mp hp] at hr
    cases hr
  ·intro p hp
   refine h.hold p ?_
   rcases hp with hp | ⟨q,hq,hp⟩
   ·exact .inl hp
   ·rcases abB.mp hq with hq | hq
    ·exact .inr ⟨q,hq,hp⟩
    ·rw [abv.mp hq] at hp
     cases hp
  ·show pO (sh.pieces++[(n,[])]) (sh.pieces++[(n,[])]).length sh.outside
   exact tZ (M' h.out) (by rw [aa_];omega)
  ·intro i p ei
   have Xy :(sh.pieces++[(n,[])])[i]? =some p:=ei
   show pO (sh.pieces++[(n,[])]) i p.2
   by_cases l:i < sh.pieces.length
   ·rw [aeE l] at Xy
    exact M' (h.lay i p Xy)
   ·rw [aea (by omega)] at Xy
    have:=abw Xy
    rw [abv] at this
    rw [this]
    intro pc pre a st m
    cases m
  ·intro m em
   have em' :some n=some m:=em
   show ((sh.pieces++[(n,([]:List Rw))]).map al_).getLast? =some m
   rw [aeU, <- em']
   simp
 | fin=>exact ⟨h.nd,h.ok,h.okp,h.hold,h.out,h.lay,fun n e=>nomatch (show (none:Β)=some n from e)⟩
 | row r=>
  have hr:zy r:=ok
  have hh:∀p,r=.pin p->p.ws≠[(0,0)]:=fun p e=>by
   rw [e] at st
   simpa [bJ] using st
  have hl:∀pc pre a s,r=.lay pc pre a s->pc∈sh.pieces.map (·.1)/\sh.cur≠some pc:=fun pc pre a s e=>by
   rw [e] at st
   simp only [bJ,abA,decide_eq_true_eq,ae_,decide_eq_false_iff_not] at st
   exact st
  cases c:sh.cur with
  | none=>
   have ek:di sh (.row r)={sh with outside:=sh.outside++[r]}:=by simp only [di,c]
   rw [ek]
   refine ⟨h.nd,?_,h.okp,?_,?_,h.lay,fun n e=>h.cur n e⟩
   ·intro r' m
    rcases abB.mp m with m | m
    ·exact h.ok r' m
    ·rw [abv.mp m]
     exact hr
   ·intro p m
    rcases m with m | m
    ·rcases abB.mp m with m | m
     ·exact h.hold p (.inl m)
     ·exact hh p (abv.mp m).symm
    ·exact h.hold p (.inr m)
   ·intro pc pre a s m
    rcases abB.mp m with m | m
    ·exact h.out pc pre a s m
    ·rw [amx]
     exact (hl pc pre a s (abv.mp m).symm).1
  | some n=>
   obtain ⟨p0,last⟩:=h.last c
   have ek:di sh (.row r)={sh with pieces:=cw sh.pieces n r}:=by simp only [di,c]
   rw [ek]
   have nm:=BZ (ps:=sh.pieces) (n:=n) (r:=r)
   have len:(cw sh.pieces n r).length=sh.pieces.length:=by unfold cw;rw [Wp]
   have ajy:∀{i rows},pO sh.pieces i rows->pO (cw sh.pieces n r) i rows:=fun {i rows} z pc pre a s m=>by
    rw [yg nm]
    exact z pc pre a s m
   have inv:∀q∈cw sh.pieces n r,∃p∈sh.pieces,q.1=p.1/\∀r' ∈q.2,r' ∈p.2\/(r' =r):=fun q hq=>by
    obtain ⟨p,hp,rfl⟩:=aeu.mp hq
    refine ⟨p,hp,?_⟩
    by_cases e:p.1=n
    ·rw [if_pos e]
     refine ⟨rfl,fun r' m=>?_⟩
     rcases abB.mp m with m | m
     ·exact .inl m
     ·exact .inr (abv.mp m)
    ·rw [if_neg e]
     exact ⟨rfl,fun r' m=>.inl m⟩
   refine ⟨?_,h.ok,?_,?_,?_,?_,?_⟩
   ·show ((cw sh.pieces n r).map (·.1)).Nodup
    rw [nm]
    exact h.nd
   ·intro q hq r' m
    obtain ⟨p,hp,_,z⟩:=inv q hq
    rcases z r' m with z | z
    ·exact h.okp p hp r' z
    ·rw [z]
     exact hr
   ·intro p m
    rcases m with m | ⟨q,hq,m⟩
    ·exact h.hold p (.inl m)
    ·obtain ⟨p',hp,_,z⟩:=inv q hq
     rcases z _ m with z | z
     ·exact h.hold p (.inr ⟨p',hp,z⟩)
     ·exact hh p z.symm
   ·show pO (cw sh.pieces n r) (cw sh.pieces n r).length sh.outside
    rw [len]
    exact ajy h.out
   ·intro i q ei
    have Xy :(sh.pieces.map fun p=>if p.1=n then (p.1,p.2++[r]) else p)[i]? =some q:=ei
    rw [abx] at Xy
    obtain ⟨p,ep,rfl⟩:=abD.mp Xy
    show pO (cw sh.pieces n r) i _
    by_cases e:p.1=n
    ·rw [if_pos e]
     have il:=(last i p ep).mp e
     intro pc pre a s m
     rcases abB.mp m with m | m
     ·exact ajy (h.lay i p ep) pc pre a s m
     ·obtain ⟨m1,m2⟩:=hl pc pre a s (abv.mp m).symm
      rw [yg nm,alz,il]
      obtain ⟨j,ej⟩:=aeV m1
      have jl:=(W1.mp ej).1
      rw [Wp] at jl
      have jn:j≠sh.pieces.length - 1:=fun z=>by
       have:=yh (h.cur n c)
       rw [Wp, <- z,ej] at this
       exact m2 (by rw [c, <- abq this])
      exact abw (i:=j) (by rw [ai3 (by omega)];exact ej)
    ·rw [if_neg e]
     exact ajy (h.lay i p ep)
   ·intro m em
    show ((cw sh.pieces n r).map (·.1)).getLast? =some m
    rw [nm]
    exact h.cur m em
theorem ajz:QY ⟨[],[],none⟩:=⟨am_,(fun _ h=>nomatch h),(fun _ h=>nomatch h),(fun _ h=>by rcases h with h | ⟨_,h,_⟩ <;> cases h),(fun _ _ _ _ h=>nomatch h),(fun _ _ h=>by simp at h),(fun _ h=>nomatch h)⟩
abbrev NA (lo dp:Addr)(cv:V):List (Str×V):=[("outside",.ref lo),("pieces",.ref dp),("current",cv)]
structure ShC (K:Frag)(C:Addr):Prop where
 cls:vF K C
 ou:cp K C "outside"
 pi:cp K C "pieces"
 cu:cp K C "current"
inductive yi (K:Frag)(C:Addr)(vs:η)(H:Hp)(Q:VK)(E_:XK):Prop where
 | mk (a dx:Addr) (_:vs=[.ref a]) (_:H a=some (.ins C dx [])) (_:∀(lo dp:Addr) (H' :Hp),eh a H H' ->H lo=none->H dp=none->H' a=some (.ins C dx (NA lo dp .bN))->H' lo=some (.lst [])->H' dp=some (.dK [])->Q .bN H'):yi K C vs H Q E_
theorem aek {x:V}:cL "outside" x []=([("outside",x)]:List (Str×V)):=rfl
theorem ael {x y:V}:cL "pieces" y [("outside",x)]=([("outside",x),("pieces",y)]:List (Str×V)):=by
 simp only [cL]
 rw [if_neg (by decide)]
theorem aem {x y z:V}:cL "current" z [("outside",x),("pieces",y)]=([("outside",x),("pieces",y),("current",z)]:List (Str×V)):=by
 simp only [cL]
 rw [if_neg (by decide),if_neg (by decide)]
theorem zz:av zas zas (aa fJ):=sq
theorem zA {f:Addr}{fd:FuncData}{C:Addr}(F:lV K "__init__" "Sheet.__init__" fJ f fd)(fc:ShC K C):bH P w K mg base (aV P w) 1 f fd zas (yi K C):=by
 refine d6 F zz fun H hr h=>?_
 obtain ⟨a,dx,rfl,ha,q⟩:=h
 refine ⟨_,(ae (dA (pv 0) (bB ja) rfl)
  (ae (dA (pv 0) iq rfl)
  (ag (dA (pv 0) bz rfl)))),?_⟩
 refine ⟨(by show 0<=sizeLine;decide),?_⟩
 intro lo nl
 have al:a≠lo:=ak ha nl
 refine ⟨_,rfl,a,C,dx,_,rfl,(by rw [ah al];exact ha),fc.cls,fc.ou,(by show 0 < 1000;decide),?_⟩
 rw [aek]
 generalize e1:upd (upd H lo (.lst [])) a (.ins C dx [("outside",.ref lo)])=H1
 have o1:H1 a=some (.ins C dx [("outside",.ref lo)]):=by rw [<- e1,aj]
 have p1:H1 lo=some (.lst []):=by rw [<- e1,ah (ac_ al),aj]
 have k1:∀b o,b≠a->H b=some o->H1 b=some o:=fun b o n e=>by rw [<- e1,ah n,ah (ak e nl)];exact e
 intro dp np
 have ap:a≠dp:=ak o1 np
 refine ⟨_,rfl,a,C,dx,_,rfl,(by rw [ah ap];exact o1),fc.cls,fc.pi,(by show 1 < 1000;decide),?_⟩
 rw [ael]
 generalize e2:upd (upd H1 dp (.dK [])) a (.ins C dx [("outside",.ref lo),("pieces",.ref dp)])=H2
 have o2:H2 a=some (.ins C dx [("outside",.ref lo),("pieces",.ref dp)]):=by rw [<- e2,aj]
 have w2:H2 dp=some (.dK []):=by rw [<- e2,ah (ac_ ap),aj]
 have k2:∀b o,b≠a->H1 b=some o->H2 b=some o:=fun b o n e=>by rw [<- e2,ah n,ah (ak e np)];exact e
 refine ⟨_,rfl,a,C,dx,_,rfl,o2,fc.cls,fc.cu,(by show 2 < 1000;decide),?_⟩
 rw [aem]
 have f1:∀b,b≠a->H1 b=none->H b=none:=fun b n e=>by
  cases z:H b with
  | none=>rfl
  | some o=>rw [k1 b o n z] at e;cases e
 exact q lo dp _ (fun b o n e=>by rw [ah n];exact k2 b o n (k1 b o n e)) nl (f1 _ (ac_ ap) np) aj (by rw [ah (ac_ al)];exact k2 _ _ (ac_ al) p1) (by rw [ah (ac_ ap)];exact w2)
theorem aoy {lo dp:Addr}{cv:V}:ady ("outside":Str) (NA lo dp cv)=some (.ref lo):=rfl
theorem Zw {lo dp:Addr}{cv:V}:ady ("pieces":Str) (NA lo dp cv)=some (.ref dp):=by
 have h:(("pieces":Str)=="outside")=false:=by decide+kernel
 simp [ady,h]
theorem NC {lo dp:Addr}{cv:V}:ady ("current":Str) (NA lo dp cv)=some cv:=by
 have h:(("current":Str)=="outside")=false:=by decide+kernel
 have h2:(("current":Str)=="pieces")=false:=by decide+kernel
 simp [ady,h,h2]
theorem TV {lo dp:Addr}{cv v:V}:cL "current" v (NA lo dp cv)=NA lo dp v:=by
 simp only [cL,NA]
 rw [if_neg (by decide),if_neg (by decide),if_pos (by decide)]
def mj:Option Str->V
 | none=>.bN
 | some n=>.str n
inductive RowC (K:Frag)(H:Hp)(cs:π)(u:V)(r:Rw):Prop where
 | mk (l:Addr) (us:η) (_:u=.ref l) (_:l∉cs) (_:H l=some (.lst us)) (_:Paired (lY K H) us (fU r)):RowC K H cs u r
def cD (ps:ν)(ls:π):List (Key×V):=aj3 (fun (p:Str×List Rw) l=>((.inr p.1:Key),V.ref l)) ps ls
theorem nO:∀{ps:ν} {ls:π},ls.length=ps.length->(cD ps ls).map (·.1)=(ps.map (·.1)).map (fun b=>(agK b:Key))
 | [],[],_=>rfl
 | _::ps,_::ls,h=>by
  show _::(cD ps ls).map (·.1)=_::_
  rw [nO (an3 h)]
structure ShR (K:Frag)(H:Hp)(C sa sd lo dp:Addr)(ls:π)(sh:Sh):Prop where
 obj:H sa=some (.ins C sd (NA lo dp (mj sh.cur)))
 nd:(lo::ls).Nodup
 out:∃xs,H lo=some (.lst xs)/\Paired (RowC K H (lo::ls)) xs sh.outside
 t_:H dp=some (.dK (cD sh.pieces ls))
 len:ls.length=sh.pieces.length
 oN:∀(i:Nat) (l:Addr) (p:Str×List Rw),ls[i]? =some l->sh.pieces[i]? =some p->∃ys,H l=some (.lst ys)/\Paired (RowC K H (lo::ls)) ys p.2
theorem RowC.same {H H' :Hp}{cs:π}{u:V}{r:Rw}(h:RowC K H cs u r)(s:az H H'):RowC K H' cs u r:=by
 obtain ⟨l,us,e,n,hl,p⟩:=h
 exact ⟨l,us,e,n,s _ _ hl,Paired.cy p fun _ _ z=>z.aZ (.of s)⟩
theorem ShR.same {H H' :Hp}{C sa sd lo dp:Addr}{ls:π}{sh:Sh}(h:ShR K H C sa sd lo dp ls sh)(s:az H H'):ShR K H' C sa sd lo dp ls sh:=by
 obtain ⟨xs,e1,e2⟩:=h.out
 refine ⟨s _ _ h.obj,h.nd,⟨xs,s _ _ e1,Paired.cy e2 fun _ _ z=>z.same s⟩,s _ _ h.t_,h.len,fun i l p a b=>?_⟩
 obtain ⟨ys,e3,e4⟩:=h.oN i l p a b
 exact ⟨ys,s _ _ e3,Paired.cy e4 fun _ _ z=>z.same s⟩
theorem ShR.has {H:Hp}{C sa sd lo dp:Addr}{ls:π}{sh:Sh}(h:ShR K H C sa sd lo dp ls sh)(x:Str):(gZ (cD sh.pieces ls) (.inr x)).isSome=decide (x∈sh.pieces.map (·.1)):=by
 by_cases c:x∈sh.pieces.map (·.1)
 ·obtain ⟨v,e⟩:=kr (kvs:=cD sh.pieces ls) (k:=.inr x) (by rw [nO h.len];exact eL.mpr c)
  rw [e,decide_eq_true c]
  rfl
 ·rw [dk (by rw [nO h.len];exact fun z=>c (eL.mp z)),decide_eq_false c]
  rfl
def g6:RV->Da
 | .w s=>.v (.str s)
 | .q r=>.t [.v (.int (qr r).1),.v (.int (qr r).2)]
 | .n k=>.v (.int k)
theorem aoz {H:Hp}{v:V}{a:RV}(h:lY K H v a):Is K H (g6 a) v:=by
 cases a with
 | w s=>
  unfold g6 Is
  exact ⟨h,rfl⟩
 | q r=>exact EK h
 | n k=>
  unfold g6 Is
  exact ⟨h,rfl⟩
theorem Zx {H:Hp}:∀{us:η} {rs:List RV},Paired (lY K H) us rs->mh K H (rs.map g6) us
 | [],[],.nil=>by
  unfold mh
  trivial
 | _::_,_::_,.cons h t=>by
  show mh K H (_::_) _
  unfold mh
  exact ⟨aoz h,Zx t⟩
theorem uc {H:Hp}{l:Addr}{us:η}{rs:List RV}(hl:bq K H l us)(h:Paired (lY K H) us rs):Is K H (.l (rs.map g6)) (.ref l):=by
 unfold Is
 exact ⟨l,us,rfl,hl,Zx h⟩
theorem ajA (a:RV):dep (g6 a)<=1:=by
 cases a <;> simp [g6,dep,qR]
theorem wO:∀rs:List RV,qR (rs.map g6)<=60
 | []=>af0 _
 | a::rs=>by
  show max (dep (g6 a)) (qR (rs.map g6))<=60
  have h1:=ajA a
  have h2:=wO rs
  omega
theorem lG {α β:Type}{R:α->β->Prop}:∀(n:Nat) {l:List α} {m:List β},Paired R l m->Paired R (l.drop n) (m.drop n)
 | 0,_,_,h=>h
 | _+1,_,_,.nil=>.nil
 | n+1,_,_,.cons _ t=>lG n t
theorem ajB (xs:η):KZ xs (some 4) none=xs.drop 4:=by
 unfold KZ
 have h:HT.zb xs.length 0 (some 4)=min 4 xs.length:=by
  simp only [HT.zb]
  split <;> omega
 have h2:HT.zb xs.length xs.length none=xs.length:=rfl
 rw [h,h2]
 by_cases c:4<=xs.length
 ·rw [aoT c,agN]
  rw [an_]
  omega
 ·rw [Nat.min_eq_right (by omega),amP (abt _),amP (by omega)]
  exact List.take_nil
theorem zB {x:V}{r:η}:mv (x::r) 0=some x:=b5 (j:=0) rfl
def FE:List RV:=[.w "roller",.q 0,.q 0]
theorem aoA (x y:Str):jE (g6 (.w x)) (g6 (.w y))=decide (x=y):=by
 show jE (.v (.str x)) (.v (.str y))=_
 unfold jE
 by_cases h:x=y <;> simp [vI,h]
theorem aoB (x y:Rat):jE (g6 (.q x)) (g6 (.q y))=decide (x=y):=by
 have e:jE (g6 (.q x)) (g6 (.q y))=(vI (.int (qr x).1) (.int (qr y).1) && (vI (.int (qr x).2) (.int (qr y).2) && true)):=rfl
 rw [e]
 by_cases h:x=y
 ·subst h
  simp [vI]
 ·rw [decide_eq_false h]
  by_cases h1:(qr x).1=(qr y).1
  ·have h2:(qr x).2≠(qr y).2:=fun z=>h (xU (agx h1 z))
   simp [vI,h2]
  ·simp [vI,h1]
theorem wQ (c:Β):decide (mj c=V.bN)=decide (c=none):=by
 cases c <;> simp [mj]
theorem QZ (ws:χ):gm ((mR ws).map g6) (FE.map g6)=true:=by
 match ws with
 | []=>rfl
 | [w]=>rfl
 | _::_::_=>rfl
theorem aen (ws:χ):gG ((mR ws).map g6) (FE.map g6)=decide (ws=[(0,0)]):=by
 match ws with
 | []=>rfl
 | [w]=>
  show (jE (g6 (.w "roller")) (g6 (.w "roller")) && (jE (g6 (.q w.1)) (g6 (.q 0)) && (jE (g6 (.q w.2)) (g6 (.q 0)) && true)))=_
  rw [aoA,aoB,aoB]
  by_cases h1:w.1=0
  ·by_cases h2:w.2=0
   ·have e:w=(0,0):=agx h1 h2
    simp [e]
   ·have e:w≠(0,0):=fun z=>h2 (by rw [z])
    simp [h2,e]
  ·have e:w≠(0,0):=fun z=>h1 (by rw [z])
   simp [h1,e]
 | _::_::_=>
  show (jE (g6 (.w "fixed")) (g6 (.w "roller")) && _)=_
  rw [aoA,decide_eq_false (by decide+kernel)]
  simp
def B_:Sg->Str
 | .du _=> "piece"
 | .fin=> "end"
 | .row (.pin _)=> "pin"
 | .row (.bar _ _ _)=> "bar"
 | .row (.lay _ _ _ _)=> "lay"
theorem FF {H:Hp}{us:η}{sg:Sg}(p:Paired (lY K H) us (dq sg)):mv us 0=some (.str (B_ sg)):=by
 have key:∀{x:Str} {t:List RV},Paired (lY K H) us (.w x::t)->mv us 0=some (.str x):=fun {x t} p=>by
  cases p with
  | cons h _=>
   rw [show _=V.str x from h]
   exact zB
 cases sg with
 | du n=>exact key p
 | fin=>exact key p
 | row r=>
  cases r with
  | pin p' =>exact key p
  | bar a b c=>exact key p
  | lay a b c st=>
   cases st with
   | none=>exact key p
   | some z=>exact key p
theorem nQ {H:Hp}{us:η}{x y:Str}{t:List RV}(p:Paired (lY K H) us (.w x::.w y::t)):mv us 1=some (.str y):=by
 cases p with
 | cons h p=>
  cases p with
  | cons h2 _=>
   rw [show _=V.str y from h2]
   exact b5 (j:=1) rfl
theorem yj {H:Hp}{us:η}{pc pre:Str}{a:Rat×Rat}{st:Κ}(p:Paired (lY K H) us (dq (.row (.lay pc pre a st)))):mv us 1=some (.str pc):=by
 cases st with
 | none=>exact nQ p
 | some z=>exact nQ p
inductive wU (K:Frag)(C:Addr)(vs:η)(H:Hp)(Q:VK)(E_:XK):Prop where
 | mk (sa sd lo dp l:Addr) (ls:π) (sh:Sh) (us:η) (sg:Sg) (_:vs=[.ref sa,.ref l]) (_:ShR K H C sa sd lo dp ls sh) (_:H l=some (.lst us)) (_:Paired (lY K H) us (dq sg)) (_:∀H',az H H' ->Q (.bl (bJ sh sg)) H'):wU K C vs H Q E_
theorem pQ:av zaC zaC (aa cn):=sq
theorem pR {f:Addr}{fd:FuncData}{C aN:Addr}(F:lV K "may_stand" "Sheet.may_stand" cn f fd)(fc:ShC K C)(aeo:mg "NOUGHT"=some (.ref aN))(hN:∀H,sZ K H (.ref aN) (0,1)):bH P w K mg base (aV P w) 1 f fd zaC (wU K C):=by
 refine d6 F pQ fun H hr h=>?_
 obtain ⟨sa,sd,lo,dp,l,ls,sh,us,sg,rfl,R,hl,pu,q⟩:=h
 have ix:=FF pu
 refine ⟨_,(ae (aK (aE a9 (cW (pv 1)) au) (ag (aA (ti (dz kY (ba (pv 0) rfl) bz (i_ _)) (kS (XM (tL (iJ hr) (cW (pv 1)) (ba (pv 0) rfl))))))) ay)
  (ae (aK (aE a9 (cW (pv 1)) au) (ag (aA (dz iK (ba (pv 0) rfl) bz (i_ _)))) ay)
  (ae (aK (aE a9 (cW (pv 1)) au) (ag (aA (ti (XM (EJ (iJ hr) (cW (pv 1)) (ba (pv 0) rfl))) (kS (dz uQ (cW (pv 1)) (ba (pv 0) rfl) (i_ _)))))) ay)
  (ag (aA (dz (Td hr.units) (qK DR (pv 1) (qJ ai) DN) (bB (dm au (dy (v:=.ref aN) rfl aeo rfl) (dy (v:=.ref aN) rfl aeo rfl))) (i_ _))))))),?_⟩
 refine ⟨_,rfl,l,_,_,_,rfl,rfl,bq.of hl,ix,rfl,_,rfl,?_⟩
 cases sg with
 | du n=>
  refine aI (fun _=>?_) (fun c=>absurd (decide_eq_true rfl) c)
  refine ⟨_,rfl,sa,C,sd,_,_,rfl,R.obj,fc.cls,fc.cu,NC,rfl,?_⟩
  have e:bJ sh (.du n)=(decide (sh.cur=none) && !decide (n∈sh.pieces.map (·.1))):=by simp only [bJ]
  have q' :=q H (az.refl H)
  rw [e] at q'
  rw [wQ]
  by_cases c:sh.cur=none
  ·rw [decide_eq_true c] at q' ⊢
   refine ⟨_,rfl,fw ?_⟩
   refine ⟨_,rfl,l,_,_,_,rfl,rfl,bq.of hl,nQ pu,_,rfl,sa,C,sd,_,_,rfl,R.obj,fc.cls,fc.pi,Zw,dp,_,rfl,ki.k (k:=.inr n) R.t_,?_⟩
   rw [R.has n]
   exact q'
  ·rw [decide_eq_false c] at q' ⊢
   exact ⟨_,rfl,cM q'⟩
 | fin=>
  refine aI (fun c=>absurd (of_decide_eq_true c) (ne_str (by decide+kernel))) (fun _=>?_)
  refine ⟨_,rfl,l,_,_,_,rfl,rfl,bq.of hl,ix,rfl,_,rfl,?_⟩
  refine aI (fun _=>?_) (fun c=>absurd (decide_eq_true rfl) c)
  have e:bJ sh .fin= !decide (sh.cur=none):=by simp only [bJ]
  have q' :=q H (az.refl H)
  rw [e] at q'
  refine ⟨_,rfl,sa,C,sd,_,_,rfl,R.obj,fc.cls,fc.cu,NC,rfl,?_⟩
  rw [wQ]
  exact q'
 | row r=>
  have n1:B_ (.row r)≠ "piece":=by
   cases r with
   | pin _=>exact (by decide+kernel:("pin":Str)≠ "piece")
   | bar _ _ _=>exact (by decide+kernel:("bar":Str)≠ "piece")
   | lay _ _ _ _=>exact (by decide+kernel:("lay":Str)≠ "piece")
  have n2:B_ (.row r)≠ "end":=by
   cases r with
   | pin _=>exact (by decide+kernel:("pin":Str)≠ "end")
   | bar _ _ _=>exact (by decide+kernel:("bar":Str)≠ "end")
   | lay _ _ _ _=>exact (by decide+kernel:("lay":Str)≠ "end")
  refine aI (fun c=>absurd (of_decide_eq_true c) (ne_str n1)) (fun _=>?_)
  refine ⟨_,rfl,l,_,_,_,rfl,rfl,bq.of hl,ix,rfl,_,rfl,?_⟩
  refine aI (fun c=>absurd (of_decide_eq_true c) (ne_str n2)) (fun _=>?_)
  refine ⟨_,rfl,l,_,_,_,rfl,rfl,bq.of hl,ix,rfl,_,rfl,?_⟩
  cases r with
  | lay pc pre a st=>
   refine aI (fun _=>?_) (fun c=>absurd (decide_eq_true rfl) c)
   have e:bJ sh (.row (.lay pc pre a st))=(decide (pc∈sh.pieces.map (·.1)) && !decide (sh.cur=some pc)):=by simp only [bJ]
   have q' :=q H (az.refl H)
   rw [e] at q'
   refine ⟨_,rfl,l,_,_,_,rfl,rfl,bq.of hl,yj pu,_,rfl,sa,C,sd,_,_,rfl,R.obj,fc.cls,fc.pi,Zw,dp,_,rfl,ki.k (k:=.inr pc) R.t_,?_⟩
   rw [R.has pc]
   by_cases c:pc∈sh.pieces.map (·.1)
   ·rw [decide_eq_true c] at q' ⊢
    refine ⟨_,rfl,fw ?_⟩
    refine ⟨_,rfl,l,_,_,_,rfl,rfl,bq.of hl,yj pu,_,rfl,sa,C,sd,_,_,rfl,R.obj,fc.cls,fc.cu,NC,(by cases sh.cur <;> rfl),?_⟩
    have e2:(!decide (V.str pc=mj sh.cur))= !decide (sh.cur=some pc):=by
     cases z:sh.cur with
     | none=>simp [mj]
     | some n=>
      by_cases en:pc=n
      ·simp [mj,en]
      ·have en' :¬ n=pc:=fun z=>en z.symm
       simp [mj,en,en']
    rw [e2]
    exact q'
   ·rw [decide_eq_false c] at q' ⊢
    exact ⟨_,rfl,cM q'⟩
  | pin p=>
   refine aI (fun c=>absurd (of_decide_eq_true c) (ne_str (by decide+kernel:("pin":Str)≠ "lay"))) (fun _=>?_)
   refine ⟨_,rfl,4,rfl,l,_,rfl,bq.of hl,?_⟩
   rw [ajB]
   intro l1 m1;generalize eX:upd _ l1 _=H1;have ⟨s1,e1⟩:=nw m1 eX;clear eX
   refine ⟨(by show 3<=sizeLine;decide),?_⟩
   intro l2 m2;generalize eX:upd _ l2 _=H2;have ⟨s2,e2⟩:=nw m2 eX;clear eX
   have s12:=aw s1 s2
   have p1:Paired (lY K H2) (us.drop 4) (mR p.ws):=lG 4 (m:=tY p) (Paired.cy pu fun _ _ z=>z.aZ (.of s12))
   have p2:Paired (lY K H2) [V.str "roller",.ref aN,.ref aN] FE:=.cons rfl (.cons (by show sZ K H2 _ (qr 0);rw [cZ];exact hN H2) (.cons (by show sZ K H2 _ (qr 0);rw [cZ];exact hN H2) .nil))
   refine ⟨_,_,.inr ⟨uc (bq.of (s2 _ _ e1)) p1,uc (bq.of e2) p2⟩,QZ _,wO _,?_⟩
   have e:bJ sh (.row (.pin p))= !decide (p.ws=[(0,0)]):=by simp only [bJ]
   have q' :=q H2 s12
   rw [e] at q'
   rw [aen]
   exact q'
  | bar x a b=>
   refine aI (fun c=>absurd (of_decide_eq_true c) (ne_str (by decide+kernel:("bar":Str)≠ "lay"))) (fun _=>?_)
   refine ⟨_,rfl,4,rfl,l,_,rfl,bq.of hl,?_⟩
   rw [ajB]
   intro l1 m1;generalize eX:upd _ l1 _=H1;have ⟨s1,e1⟩:=nw m1 eX;clear eX
   refine ⟨(by show 3<=sizeLine;decide),?_⟩
   intro l2 m2;generalize eX:upd _ l2 _=H2;have ⟨s2,e2⟩:=nw m2 eX;clear eX
   have s12:=aw s1 s2
   have p1:Paired (lY K H2) (us.drop 4) []:=lG 4 (m:=dq (.row (.bar x a b))) (Paired.cy pu fun _ _ z=>z.aZ (.of s12))
   have p2:Paired (lY K H2) [V.str "roller",.ref aN,.ref aN] FE:=.cons rfl (.cons (by show sZ K H2 _ (qr 0);rw [cZ];exact hN H2) (.cons (by show sZ K H2 _ (qr 0);rw [cZ];exact hN H2) .nil))
   refine ⟨_,_,.inr ⟨uc (bq.of (s2 _ _ e1)) p1,uc (bq.of e2) p2⟩,rfl,wO _,?_⟩
   exact q H2 s12
theorem B' {H:Hp}{b:Addr}{o o' :HO}(e:H b=some o)(n1:∀xs,o≠.tup xs)(n2:∀p xs,o≠.j8 p (.tup xs)):bg H (upd H b o'):=fun c xs r=>by
 rcases r with r | ⟨p,r⟩
 ·exact .inl (by rw [ah (fun z=>by rw [z,e] at r;exact n1 _ (abq r))];exact r)
 ·exact .inr ⟨p,by rw [ah (fun z=>by rw [z,e] at r;exact n2 _ _ (abq r))];exact r⟩
theorem ud {H:Hp}{b C d:Addr}{fs:Ζ}{o' :HO}(e:H b=some (.ins C d fs)):bg H (upd H b o'):=B' e (fun _ z=>nomatch z) (fun _ _ z=>nomatch z)
theorem RowC.mono {H H' :Hp}{cs cs' :π}{u:V}{r:Rw}(h:RowC K H cs u r)(k:∀b xs,b∉cs->H b=some (.lst xs)->H' b=some (.lst xs))(t:bg H H')(n:∀b,b∈cs' ->b∈cs\/H b=none):RowC K H' cs' u r:=by
 obtain ⟨l,us,e,nl,hl,p⟩:=h
 refine ⟨l,us,e,fun z=>?_,k l us nl hl,Paired.cy p fun _ _ z=>z.aZ t⟩
 rcases n l z with z | z
 ·exact nl z
 ·rw [hl] at z
  cases z
theorem FG:∀{ps:ν} {ls:π} {i:Nat} {l:Addr} {p:Str×List Rw},(ps.map (·.1)).Nodup->ls[i]? =some l->ps[i]? =some p->gZ (cD ps ls) (.inr p.1)=some (.ref l)
 | q::ps,m::ls,0,l,p,_,h1,h2=>by
  cases abq h1
  cases abq h2
  exact jd rfl
 | q::ps,m::ls,i+1,l,p,nd,h1,h2=>by
  rw [adA,agf] at nd
  have ne:(agK q.1:Key)≠.inr p.1:=fun z=>nd.1 (by
   rw [alR z]
   exact aeu.mpr ⟨p,abw h2,rfl⟩)
  show gZ ((.inr q.1,.ref m)::cD ps ls) (.inr p.1)=some (.ref l)
  rw [ip ne]
  exact FG nd.2 h1 h2
theorem CA {n:Str}{l:Addr}:∀{ps:ν} {ls:π},ls.length=ps.length->cD (ps++[(n,[])]) (ls++[l])=cD ps ls++[(.inr n,.ref l)]
 | [],[],_=>rfl
 | _::ps,_::ls,h=>by
  show _::cD (ps++[(n,[])]) (ls++[l])=_::(cD ps ls++_)
  rw [CA (an3 h)]
theorem ND {n:Str}{r:Rw}:∀{ps:ν} {ls:π},cD (cw ps n r) ls=cD ps ls
 | [],_=>rfl
 | _::_,[]=>rfl
 | p::ps,l::ls=>by
  show ((.inr (if p.1=n then (p.1,p.2++[r]) else p).1,.ref l):Key×V)::cD (cw ps n r) ls=(.inr p.1,.ref l)::cD ps ls
  rw [ND]
  split <;> rfl
inductive FH (K:Frag)(C:Addr)(vs:η)(H:Hp)(Q:VK)(E_:XK):Prop where
 | mk (sa sd lo dp l:Addr) (ls:π) (sh:Sh) (us:η) (sg:Sg) (_:vs=[.ref sa,.ref l]) (_:ShR K H C sa sd lo dp ls sh) (_:QY sh) (_:H l=some (.lst us)) (_:l∉lo::ls) (_:Paired (lY K H) us (dq sg)) (_:bJ sh sg=true) (_:sh.outside.length<=1000) (_:sh.pieces.length<=1000) (_:(∀p∈sh.pieces,p.2.length<=1000)) (_:∀(H' :Hp) (ls' :π),(∀b o,b≠sa->b≠dp->b∉lo::ls->H b=some o->H' b=some o)->(∀b∈ls',b∈ls\/H b=none)->ShR K H' C sa sd lo dp ls' (di sh sg)->Q .bN H'):FH K C vs H Q E_
theorem zC:av zaC zaC (aa fK):=sq
theorem zD {f:Addr}{fd:FuncData}{C:Addr}(F:lV K "keep" "Sheet.keep" fK f fd)(fc:ShC K C):bH P w K mg base (aV P w) 1 f fd zaC (FH K C):=by
 refine d6 F zC fun H hr h=>?_
 obtain ⟨sa,sd,lo,dp,l,ls,sh,us,sg,rfl,R,so,hl,nl,pu,st,lo1,lp1,lr1,q⟩:=h
 have ix:=FF pu
 obtain ⟨xs,hlo,pxs⟩:=R.out
 have alo:sa≠lo:=fun z=>by have h:=R.obj;rw [z,hlo] at h;cases h
 have adp:sa≠dp:=fun z=>by have h:=R.obj;rw [z,R.t_] at h;cases h
 have dlo:dp≠lo:=fun z=>by have h:=R.t_;rw [z,hlo] at h;cases h
 have als:∀c∈lo::ls,∃ys,H c=some (.lst ys):=fun c hc=>by
  rcases aby.mp hc with rfl | hc
  ·exact ⟨xs,hlo⟩
  ·obtain ⟨i,ei⟩:=aeV hc
   have il:=(W1.mp ei).1
   have il' :i < sh.pieces.length:=by have:=R.len;omega
   obtain ⟨ys,e,_⟩:=R.oN i c sh.pieces[i] ei (gE il')
   exact ⟨ys,e⟩
 refine ⟨_,(ag (aK (aE a9 (cW (pv 1)) au) (ae (dA (pv 0) (cW (pv 1)) rfl)
   (ag (qZ (iJ hr) (ba (pv 0) rfl) (ba (pv 0) rfl) (bB ja) rfl))) (ag (aK (aE a9 (cW (pv 1)) au) (ag (dA (pv 0) bz rfl)) (ag (aK (aE kY (ba (pv 0) rfl) bz) (ag (bj (gO PySem.F.plainAttrs_list PySem.F.slot_list_append PySem.F.type_list_append fv (ba (pv 0) rfl) (aG (pv 1))))) (ag (bj (gO PySem.F.plainAttrs_list PySem.F.slot_list_append PySem.F.type_list_append fv (wK (iJ hr) (ba (pv 0) rfl) (ba (pv 0) rfl) (fun _ _=>rfl)) (aG (pv 1))))))))))),?_⟩
 refine ⟨_,rfl,l,_,_,_,rfl,rfl,bq.of hl,ix,rfl,_,rfl,?_⟩
 cases sg with
 | du n=>
  refine aI (fun _=>?_) (fun c=>absurd (decide_eq_true rfl) c)
  have nn:n∉sh.pieces.map (·.1):=by
   simp only [bJ,abA,decide_eq_true_eq,ae_,decide_eq_false_iff_not] at st
   exact st.2
  refine ⟨_,rfl,l,_,_,_,rfl,rfl,bq.of hl,nQ pu,_,rfl,sa,C,sd,_,rfl,R.obj,fc.cls,fc.cu,(by show 3 < 1000;decide),?_⟩
  rw [TV]
  generalize e1:upd H sa (.ins C sd (NA lo dp (.str n)))=H1
  have o1:H1 sa=some (.ins C sd (NA lo dp (.str n))):=by rw [<- e1,aj]
  have k1:∀b o,b≠sa->H b=some o->H1 b=some o:=fun b o n e=>by rw [<- e1,ah n];exact e
  have t1:bg H H1:=by rw [<- e1];exact ud R.obj
  refine ⟨(by show 0<=sizeLine;decide),fun lN nN=>?_⟩
  have s2:=aT nN (.lst [])
  have nNa:lN≠sa:=fun z=>by rw [z,o1] at nN;cases nN
  have nN0:H lN=none:=by
   cases z:H lN with
   | none=>rfl
   | some o=>rw [k1 _ _ nNa z] at nN;cases nN
  have d1:(upd H1 lN (.lst [])) dp=some (.dK (cD sh.pieces ls)):=s2 _ _ (k1 _ _ (ac_ adp) R.t_)
  refine ⟨_,rfl,sa,C,sd,_,_,rfl,s2 _ _ o1,fc.cls,fc.pi,Zw,_,rfl,sa,C,sd,_,_,rfl,s2 _ _ o1,fc.cls,fc.cu,NC,dp,_,rfl,zo.k (k:=.inr n) d1 (abF (show (cD sh.pieces ls).length<=1000 by unfold cD;rw [anj];omega) (by decide)),?_⟩
  rw [kg _ (dk (by rw [nO R.len];exact fun z=>nn (eL.mp z)))]
  have t3:bg H (upd (upd H1 lN (.lst [])) dp (.dK (cD sh.pieces ls++[(.inr n,.ref lN)]))):=(t1.trans (.of s2)).trans (.dict d1)
  have k3:∀b o,b≠sa->b≠dp->H b=some o->(upd (upd H1 lN (.lst [])) dp (.dK (cD sh.pieces ls++[(.inr n,.ref lN)]))) b=some o:=fun b o n1 n2 e=>by rw [ah n2];exact s2 _ _ (k1 b o n1 e)
  have dN:dp≠lN:=fun z=>by rw [<- z,R.t_] at nN0;cases nN0
  have hN3:(upd (upd H1 lN (.lst [])) dp (.dK (cD sh.pieces ls++[(.inr n,.ref lN)]))) lN=some (.lst []):=by rw [ah (ac_ dN),aj]
  have hd3:(upd (upd H1 lN (.lst [])) dp (.dK (cD sh.pieces ls++[(.inr n,.ref lN)]))) dp=some (.dK (cD sh.pieces ls++[(.inr n,.ref lN)])):=aj
  have ha3:(upd (upd H1 lN (.lst [])) dp (.dK (cD sh.pieces ls++[(.inr n,.ref lN)]))) sa=some (.ins C sd (NA lo dp (.str n))):=by rw [ah adp];exact s2 _ _ o1
  generalize upd (upd H1 lN (.lst [])) dp (.dK (cD sh.pieces ls++[(.inr n,.ref lN)]))=H3 at t3 k3 hN3 hd3 ha3 ⊢
  have kl:∀b ys,H b=some (.lst ys)->H3 b=some (.lst ys):=fun b ys e=>k3 b _ (fun z=>by rw [z,R.obj] at e;cases e) (fun z=>by rw [z,R.t_] at e;cases e) e
  have rc:∀{u r},RowC K H (lo::ls) u r->RowC K H3 (lo::(ls++[lN])) u r:=fun {u r} z=>z.mono (fun b ys _ e=>kl b ys e) t3 (fun b hb=>by
   rw [<- aov,abB,abv] at hb
   rcases hb with hb | rfl
   ·exact .inl hb
   ·exact .inr nN0)
  refine q H3 (ls++[lN]) (fun b o n1 n2 _ e=>k3 b o n1 n2 e) (fun b hb=>?_) ⟨ha3,?_,⟨xs,kl _ _ hlo,Paired.cy pxs fun _ _ z=>rc z⟩,?_,?_,?_⟩
  ·rcases abB.mp hb with hb | hb
   ·exact .inl hb
   ·rw [abv.mp hb]
    exact .inr nN0
  ·rw [<- aov,aie]
   refine ⟨R.nd,by simp,fun a ha b hb z=>?_⟩
   obtain ⟨ys,e⟩:=als a ha
   rw [z,abv.mp hb,nN0] at e
   cases e
  ·show H3 dp=some (.dK (cD (sh.pieces++[(n,[])]) (ls++[lN])))
   rw [CA R.len]
   exact hd3
  ·show (ls++[lN]).length=(sh.pieces++[(n,[])]).length
   rw [aa_,aa_,R.len]
   rfl
  ·intro i c p ec ep
   have Us :(sh.pieces++[(n,[])])[i]? =some p:=ep
   by_cases il:i < ls.length
   ·rw [aeE il] at ec
    rw [aeE (by have:=R.len;omega)] at Us
    obtain ⟨ys,z1,z2⟩:=R.oN i c p ec Us
    exact ⟨ys,kl _ _ z1,Paired.cy z2 fun _ _ z=>rc z⟩
   ·rw [aea (by omega)] at ec
    rw [aea (by have:=R.len;omega)] at Us
    rw [abv.mp (abw ec),abv.mp (abw Us)]
    exact ⟨[],hN3,.nil⟩
 | fin=>
  refine aI (fun c=>absurd (of_decide_eq_true c) (ne_str (by decide+kernel))) (fun _=>?_)
  refine ⟨_,rfl,l,_,_,_,rfl,rfl,bq.of hl,ix,rfl,_,rfl,?_⟩
  refine aI (fun _=>?_) (fun c=>absurd (decide_eq_true rfl) c)
  refine ⟨_,rfl,sa,C,sd,_,rfl,R.obj,fc.cls,fc.cu,(by show 3 < 1000;decide),?_⟩
  rw [TV]
  have t1:bg H (upd H sa (.ins C sd (NA lo dp .bN))):=ud R.obj
  have k1:∀b o,b≠sa->H b=some o->(upd H sa (.ins C sd (NA lo dp .bN))) b=some o:=fun b o n e=>by rw [ah n];exact e
  have kl:∀b ys,H b=some (.lst ys)->(upd H sa (.ins C sd (NA lo dp .bN))) b=some (.lst ys):=fun b ys e=>k1 b _ (fun z=>by rw [z,R.obj] at e;cases e) e
  have rc:∀{u r},RowC K H (lo::ls) u r->RowC K (upd H sa (.ins C sd (NA lo dp .bN))) (lo::ls) u r:=fun {u r} z=>z.mono (fun b ys _ e=>kl b ys e) t1 (fun b hb=>.inl hb)
  refine q _ ls (fun b o n1 n2 _ e=>k1 b o n1 e) (fun b hb=>.inl hb) ⟨aj,R.nd,⟨xs,kl _ _ hlo,Paired.cy pxs fun _ _ z=>rc z⟩,k1 _ _ (ac_ adp) R.t_,R.len,fun i c p ec ep=>?_⟩
  obtain ⟨ys,z1,z2⟩:=R.oN i c p ec ep
  exact ⟨ys,kl _ _ z1,Paired.cy z2 fun _ _ z=>rc z⟩
 | row r=>
  have n1:B_ (.row r)≠ "piece":=by
   cases r with
   | pin _=>exact (by decide+kernel:("pin":Str)≠ "piece")
   | bar _ _ _=>exact (by decide+kernel:("bar":Str)≠ "piece")
   | lay _ _ _ _=>exact (by decide+kernel:("lay":Str)≠ "piece")
  have n2:B_ (.row r)≠ "end":=by
   cases r with
   | pin _=>exact (by decide+kernel:("pin":Str)≠ "end")
   | bar _ _ _=>exact (by decide+kernel:("bar":Str)≠ "end")
   | lay _ _ _ _=>exact (by decide+kernel:("lay":Str)≠ "end")
  refine aI (fun c=>absurd (of_decide_eq_true c) (ne_str n1)) (fun _=>?_)
  refine ⟨_,rfl,l,_,_,_,rfl,rfl,bq.of hl,ix,rfl,_,rfl,?_⟩
  refine aI (fun c=>absurd (of_decide_eq_true c) (ne_str n2)) (fun _=>?_)
  have row:∀{c:Addr} {ys:η},c∈lo::ls->H c=some (.lst ys)->RowC K (upd H c (.lst (ys++[.ref l]))) (lo::ls) (.ref l) r/\∀{u r'},RowC K H (lo::ls) u r' ->RowC K (upd H c (.lst (ys++[.ref l]))) (lo::ls) u r' :=fun {c ys} hc e=>by
   have t:bg H (upd H c (.lst (ys++[.ref l]))):=.list e
   have z:∀{u r'},RowC K H (lo::ls) u r' ->RowC K (upd H c (.lst (ys++[.ref l]))) (lo::ls) u r' :=fun {u r'} z=>z.mono (fun b zs nb e=>by rw [ah (fun z=>nb (by rw [z];exact hc))];exact e) t (fun b hb=>.inl hb)
   exact ⟨z ⟨l,us,rfl,nl,hl,pu⟩,z⟩
  cases c:sh.cur with
  | none=>
   have obj:H sa=some (.ins C sd (NA lo dp .bN)):=by have h:=R.obj;rw [c] at h;exact h
   refine ⟨_,rfl,sa,C,sd,_,_,rfl,obj,fc.cls,fc.cu,NC,rfl,_,rfl,?_⟩
   refine aI (fun _=>?_) (fun c=>absurd (by decide) c)
   refine ⟨_,rfl,sa,C,sd,_,_,rfl,obj,fc.cls,fc.ou,aoy,.inl ⟨rfl,_,bq.of hlo⟩,_,rfl,?_⟩
   refine ⟨lo,_,_,rfl,rfl,hlo,abF (show xs.length<=1000 by rw [Paired.length pxs];exact lo1) (by decide),?_⟩
   obtain ⟨r1,r2⟩:=row (c:=lo) abE hlo
   have ek:di sh (.row r)={sh with outside:=sh.outside++[r]}:=by simp only [di,c]
   rw [ek] at q
   refine q _ ls (fun b o n1 n2 n3 e=>by rw [ah (fun z=>n3 (by rw [z];exact abE))];exact e) (fun b hb=>.inl hb) ⟨by rw [ah alo];exact R.obj,R.nd,⟨_,aj,Paired.snoc (Paired.cy pxs fun _ _ z=>r2 z) r1⟩,by rw [ah dlo];exact R.t_,R.len,fun i c' p ec ep=>?_⟩
   obtain ⟨ys,z1,z2⟩:=R.oN i c' p ec ep
   refine ⟨ys,?_,Paired.cy z2 fun _ _ z=>r2 z⟩
   have nd:=R.nd
   rw [agf] at nd
   rw [ah (fun z=>nd.1 (by rw [<- z];exact abw ec))]
   exact z1
  | some n=>
   have obj:H sa=some (.ins C sd (NA lo dp (.str n))):=by have h:=R.obj;rw [c] at h;exact h
   obtain ⟨p0,last⟩:=so.last c
   have ll:sh.pieces.length - 1 < sh.pieces.length:=by omega
   have ll' :sh.pieces.length - 1 < ls.length:=by have:=R.len;omega
   have ep:sh.pieces[sh.pieces.length - 1]? =some sh.pieces[sh.pieces.length - 1]:=gE ll
   have el:ls[sh.pieces.length - 1]? =some ls[sh.pieces.length - 1]:=gE ll'
   have en:sh.pieces[sh.pieces.length - 1].1=n:=(last _ _ ep).mpr rfl
   generalize sh.pieces[sh.pieces.length - 1]=pL at ep en
   generalize ls[sh.pieces.length - 1]=lL at el
   obtain ⟨ys,hy,pys⟩:=R.oN _ lL pL el ep
   have mL:lL∈lo::ls:=abz _ (abw el)
   have dv:gZ (cD sh.pieces ls) (.inr n)=some (.ref lL):=by rw [<- en];exact FG so.nd el ep
   refine ⟨_,rfl,sa,C,sd,_,_,rfl,obj,fc.cls,fc.cu,NC,rfl,_,rfl,?_⟩
   refine aI (fun c=>absurd (of_decide_eq_true c) (fun z=>nomatch z)) (fun _=>?_)
   refine ⟨_,rfl,sa,C,sd,_,_,rfl,obj,fc.cls,fc.pi,Zw,_,rfl,sa,C,sd,_,_,rfl,obj,fc.cls,fc.cu,NC,dp,.ref lL,rfl,(by rw [<- dv];exact ki.k (k:=.inr n) R.t_),.inl ⟨rfl,_,bq.of hy⟩,_,rfl,?_⟩
   refine ⟨lL,_,_,rfl,rfl,hy,abF (show ys.length<=1000 by rw [Paired.length pys];exact lr1 _ (abw ep)) (by decide),?_⟩
   obtain ⟨r1,r2⟩:=row (c:=lL) mL hy
   have ek:di sh (.row r)={sh with pieces:=cw sh.pieces n r}:=by simp only [di,c]
   rw [ek] at q
   have nd:=R.nd
   rw [agf] at nd
   have lol:lo≠lL:=fun z=>nd.1 (by rw [z];exact abw el)
   refine q _ ls (fun b o n1 n2 n3 e=>by rw [ah (fun z=>n3 (by rw [z];exact mL))];exact e) (fun b hb=>.inl hb) ⟨by rw [ah (fun z=>by have h:=R.obj;rw [z,hy] at h;cases h)];exact R.obj,R.nd,⟨xs,by rw [ah lol];exact hlo,Paired.cy pxs fun _ _ z=>r2 z⟩,?_,by show ls.length=(cw sh.pieces n r).length;unfold cw;rw [Wp];exact R.len,fun i c' p' ec Us =>?_⟩
   ·show upd H lL _ dp=some (.dK (cD (cw sh.pieces n r) ls))
    rw [ND,ah (fun z=>by have h:=R.t_;rw [z,hy] at h;cases h)]
    exact R.t_
   ·have ep2:(sh.pieces.map fun p=>if p.1=n then (p.1,p.2++[r]) else p)[i]? =some p' :=Us
    rw [abx] at ep2
    obtain ⟨p,ep3,rfl⟩:=abD.mp ep2
    by_cases e:p.1=n
    ·have il:=(last i p ep3).mp e
     rw [il] at ec ep3
     rw [el] at ec
     rw [ep] at ep3
     cases ec
     cases ep3
     rw [if_pos e]
     exact ⟨_,aj,Paired.snoc (Paired.cy pys fun _ _ z=>r2 z) r1⟩
    ·rw [if_neg e]
     obtain ⟨zs,z1,z2⟩:=R.oN i c' p ec ep3
     refine ⟨zs,?_,Paired.cy z2 fun _ _ z=>r2 z⟩
     have ne:c' ≠lL:=fun z=>by
      rw [z, <- el] at ec
      have ii:=(alU (by have:=(W1.mp ep3).1;have:=R.len;omega) nd.2).mp ec
      exact e ((last i p ep3).mpr ii)
     rw [ah ne]
     exact z1
abbrev Q0 (fr:Addr)(vp:V)(n:Int):List (Str×V):=[("frame",.ref fr),("pieces",vp),("done",.int n)]
structure GrC (K:Frag)(C:Addr):Prop where
 cls:vF K C
 fr:cp K C "frame"
 pi:cp K C "pieces"
 dn:cp K C "done"
theorem aep {fr:Addr}{vp:V}{n:Int}:ady ("frame":Str) (Q0 fr vp n)=some (.ref fr):=rfl
theorem aoF {fr:Addr}{vp:V}{n:Int}:ady ("done":Str) (Q0 fr vp n)=some (.int n):=by
 have h:(("done":Str)=="frame")=false:=by decide+kernel
 have h2:(("done":Str)=="pieces")=false:=by decide+kernel
 simp [ady,h,h2]
theorem aeq {x:V}:cL "frame" x []=([("frame",x)]:List (Str×V)):=rfl
theorem aer {x y:V}:cL "pieces" y [("frame",x)]=([("frame",x),("pieces",y)]:List (Str×V)):=by
 simp only [cL]
 rw [if_neg (by decide)]
theorem aes {x y z:V}:cL "done" z [("frame",x),("pieces",y)]=([("frame",x),("pieces",y),("done",z)]:List (Str×V)):=by
 simp only [cL]
 rw [if_neg (by decide),if_neg (by decide)]
theorem aet {fr:Addr}{vp:V}{n m:Int}:cL "done" (.int m) (Q0 fr vp n)=Q0 fr vp m:=by
 simp only [cL,Q0]
 rw [if_neg (by decide),if_neg (by decide),if_pos (by decide)]
theorem wV {H:Hp}{C a dx pP pW pB b:Addr}{ps:υ}{bs:ρ}{kP kW kB:ι}{C' d' :Addr}{fs S2 :Ζ}(R:jC K H C a dx pP pW pB ps bs kP kW kB)(e:H b=some (.ins C' d' fs))(n:a≠b):jC K (upd H b (.ins C' d' S2)) C a dx pP pW pB ps bs kP kW kB:=by
 have s:bg H (upd H b (.ins C' d' S2)):=fun c xs r=>by
  rcases r with r | ⟨o,r⟩
  ·exact .inl (by rw [ah (fun z=>by rw [z,e] at r;cases r)];exact r)
  ·exact .inr ⟨o,by rw [ah (fun z=>by rw [z,e] at r;cases r)];exact r⟩
 exact ⟨by rw [ah n];exact R.obj,by rw [ah (fun z=>by have h:=R.pl;rw [z,e] at h;cases h)];exact R.pl,by rw [ah (fun z=>by have h:=R.wy;rw [z,e] at h;cases h)];exact R.wy,by rw [ah (fun z=>by have h:=R.br;rw [z,e] at h;cases h)];exact R.br,R.ne1,R.ne2,R.ne3,Paired.cy R.rp fun _ _ h=>⟨h.1,h.2.aZ s⟩,Paired.cy R.rb fun _ _ h=>⟨h.1,by obtain ⟨p,e,k⟩:=h.2;exact ⟨p,e,s _ _ k⟩⟩⟩
inductive FI (K:Frag)(C CF:Addr)(vs:η)(H:Hp)(Q:VK)(E_:XK):Prop where
 | mk (a dx:Addr) (vp:V) (_:vs=[.ref a,vp]) (_:H a=some (.ins C dx [])) (_:∀(fr FJ pP pW pB:Addr) (H' :Hp),eh a H H' ->H fr=none->H pP=none->H pW=none->H pB=none->jC K H' CF fr FJ pP pW pB [] [] [] [] []->H' a=some (.ins C dx (Q0 fr vp 0))->Q .bN H'):FI K C CF vs H Q E_
theorem yk:av zaU zaU (aa dX):=sq
theorem ym {f:Addr}{fd:FuncData}{C CF fI:Addr}{fdI:FuncData}(F:lV K "__init__" "Ground.__init__" dX f fd)(gc:GrC K C)(ajF:Mk K CF fI)(ajG:mg "Frame"=some (.ref CF))(ave:bH P w K mg base (aV P w) 1 fI fdI zas (ER K CF))(ajH:Binds K fdI zas []):bH P w K mg base (aV P w) 3 f fd zaU (FI K C CF):=by
 refine d6 F yk fun H hr h=>?_
 obtain ⟨a,dx,vp,rfl,ha,q⟩:=h
 refine ⟨_,(ae (dA (pv 0) (xt ajF ave hr.mo rfl ajG ajH .nil q_X) rfl)
  (ae (dA (pv 0) (pv 1) rfl)
  (ag (dA (pv 0) ai rfl)))),?_⟩
 intro fr FJ nf ndf nfd
 have sF:az H (upd (upd H FJ (.own fr)) fr (.ins CF FJ [])):=fun b o e=>by rw [ah (ak e nf),ah (ak e ndf)];exact e
 refine ⟨fr,FJ,rfl,aj,fun pP pW pB H1 k1 nP nW nB R1=>⟨rfl,?_⟩⟩
 have s1:az H H1:=fun b o e=>k1 b o (ak e nf) (sF _ _ e)
 have nP:=aJ sF nP
 have nW:=aJ sF nW
 have nB:=aJ sF nB
 have o1:=s1 _ _ ha
 have af:fr≠a:=fun z=>by rw [z,ha] at nf;cases nf
 refine ⟨_,rfl,a,C,dx,_,rfl,o1,gc.cls,gc.fr,(by show 0 < 1000;decide),?_⟩
 rw [aeq]
 refine ⟨_,rfl,_,rfl,a,C,dx,_,rfl,aj,gc.cls,gc.pi,(by show 1 < 1000;decide),?_⟩
 rw [aer]
 refine ⟨_,rfl,a,C,dx,_,rfl,aj,gc.cls,gc.dn,(by show 2 < 1000;decide),?_⟩
 rw [aes]
 exact q fr FJ pP pW pB _ (fun b o n e=>by rw [ah n,ah n,ah n];exact s1 _ _ e) nf nP nW nB (wV (wV (wV R1 o1 af) aj af) aj af) aj
inductive rn (K:Frag)(C CT:Addr)(vs:η)(H:Hp)(Q:VK)(E:XK):Prop where
 | mk (a dx fr:Addr) (vp:V) (n:Int) (_:vs=[.ref a]) (_:H a=some (.ins C dx (Q0 fr vp n))) (_:(500<=n->E (.ref CT) none H)) (_:(n < 500->Q .bN (upd H a (.ins C dx (Q0 fr vp (n+1)))))):rn K C CT vs H Q E
theorem nV:av zas zas (aa b_):=sq
theorem nX {f:Addr}{fd:FuncData}{C CT:Addr}{tkR:Tok}(F:lV K "count_row" "Ground.count_row" b_ f fd)(gc:GrC K C)(mU:mg "MOST_ROWS"=some (.int 500 tkR))(vO:mg "TooMany"=some (.ref CT))(EU:PySem.W.excIn K CT Xx "ValueError.__new__"=true):bH P w K mg base (aV P w) 3 f fd zas (rn K C CT):=by
 refine jH F nV (fun vs H Q E h=>?_) (fun cdv A outer s H vs Q E hr h=>?_)
 ·obtain ⟨a,dx,fr,vp,n,rfl,_⟩:=h
  rfl
 obtain ⟨a,dx,fr,vp,n,rfl,ha,qe,q⟩:=h
 have L1:1<=sizeLine:=by decide
 refine ⟨_,(ae (aK (aE X6 (ba (pv 0) rfl) (dy (v:=.int 500) rfl mU ⟨_,rfl⟩)) (ag (cR PySem.F.excBase_ValueError vO EU hr.hd (aG au))) ay)
  (ag (Uw (pv 0) ai ait))),?_⟩
 refine ⟨_,rfl,a,C,dx,_,_,rfl,ha,gc.cls,gc.dn,aoF,_,_,rfl,rfl,_,rfl,?_⟩
 refine aI (fun c=>?_) (fun c=>?_)
 ·exact ⟨L1,qe (of_decide_eq_true c)⟩
 have c' :n < 500:=by
  have:=of_decide_eq_false (adv.mpr c)
  omega
 refine ⟨_,rfl,a,C,dx,_,_,rfl,ha,gc.cls,gc.dn,aoF,_,_,rfl,rfl,dx,_,ha,(by show 3 < 1000;decide),?_⟩
 rw [aet]
 exact q c'
abbrev lyF (x:Str)(v:V)(o:Addr):List (Str×V):=[("prefix",.str x),("spot",v),("own",.ref o)]
structure LyC (K:Frag)(C:Addr):Prop where
 cls:vF K C
 pf:cp K C "prefix"
 st:cp K C "spot"
 ow:cp K C "own"
theorem avf {x:Str}{v:V}{o:Addr}:ady ("prefix":Str) (lyF x v o)=some (.str x):=rfl
theorem aoG {x:Str}{v:V}{o:Addr}:ady ("spot":Str) (lyF x v o)=some v:=by
 have h:(("spot":Str)=="prefix")=false:=by decide+kernel
 simp [ady,h]
theorem Zy {x:Str}{v:V}{o:Addr}:ady ("own":Str) (lyF x v o)=some (.ref o):=by
 have h:(("own":Str)=="prefix")=false:=by decide+kernel
 have h2:(("own":Str)=="spot")=false:=by decide+kernel
 simp [ady,h,h2]
theorem aev {x:V}:cL "prefix" x []=([("prefix",x)]:List (Str×V)):=rfl
theorem aew {x y:V}:cL "spot" y [("prefix",x)]=([("prefix",x),("spot",y)]:List (Str×V)):=by
 simp only [cL]
 rw [if_neg (by decide)]
theorem aex {x y z:V}:cL "own" z [("prefix",x),("spot",y)]=([("prefix",x),("spot",y),("own",z)]:List (Str×V)):=by
 simp only [cL]
 rw [if_neg (by decide),if_neg (by decide)]
inductive yn (K:Frag)(C:Addr)(vs:η)(H:Hp)(Q:VK)(E_:XK):Prop where
 | mk (a dx:Addr) (x:Str) (v:V) (_:vs=[.ref a,.str x,v]) (_:H a=some (.ins C dx [])) (_:∀(o:Addr) (H' :Hp),eh a H H' ->H o=none->H' a=some (.ins C dx (lyF x v o))->H' o=some (.dK [])->Q .bN H'):yn K C vs H Q E_
theorem yo:av zaH zaH (aa dY):=sq
theorem yp {f:Addr}{fd:FuncData}{C:Addr}(F:lV K "__init__" "Laying.__init__" dY f fd)(lc:LyC K C):bH P w K mg base (aV P w) 1 f fd zaH (yn K C):=by
 refine d6 F yo fun H hr h=>?_
 obtain ⟨a,dx,x,v,rfl,ha,q⟩:=h
 refine ⟨_,(ae (dA (pv 0) (pv 1) rfl)
  (ae (dA (pv 0) (pv 2) rfl)
  (ag (dA (pv 0) iq rfl)))),?_⟩
 refine ⟨_,rfl,_,rfl,a,C,dx,_,rfl,ha,lc.cls,lc.pf,(by show 0 < 1000;decide),?_⟩
 rw [aev]
 refine ⟨_,rfl,_,rfl,a,C,dx,_,rfl,aj,lc.cls,lc.st,(by show 1 < 1000;decide),?_⟩
 rw [aew]
 intro o no
 rw [show upd (upd H a (.ins C dx [("prefix",.str x)])) a (.ins C dx [("prefix",.str x),("spot",v)])=upd H a (.ins C dx [("prefix",.str x),("spot",v)]) from by funext b;unfold upd;split <;> rfl] at no ⊢
 have ao:a≠o:=ak aj no
 have no' :H o=none:=by rw [ah (ac_ ao)] at no;exact no
 refine ⟨_,rfl,a,C,dx,_,rfl,(by rw [ah ao];exact aj),lc.cls,lc.ow,(by show 2 < 1000;decide),?_⟩
 rw [aex]
 exact q o _ (fun b o' n e=>by rw [ah n,ah (ak e no'),ah n];exact e) no' aj (by rw [ah (ac_ ao),aj])
inductive pS (K:Frag)(C:Addr)(vs:η)(H:Hp)(Q:VK)(E_:XK):Prop where
 | mk (a dx o:Addr) (x y:Str) (v:V) (_:vs=[.ref a,.str y]) (_:H a=some (.ins C dx (lyF x v o))) (_:x.length<=1000) (_:y.length<=1000) (_:Q (.str (x++y)) H):pS K C vs H Q E_
theorem nY:av zam zam (aa cb):=sq
theorem nZ {f:Addr}{fd:FuncData}{C:Addr}(F:lV K "full_name" "Laying.full_name" cb f fd)(lc:LyC K C):bH P w K mg base (aV P w) 1 f fd zam (pS K C):=by
 refine d6 F nY fun H hr h=>?_
 obtain ⟨a,dx,o,x,y,v,rfl,ha,lx,ly,q⟩:=h
 refine ⟨_,(ag (aA (aC eY (ba (pv 0) rfl) (pv 1)))),?_⟩
 exact ⟨_,rfl,a,C,dx,_,_,rfl,ha,lc.cls,lc.pf,avf,_,rfl,x,y,rfl,rfl,ir (alO lx ly) (by decide),q⟩
theorem yq (own:Own):(fm own).map (·.1)=(own.map (·.1)).map (fun b=>(agK b:Key)):=by
 unfold fm
 rw [agJ,agJ]
 rfl
theorem TX (own:Own)(y:Str):(gZ (fm own) (.inr y)).isSome=decide (y∈own.map (·.1)):=by
 by_cases c:y∈own.map (·.1)
 ·obtain ⟨v,e⟩:=kr (kvs:=fm own) (k:=.inr y) (by rw [yq];exact eL.mpr c)
  rw [e,decide_eq_true c]
  rfl
 ·rw [dk (by rw [yq];exact fun z=>c (eL.mp z)),decide_eq_false c]
  rfl
theorem Zz:∀(own:Own) (y:Str),gZ (fm own) (.inr y)=(ownAt own y).map V.str
 | [],_=>rfl
 | z::t,y=>by
  show gZ ((.inr z.1,.str z.2)::fm t) (.inr y)=_
  by_cases c:z.1=y
  ·rw [jd (by rw [c])]
   unfold ownAt
   rw [aj4 (by simpa using c)]
   rfl
  ·rw [ip (fun e=>c (alR e)),Zz t y]
   unfold ownAt
   rw [aj6 (by simpa using c)]
inductive yr (K:Frag)(C CP:Addr)(vs:η)(H:Hp)(Q:VK)(E:XK):Prop where
 | mk (a dx o:Addr) (x y:Str) (v:V) (own:Own) (_:vs=[.ref a,.str y]) (_:H a=some (.ins C dx (lyF x v o))) (_:H o=some (.dK (fm own))) (_:x.length<=1000) (_:y.length<=1000) (_:(y∈own.map (·.1)->bS H E CP "pin" (.str (x++y)))) (_:(y∉own.map (·.1)->Q .bN H)):yr K C CP vs H Q E
theorem n_:av zam zam (aa bF):=sq
theorem og {f:Addr}{fd:FuncData}{C CP fP:Addr}{fdP:FuncData}(F:lV K "check_new" "Laying.check_new" bF f fd)(lc:LyC K C)(MF:bM P w K mg base (aV P w) 1 C "full_name" zam (pS K C))(EW:mg "PinThere"=some (.ref CP))(Vj:pF K CP fP)(aji:bH P w K mg base (aV P w) 1 fP fdP zac (fT CP "pin"))(Vk:Binds K fdP zac []):bH P w K mg base (aV P w) 3 f fd zam (yr K C CP):=by
 refine jH F n_ (fun vs H Q E h=>?_) (fun cdv A outer s H vs Q E hr h=>?_)
 ·obtain ⟨a,dx,o,x,y,v,own,rfl,_⟩:=h
  rfl
 obtain ⟨a,dx,o,x,y,v,own,rfl,ha,ho,lx,ly,qe,q⟩:=h
 have px:Passes (aV P w) (gK P w K mg base zam "Laying.check_new" (aa bF) f cdv A outer s H E) E:=d_
 have pn:=gQ (X:=((gK P w K mg base zam "Laying.check_new" (aa bF) f cdv A outer s H E)).pq) (aV.zg (P:=P) (w:=w))
 have L1:1<=sizeLine:=by decide
 refine ⟨_,(ag (aK (xj (EJ (iJ hr) (pv 1) (ba (pv 0) rfl))) (ag (cN Vj aji hr.mo Vk EW (aG (df (k:=1) (pv 0) hr.mo pn (aG (pv 1)))))) ay)),?_⟩
 refine ⟨_,rfl,_,rfl,a,C,dx,_,_,rfl,ha,lc.cls,lc.ow,Zy,o,_,rfl,ki.k (k:=.inr y) ho,_,rfl,?_⟩
 rw [TX]
 by_cases c:y∈own.map (·.1)
 ·rw [decide_eq_true c]
  refine fw ?_
  refine ⟨_,rfl,a,C,dx,_,_,_,rfl,ha,rfl,MF,_,rfl,a,dx,o,x,y,v,rfl,ha,lx,ly,L1,bS.go (qe c)⟩
 ·rw [decide_eq_false c]
  exact cM (q c)
theorem aey {own:Own}{y:Str}(h:y∉own.map (·.1)):gZ (fm own) (.inr y)=none:=dk (by rw [yq];exact fun z=>h (eL.mp z))
theorem ZA (own:Own)(y z:Str):fm own++[(.inr y,.str z)]=fm (own++[(y,z)]):=by
 unfold fm
 rw [aeU]
 rfl
inductive jm (K:Frag)(C CP:Addr)(vs:η)(H:Hp)(Q:VK)(E:XK):Prop where
 | mk (a dx o:Addr) (x y z:Str) (v:V) (own:Own) (_:vs=[.ref a,.str y,.str z]) (_:H a=some (.ins C dx (lyF x v o))) (_:H o=some (.dK (fm own))) (_:x.length<=1000) (_:y.length<=1000) (_:own.length<=1000) (_:(y∈own.map (·.1)->bS H E CP "pin" (.str (x++y)))) (_:(y∉own.map (·.1)->Q .bN (upd H o (.dK (fm (own++[(y,z)])))))):jm K C CP vs H Q E
theorem pT:av zaF zaF (aa bW):=sq
theorem pU {f:Addr}{fd:FuncData}{C CP:Addr}(F:lV K "name_pin" "Laying.name_pin" bW f fd)(lc:LyC K C)(MN:bM P w K mg base (aV P w) 3 C "check_new" zam (yr K C CP)):bH P w K mg base (aV P w) 4 f fd zaF (jm K C CP):=by
 refine jH F pT (fun vs H Q E h=>?_) (fun cdv A outer s H vs Q E hr h=>?_)
 ·obtain ⟨a,dx,o,x,y,z,v,own,rfl,_⟩:=h
  rfl
 obtain ⟨a,dx,o,x,y,z,v,own,rfl,ha,ho,lx,ly,lk,qe,q⟩:=h
 have px:Passes (aV P w) (gK P w K mg base zaF "Laying.name_pin" (aa bW) f cdv A outer s H E) E:=d_
 refine ⟨_,(ae (bj (df (k:=3) (pv 0) hr.mo px (aG (pv 1))))
  (ag (qZ (iJ hr) (ba (pv 0) rfl) (pv 1) (pv 2) rfl))),?_⟩
 refine ⟨_,rfl,a,C,dx,_,_,_,rfl,ha,(by rfl),MN,_,rfl,a,dx,o,x,y,v,own,rfl,ha,ho,lx,ly,qe,fun n=>?_⟩
 refine ⟨_,rfl,_,rfl,a,C,dx,_,_,rfl,ha,lc.cls,lc.ow,Zy,_,rfl,o,_,rfl,zo.k (k:=.inr y) ho (abF (show (fm own).length<=1000 by unfold fm;rw [Wp];exact lk) (by decide)),?_⟩
 rw [kg _ (aey n),ZA]
 exact q n
theorem ZC (own:Own)(y:Str):(ownAt own y=none ↔ y∉own.map (·.1)):=by
 unfold ownAt
 rw [aj_,agG]
 constructor
 ·intro h z
  obtain ⟨a,ha,e⟩:=aeu.mp z
  exact h a ha (by simpa using e)
 ·intro h a ha e
  exact h (aeu.mpr ⟨a,ha,by simpa using e⟩)
inductive FK (K:Frag)(C CN:Addr)(vs:η)(H:Hp)(Q:VK)(E:XK):Prop where
 | mk (a dx o:Addr) (x y:Str) (v:V) (own:Own) (_:vs=[.ref a,.str y]) (_:H a=some (.ins C dx (lyF x v o))) (_:H o=some (.dK (fm own))) (_:(ownAt own y=none->bS H E CN "pin" (.str y))) (_:∀u,ownAt own y=some u->Q (.str u) H):FK K C CN vs H Q E
theorem ro:av zam zam (aa cQ):=sq
theorem rq {f:Addr}{fd:FuncData}{C CN fN:Addr}{fdN:FuncData}(F:lV K "own_pin" "Laying.own_pin" cQ f fd)(lc:LyC K C)(ET:mg "NoPin"=some (.ref CN))(Vf:pF K CN fN)(ai':bH P w K mg base (aV P w) 1 fN fdN zac (fT CN "pin"))(Vg:Binds K fdN zac []):bH P w K mg base (aV P w) 3 f fd zam (FK K C CN):=by
 refine jH F ro (fun vs H Q E h=>?_) (fun cdv A outer s H vs Q E hr h=>?_)
 ·obtain ⟨a,dx,o,x,y,v,own,rfl,_⟩:=h
  rfl
 obtain ⟨a,dx,o,x,y,v,own,rfl,ha,ho,qe,q⟩:=h
 have L1:1<=sizeLine:=by decide
 have dg:=Zz own y
 refine ⟨_,(ae (aK (xj (tL (iJ hr) (pv 1) (ba (pv 0) rfl))) (ag (cN Vf ai' hr.mo Vg ET (aG (pv 1)))) ay)
  (ag (aA (wK (iJ hr) (ba (pv 0) rfl) (pv 1) (fun _ _=>rfl))))),?_⟩
 refine ⟨_,rfl,_,rfl,a,C,dx,_,_,rfl,ha,lc.cls,lc.ow,Zy,o,_,rfl,ki.k (k:=.inr y) ho,_,rfl,?_⟩
 rw [TX]
 by_cases c:y∈own.map (·.1)
 ·rw [decide_eq_true c]
  refine cM ?_
  cases e:ownAt own y with
  | none=>exact absurd c ((ZC own y).mp e)
  | some u=>
   rw [e] at dg
   refine ⟨_,rfl,a,C,dx,_,_,rfl,ha,lc.cls,lc.ow,Zy,_,rfl,o,.str u,rfl,?_,q u e⟩
   rw [<- show gZ (fm own) (.inr y)=some (.str u) from dg]
   exact ki.k (k:=.inr y) ho
 ·rw [decide_eq_false c]
  refine fw ?_
  exact ⟨_,rfl,L1,bS.go (qe ((ZC own y).mpr c))⟩
inductive FL (K:Frag)(C:Addr)(vs:η)(H:Hp)(Q:VK)(E_:XK):Prop where
 | mk (a dx pP pW pB:Addr) (ps:υ) (bs:ρ) (kP kW kB:ι) (v:V) (p:Pt) (_:vs=[.ref a,v]) (_:jC K H C a dx pP pW pB ps bs kP kW kB) (_:(ps.map (·.1)).Nodup) (_:Spot K H v p) (_:(ps.find? (fun z=>decide (z.2=p))=none->∀H',az H H' ->Q .bN H')) (_:∀z,ps.find? (fun z=>decide (z.2=p))=some z->∀H',az H H' ->Q (.str z.1) H'):FL K C vs H Q E_
theorem CC:av ["F","spot","pin"] ["F","spot"] (aa kz):=sq
theorem Vq {C:Addr}(D:Def K mg "pin_at" kz ["F","spot"])(MPn:bM P w K mg base (aV P w) 1 C "pins" zas (ES K C))(MPl:bM P w K mg base (aV P w) 4 C "place" zac (wN K C)):Fn P w K mg base (aV P w) 5 "pin_at" ["F","spot"] (FL K C):=by
 refine D.oo CC fun H hr h=>?_
 obtain ⟨a,dx,pP,pW,pB,ps,bs,kP,kW,kB,v,p,rfl,R,nd,hv,qn,q⟩:=h
 refine ⟨_,(ae (i8 PassesOwn.never rfl (kU (ED (k:=1) (pv 0) hr.mo (q_Y P w))) (ku (i:=2) CC.nd) (ag (aK (aE (wB hr.units) (df (k:=4) (pv 0) hr.mo (q_Y P w) (aG (pv 2))) (pv 1)) (ag (aA (pv 2))) ay)))
  (ag (aA bz))),?_⟩
 refine ⟨_,rfl,a,C,dx,_,_,_,rfl,R.obj,rfl,MPn,a,dx,pP,pW,pB,ps,bs,kP,kW,kB,rfl,R,fun l H1 s1 nl el=>?_⟩
 refine ⟨l,rfl,⟨_,bq.of el⟩,qH (K:=K) (a:=l) (xs:=(ps.map (·.1)).map V.str) (fun i σ H' =>∃(o2:Η),σ=[some (.ref a),some v,o2]/\az H H' /\H' l=some (.lst ((ps.map (·.1)).map V.str))/\∀z∈ps.take i,z.2≠p) ⟨none,rfl,s1,el,by simp⟩ (fun i σ H' _ h=>by
   obtain ⟨_,_,_,h,_⟩:=h
   exact bq.of h) ?_ ?_⟩
 ·rintro i z σ H2 hi ⟨o2,rfl,s2,l2,hs⟩
  rw [abx,abx] at hi
  obtain ⟨x,hx,rfl⟩:=abD.mp hi
  obtain ⟨y,ey,rfl⟩:=abD.mp hx
  have my:y∈ps:=abw ey
  have R2:=R.same s2
  refine ⟨_,rfl,a,C,dx,_,_,_,rfl,R2.obj,rfl,MPl,_,rfl,a,dx,pP,pW,pB,ps,bs,kP,kW,kB,y.1,y.2,rfl,R2,nd,my,fun u hu=>?_⟩
  refine ⟨_,rfl,je y.2,je p,.inl ⟨hu.is,(hv.aZ (.of s2)).is⟩,uY _ _,BQ _,?_⟩
  rw [L']
  refine ⟨_,rfl,?_⟩
  refine aI (fun c=>?_) (fun c=>?_)
  ·have ep:y.2=p:=of_decide_eq_true c
   have ef:ps.find? (fun z=>decide (z.2=p))=some y:=by
    have eps:ps=ps.take i++y::ps.drop (i+1):=by
     have e2:=(W1.mp ey).2
     rw [<- e2,amO,amU]
    rw [eps,anP]
    have n1:(ps.take i).find? (fun z=>decide (z.2=p))=none:=agG.mpr fun w hw=>by simpa using hs w hw
    rw [n1]
    simp [ep]
   exact ⟨_,rfl,q y ef H2 s2⟩
  ·refine ⟨_,rfl,s2,l2,fun w hw=>?_⟩
   rw [take_snoc ey] at hw
   rcases abB.mp hw with h | h
   ·exact hs w h
   ·rw [abv.mp h]
    exact fun e=>c (decide_eq_true e)
 ·rintro σ H2 ⟨o2,rfl,s2,l2,hs⟩
  rw [Wp,Wp,amx] at hs
  exact qn (agG.mpr fun w hw=>by simpa using hs w hw) H2 s2
theorem Q3 (ds:List Da):gm ds []=true:=by
 cases ds <;> rfl
theorem ZD (v:V):ady ("ways":Str) [(("way":Str),v)]=none:=by
 have h:(("ways":Str)=="way")=false:=by decide+kernel
 simp [ady,h]
inductive pV (P:Program)(w:World)(K:Frag)(mg:ε)(base:Heap)(vs:η)(H:Hp)(Q:VK)(E_:XK):Prop where
 | mk (l:Addr) (us:η) (ws:χ) (_:vs=[.ref l]) (_:H l=some (.lst us)) (_:Paired (lY K H) us (mR ws)) (_:ws.length<=2) (_:(∀w,ws=[w]->¬ (w.1=0/\w.2=0))) (_:(ws.length=2->ws=[(1,0),(0,1)])) (_:∀(hv:V) (H' :Hp),az H H' ->agF P w K mg base H' hv ws->Q hv H'):pV P w K mg base vs H Q E_
theorem FN:av za6 za6 (aa gH):=sq
theorem FO {CR CF fR:Addr}{fdR:FuncData}(D:Def K mg "hold_from" gH za6)(bP:mg "len"=none)
  (ajI:mg "Roller"=some (.ref CR)) (ajJ:mg "Fixed"=some (.ref CF)) (ajK:Mk0 K CF) (ajL:Mk K CR fR) (avi:bH P w K mg base (aV P w) 1 fR fdR zaV (EV K CR)) (ajM:Binds K fdR zaV [])
  (wR:bM P w K mg base (aV P w) 4 CR "ways" zas (rh K CR)) (wF:bM P w K mg base (aV P w) 4 CF "ways" zas (ri K)):Fn P w K mg base (aV P w) 4 "hold_from" za6 (pV P w K mg base):=by
 refine D.oo FN fun H hr h=>?_
 obtain ⟨l,us,ws,rfl,hl,pu,lw,n0,n2,q⟩:=h
 refine ⟨_,(ae (aK (aE (wB hr.units) (pv 0) (bB ja)) (ag (aA bz)) ay)
  (ag (aA (eV (aE a9 (aL bw rfl bP g_ (aG (pv 0))) ai) (aiL ajK rfl ajJ) (DM ajL avi hr.mo rfl ajI ajM .nil q_X (aU (cW (pv 0)) (cW (pv 0)))))))),?_⟩
 refine ⟨_,rfl,(by show 0<=sizeLine;decide),?_⟩
 intro l1 m1;generalize eX:upd _ l1 _=H1;have ⟨s1,e1⟩:=nw m1 eX;clear eX
 have pu1:Paired (lY K H1) us (mR ws):=Paired.cy pu fun _ _ z=>z.aZ (.of s1)
 have Vr:=s1 _ _ hl
 refine ⟨_,[],.inr ⟨uc (bq.of Vr) pu1,uc (rs:=[]) (bq.of e1) .nil⟩,Q3 _,wO _,_,rfl,?_⟩
 match ws,lw,n0,n2,us,pu1 with
 | [],_,_,_,[],_=>
  refine aI (fun _=>?_) (fun c=>absurd rfl c)
  exact q _ H1 s1 (.inl ⟨rfl,rfl⟩)
 | [w'],_,n0,_,[u1,u2,u3],.cons h1 (.cons h2 (.cons h3 .nil))=>
  refine aI (fun c=>nomatch c) (fun _=>?_)
  refine ⟨_,rfl,l,_,rfl,.inl (bq.of Vr),rfl,_,rfl,?_⟩
  refine aI (fun c=>by simp at c) (fun _=>?_)
  refine ⟨_,rfl,l,_,_,_,rfl,rfl,bq.of Vr,rfl,_,rfl,l,_,_,_,rfl,rfl,bq.of Vr,rfl,?_⟩
  intro pD d1 nh1 nd1 ne1
  have s4:az H1 (upd (upd H1 d1 (.own pD)) pD (.ins CR d1 [])):=fun b o e=>by rw [ah (ak e nh1),ah (ak e nd1)];exact e
  have e4:(upd (upd H1 d1 (.own pD)) pD (.ins CR d1 [])) pD =some (.ins CR d1 []):=aj
  generalize upd (upd H1 d1 (.own pD)) pD (.ins CR d1 [])=H4 at s4 e4 ⊢
  have hm1:oK K H4 u2 w'.1:=oK.same h2 s4
  have hm2:oK K H4 u3 w'.2:=oK.same h3 s4
  refine ⟨pD,d1,u2,u3,w'.1,w'.2,rfl,e4,hm1,hm2,n0 w' rfl,fun p5 n5=>⟨rfl,?_⟩⟩
  have Qx:p5≠pD :=fun z=>by rw [z,e4] at n5;cases n5
  have s5:az H1 (upd (upd H4 p5 (.tup [u2,u3])) pD (.ins CR d1 [("way",.ref p5)])):=fun b o e=>by
   have z:b≠pD :=fun z=>by rw [z,nh1] at e;cases e
   rw [ah z]
   exact aT n5 _ _ _ (s4 _ _ e)
  have e5:(upd (upd H4 p5 (.tup [u2,u3])) pD (.ins CR d1 [("way",.ref p5)])) pD =some (.ins CR d1 [("way",.ref p5)]):=aj
  have t5:(upd (upd H4 p5 (.tup [u2,u3])) pD (.ins CR d1 [("way",.ref p5)])) p5=some (.tup [u2,u3]):=by rw [ah Qx,aj]
  generalize upd (upd H4 p5 (.tup [u2,u3])) pD (.ins CR d1 [("way",.ref p5)])=H5 at s5 e5 t5 ⊢
  have avk:wL K H5 (.ref p5) w' :=⟨p5,u2,u3,rfl,cT.of t5,oK.same h2 s5,oK.same h3 s5⟩
  exact q _ H5 (aw s1 s5) (.inr ⟨pD,rfl,CR,d1,_,zas,rh K CR,e5,ZD _,wR,fun H6 e6 t6 Q' _ an=>⟨pD,d1,p5,w',rfl,e6,avk.aZ t6,an⟩⟩)
 | [w1,w2],_,_,n2,[u1],_=>
  refine aI (fun c=>nomatch c) (fun _=>?_)
  refine ⟨_,rfl,l,_,rfl,.inl (bq.of Vr),rfl,_,rfl,?_⟩
  refine aI (fun _=>?_) (fun c=>absurd rfl c)
  intro pD d1 nh1 nd1 ne1
  have s4:az H1 (upd (upd H1 d1 (.own pD)) pD (.ins CF d1 [])):=fun b o e=>by rw [ah (ak e nh1),ah (ak e nd1)];exact e
  have e4:(upd (upd H1 d1 (.own pD)) pD (.ins CF d1 [])) pD =some (.ins CF d1 []):=aj
  generalize upd (upd H1 d1 (.own pD)) pD (.ins CF d1 [])=H4 at s4 e4 ⊢
  have hw:=n2 rfl
  exact q _ H4 (aw s1 s4) (.inr ⟨pD,rfl,CF,d1,[],zas,ri K,e4,rfl,wF,fun H6 _ _ Q' _ an=>⟨pD,rfl,by rw [hw] at an;exact an⟩⟩)
theorem aez {H:Hp}{C a dx pP pW pB b:Addr}{ps:υ}{bs:ρ}{kP kW kB kvs:ι}{o:HO}(R:jC K H C a dx pP pW pB ps bs kP kW kB)(e:H b=some (.dK kvs))(n1:b≠pP)(n2:b≠pW)(n3:b≠pB):jC K (upd H b o) C a dx pP pW pB ps bs kP kW kB:=by
 have s:bg H (upd H b o):=.dict e
 exact ⟨by rw [ah (fun z=>by have h:=R.obj;rw [z,e] at h;cases h)];exact R.obj,by rw [ah (ac_ n1)];exact R.pl,by rw [ah (ac_ n2)];exact R.wy,by rw [ah (ac_ n3)];exact R.br,R.ne1,R.ne2,R.ne3,Paired.cy R.rp fun _ _ h=>⟨h.1,h.2.aZ s⟩,Paired.cy R.rb fun _ _ h=>⟨h.1,by obtain ⟨p,e,k⟩:=h.2;exact ⟨p,e,s _ _ k⟩⟩⟩
structure NF where
 ga:Addr
 gd:Addr
 fr:Addr
 FJ:Addr
 pP:Addr
 pW:Addr
 pB:Addr
abbrev psF (g:Gd):List (Str×Pt):=g.pins.map fun p=>(p.nm,ptQ p.sp)
abbrev pwF (g:Gd):List (Str×List (Rat×Rat)):=g.pins.map fun p=>(p.nm,p.ws)
structure PD (K:Frag)(H:Hp)(CG CF:Addr)(A:NF)(vp:V)(g:Gd):Prop where
 oO:H A.ga=some (.ins CG A.gd (Q0 A.fr vp (g.done:Int)))
 fr:∃kP kW kB,jC K H CF A.fr A.FJ A.pP A.pW A.pB (psF g) g.mi kP kW kB/\WyR K H (pwF g) kW
 nd:(g.pins.map (·.nm)).Nodup
 lp:g.pins.length<=24
 lb:g.mi.length<=60
 ld:g.done<=500
def KP (A:NF)(H H' :Hp):Prop:=∀b o,b≠A.pP->b≠A.pW->b≠A.pB->b≠A.ga->H b=some o->H' b=some o
def KO (A:NF)(d:Addr)(H H' :Hp):Prop:=∀b o,b≠A.pP->b≠A.pW->b≠A.pB->b≠A.ga->b≠d->H b=some o->H' b=some o
def NB (H H' :Hp):Prop:=∀b,H' b=none->H b=none
theorem NB.of {H H' :Hp}(s:az H H'):NB H H' :=fun _ h=>aJ s h
theorem KO.of {A:NF}{d:Addr}{H H' :Hp}(s:az H H'):KO A d H H' :=fun b o _ _ _ _ _ e=>s b o e
theorem KO.trans {A:NF}{d:Addr}{H H' H2:Hp}(a:KO A d H H')(b:KO A d H' H2):KO A d H H2:=fun c o n1 n2 n3 n4 n5 e=>b c o n1 n2 n3 n4 n5 (a c o n1 n2 n3 n4 n5 e)
theorem KP.of {A:NF}{H H' :Hp}(s:az H H'):KP A H H' :=fun b o _ _ _ _ e=>s b o e
theorem KP.trans {A:NF}{H H' H2:Hp}(a:KP A H H')(b:KP A H' H2):KP A H H2:=fun c o n1 n2 n3 n4 e=>b c o n1 n2 n3 n4 (a c o n1 n2 n3 n4 e)
theorem KP.ko {A:NF}{d:Addr}{H H' :Hp}(a:KP A H H'):KO A d H H' :=fun b o n1 n2 n3 n4 _ e=>a b o n1 n2 n3 n4 e
def pZ (CP CN CB CL CT:Addr)(Kp:Hp->Prop)(H:Hp)(E:XK):gL->Prop
 | .there x=>∀d H',Kp H' ->H d=none->H' d=some (Py d [("pin",.str x)])->E (.ref CP) (some d) H'
 | .BY x=>∀d H',Kp H' ->H d=none->H' d=some (Py d [("pin",.str x)])->E (.ref CN) (some d) H'
 | .rm x=>∀d H',Kp H' ->H d=none->H' d=some (Py d [("bar",.str x)])->E (.ref CB) (some d) H'
 | .length x=>∀d H',Kp H' ->H d=none->H' d=some (Py d [("bar",.str x)])->E (.ref CL) (some d) H'
 | .many=>∀H',Kp H' ->E (.ref CT) none H'
theorem wW {CP CN CB CL CT:Addr}{Kp Kp2:Hp->Prop}{H H2:Hp}{E:XK}(k:∀H',Kp2 H' ->Kp H')(n:NB H H2){e:gL}(h:pZ CP CN CB CL CT Kp H E e):pZ CP CN CB CL CT Kp2 H2 E e:=by
 cases e with
 | there x=>exact fun d H' a b c=>h d H' (k _ a) (n d b) c
 | BY x=>exact fun d H' a b c=>h d H' (k _ a) (n d b) c
 | rm x=>exact fun d H' a b c=>h d H' (k _ a) (n d b) c
 | length x=>exact fun d H' a b c=>h d H' (k _ a) (n d b) c
 | many=>exact fun H' a=>h H' (k _ a)
structure Apart (A:NF)(d:Addr):Prop where
 o1:d≠A.pP
 o2:d≠A.pW
 o3:d≠A.pB
structure s_ (K:Frag)(H:Hp)(CG CF CL:Addr)(A:NF)(la ld o:Addr)(vp sv:V)(x:Str)(c:Rat×Rat)(d0 L:Nat)(g:Gd)(own:Own):Prop where
 gr:PD K H CG CF A vp g
 l0:H la=some (.ins CL ld (lyF x sv o))
 Xz:wL K H sv c
 iH:H o=some (.dK (fm own))
 ap:Apart A o
 gl:A.ga≠la
 fit:own.length+d0<=g.done
 len:∀z∈own,z.1.length<=L
section
variable {CG CF CL:Addr}{A:NF}{la ld o:Addr}{vp sv:V}{x:Str}{c:Rat×Rat}{d0 L:Nat}{g:Gd}{own:Own}{H H' :Hp}
theorem PD.same (h:PD K H CG CF A vp g)(s:az H H'):PD K H' CG CF A vp g:=by
 obtain ⟨kP,kW,kB,R,W⟩:=h.fr
 exact {h with oO:=s _ _ h.oO,fr:=⟨kP,kW,kB,R.same s,W.same s⟩}
theorem s_.same (h:s_ K H CG CF CL A la ld o vp sv x c d0 L g own)(s:az H H'):s_ K H' CG CF CL A la ld o vp sv x c d0 L g own:=
 {h with gr:=h.gr.same s,l0:=s _ _ h.l0,Xz:=h.Xz.same s,iH:=s _ _ h.iH}
theorem PD.off (h:PD K H CG CF A vp g){b:Addr}{o' :HO}(e:H b=some o')(hn:∀kvs,o' ≠.dK kvs)(hi:∀d fs,o' ≠.ins CG d fs):b≠A.pP/\b≠A.pW/\b≠A.pB/\b≠A.ga:=by
 obtain ⟨kP,kW,kB,R,_⟩:=h.fr
 exact ⟨fun z=>by rw [z,R.pl] at e;exact hn _ (abq e).symm,fun z=>by rw [z,R.wy] at e;exact hn _ (abq e).symm,fun z=>by rw [z,R.br] at e;exact hn _ (abq e).symm,fun z=>by rw [z,h.oO] at e;exact hi _ _ (abq e).symm⟩
theorem PD.aZ (h:PD K H CG CF A vp g){kvs:ι}(e:H o=some (.dK kvs))(k:KO A o H H'):bg H H' :=fun b xs r=>by
 rcases r with r | ⟨q,r⟩
 ·obtain ⟨a1,a2,a3,a4⟩:=h.off r (fun _ z=>nomatch z) (fun _ _ z=>nomatch z)
  exact .inl (k _ _ a1 a2 a3 a4 (fun z=>by rw [z,e] at r;cases r) r)
 ·obtain ⟨a1,a2,a3,a4⟩:=h.off r (fun _ z=>nomatch z) (fun _ _ z=>nomatch z)
  exact .inr ⟨q,k _ _ a1 a2 a3 a4 (fun z=>by rw [z,e] at r;cases r) r⟩
theorem PD.NG (h:PD K H CG CF A vp g)(k:KP A H H'):bg H H' :=fun b xs r=>by
 rcases r with r | ⟨q,r⟩
 ·obtain ⟨a1,a2,a3,a4⟩:=h.off r (fun _ z=>nomatch z) (fun _ _ z=>nomatch z)
  exact .inl (k _ _ a1 a2 a3 a4 r)
 ·obtain ⟨a1,a2,a3,a4⟩:=h.off r (fun _ z=>nomatch z) (fun _ _ z=>nomatch z)
  exact .inr ⟨q,k _ _ a1 a2 a3 a4 r⟩
theorem PD.lst (h:PD K H CG CF A vp g)(k:KP A H H'){b:Addr}{xs:η}(e:H b=some (.lst xs)):H' b=some (.lst xs):=by
 obtain ⟨a1,a2,a3,a4⟩:=h.off e (fun _ z=>nomatch z) (fun _ _ z=>nomatch z)
 exact k _ _ a1 a2 a3 a4 e
theorem s_.lst (h:s_ K H CG CF CL A la ld o vp sv x c d0 L g own)(k:KO A o H H'){b:Addr}{xs:η}(e:H b=some (.lst xs)):H' b=some (.lst xs):=by
 obtain ⟨a1,a2,a3,a4⟩:=h.gr.off e (fun _ z=>nomatch z) (fun _ _ z=>nomatch z)
 exact k _ _ a1 a2 a3 a4 (fun z=>by rw [z,h.iH] at e;cases e) e
theorem PD.nb (h' :PD K H' CG CF A vp g)(k:KP A H H'):NB H H' :=fun b e=>by
 obtain ⟨kP,kW,kB,R,_⟩:=h'.fr
 cases z:H b with
 | none=>rfl
 | some q=>rw [k b q (fun y=>by rw [y,R.pl] at e;cases e) (fun y=>by rw [y,R.wy] at e;cases e) (fun y=>by rw [y,R.br] at e;cases e) (fun y=>by rw [y,h'.oO] at e;cases e) z] at e;cases e
theorem s_.nb (h' :s_ K H' CG CF CL A la ld o vp sv x c d0 L g own)(k:KO A o H H'):NB H H' :=fun b e=>by
 obtain ⟨kP,kW,kB,R,_⟩:=h'.gr.fr
 cases z:H b with
 | none=>rfl
 | some q=>rw [k b q (fun y=>by rw [y,R.pl] at e;cases e) (fun y=>by rw [y,R.wy] at e;cases e) (fun y=>by rw [y,R.br] at e;cases e) (fun y=>by rw [y,h'.gr.oO] at e;cases e) (fun y=>by rw [y,h'.iH] at e;cases e) z] at e;cases e
theorem s_.name {y z:Str}(h:s_ K H CG CF CL A la ld o vp sv x c d0 L g own)(l:own.length+1+d0<=g.done)(ly:y.length<=L):s_ K (upd H o (.dK (fm (own++[(y,z)])))) CG CF CL A la ld o vp sv x c d0 L g (own++[(y,z)])/\KO A o H (upd H o (.dK (fm (own++[(y,z)])))):=by
 obtain ⟨kP,kW,kB,R,W⟩:=h.gr.fr
 have k:KO A o H (upd H o (.dK (fm (own++[(y,z)])))):=fun b o' _ _ _ _ n e=>by rw [ah n];exact e
 refine ⟨⟨{h.gr with oO:= ?_,fr:=⟨kP,kW,kB,aez R h.iH h.ap.o1 h.ap.o2 h.ap.o3,W.dict h.iH⟩},?_,h.Xz.aZ (h.gr.aZ h.iH k),aj,h.ap,h.gl,?_,?_⟩,k⟩
 ·rw [ah (fun z=>by have e:=h.gr.oO;rw [z,h.iH] at e;cases e)]
  exact h.gr.oO
 ·rw [ah (fun z=>by have e:=h.l0;rw [z,h.iH] at e;cases e)]
  exact h.l0
 ·rw [aa_,adL]
  exact l
 ·intro q hq
  rcases abB.mp hq with hq | hq
  ·exact h.len q hq
  ·rw [abv.mp hq]
   exact ly
end
theorem aeA {a b:Rat×Rat}(h:ptQ a=ptQ b):a=b:=by
 unfold ptQ at h
 exact agx (xU (aox h).1) (xU (aox h).2)
theorem wX (s:Rat×Rat):∀ps:List nT,(ps.map fun p=>(p.nm,ptQ p.sp)).find? (fun z=>decide (z.2=ptQ s))=(ps.find? (fun z=>decide (z.sp=s))).map (fun p=>(p.nm,ptQ p.sp))
 | []=>rfl
 | p::t=>by
  rw [adA]
  by_cases c:p.sp=s
  ·rw [aj4 (by simp [c]),aj4 (by simp [c])]
   rfl
  ·rw [aj6 (by simpa using fun z=>c (aeA z)),aj6 (by simpa using c)]
   exact wX s t
theorem yt (g:Gd):(psF g).map (·.1)=g.pins.map (·.nm):=by
 rw [agJ]
 rfl
theorem eO {r:Rat}(g:Good (qr r)):Sz 300 r:=⟨Tc (abu g.top (by decide+kernel)),Tc (abu g.bot (by decide+kernel))⟩
abbrev Vs (K:Frag)(CG CF CL:Addr)(A:NF)(la ld o:Addr)(vp sv:V)(x:Str)(c:Rat×Rat)(d0 L:Nat)(H:Hp)(Q:VK):GO:=fun g1 gU=>∀H',KO A o H H' ->s_ K H' CG CF CL A la ld o vp sv x c d0 L g1 gU->Q .bN H'
inductive yu (K:Frag)(CG CF CL CP CN CB CO CT:Addr)(vs:η)(H:Hp)(Q:VK)(E:XK):Prop where
 | mk (A:NF) (la ld o l:Addr) (vp sv:V) (x:Str) (c:Rat×Rat) (d0 L:Nat) (g:Gd) (own:Own) (us:η) (p:nT) (_:vs=[.ref A.ga,.ref la,.ref l]) (_:s_ K H CG CF CL A la ld o vp sv x c d0 L g own) (_:own.length+1+d0<=g.done) (_:20<=L) (_:H l=some (.lst us)) (_:Paired (lY K H) us (tY p)) (_:zy (.pin p)) (_:p.ws≠[(0,0)]) (_:x.length<=1000) (_:Sz 90000 c.1) (_:Sz 90000 c.2) (_:MY x c p g own (Vs K CG CF CL A la ld o vp sv x c d0 L H Q) (pZ CP CN CB CO CT (KO A o H) H E)):yu K CG CF CL CP CN CB CO CT vs H Q E
theorem NH {H:Hp}{us:η}{p:nT}(h:Paired (lY K H) us (tY p)):∃u2 u3 ur,us=.str "pin"::.str p.nm::u2::u3::ur/\oK K H u2 p.sp.1/\oK K H u3 p.sp.2/\Paired (lY K H) ur (mR p.ws):=by
 have h' :Paired (lY K H) us (RV.w "pin"::.w p.nm::.q p.sp.1::.q p.sp.2::mR p.ws):=h
 cases h' with
 | cons a1 t=>
  cases t with
  | cons a2 t=>
   cases t with
   | cons a3 t=>
    cases t with
    | cons a4 t=>exact ⟨_,_,_,by rw [show _=V.str "pin" from a1,show _=V.str p.nm from a2],a3,a4,t⟩
theorem lH:av zaZ zag (aa hV):=sq
theorem Q4 {CG CL CF CP CN CB CO CS CT:Addr}(D:Def K mg "lay_pin" hV zag)(gc:GrC K CG)(lc:LyC K CL)(jo:Fn P w K mg base (aV P w) 35 "pair_sum" zah (x6 K fun a b=>a+b))
  (MN:bM P w K mg base (aV P w) 3 CL "check_new" zam (yr K CL CP)) (MF:bM P w K mg base (aV P w) 1 CL "full_name" zam (pS K CL)) (MP:bM P w K mg base (aV P w) 4 CL "name_pin" zaF (jm K CL CP))
  (ZE:Fn P w K mg base (aV P w) 5 "pin_at" ["F","spot"] (FL K CF)) (NI:Fn P w K mg base (aV P w) 4 "hold_from" za6 (pV P w K mg base)) (MPp:bM P w K mg base (aV P w) 5 CF "put_pin" zaQ (kF P w K mg base CF CP CS CT)):
  Fn P w K mg base (aV P w) 37 "lay_pin" zag (yu K CG CF CL CP CN CB CO CT):=by
 refine D.Yu lH (fun vs H Q E h=>?_) (fun f cdv A outer s H vs Q E hr h=>?_)
 ·obtain ⟨A',la,ld,o,l,vp,sv,x,c,d0,L,g,own,us,p,rfl,_⟩:=h
  rfl
 have px:Passes (aV P w) (gK P w K mg base zaZ "lay_pin" (aa hV) f cdv A outer s H E) E:=d_
 obtain ⟨A',la,ld,o,l,vp,sv,x,c,d0,L,g,own,us,p,rfl,hL,ft,l20,hl,pu,ok,nz,lx,z1,z2,q⟩:=h
 obtain ⟨u2,u3,ur,eu,h2,h3,hr'⟩:=NH pu
 have i1:mv us 1=some (.str p.nm):=by rw [eu];exact b5 (j:=1) rfl
 have i2:mv us 2=some u2:=by rw [eu];exact b5 (j:=2) rfl
 have i3:mv us 3=some u3:=by rw [eu];exact b5 (j:=3) rfl
 have e4:us.drop 4=ur:=by rw [eu];rfl
 obtain ⟨okn,ok1,ok2,okw⟩:=ok
 have ln:p.nm.length<=1000:=ir okn.len (by decide)
 have lo:own.length<=1000:=by have:=hL.gr.ld;omega
 have lw:p.ws.length<=2:=by rcases okw with e | e | ⟨_,e,_⟩ <;> rw [e] <;> simp
 have one:∀w,p.ws=[w]->¬ (w.1=0/\w.2=0):=fun w e z=>nz (by rw [e,show w=(0,0) from agx z.1 z.2])
 have two:p.ws.length=2->p.ws=[(1,0),(0,1)]:=fun e=>by rcases okw with z | z | ⟨_,z,_⟩ <;> rw [z] at e ⊢ <;> cases e
 unfold MY at q
 refine ⟨_,(ae (bj (df (k:=3) (pv 1) hr.mo px (aG (cW (pv 2)))))
  (ae (aO (i:=3) lH.nd (aR jo hr.mo px (aU (ba (pv 1) rfl) (a_ (aU (cW (pv 2)) (cW (pv 2)))))))
  (ae (aO (i:=4) lH.nd (aR ZE hr.mo px (aU (ba (pv 0) rfl) (pv 3))))
  (ae (aK (aE kY (pv 4) bz) (ae (aO (i:=4) lH.nd (df (k:=1) (pv 1) hr.mo px (aG (cW (pv 2)))))
   (ag (bj (df (k:=5) (ba (pv 0) rfl) hr.mo px (mw (pv 4) (dm (bh (pv 3)) (bh (pv 3)) (aR NI hr.mo px (aG (qK DR (pv 2) (qJ ai) DN))))))))) ay)
  (ag (bj (df (k:=4) (pv 1) hr.mo px (aU (cW (pv 2)) (pv 4))))))))),?_⟩
 refine ⟨_,rfl,la,CL,ld,_,_,_,rfl,hL.l0,rfl,MN,_,rfl,l,_,_,_,rfl,rfl,bq.of hl,i1,la,ld,o,x,p.nm,sv,own,rfl,hL.l0,hL.iH,lx,ln,fun no=>?_,fun no=>?_⟩
 ·rw [if_pos no] at q
  exact fun d H' sH nd hd=>q d H' (.of sH) nd hd
 rw [if_neg no] at q
 refine ⟨_,rfl,la,CL,ld,_,_,rfl,hL.l0,lc.cls,lc.st,aoG,_,rfl,l,_,_,_,rfl,rfl,bq.of hl,i2,_,rfl,l,_,_,_,rfl,rfl,bq.of hl,i3,(by show 2<=sizeLine;decide),?_⟩
 intro t1 nt1;generalize eX:upd _ t1 _=H1;have ⟨s1,et1⟩:=nw nt1 eX;clear eX
 have L1:=hL.same s1
 refine ⟨sv,.ref t1,c,p.sp,rfl,L1.Xz,⟨t1,u2,u3,rfl,cT.of et1,h2.same s1,h3.same s1⟩,z1.up (by decide),z2.up (by decide),(eO ok1).up (by decide),(eO ok2).up (by decide),fun v2 H2 s2 hv2=>?_⟩
 have aoH :wL K H2 v2 (QX c p.sp):=hv2
 have u5:=aw s1 s2
 have L2:=hL.same u5
 obtain ⟨kP,kW,kB,R2,W2⟩:=L2.gr.fr
 have ndp:((psF g).map (·.1)).Nodup:=by rw [yt];exact hL.gr.nd
 refine ⟨_,rfl,A'.ga,CG,A'.gd,_,_,rfl,L2.gr.oO,gc.cls,gc.fr,aep,_,rfl,A'.fr,A'.FJ,A'.pP,A'.pW,A'.pB,psF g,g.mi,kP,kW,kB,v2,ptQ (QX c p.sp),rfl,R2,ndp,aoH,fun fn H3 s3=>?_,fun z fn H3 s3=>?_⟩
 ·rw [wX] at fn
  have fn' :=aj_.mp fn
  rw [fn'] at q
  dsimp only at q
  have mm:=aw u5 s3
  have L3:=hL.same mm
  have Vt:=mm _ _ hl
  obtain ⟨kP,kW,kB,R3,W3⟩:=L3.gr.fr
  refine ⟨_,rfl,rfl,_,rfl,?_⟩
  refine aI (fun _=>?_) (fun c=>absurd (by decide) c)
  refine ⟨_,rfl,la,CL,ld,_,_,_,rfl,L3.l0,rfl,MF,_,rfl,l,_,_,_,rfl,rfl,bq.of Vt,i1,la,ld,o,x,p.nm,sv,rfl,L3.l0,lx,ln,?_⟩
  obtain ⟨sa,y1,y2,rfl,hsq,hn1,S9⟩:=aoH.same s3
  refine ⟨_,rfl,A'.ga,CG,A'.gd,_,_,rfl,L3.gr.oO,gc.cls,gc.fr,aep,A'.fr,CF,A'.FJ,_,_,_,rfl,R3.obj,rfl,MPp,_,rfl,_,rfl,sa,_,_,_,rfl,rfl,hsq,wM,_,rfl,sa,_,_,_,rfl,rfl,hsq,TF,_,rfl,4,rfl,l,_,rfl,bq.of Vt,?_⟩
  rw [ajB,e4]
  intro l4 n4;generalize eX:upd _ l4 _=H4;have ⟨s4,el4⟩:=nw n4 eX;clear eX
  refine ⟨l4,ur,p.ws,rfl,el4,Paired.cy hr' fun _ _ z=>z.aZ (.of (aw mm s4)),lw,one,two,fun hv H5 s5 hH=>?_⟩
  have s35:=aw s4 s5
  have qE:=aw mm s35
  have L5:=hL.same qE
  obtain ⟨kP,kW,kB,R5,W5⟩:=L5.gr.fr
  have ky:KyR (psF g) kW:=by
   refine kj (by rw [<- Paired.length W5,Wp,Wp]) fun i a b ea eb=>?_
   rw [abx] at ea
   obtain ⟨p',Us,rfl⟩:=abD.mp ea
   obtain ⟨pw,ew,z1,_⟩:=b8 (jK W5) eb
   rw [abx,Us] at ew
   rw [<- abq ew] at z1
   exact ⟨z1,trivial⟩
  dsimp only [zd]
  refine ⟨A'.fr,A'.FJ,A'.pP,A'.pW,A'.pB,psF g,g.mi,kP,kW,kB,x++p.nm,y1,y2,ptQ (QX c p.sp),hv,p.ws,rfl,R5,ky,hn1.same s35,S9.same s35,(by rw [Wp];have:=hL.gr.lp;omega),hH,?_⟩
  unfold ajg
  rw [yt,wX,fn',Wp]
  dsimp only [Option.map]
  by_cases nn:x++p.nm∈g.pins.map (·.nm)
  ·rw [if_pos nn] at q ⊢
   exact fun d H' sH nd hd=>q d H' (.of (aw qE sH)) (aJ qE nd) hd
  rw [if_neg nn] at q ⊢
  by_cases l24:24<=g.pins.length
  ·rw [if_pos l24] at q ⊢
   exact fun H' sH=>q H' (.of (aw qE sH))
  rw [if_neg l24] at q ⊢
  intro H6 kP' l2 us2 k6 R6 n2 e6 p6
  have k06:∀b o',b≠A'.pP->b≠A'.pW->H b=some o' ->H6 b=some o' :=fun b o' n1 n2 e=>k6 b o' n1 n2 (qE _ _ e)
  have kp6:KP A' H H6:=fun b o' n1 n2 _ _ e=>k06 b o' n1 n2 e
  have t06:=hL.gr.NG kp6
  have aEF:= @PD.off _ _ _ _ _ _ _ hL.gr
  have la6:H6 la=some (.ins CL ld (lyF x sv o)):=by
   obtain ⟨_,_,_,R0,_⟩:=hL.gr.fr
   exact k06 _ _ (fun z=>by have e:=hL.l0;rw [z,R0.pl] at e;cases e) (fun z=>by have e:=hL.l0;rw [z,R0.wy] at e;cases e) hL.l0
  have ga6:H6 A'.ga=some (.ins CG A'.gd (Q0 A'.fr vp (g.done:Int))):=by
   obtain ⟨_,_,_,R0,_⟩:=hL.gr.fr
   exact k06 _ _ (fun z=>by have e:=hL.gr.oO;rw [z,R0.pl] at e;cases e) (fun z=>by have e:=hL.gr.oO;rw [z,R0.wy] at e;cases e) hL.gr.oO
  have l6:=hL.gr.lst kp6 hl
  have o6:H6 o=some (.dK (fm own)):=k06 _ _ hL.ap.o1 hL.ap.o2 hL.iH
  have W6:WyR K H6 (pwF (Zs g (x++p.nm) (QX c p.sp) p.ws)) (kW++[(.inr (x++p.nm),.ref l2)]):=by
   show WyR K H6 (((g.pins++[_]).map fun (p:nT)=>(p.nm,p.ws))) _
   rw [aeU]
   refine Paired.snoc (Paired.cy W5 fun p' kv z=>⟨z.1,?_⟩) ⟨rfl,l2,us2,rfl,e6,p6⟩
   obtain ⟨l',us',z1,z2,z3⟩:=z.2
   have ne1:l' ≠A'.pP:=fun y=>by rw [y,R5.pl] at z2;cases z2
   have ne2:l' ≠A'.pW:=fun y=>by rw [y,R5.wy] at z2;cases z2
   refine ⟨l',us',z1,k6 _ _ ne1 ne2 z2,z3.aZ fun b xs r=>?_⟩
   rcases r with r | ⟨q',r⟩
   ·exact .inl (k6 _ _ (fun y=>by rw [y,R5.pl] at r;cases r) (fun y=>by rw [y,R5.wy] at r;cases r) r)
   ·exact .inr ⟨q',k6 _ _ (fun y=>by rw [y,R5.pl] at r;cases r) (fun y=>by rw [y,R5.wy] at r;cases r) r⟩
  have L6:s_ K H6 CG CF CL A' la ld o vp sv x c d0 L (Zs g (x++p.nm) (QX c p.sp) p.ws) own:=by
   refine ⟨⟨ga6,⟨kP',_,kB,?_,W6⟩,?_,?_,hL.gr.lb,hL.gr.ld⟩,la6,hL.Xz.aZ t06,o6,hL.ap,hL.gl,hL.fit,hL.len⟩
   ·show jC K H6 CF A'.fr A'.FJ A'.pP A'.pW A'.pB ((g.pins++[_]).map fun (p:nT)=>(p.nm,ptQ p.sp)) g.mi kP' _ kB
    rw [aeU]
    exact R6
   ·show ((g.pins++[_]).map nT.nm).Nodup
    rw [aeU,aie]
    refine ⟨hL.gr.nd,by simp,fun a ha b hb e=>nn ?_⟩
    have vL :b=x++p.nm:=by simpa using hb
    rw [<- vL, <- e]
    exact ha
   ·show (g.pins++[_]).length<=24
    rw [aa_,adL]
    omega
  refine ⟨_,rfl,la,CL,ld,_,_,_,rfl,la6,rfl,MP,_,rfl,l,_,_,_,rfl,rfl,bq.of l6,i1,_,rfl,la,ld,o,x,p.nm,x++p.nm,sv,own,rfl,la6,o6,lx,ln,lo,fun z=>absurd z no,fun _=>?_⟩
  obtain ⟨L7,k7⟩:=L6.name (y:=p.nm) (z:=x++p.nm) ft (ir okn.len l20)
  exact q _ ((KP.ko kp6).trans k7) L7
 ·rw [wX] at fn
  obtain ⟨z',fn',rfl⟩:=abD.mp fn
  rw [fn'] at q
  dsimp only at q
  have mm:=aw u5 s3
  have L3:=hL.same mm
  have Vt:=mm _ _ hl
  refine ⟨_,rfl,rfl,_,rfl,?_⟩
  refine aI (fun c=>absurd (of_decide_eq_true c) (fun z=>nomatch z)) (fun _=>?_)
  refine ⟨_,rfl,la,CL,ld,_,_,_,rfl,L3.l0,rfl,MP,_,rfl,l,_,_,_,rfl,rfl,bq.of Vt,i1,_,rfl,la,ld,o,x,p.nm,z'.nm,sv,own,rfl,L3.l0,L3.iH,lx,ln,lo,fun z=>absurd z no,fun _=>?_⟩
  obtain ⟨L7,k7⟩:=L3.name (y:=p.nm) (z:=z'.nm) ft (ir okn.len l20)
  exact q _ ((KO.of mm).trans k7) L7
theorem NJ {H:Hp}{us:η}{x a b:Str}(h:Paired (lY K H) us (fU (.bar x a b))):us=[.str "bar",.str x,.str a,.str b]:=by
 have h' :Paired (lY K H) us [RV.w "bar",.w x,.w a,.w b]:=h
 cases h' with
 | cons a1 t=>
  cases t with
  | cons a2 t=>
   cases t with
   | cons a3 t=>
    cases t with
    | cons a4 t=>
     cases t
     rw [show _=V.str "bar" from a1,show _=V.str x from a2,show _=V.str a from a3,show _=V.str b from a4]
inductive yv (K:Frag)(CG CF CL CP CN CB CO CT:Addr)(vs:η)(H:Hp)(Q:VK)(E:XK):Prop where
 | mk (A:NF) (la ld o l:Addr) (vp sv:V) (x:Str) (c:Rat×Rat) (d0 L:Nat) (g:Gd) (own:Own) (us:η) (n one other:Str) (_:vs=[.ref A.ga,.ref la,.ref l]) (_:s_ K H CG CF CL A la ld o vp sv x c d0 L g own) (_:H l=some (.lst us)) (_:Paired (lY K H) us (fU (.bar n one other))) (_:zy (.bar n one other)) (_:x.length<=1000) (_:MZ x n one other g own (Vs K CG CF CL A la ld o vp sv x c d0 L H Q) (pZ CP CN CB CO CT (KO A o H) H E)):yv K CG CF CL CP CN CB CO CT vs H Q E
theorem p8:av zaX zag (aa hW):=sq
theorem Q5 {CG CL CF CP CN CB CO CT:Addr}(D:Def K mg "lay_bar" hW zag)(gc:GrC K CG)(lc:LyC K CL)
  (MO:bM P w K mg base (aV P w) 3 CL "own_pin" zam (FK K CL CN)) (MF:bM P w K mg base (aV P w) 1 CL "full_name" zam (pS K CL)) (MPb:bM P w K mg base (aV P w) 5 CF "put_bar" zal (nM K CF CB CN CO CT)):
  Fn P w K mg base (aV P w) 37 "lay_bar" zag (yv K CG CF CL CP CN CB CO CT):=by
 refine D.Yu p8 (fun vs H Q E h=>?_) (fun f cdv A outer s H vs Q E hr h=>?_)
 ·obtain ⟨A',la,ld,o,l,vp,sv,x,c,d0,L,g,own,us,n,one,other,rfl,_⟩:=h
  rfl
 have px:Passes (aV P w) (gK P w K mg base zaX "lay_bar" (aa hW) f cdv A outer s H E) E:=d_
 obtain ⟨A',la,ld,o,l,vp,sv,x,c,d0,L,g,own,us,n,one,other,rfl,hL,hl,pu,ok,lx,q⟩:=h
 have eu:=NJ pu
 have i1:mv us 1=some (.str n):=by rw [eu];exact b5 (j:=1) rfl
 have i2:mv us 2=some (.str one):=by rw [eu];exact b5 (j:=2) rfl
 have i3:mv us 3=some (.str other):=by rw [eu];exact b5 (j:=3) rfl
 have ln:n.length<=1000:=ir ok.1.len (by decide)
 obtain ⟨kP,kW,kB,R,W⟩:=hL.gr.fr
 unfold MZ at q
 refine ⟨_,(ae (aO (i:=3) p8.nd (df (k:=3) (pv 1) hr.mo px (aG (cW (pv 2)))))
  (ae (aO (i:=4) p8.nd (df (k:=3) (pv 1) hr.mo px (aG (cW (pv 2)))))
  (ag (bj (df (k:=5) (ba (pv 0) rfl) hr.mo px (dm (df (k:=1) (pv 1) hr.mo px (aG (cW (pv 2)))) (pv 3) (pv 4))))))),?_⟩
 refine ⟨_,rfl,la,CL,ld,_,_,_,rfl,hL.l0,rfl,MO,_,rfl,l,_,_,_,rfl,rfl,bq.of hl,i2,la,ld,o,x,one,sv,own,rfl,hL.l0,hL.iH,fun z=>?_,fun y1 z1=>?_⟩
 ·rw [z] at q
  exact fun d H' sH nd hd=>q d H' (.of sH) nd hd
 rw [z1] at q
 dsimp only at q
 refine ⟨_,rfl,la,CL,ld,_,_,_,rfl,hL.l0,rfl,MO,_,rfl,l,_,_,_,rfl,rfl,bq.of hl,i3,la,ld,o,x,other,sv,own,rfl,hL.l0,hL.iH,fun z=>?_,fun y2 z2=>?_⟩
 ·rw [z] at q
  exact fun d H' sH nd hd=>q d H' (.of sH) nd hd
 rw [z2] at q
 dsimp only at q
 refine ⟨_,rfl,A'.ga,CG,A'.gd,_,_,rfl,hL.gr.oO,gc.cls,gc.fr,aep,A'.fr,CF,A'.FJ,_,_,_,rfl,R.obj,rfl,MPb,_,rfl,la,CL,ld,_,_,_,rfl,hL.l0,rfl,MF,_,rfl,l,_,_,_,rfl,rfl,bq.of hl,i1,la,ld,o,x,n,sv,rfl,hL.l0,lx,ln,_,rfl,_,rfl,?_⟩
 refine ⟨A'.fr,A'.FJ,A'.pP,A'.pW,A'.pB,psF g,g.mi,kP,kW,kB,x++n,y1,y2,rfl,R,(by have:=hL.gr.lb;omega),?_⟩
 rw [yt]
 cases eb:x_ (g.pins.map (·.nm)) (g.mi.map (·.1)) (x++n) y1 y2 with
 | there=>
  rw [eb] at q
  exact fun d H' sH nd hd=>q d H' (.of sH) nd hd
 | pin p=>
  rw [eb] at q
  exact fun d H' sH nd hd=>q d H' (.of sH) nd hd
 | length=>
  rw [eb] at q
  exact fun d H' sH nd hd=>q d H' (.of sH) nd hd
 | many=>
  rw [eb] at q
  exact q H (.of (az.refl H))
 | done=>
  rw [eb] at q
  have q' :Vs K CG CF CL A' la ld o vp sv x c d0 L H Q {g with mi:=g.mi++[(x++n,y1,y2)]} own:=q
  intro H' kB' k' R'
  have kp:KP A' H H' :=fun b o' _ _ n3 _ e=>k' b o' n3 e
  have t' :=hL.gr.NG kp
  have l60:g.mi.length < 60:=by
   unfold x_ at eb
   split at eb
   ·cases eb
   split at eb
   ·cases eb
   split at eb
   ·cases eb
   split at eb
   ·cases eb
   split at eb
   ·cases eb
   ·next h=>rw [Wp] at h;omega
  refine q' H' (KP.ko kp) ⟨⟨k' _ _ (fun z=>by have e:=hL.gr.oO;rw [z,R.br] at e;cases e) hL.gr.oO,⟨kP,kW,kB',R',?_⟩,hL.gr.nd,hL.gr.lp,?_,hL.gr.ld⟩,k' _ _ (fun z=>by have e:=hL.l0;rw [z,R.br] at e;cases e) hL.l0,hL.Xz.aZ t',k' _ _ hL.ap.o3 hL.iH,hL.ap,hL.gl,hL.fit,hL.len⟩
  ·refine Paired.cy W fun p' kv z=>⟨z.1,?_⟩
   obtain ⟨l',us',z1,z2,z3⟩:=z.2
   exact ⟨l',us',z1,hL.gr.lst kp z2,z3.aZ t'⟩
  ·show (g.mi++[_]).length<=60
   rw [aa_,adL]
   omega
def NK (K:Frag)(H:Hp)(v:V)(m:Str×(Rat×Rat)):Prop:=∃t u,v=.ref t/\cT K H t [.str m.1,u]/\wL K H u m.2
theorem NK.aZ {H H' :Hp}{v:V}{m:Str×(Rat×Rat)}(h:NK K H v m)(s:bg H H'):NK K H' v m:=by
 obtain ⟨t,u,e,h1,h2⟩:=h
 exact ⟨t,u,e,s.km h1,h2.aZ s⟩
theorem NL {H:Hp}{us:η}{pc pre:Str}{a:Rat×Rat}{st:Κ}(h:Paired (lY K H) us (fU (.lay pc pre a st))):∃u3 u4 ur,us=.str "lay"::.str pc::.str pre::u3::u4::ur/\oK K H u3 a.1/\oK K H u4 a.2/\(st=none->ur=[])/\∀k s,st=some (k,s)->∃u6 u7,ur=[.int (k:Int),u6,u7]/\oK K H u6 s.1/\oK K H u7 s.2:=by
 have key:∀{t:List RV},Paired (lY K H) us (RV.w "lay"::.w pc::.w pre::.q a.1::.q a.2::t)->∃u3 u4 ur,us=.str "lay"::.str pc::.str pre::u3::u4::ur/\oK K H u3 a.1/\oK K H u4 a.2/\Paired (lY K H) ur t:=fun {t} h=>by
  cases h with
  | cons a1 h=>
   cases h with
   | cons a2 h=>
    cases h with
    | cons a3 h=>
     cases h with
     | cons a4 h=>
      cases h with
      | cons a5 h=>exact ⟨_,_,_,by rw [show _=V.str "lay" from a1,show _=V.str pc from a2,show _=V.str pre from a3],a4,a5,h⟩
 cases st with
 | none=>
  obtain ⟨u3,u4,ur,e,n3,n4,t⟩:=key (t:=[]) h
  exact ⟨u3,u4,ur,e,n3,n4,fun _=>by cases t;rfl,fun _ _ z=>nomatch z⟩
 | some z=>
  obtain ⟨k,s⟩:=z
  obtain ⟨u3,u4,ur,e,n3,n4,t⟩:=key (t:=[.n (k:Int),.q s.1,.q s.2]) h
  refine ⟨u3,u4,ur,e,n3,n4,(fun z=>nomatch z),fun k' s' z=>?_⟩
  cases z
  cases t with
  | cons b1 t=>
   cases t with
   | cons b2 t=>
    cases t with
    | cons b3 t=>
     cases t
     exact ⟨_,_,by rw [show _=V.int (k:Int) from b1],b2,b3⟩
inductive ZF (K:Frag)(vs:η)(H:Hp)(Q:VK)(E_:XK):Prop where
 | mk (l:Addr) (us:η) (pc pre:Str) (a:Rat×Rat) (st:Κ) (_:vs=[.ref l]) (_:H l=some (.lst us)) (_:Paired (lY K H) us (fU (.lay pc pre a st))) (_:zy (.lay pc pre a st)) (_:∀(l' :Addr) (ms:η) (H' :Hp),az H H' ->H l' =none->H' l' =some (.lst ms)->Paired (NK K H') ms (marks pre a st)->Q (.ref l') H'):ZF K vs H Q E_
theorem ajN {H:Hp}{t:Addr}{k:Nat}(h:H t=some (.tup [.int (k:Int),.int 1])):oK K H (.ref t) (k:Rat):=⟨t,rfl,by rw [show ((k:Nat):Rat)=(((k:Nat):Int):Rat) from (alG k).symm,xV];exact cT.of h⟩
theorem d8:av ["row","first","step"] ["row"] (aa bU):=sq
theorem mn (D:Def K mg "prefixes_and_spots" bU ["row"])(bP:mg "len"=none)(iQ:mg "range"=none)(jh:mg "str"=none)(jo:Fn P w K mg base (aV P w) 35 "pair_sum" zah (x6 K fun a b=>a+b))(NM:Fn P w K mg base (aV P w) 35 "stretched" zaO (mO K)):Fn P w K mg base (aV P w) 36 "prefixes_and_spots" ["row"] (ZF K):=by
 refine D.oo d8 fun H hr h=>?_
 obtain ⟨l,us,pc,pre,a,st,rfl,hl,pu,ok,q⟩:=h
 obtain ⟨okc,okp,ok1,ok2,oks⟩:=ok
 obtain ⟨u3,u4,ur,eu,n3,n4,en,es⟩:=NL pu
 have i2:mv us 2=some (.str pre):=by rw [eu];exact b5 (j:=2) rfl
 have i3:mv us 3=some u3:=by rw [eu];exact b5 (j:=3) rfl
 have i4:mv us 4=some u4:=by rw [eu];exact b5 (j:=4) rfl
 have L2:2<=sizeLine:=by decide
 refine ⟨_,(ae (aO (i:=1) d8.nd (a_ (aU (cW (pv 0)) (cW (pv 0)))))
  (ae (aK (aE a9 (aL bw rfl bP g_ (aG (pv 0))) ai) (ag (aA (bB (aG (a_ (aU (cW (pv 0)) (pv 1))))))) ay)
  (ae (aO (i:=2) d8.nd (a_ (aU (cW (pv 0)) (cW (pv 0)))))
  (ag (aA (nL (tn:=["k"]) (fr:=["step","row","first"]) (caps:=[2,0,1]) (tj rfl iQ (aG (cW (pv 0)))) (a_ (aU (aC eY (nU (YU (K:=K) rfl) (pv 2) ai) (gF kZ rfl jh xB (aG (pv 0)))) (Ze jo hr (aU (pv 3) (Ze NM hr (aU (a_ (aU (pv 0) ai)) (pv 1))))))))))))),?_⟩
 refine ⟨_,rfl,l,_,_,_,rfl,rfl,bq.of hl,i3,_,rfl,l,_,_,_,rfl,rfl,bq.of hl,i4,L2,?_⟩
 intro t1 nt1;generalize eX:upd _ t1 _=H1;have ⟨s1,et1⟩:=nw nt1 eX;clear eX
 have Vr:=s1 _ _ hl
 have hf:wL K H1 (.ref t1) a:=⟨t1,u3,u4,rfl,cT.of et1,n3.same s1,n4.same s1⟩
 refine ⟨_,rfl,l,_,rfl,.inl (bq.of Vr),rfl,_,rfl,?_⟩
 cases st with
 | none=>
  have e5:us.length=5:=by rw [eu,en rfl];rfl
  refine aI (fun _=>?_) (fun c=>absurd (decide_eq_true (by rw [e5];rfl)) c)
  refine ⟨_,rfl,l,_,_,_,rfl,rfl,bq.of Vr,i2,_,rfl,L2,?_⟩
  intro t2 nt2;generalize eX:upd _ t2 _=H2;have ⟨s2,et2⟩:=nw nt2 eX;clear eX
  refine ⟨(by show 1<=sizeLine;decide),?_⟩
  intro l3 nl3;generalize eX:upd _ l3 _=H3;have ⟨s3,el3⟩:=nw nl3 eX;clear eX
  have mm:=aw s1 (aw s2 s3)
  exact q l3 [.ref t2] H3 mm (aJ (aw s1 s2) nl3) el3 (.cons ⟨t2,.ref t1,rfl,cT.of (s3 _ _ et2),hf.same (aw s2 s3)⟩ .nil)
 | some z=>
  obtain ⟨k,sp⟩:=z
  obtain ⟨u6,u7,er,n6,n7⟩:=es k sp rfl
  obtain ⟨k1,k60,ok6,ok7⟩:=oks k sp rfl
  have e8:us.length=8:=by rw [eu,er];rfl
  have i5:mv us 5=some (.int (k:Int)):=by rw [eu,er];exact b5 (j:=5) rfl
  have i6:mv us 6=some u6:=by rw [eu,er];exact b5 (j:=6) rfl
  have i7:mv us 7=some u7:=by rw [eu,er];exact b5 (j:=7) rfl
  refine aI (fun c=>absurd (of_decide_eq_true c) (by rw [e8];decide)) (fun _=>?_)
  refine ⟨_,rfl,l,_,_,_,rfl,rfl,bq.of Vr,i6,_,rfl,l,_,_,_,rfl,rfl,bq.of Vr,i7,L2,?_⟩
  intro t2 nt2;generalize eX:upd _ t2 _=H2;have ⟨s2,et2⟩:=nw nt2 eX;clear eX
  have u5:=aw s1 s2
  have Xw:wL K H2 (.ref t2) sp:=⟨t2,u6,u7,rfl,cT.of et2,n6.same u5,n7.same u5⟩
  have hl2:=s2 _ _ Vr
  have hf2:=hf.same s2
  refine ⟨_,rfl,l,_,_,_,rfl,rfl,bq.of hl2,i5,(k:Int),rfl,by omega,by omega,fun D1 nD=>?_⟩
  rw [show ((k:Nat):Int).toNat=k by omega]
  refine QF (lo:=0) (n:=k) (cap:=[some (.ref t2),some (.ref l),some (.ref t1)]) (fun i v H=>NK K H v (pre++tx (i:Int),QX a ((i:Rat)*sp.1,(i:Rat)*sp.2))) nD (abF (show k<=60 from k60) (by decide)) (fun i v Ha Hb ys e0 ks z=>z.aZ (bg.ks e0 ks)) ?_ ?_
  ·intro i Ha Rq hi sa kq
   rw [Int.zero_add]
   have lg:(i:Int).natAbs.log2 < 1920:=abF (Nat.log2_le_self _) (by show i < 1920;omega)
   have lt:=Qz (n:=(i:Int)) (k:=2) (by decide) (by show i < 100;omega)
   refine ⟨_,rfl,l,_,_,_,rfl,rfl,bq.of (sa _ _ hl2),i2,_,rfl,_,rfl,lg,_,_,rfl,rfl,ir (alO okp.len lt) (by decide),?_⟩
   refine ⟨_,rfl,_,rfl,L2,?_⟩
   intro t3 nt3;generalize eX:upd _ t3 _=H3;have ⟨s3,et3⟩:=nw nt3 eX;clear eX
   have si:Sz 6 ((i:Nat):Rat):=by
    rw [<- alG]
    exact Y9 (k:=6) (by show i < 64;omega) (by decide)
   refine ⟨_,rfl,.ref t3,.ref t2,(i:Rat),sp,rfl,ajN et3,(Xw.same sa).same s3,si.up (by decide),(eO ok6).up (by decide),(eO ok7).up (by decide),fun v4 H4 s4 h4=>?_⟩
   refine ⟨.ref t1,v4,a,_,rfl,((hf2.same sa).same s3).same s4,h4,(eO ok1).up (by decide),(eO ok2).up (by decide),(si.mul (eO ok6)).up (by decide),(si.mul (eO ok7)).up (by decide),fun v5 H5 s5 h5=>⟨L2,?_⟩⟩
   intro t6 nt6;generalize eX:upd _ t6 _=H6;have ⟨s6,et6⟩:=nw nt6 eX;clear eX
   exact kq _ _ (aw s3 (aw s4 (aw s5 s6))) ⟨t6,v5,rfl,cT.of et6,h5.same s6⟩
  intro ys Ha ly py sa ea
  refine q D1 ys Ha (aw u5 sa) (aJ u5 nD) ea ?_
  refine kj (by rw [ly];show _=((ai_ k).map _).length;rw [Wp,List.length_range]) fun i v m ev em=>?_
  have em' :((ai_ k).map fun (i:Nat)=>(pre++tx (i:Int),QX a ((i:Rat)*sp.1,(i:Rat)*sp.2)))[i]? =some m:=em
  have hi:=(W1.mp ev).1
  rw [abx,List.getElem?_range (by omega)] at em'
  rw [<- abq em']
  exact py i v ev
theorem CH {x:Str}{c:Rat×Rat}{p:nT}{g:Gd}{own:Own}{Q Q' :GO}{E E' :Ξ}(hq:∀g o,Q g o->Q' g o)(he:∀e,E e->E' e)(h:MY x c p g own Q E):MY x c p g own Q' E' :=by
 unfold MY at h ⊢
 split
 ·next c1=>rw [if_pos c1] at h;exact he _ h
 next c1=>
 rw [if_neg c1] at h
 cases e:g.pins.find? (fun z=>decide (z.sp=QX c p.sp)) with
 | some z=>
  rw [e] at h
  exact hq _ _ h
 | none=>
  rw [e] at h
  dsimp only at h ⊢
  split
  ·next c2=>rw [if_pos c2] at h;exact he _ h
  next c2=>
  rw [if_neg c2] at h
  split
  ·next c3=>rw [if_pos c3] at h;exact he _ h
  ·next c3=>rw [if_neg c3] at h;exact hq _ _ h
theorem CI {x n one other:Str}{g:Gd}{own:Own}{Q Q' :GO}{E E' :Ξ}(hq:∀g o,Q g o->Q' g o)(he:∀e,E e->E' e)(h:MZ x n one other g own Q E):MZ x n one other g own Q' E' :=by
 unfold MZ at h ⊢
 cases e1:ownAt own one with
 | none=>rw [e1] at h;exact he _ h
 | some a=>
  rw [e1] at h
  dsimp only at h ⊢
  cases e2:ownAt own other with
  | none=>rw [e2] at h;exact he _ h
  | some b=>
   rw [e2] at h
   dsimp only at h ⊢
   cases eb:x_ (g.pins.map (·.nm)) (g.mi.map (·.1)) (x++n) a b with
   | there=>rw [eb] at h;exact he _ h
   | pin p=>rw [eb] at h;exact he _ h
   | length=>rw [eb] at h;exact he _ h
   | many=>rw [eb] at h;exact he _ h
   | done=>rw [eb] at h;exact hq _ _ h
theorem u9 {x m:Str}{Q Q' :Own->Prop}{E E' :Ξ}(hq:∀o,Q o->Q' o)(he:∀e,E e->E' e):∀(below own:Own),lF x m below own Q E->lF x m below own Q' E'
 | [],_,h=>hq _ h
 | z::t,own,h=>by
  unfold lF at h ⊢
  split
  ·next c=>rw [if_pos c] at h;exact he _ h
  ·next c=>rw [if_neg c] at h;exact u9 hq he t _ h
abbrev RecM (rec:Θ):Prop:=∀x c g Q Q' E E',(∀g o,Q g o->Q' g o)->(∀e,E e->E' e)->rec x c g Q E->rec x c g Q' E'
theorem mV {rec:Θ}(hr:RecM rec){x:Str}{c:Rat×Rat}{Q Q' :GO}{E E' :Ξ}(hq:∀g o,Q g o->Q' g o)(he:∀e,E e->E' e):∀(ms:List (Str×(Rat×Rat))) (g:Gd) (own:Own),mS rec x c ms g own Q E->mS rec x c ms g own Q' E'
 | [],_,_,h=>hq _ _ h
 | (m,a)::t,g,own,h=>hr _ _ _ _ _ _ _ (fun g1 b z=>u9 (fun o z=>mV hr hq he t g1 o z) he b own z) he h
theorem jq {rec:Ε}(hr:∀pc,RecM (rec pc)){x:Str}{c:Rat×Rat}{Q Q' :GO}{E E' :Ξ}(hq:∀g o,Q g o->Q' g o)(he:∀e,E e->E' e):∀(rs:List Rw) (g:Gd) (own:Own),mT rec x c rs g own Q E->mT rec x c rs g own Q' E'
 | [],_,_,h=>hq _ _ h
 | r::t,g,own,h=>by
  unfold mT at h ⊢
  split
  ·next c=>rw [if_pos c] at h;exact he _ h
  next c=>
  rw [if_neg c] at h
  cases r with
  | pin p=>exact CH (fun g o z=>jq hr hq he t g o z) he h
  | bar n a b=>exact CI (fun g o z=>jq hr hq he t g o z) he h
  | lay pc pre a st=>exact mV (hr pc) (fun g o z=>jq hr hq he t g o z) he _ _ _ h
theorem iY (ps:ν):∀(n:Nat) (rows:List Rw),RecM (zx ps n rows)
 | 0,rows=>fun x c g Q Q' E E' hq he h=>jq (fun _ _ _ _ _ _ _ _ _ he h=>he _ h) hq he rows g [] h
 | n+1,rows=>fun x c g Q Q' E E' hq he h=>jq (fun pc=>iY ps n (rowsOf ps pc)) hq he rows g [] h
def Q6 (rows:List Rw):Prop:=∀r∈rows,zy r/\∀q,r=.pin q->q.ws≠[(0,0)]
structure ajO (ps:ν):Prop where
 nd:(ps.map (·.1)).Nodup
 ok:∀p∈ps,Q6 p.2
 lay:∀i p,ps[i]? =some p->pO ps i p.2
structure PcR (K:Frag)(H:Hp)(dp:Addr)(ls:π)(ps:ν):Prop where
 t_:H dp=some (.dK (cD ps ls))
 len:ls.length=ps.length
 oN:∀(i:Nat) (l:Addr) (p:Str×List Rw),ls[i]? =some l->ps[i]? =some p->∃ys,H l=some (.lst ys)/\Paired (RowC K H []) ys p.2
theorem RowC.keep {H H' :Hp}{u:V}{r:Rw}(h:RowC K H [] u r)(k:∀b xs,H b=some (.lst xs)->H' b=some (.lst xs))(t:bg H H'):RowC K H' [] u r:=h.mono (fun b xs _ e=>k b xs e) t (fun b z=>nomatch z)
theorem PcR.keep {H H' :Hp}{dp:Addr}{ls:π}{ps:ν}(h:PcR K H dp ls ps)(d:H' dp=some (.dK (cD ps ls)))(k:∀b xs,H b=some (.lst xs)->H' b=some (.lst xs))(t:bg H H'):PcR K H' dp ls ps:=⟨d,h.len,fun i l p e1 e2=>by
 obtain ⟨ys,a,b⟩:=h.oN i l p e1 e2
 exact ⟨ys,k _ _ a,Paired.cy b fun _ _ z=>z.keep k t⟩⟩
theorem ZG {ps:ν}{n:Nat}{pc:Str}(nd:(ps.map (·.1)).Nodup)(h:pc∈(ps.take n).map (·.1)):∃i p,i < n/\ps[i]? =some p/\p.1=pc/\rowsOf ps pc=p.2:=by
 obtain ⟨p,hp,e⟩:=aeu.mp h
 obtain ⟨i,ei⟩:=aeV hp
 have il:=(W1.mp ei).1
 rw [aiC] at il
 rw [ai3 (by omega)] at ei
 refine ⟨i,p,by omega,ei,e,?_⟩
 have mp:=abw ei
 unfold rowsOf
 cases f:ps.find? (fun z=>decide (z.1=pc)) with
 | none=>exact absurd (by simpa using e) (agG.mp f p mp)
 | some z=>
  have hz:=List.find?_some f
  have mz:=List.mem_of_find?_eq_some f
  have e2:z.1=p.1:=by rw [e];simpa using hz
  obtain ⟨j,ej⟩:=aeV mz
  have jl:=(W1.mp ej).1
  have:j=i:=(alU (by rw [Wp];exact jl) nd).mp (by rw [abx,abx,ej,ei];exact congrArg some e2)
  rw [this,ei] at ej
  show (some z.2).getD []=p.2
  rw [abq ej]
  rfl
theorem avw {fr:Addr}{vp:V}{n:Int}:ady ("pieces":Str) (Q0 fr vp n)=some vp:=by
 have h:(("pieces":Str)=="frame")=false:=by decide+kernel
 simp [ady,h]
section
variable {CG CF CL:Addr}{A:NF}{la ld o:Addr}{vp sv:V}{x:Str}{c:Rat×Rat}{d0 L:Nat}{g:Gd}{own:Own}{H H' :Hp}
theorem s_.other {d:Addr}{ob ob' :HO}(h:s_ K H CG CF CL A la ld o vp sv x c d0 L g own)(e:H d=some ob)(n1:∀xs,ob≠.lst xs)(n2:∀xs,ob≠.tup xs)(n3:∀q xs,ob≠.j8 q (.tup xs))(n4:∀c d fs,ob≠.ins c d fs)(ap:Apart A d)(no:d≠o):s_ K (upd H d ob') CG CF CL A la ld o vp sv x c d0 L g own:=by
 obtain ⟨kP,kW,kB,R,W⟩:=h.gr.fr
 have t:bg H (upd H d ob'):=B' e n2 n3
 have ni:∀{b C d' :Addr} {fs:Ζ},H b=some (.ins C d' fs)->b≠d:=fun e' z=>by rw [z,e] at e';exact n4 _ _ _ (abq e')
 refine ⟨{h.gr with oO:=by rw [ah (ni h.gr.oO)];exact h.gr.oO,fr:=⟨kP,kW,kB,⟨by rw [ah (ni R.obj)];exact R.obj,by rw [ah (ac_ ap.o1)];exact R.pl,by rw [ah (ac_ ap.o2)];exact R.wy,by rw [ah (ac_ ap.o3)];exact R.br,R.ne1,R.ne2,R.ne3,Paired.cy R.rp fun _ _ h=>⟨h.1,h.2.aZ t⟩,Paired.cy R.rb fun _ _ h=>⟨h.1,by obtain ⟨p,e,k⟩:=h.2;exact ⟨p,e,t _ _ k⟩⟩⟩,?_⟩},by rw [ah (ni h.l0)];exact h.l0,h.Xz.aZ t,by rw [ah (ac_ no)];exact h.iH,h.ap,h.gl,h.fit,h.len⟩
 refine Paired.cy W fun p' kv z=>⟨z.1,?_⟩
 obtain ⟨l',us',z1,z2,z3⟩:=z.2
 exact ⟨l',us',z1,by rw [ah (fun z=>by rw [z,e] at z2;exact n1 _ (abq z2))];exact z2,z3.aZ t⟩
theorem s_.count (h:s_ K H CG CF CL A la ld o vp sv x c d0 L g own)(l:g.done < 500):s_ K (upd H A.ga (.ins CG A.gd (Q0 A.fr vp (g.done+1:Int)))) CG CF CL A la ld o vp sv x c d0 L {g with done:=g.done+1} own/\KP A H (upd H A.ga (.ins CG A.gd (Q0 A.fr vp (g.done+1:Int)))):=by
 obtain ⟨kP,kW,kB,R,W⟩:=h.gr.fr
 have s:bg H (upd H A.ga (.ins CG A.gd (Q0 A.fr vp (g.done+1:Int)))):=ud h.gr.oO
 have nf:A.fr≠A.ga:=fun z=>by
  have e:=R.obj
  rw [z,h.gr.oO] at e
  have e2:=(HO.ins.inj (abq e)).2.2
  have e3:=congrArg al_ (af5 e2).1
  exact absurd (show ("frame":Str)="pin_places" from e3) (by decide+kernel)
 refine ⟨⟨⟨aj,⟨kP,kW,kB,wV R h.gr.oO nf,?_⟩,h.gr.nd,h.gr.lp,h.gr.lb,l⟩,by rw [ah (ac_ h.gl)];exact h.l0,h.Xz.aZ s,by rw [ah (fun z=>by have e:=h.iH;rw [z,h.gr.oO] at e;cases e)];exact h.iH,h.ap,h.gl,ir h.fit (agl _),h.len⟩,fun b o' _ _ _ n e=>by rw [ah n];exact e⟩
 refine Paired.cy W fun p' kv z=>⟨z.1,?_⟩
 obtain ⟨l',us',z1,z2,z3⟩:=z.2
 exact ⟨l',us',z1,by rw [ah (fun z=>by rw [z,h.gr.oO] at z2;cases z2)];exact z2,z3.aZ s⟩
end
inductive ib (K:Frag)(CG CF CL CP CN CB CO CT:Addr)(n:Nat)(vs:η)(H:Hp)(Q:VK)(E:XK):Prop where
 | mk (A:NF) (rA dp:Addr) (ls:π) (sv:V) (x:Str) (c:Rat×Rat) (k:Nat) (g:Gd) (ps:ν) (rows:List Rw) (XA:η) (_:vs=[.ref A.ga,.ref rA,.str x,sv]) (_:PD K H CG CF A (.ref dp) g) (_:PcR K H dp ls ps) (_:Apart A dp) (_:wL K H sv c) (_:H rA=some (.lst XA)) (_:Paired (RowC K H []) XA rows) (_:Q6 rows) (_:ajO ps) (_:pO ps n rows) (_:k+n<=30) (_:Sz (1000*k+1) c.1) (_:Sz (1000*k+1) c.2) (_:x.length<=24*k) (_:zx ps n rows x c g (fun g1 gU=>∀(la ld o:Addr) (H' :Hp),KP A H H' ->H la=none->H o=none->s_ K H' CG CF CL A la ld o (.ref dp) sv x c g.done (24*(n+1)) g1 gU->Q (.ref la) H') (pZ CP CN CB CO CT (KP A H) H E)):ib K CG CF CL CP CN CB CO CT n vs H Q E
inductive jr (K:Frag)(CG CF CL CP CN CB CO CT:Addr)(n:Nat)(vs:η)(H:Hp)(Q:VK)(E:XK):Prop where
 | mk (A:NF) (la ld o l dp:Addr) (ls:π) (sv:V) (x:Str) (c:Rat×Rat) (d0 k:Nat) (g:Gd) (own:Own) (ps:ν) (us:η) (pc pre:Str) (a:Rat×Rat) (st:Κ) (_:vs=[.ref A.ga,.ref la,.ref l]) (_:s_ K H CG CF CL A la ld o (.ref dp) sv x c d0 (24*(n+2)) g own) (_:PcR K H dp ls ps) (_:Apart A dp) (_:o≠dp) (_:H l=some (.lst us)) (_:Paired (lY K H) us (fU (.lay pc pre a st))) (_:zy (.lay pc pre a st)) (_:pc∈(ps.take (n+1)).map (·.1)) (_:ajO ps) (_:k+n+1<=30) (_:Sz (1000*k+1) c.1) (_:Sz (1000*k+1) c.2) (_:x.length<=24*k) (_:mS (zx ps n (rowsOf ps pc)) x c (marks pre a st) g own (Vs K CG CF CL A la ld o (.ref dp) sv x c d0 (24*(n+2)) H Q) (pZ CP CN CB CO CT (KO A o H) H E)):jr K CG CF CL CP CN CB CO CT n vs H Q E
theorem aeC {pc pre:Str}{a:Rat×Rat}{st:Κ}(ok:zy (.lay pc pre a st)):∀m∈marks pre a st,m.1.length<=23/\Sz 900 m.2.1/\Sz 900 m.2.2:=by
 obtain ⟨_,okp,ok1,ok2,oks⟩:=ok
 have lp:=okp.len
 cases st with
 | none=>
  intro m hm
  rw [abv.mp hm]
  exact ⟨by show pre.length<=23;omega,(eO ok1).up (by decide),(eO ok2).up (by decide)⟩
 | some z=>
  obtain ⟨k,s⟩:=z
  obtain ⟨_,k60,o1,o2⟩:=oks k s rfl
  intro m hm
  obtain ⟨i,hi,rfl⟩:=aeu.mp hm
  rw [alJ] at hi
  have lt:=Qz (n:=(i:Int)) (k:=2) (by decide) (by show i < 100;omega)
  have si:Sz 6 ((i:Nat):Rat):=by
   rw [<- alG]
   exact Y9 (k:=6) (by show i < 64;omega) (by decide)
  refine ⟨?_,((eO ok1).add (si.mul (eO o1))).up (by decide),((eO ok2).add (si.mul (eO o2))).up (by decide)⟩
  show (pre++tx (i:Int)).length<=23
  rw [bf,cps_append,aa_, <- bf, <- bf]
  omega
theorem c_:av zaB zag (aa dr):=sq
theorem FP {CG CL CF CP CN CB CO CT:Addr}{n lv:Nat}(hlv:37<=lv)(D:Def K mg "lay_piece" dr zag)(gc:GrC K CG)(lc:LyC K CL)(jo:Fn P w K mg base (aV P w) 35 "pair_sum" zah (x6 K fun a b=>a+b))(mW:Fn P w K mg base (aV P w) 36 "prefixes_and_spots" ["row"] (ZF K))
  (MF:bM P w K mg base (aV P w) 1 CL "full_name" zam (pS K CL)) (MP:bM P w K mg base (aV P w) 4 CL "name_pin" zaF (jm K CL CP)) (p9:Fn P w K mg base (aV P w) lv "lay_rows" zao (ib K CG CF CL CP CN CB CO CT n)):
  Fn P w K mg base (aV P w) (lv+1) "lay_piece" zag (jr K CG CF CL CP CN CB CO CT n):=by
 refine D.Yu c_ (fun vs H Q E h=>?_) (fun f cdv A outer s H vs Q E hr h=>?_)
 ·obtain ⟨A',la,ld,o,l,dp,ls,sv,x,c,d0,k,g,own,ps,us,pc,pre,a,st,rfl,_⟩:=h
  rfl
 have px:Passes (aV P w) (gK P w K mg base zaB "lay_piece" (aa dr) f cdv A outer s H E) E:=d_
 obtain ⟨A',la,ld,o,l,dp,ls,sv,x,c,d0,k,g,own,ps,us,pc,pre,a,st,rfl,hL,hP,ap,odp,hl,pu,ok,hpc,pok,kn,z1,z2,lx,q⟩:=h
 obtain ⟨u3,u4,ur,eu,_⟩:=NL pu
 have i1:mv us 1=some (.str pc):=by rw [eu];exact b5 (j:=1) rfl
 obtain ⟨i,p,hi,ei,ep,er⟩:=ZG pok.nd hpc
 have il:=(W1.mp ei).1
 have eil:ls[i]? =some (ls[i]'(by rw [hP.len];exact il)):=gE _
 generalize ls[i]'(by rw [hP.len];exact il)=lP at eil
 have mok:=aeC ok
 have lx1:x.length<=1000:=by omega
 refine ⟨_,(ag (i8 PassesOwn.leaving rfl (kU (aR mW (hr.mono (by omega)) px (aG (pv 2)))) (pA rfl (cB (ku (i:=3) c_.nd) (cB (ku (i:=4) c_.nd) kT))) (ae (aO (i:=5) c_.nd (aR jo (hr.mono (by omega)) px (aU (ba (pv 1) rfl) (pv 4))))
   (ae (aO (i:=6) c_.nd (aR p9 (hr.mono (by omega)) px (mw (pv 0) (dm (wK (iJ hr) (ba (pv 0) rfl) (cW (pv 2)) (fun _ _=>rfl)) (df (k:=1) (pv 1) (hr.mono (by omega)) px (aG (pv 3))) (pv 5)))))
   (ag (Tu (i8 PassesOwn.leaving rfl (L_ (ba (pv 6) rfl)) (pA rfl (cB (ku (i:=7) c_.nd) (cB (ku (i:=8) c_.nd) kT))) (ag (bj (df (k:=4) (pv 1) (hr.mono (by omega)) px (aU (aC eY (pv 3) (pv 7)) (pv 8)))))))))))),?_⟩
 refine ⟨_,rfl,l,us,pc,pre,a,st,rfl,hl,pu,ok,fun lm ms H1 s1 nlm elm pm=>?_⟩
 have L1:=hL.same s1
 have P1:PcR K H1 dp ls ps:=hP.keep (s1 _ _ hP.t_) (fun b xs e=>s1 _ _ e) (.of s1)
 have Vr:=s1 _ _ hl
 have lmm:ms.length=(marks pre a st).length:=Paired.length pm
 refine ⟨lm,rfl,⟨_,bq.of elm⟩,qH (K:=K) (a:=lm) (xs:=ms) (fun j σ H' =>Ex8 fun (o3 o4 o5 o6 o7 o8:Η) (g1:Gd) (gU:Own)=>σ=[some (.ref A'.ga),some (.ref la),some (.ref l),o3,o4,o5,o6,o7,o8]/\KO A' o H1 H' /\s_ K H' CG CF CL A' la ld o (.ref dp) sv x c d0 (24*(n+2)) g1 gU/\mS (zx ps n (rowsOf ps pc)) x c ((marks pre a st).drop j) g1 gU (Vs K CG CF CL A' la ld o (.ref dp) sv x c d0 (24*(n+2)) H Q) (pZ CP CN CB CO CT (KO A' o H) H E)) ⟨none,none,none,none,none,none,g,own,rfl,.of (az.refl _),L1,q⟩ (fun j σ H' _ h=>by
   obtain ⟨_,_,_,_,_,_,_,_,_,h,_⟩:=h
   exact bq.of (L1.lst h elm)) ?_ ?_⟩
 ·rintro j v σ H2 ej ⟨o3,o4,o5,o6,o7,o8,g1,gU,rfl,k2,L2,q2⟩
  obtain ⟨m,em,t,ua,rfl,ht,hua⟩:=b8 pm ej
  have jl:=(W1.mp em).1
  have ed:(marks pre a st).drop j=m::(marks pre a st).drop (j+1):=by
   rw [afZ jl]
   rw [gE jl] at em
   rw [abq em]
  rw [ed] at q2
  obtain ⟨ml,mz1,mz2⟩:=mok m (abw em)
  have t12:bg H1 H2:=L1.gr.aZ L1.iH k2
  have dp2:H2 dp=some (.dK (cD ps ls)):=k2 _ _ ap.o1 ap.o2 ap.o3 (fun z=>by have e:=L1.gr.oO;rw [<- z,P1.t_] at e;cases e) (ac_ odp) P1.t_
  have P2:=P1.keep dp2 (fun b xs e=>L1.lst k2 e) t12
  have hl2:=L1.lst k2 Vr
  refine ⟨t,_,rfl,t12.km ht,rfl,_,_,rfl,_,_,rfl,rfl,?_⟩
  have sz1:Sz 100000 c.1:=z1.up (by omega)
  have sz2:Sz 100000 c.2:=z2.up (by omega)
  refine ⟨_,rfl,la,CL,ld,_,_,rfl,L2.l0,lc.cls,lc.st,aoG,_,rfl,sv,ua,c,m.2,rfl,L2.Xz,hua.aZ t12,sz1,sz2,mz1.up (by decide),mz2.up (by decide),fun v3 H3 s3 h3=>?_⟩
  have L3:=L2.same s3
  have P3:PcR K H3 dp ls ps:=P2.keep (s3 _ _ P2.t_) (fun b xs e=>s3 _ _ e) (.of s3)
  have Vt:=s3 _ _ hl2
  have dv:gZ (cD ps ls) (.inr pc)=some (.ref lP):=by rw [<- ep];exact FG pok.nd eil ei
  obtain ⟨ys,hy,pys⟩:=P3.oN i lP p eil ei
  refine ⟨_,rfl,_,rfl,A'.ga,CG,A'.gd,_,_,rfl,L3.gr.oO,gc.cls,gc.pi,avw,_,rfl,l,_,_,_,rfl,rfl,bq.of Vt,i1,dp,.ref lP,rfl,(by rw [<- dv];exact ki.k (k:=.inr pc) P3.t_),_,rfl,la,CL,ld,_,_,_,rfl,L3.l0,rfl,MF,_,rfl,la,ld,o,x,m.1,sv,rfl,L3.l0,lx1,(by omega),_,rfl,?_⟩
  have s13:KO A' o H1 H3:=k2.trans (.of s3)
  have mm:KO A' o H H3:=(KO.of s1).trans s13
  have nb3:NB H H3:=L3.nb mm
  have z1' :Sz (1000*(k+1)+1) (QX c m.2).1:=(z1.add mz1).up (by omega)
  have z2' :Sz (1000*(k+1)+1) (QX c m.2).2:=(z2.add mz2).up (by omega)
  have lx' :(x++m.1).length<=24*(k+1):=by
   rw [bf,cps_append,aa_, <- bf, <- bf]
   omega
  refine ⟨A',lP,dp,ls,v3,x++m.1,QX c m.2,k+1,g1,ps,rowsOf ps pc,ys,rfl,L3.gr,P3,ap,h3,hy,(by rw [er];exact pys),(by rw [er];exact pok.ok p (abw ei)),pok,(by rw [er];exact tZ (pok.lay i p ei) (by omega)),by omega,z1',z2',lx',?_⟩
  refine iY ps n (rowsOf ps pc) _ _ _ _ _ _ _ (fun g2 below q4 lb lbd ob H4 k4 nlb nob L4=>?_) (fun e he=>wW (fun H' kk=>mm.trans (KP.ko kk)) nb3 he) q2
  have k14:KO A' o H1 H4:=s13.trans (KP.ko k4)
  have no4:ob≠o:=fun z=>by rw [z,L3.iH] at nob;cases nob
  have LL4:s_ K H4 CG CF CL A' la ld o (.ref dp) sv x c d0 (24*(n+2)) g2 gU:=by
   have hn:∀{b:Addr} {ob' :HO},H3 b=some ob' ->(∀kvs,ob' ≠.dK kvs)->(∀d fs,ob' ≠.ins CG d fs)->H4 b=some ob' :=fun {b ob'} e h1 h2=>by
    obtain ⟨a1,a2,a3,a4⟩:=L3.gr.off e h1 h2
    exact k4 _ _ a1 a2 a3 a4 e
   refine ⟨L4.gr,?_,L3.Xz.aZ (L3.gr.NG k4),?_,L3.ap,L3.gl,?_,L3.len⟩
   ·obtain ⟨_,_,_,R3,_⟩:=L3.gr.fr
    exact k4 _ _ (fun z=>by have e:=L3.l0;rw [z,R3.pl] at e;cases e) (fun z=>by have e:=L3.l0;rw [z,R3.wy] at e;cases e) (fun z=>by have e:=L3.l0;rw [z,R3.br] at e;cases e) (ac_ L3.gl) L3.l0
   ·exact k4 _ _ L3.ap.o1 L3.ap.o2 L3.ap.o3 (fun z=>by have e:=L3.iH;rw [z,L3.gr.oO] at e;cases e) L3.iH
   ·have a1:=L3.fit
    have a2:=L4.fit
    omega
  have avD:gU.length+d0+below.length<=g2.done:=by
   have a1:=L3.fit
   have a2:=L4.fit
   omega
  refine ⟨_,rfl,lb,CL,lbd,_,_,rfl,L4.l0,lc.cls,lc.ow,Zy,ob,_,rfl,L4.iH,fun oo=>?_⟩
  have eob:H4 ob=some (.dK (fm below)):=L4.iH
  have LL5:=LL4.other (ob' :=.j8 oo (.dK (fm below))) eob (fun _ z=>nomatch z) (fun _ z=>nomatch z) (fun _ _ z=>nomatch z) (fun _ _ _ z=>nomatch z) L4.ap no4
  have ajP:H1 ob=none:=L3.nb s13 ob nob
  have k15:KO A' o H1 (upd H4 ob (.j8 oo (.dK (fm below)))):=fun b o' n1 n2 n3 n4 n5 e=>by rw [ah (ak e ajP)];exact k14 b o' n1 n2 n3 n4 n5 e
  have e5:(upd H4 ob (.j8 oo (.dK (fm below)))) ob=some (.j8 oo (.dK (fm below))):=aj
  generalize upd H4 ob (.j8 oo (.dK (fm below)))=H5 at LL5 k15 e5 ⊢
  refine BO (d:=ob) (o:=oo) (kvs:=fm below) (fun t σ H' =>Ex3 fun (o7 o8:Η) (ue:Own)=>σ=[some (.ref A'.ga),some (.ref la),some (.ref l),some (.str m.1),some ua,some v3,some (.ref lb),o7,o8]/\KO A' o H1 H' /\H' ob=some (.j8 oo (.dK (fm below)))/\s_ K H' CG CF CL A' la ld o (.ref dp) sv x c d0 (24*(n+2)) g2 ue/\ue.length=gU.length+t/\lF x m.1 (below.drop t) ue (fun avE=>mS (zx ps n (rowsOf ps pc)) x c ((marks pre a st).drop (j+1)) g2 avE (Vs K CG CF CL A' la ld o (.ref dp) sv x c d0 (24*(n+2)) H Q) (pZ CP CN CB CO CT (KO A' o H) H E)) (pZ CP CN CB CO CT (KO A' o H) H E)) ⟨_,_,gU,rfl,k15,e5,LL5,rfl,q4⟩ (fun t σ H' _ h=>by
    obtain ⟨_,_,_,_,_,h,_⟩:=h
    exact h) ?_ ?_
  ·rintro t k7 y σ H6 p7 ekv ⟨o7,o8,ue,rfl,k6,e6,L6,l6,q6⟩ n7
   unfold fm at ekv
   rw [abx] at ekv
   obtain ⟨z,ez,ekz⟩:=abD.mp ekv
   obtain ⟨rfl,rfl⟩:=aox ekz
   have tl:=(W1.mp ez).1
   have edz:below.drop t=z::below.drop (t+1):=by
    rw [afZ tl]
    rw [gE tl] at ez
    rw [abq ez]
   rw [edz] at q6
   unfold lF at q6
   have lz:=L4.len z (abw ez)
   have s7:=aT n7 (.tup [kV (.inr z.1),.str z.2])
   have et7:(upd H6 p7 (.tup [kV (.inr z.1),.str z.2])) p7=some (.tup [kV (.inr z.1),.str z.2]):=aj
   have L7:=L6.same s7
   have e7:=s7 _ _ e6
   have k7' :KO A' o H1 (upd H6 p7 (.tup [kV (.inr z.1),.str z.2])):=k6.trans (.of s7)
   generalize upd H6 p7 (.tup [kV (.inr z.1),.str z.2])=H7 at s7 et7 L7 e7 k7' ⊢
   refine ⟨p7,_,rfl,cT.of et7,rfl,_,_,rfl,_,_,rfl,rfl,?_⟩
   have lmz:(m.1++z.1).length=m.1.length+z.1.length:=by rw [bf,cps_append,aa_, <- bf, <- bf]
   refine ⟨_,rfl,la,CL,ld,_,_,_,rfl,L7.l0,rfl,MP,_,rfl,_,rfl,m.1,z.1,rfl,rfl,ir (show m.1.length+z.1.length<=1000 by omega) (by decide),_,rfl,?_⟩
   refine ⟨la,ld,o,x,m.1++z.1,z.2,sv,ue,rfl,L7.l0,L7.iH,lx1,by omega,(by have:=L7.gr.ld;have:=L7.fit;omega),fun ht=>?_,fun ht=>?_⟩
   ·rw [if_pos ht] at q6
    have k07:KO A' o H H7:=(KO.of s1).trans k7'
    exact fun d H' sH nd hd=>q6 d H' (k07.trans (.of sH)) (L7.nb k07 d nd) hd
   ·rw [if_neg ht] at q6
    obtain ⟨L8,k8⟩:=L7.name (y:=m.1++z.1) (z:=z.2) (by have:=avD;have:t < below.length:=tl;omega) (by omega)
    refine ⟨_,_,_,rfl,k7'.trans k8,?_,L8,?_,q6⟩
    ·rw [ah no4]
     exact e7
    ·rw [aa_,adL,l6]
     omega
  ·rintro σ H6 ⟨o7,o8,ue,rfl,k6,e6,L6,l6,q6⟩
   have lk:(fm below).length=below.length:=by unfold fm;rw [Wp]
   rw [lk,agM] at q6
   refine ⟨ob,oo,fm below,e6,fun o' u' z=>(by have z' :H ob=some (.j8 o' u'):=z;rw [aJ s1 ajP] at z';cases z'),?_⟩
   have L8:=L6.other (ob' :=.dK (fm below)) e6 (fun _ z=>nomatch z) (fun _ z=>nomatch z) (fun _ _ z=>nomatch z) (fun _ _ _ z=>nomatch z) L4.ap no4
   exact ⟨_,_,_,_,_,_,g2,ue,rfl,fun b o' n1 n2 n3 n4 n5 e=>by rw [ah (ak e ajP)];exact k6 b o' n1 n2 n3 n4 n5 e,L8,q6⟩
 ·rintro σ H2 ⟨o3,o4,o5,o6,o7,o8,g1,gU,rfl,k2,L2,q2⟩
  rw [lmm,agM] at q2
  exact q2 H2 ((KO.of s1).trans k2) L2
theorem ZH {H:Hp}{us:η}{r:Rw}(p:Paired (lY K H) us (fU r)):mv us 0=some (.str (B_ (.row r))):=FF (sg:=.row r) p
theorem mX:av zaP zao (aa gp):=sq
theorem NN {CG CL CF CP CN CB CO CT fL:Addr}{fdL:FuncData}{n lv:Nat}{spP:Sp}(hlv:37<=lv)(D:Def K mg "lay_rows" gp zao)(yw:Mk K CL fL)(yx:mg "Laying"=some (.ref CL))(zE:bH P w K mg base (aV P w) 1 fL fdL zaH (yn K CL))(j4:Binds K fdL zaH [])
  (MC:bM P w K mg base (aV P w) 3 CG "count_row" zas (rn K CG CT)) (Vu:Fn P w K mg base (aV P w) 37 "lay_pin" zag (yu K CG CF CL CP CN CB CO CT)) (Vv:Fn P w K mg base (aV P w) 37 "lay_bar" zag (yv K CG CF CL CP CN CB CO CT))
  (NO:Fn P w K mg base (aV P w) lv "lay_piece" zag spP) (hP:∀m,n=m+1->∀vs H Q E,jr K CG CF CL CP CN CB CO CT m vs H Q E->spP vs H Q E):
  Fn P w K mg base (aV P w) (lv+1) "lay_rows" zao (ib K CG CF CL CP CN CB CO CT n):=by
 refine D.Yu mX (fun vs H Q E h=>?_) (fun f cdv A outer s H vs Q E hr h=>?_)
 ·obtain ⟨A',rA,dp,ls,sv,x,c,k,g,ps,rows,XA,rfl,_⟩:=h
  rfl
 have px:Passes (aV P w) (gK P w K mg base zaP "lay_rows" (aa gp) f cdv A outer s H E) E:=d_
 obtain ⟨A',rA,dp,ls,sv,x,c,k,g,ps,rows,XA,rfl,G0,P0,ap,Xz,hrA,pr,rok,pok,lay,kn,z1,z2,lx,q⟩:=h
 have lr:XA.length=rows.length:=Paired.length pr
 refine ⟨_,(ae (aO (i:=4) mX.nd (DM yw zE (hr.mono (by omega)) rfl yx j4 .nil px (aU (pv 2) (pv 3))))
  (ae (i8 PassesOwn.leaving rfl (kU (pv 1)) (ku (i:=5) mX.nd) (ae (bj (ED (k:=3) (pv 0) (hr.mono (by omega)) px))
   (ag (aK (aE a9 (cW (pv 5)) au) (ag (bj (aR Vu (hr.mono (by omega)) px (dm (pv 0) (pv 4) (pv 5))))) (ag (aK (aE a9 (cW (pv 5)) au) (ag (bj (aR Vv (hr.mono (by omega)) px (dm (pv 0) (pv 4) (pv 5))))) (ag (bj (aR NO (hr.mono (by omega)) px (dm (pv 0) (pv 4) (pv 5)))))))))))
  (ag (aA (pv 4))))),?_⟩
 refine ⟨_,rfl,_,rfl,?_⟩
 intro la ld nla nld nel
 have sL:az H (upd (upd H ld (.own la)) la (.ins CL ld [])):=fun b o e=>by rw [ah (ak e nla),ah (ak e nld)];exact e
 refine ⟨la,ld,x,sv,rfl,aj,fun o H1 k1 no avH ho1=>⟨rfl,?_⟩⟩
 have no:=aJ sL no
 have s1:az H H1:=fun b o e=>k1 b o (ak e nla) (sL _ _ e)
 obtain ⟨kP,kW,kB,R0,W0⟩:=G0.fr
 have L1:s_ K H1 CG CF CL A' la ld o (.ref dp) sv x c g.done (24*(n+1)) g []:=⟨G0.same s1,avH,Xz.same s1,ho1,⟨fun z=>(by rw [z,R0.pl] at no;cases no),fun z=>(by rw [z,R0.wy] at no;cases no),fun z=>(by rw [z,R0.br] at no;cases no)⟩,ak G0.oO nla,(by show 0+g.done<=g.done;omega),(fun _ h=>nomatch h)⟩
 let aoJ :Str->Str->Rat×Rat->Gd->GO->(gL->Prop)->Prop:=match n with
  | 0=>fun _ _ _ _ _ E=>E .many
  | m+1=>fun pc x c g Q E=>zx ps m (rowsOf ps pc) x c g Q E
 have avI:∀Q' E',zx ps n rows x c g Q' E' =mT aoJ x c rows g [] Q' E' :=fun Q' E' =>by
  cases n with
  | zero=>rfl
  | succ m=>rfl
 rw [avI] at q
 have kko:∀{H2 H' :Hp},KP A' H H2->KO A' o H2 H' ->KP A' H H' :=fun {H2 H'} a b c' o' n1 n2 n3 n4 e=>b c' o' n1 n2 n3 n4 (ak e no) (a c' o' n1 n2 n3 n4 e)
 have odp:o≠dp:=fun z=>by rw [z,P0.t_] at no;cases no
 refine ⟨_,rfl,rA,rfl,⟨_,bq.of (s1 _ _ hrA)⟩,qH (K:=K) (a:=rA) (xs:=XA) (fun i σ H' =>Ex3 fun (o5:Η) (g1:Gd) (gU:Own)=>σ=[some (.ref A'.ga),some (.ref rA),some (.str x),some sv,some (.ref la),o5]/\KP A' H H' /\s_ K H' CG CF CL A' la ld o (.ref dp) sv x c g.done (24*(n+1)) g1 gU/\mT aoJ x c (rows.drop i) g1 gU (fun g1 gU=>∀(la ld o:Addr) (H' :Hp),KP A' H H' ->H la=none->H o=none->s_ K H' CG CF CL A' la ld o (.ref dp) sv x c g.done (24*(n+1)) g1 gU->Q (.ref la) H') (pZ CP CN CB CO CT (KP A' H) H E)) ⟨none,g,[],rfl,.of s1,L1,q⟩ (fun i σ H' _ h=>by
   obtain ⟨_,_,_,_,h,_⟩:=h
   exact bq.of (G0.lst h hrA)) ?_ ?_⟩
 ·rintro i u σ H2 ei ⟨o5,g1,gU,rfl,k2,L2,q2⟩
  obtain ⟨r,er,l,us,rfl,_,hl,pu⟩:=b8 pr ei
  have jl:=(W1.mp er).1
  have mr:r∈rows:=abw er
  have ed:rows.drop i=r::rows.drop (i+1):=by
   rw [afZ jl]
   rw [gE jl] at er
   rw [abq er]
  rw [ed] at q2
  unfold mT at q2
  have t2:=G0.NG k2
  refine ⟨_,rfl,A'.ga,CG,A'.gd,_,_,_,rfl,L2.gr.oO,rfl,MC,A'.ga,A'.gd,A'.fr,.ref dp,(g1.done:Int),rfl,L2.gr.oO,fun c5=>?_,fun c5=>?_⟩
  ·rw [if_pos (by omega)] at q2
   exact q2 H2 k2
  rw [if_neg (by omega)] at q2
  obtain ⟨L3,kc⟩:=L2.count (by omega)
  have k3:=k2.trans kc
  generalize upd H2 A'.ga (.ins CG A'.gd (Q0 A'.fr (.ref dp) ((g1.done:Int)+1)))=H3 at L3 kc k3 ⊢
  have t3:=G0.NG k3
  have Vt:=G0.lst k3 hl
  have pu3:Paired (lY K H3) us (fU r):=Paired.cy pu fun _ _ z=>z.aZ t3
  have i0:=ZH pu
  obtain ⟨okr,okh⟩:=rok r mr
  have lxx:x.length<=1000:=by omega
  have eup:∀e,pZ CP CN CB CO CT (KP A' H) H E e->pZ CP CN CB CO CT (KO A' o H3) H3 E e:=fun e he=>wW (fun H' kk=>kko k3 kk) (L3.gr.nb k3) he
  have L3g:gU.length+g.done<=g1.done:=L2.fit
  refine ⟨_,rfl,l,_,_,_,rfl,rfl,bq.of Vt,i0,rfl,_,rfl,?_⟩
  cases r with
  | pin p=>
   refine aI (fun _=>?_) (fun c=>absurd (decide_eq_true rfl) c)
   refine ⟨_,rfl,_,rfl,_,rfl,A',la,ld,o,l,.ref dp,sv,x,c,g.done,24*(n+1),{g1 with done:=g1.done+1},gU,us,p,rfl,L3,(by show gU.length+1+g.done<=g1.done+1;omega),by omega,Vt,pu3,okr,okh p rfl,lxx,z1.up (by omega),z2.up (by omega),?_⟩
   exact CH (fun g2 ue z H' kk LL=>⟨_,g2,ue,rfl,kko k3 kk,LL,z⟩) eup q2
  | bar nm one other=>
   refine aI (fun c=>absurd (of_decide_eq_true c) (ne_str (by decide+kernel:("bar":Str)≠ "pin"))) (fun _=>?_)
   refine ⟨_,rfl,l,_,_,_,rfl,rfl,bq.of Vt,i0,rfl,_,rfl,?_⟩
   refine aI (fun _=>?_) (fun c=>absurd (decide_eq_true rfl) c)
   refine ⟨_,rfl,_,rfl,_,rfl,A',la,ld,o,l,.ref dp,sv,x,c,g.done,24*(n+1),{g1 with done:=g1.done+1},gU,us,nm,one,other,rfl,L3,Vt,pu3,okr,lxx,?_⟩
   exact CI (fun g2 ue z H' kk LL=>⟨_,g2,ue,rfl,kko k3 kk,LL,z⟩) eup q2
  | lay pc pre a st=>
   refine aI (fun c=>absurd (of_decide_eq_true c) (ne_str (by decide+kernel:("lay":Str)≠ "pin"))) (fun _=>?_)
   refine ⟨_,rfl,l,_,_,_,rfl,rfl,bq.of Vt,i0,rfl,_,rfl,?_⟩
   refine aI (fun c=>absurd (of_decide_eq_true c) (ne_str (by decide+kernel:("lay":Str)≠ "bar"))) (fun _=>?_)
   have hpc:=lay pc pre a st mr
   cases n with
   | zero=>cases hpc
   | succ m=>
    have d3:H3 dp=some (.dK (cD ps ls)):=k3 _ _ ap.o1 ap.o2 ap.o3 (fun z=>by have e:=G0.oO;rw [<- z,P0.t_] at e;cases e) P0.t_
    have P3:=P0.keep d3 (fun b xs e=>G0.lst k3 e) t3
    refine ⟨_,rfl,_,rfl,_,rfl,hP m rfl _ _ _ _ ⟨A',la,ld,o,l,dp,ls,sv,x,c,g.done,k,{g1 with done:=g1.done+1},gU,ps,us,pc,pre,a,st,rfl,L3,P3,ap,odp,Vt,pu3,okr,hpc,pok,by omega,z1,z2,lx,?_⟩⟩
    exact mV (iY ps m (rowsOf ps pc)) (fun g2 ue z H' kk LL=>⟨_,g2,ue,rfl,kko k3 kk,LL,z⟩) eup _ _ _ q2
 ·rintro σ H2 ⟨o5,g1,gU,rfl,k2,L2,q2⟩
  rw [lr,agM] at q2
  exact ⟨_,rfl,q2 la ld o H2 k2 nla no L2⟩
theorem TY {CG CL CF CP CN CB CO CT:Addr}(DP:Def K mg "lay_piece" dr zag)
  (zero:∀{lv:Nat} {spP:Sp} {n:Nat},37<=lv->Fn P w K mg base (aV P w) lv "lay_piece" zag spP->(∀m,n=m+1->∀vs H Q E,jr K CG CF CL CP CN CB CO CT m vs H Q E->spP vs H Q E)->Fn P w K mg base (aV P w) (lv+1) "lay_rows" zao (ib K CG CF CL CP CN CB CO CT n))
  (step:∀{lv n:Nat},37<=lv->Fn P w K mg base (aV P w) lv "lay_rows" zao (ib K CG CF CL CP CN CB CO CT n)->Fn P w K mg base (aV P w) (lv+1) "lay_piece" zag (jr K CG CF CL CP CN CB CO CT n)):
  ∀n,Fn P w K mg base (aV P w) (38+2*n) "lay_rows" zao (ib K CG CF CL CP CN CB CO CT n)
 | 0=>zero (lv:=37) (spP:=fun _ _ _ _=>False) (abt _) (DP.Yu c_ (fun _ _ _ _ h=>h.elim) (fun _ _ _ _ _ _ _ _ _ _ h=>h.elim)) (fun _ z=>nomatch z)
 | n+1=>zero (lv:=38+2*n+1) (by omega) (step (by omega) (TY DP zero step n)) (fun m e vs H Q E h=>by cases e;exact h)
structure FrG (K:Frag)(H:Hp)(CF a:Addr)(g:Gd):Prop where
 ex:∃FJ pP pW pB kP kW kB,jC K H CF a FJ pP pW pB (psF g) g.mi kP kW kB/\WyR K H (pwF g) kW
 nd:(g.pins.map (·.nm)).Nodup
 lp:g.pins.length<=24
 lb:g.mi.length<=60
def NP (K:Frag)(CF CP CN CB CO CT:Addr)(ps:ν)(rows:List Rw)(H:Hp)(Q:VK)(E:XK):Prop:=zx ps 13 rows "" (0,0) ⟨[],[],0⟩ (fun g1 _=>∀a H',az H H' ->FrG K H' CF a g1->Q (.ref a) H') (pZ CP CN CB CO CT (az H) H E)
inductive Q7 (K:Frag)(CF CP CN CB CO CT:Addr)(vs:η)(H:Hp)(Q:VK)(E:XK):Prop where
 | mk (rA dp:Addr) (ls:π) (ps:ν) (rows:List Rw) (XA:η) (_:vs=[.ref rA,.ref dp]) (_:PcR K H dp ls ps) (_:H rA=some (.lst XA)) (_:Paired (RowC K H []) XA rows) (_:Q6 rows) (_:ajO ps) (_:pO ps 13 rows) (_:NP K CF CP CN CB CO CT ps rows H Q E):Q7 K CF CP CN CB CO CT vs H Q E
theorem CJ {k:Nat}(h:1<=k):Sz k (0:Rat):=by
 have z:Sz 1 (0:Rat):=⟨by rw [cZ];decide,by rw [cZ];decide⟩
 exact z.up h
theorem oP:av ["rows","pieces","ground"] za2 (aa dC):=sq
theorem zF {CG CL CF CP CN CB CO CT fG aM:Addr}{fdG:FuncData}(D:Def K mg "laid_frame" dC za2)(gc:GrC K CG)(yy:Mk K CG fG)(yz:mg "Ground"=some (.ref CG))(zG:bH P w K mg base (aV P w) 3 fG fdG zaU (FI K CG CF))(j5:Binds K fdG zaU [])
  (ajQ:mg "NO_MOVE"=some (.ref aM)) (hM' :∀H,wL K H (.ref aM) (0,0)) (p9:Fn P w K mg base (aV P w) 64 "lay_rows" zao (ib K CG CF CL CP CN CB CO CT 13)):
  Fn P w K mg base (aV P w) 65 "laid_frame" za2 (Q7 K CF CP CN CB CO CT):=by
 refine D.Yu oP (fun vs H Q E h=>?_) (fun f cdv A outer s H vs Q E hr h=>?_)
 ·obtain ⟨rA,dp,ls,ps,rows,XA,rfl,_⟩:=h
  rfl
 have px:Passes (aV P w) (gK P w K mg base ["rows","pieces","ground"] "laid_frame" (aa dC) f cdv A outer s H E) E:=d_
 obtain ⟨rA,dp,ls,ps,rows,XA,rfl,hP,hrA,pr,rok,pok,lay,q⟩:=h
 refine ⟨_,(ae (aO (i:=2) oP.nd (DM yy zG hr.mo rfl yz j5 .nil px (aG (pv 1))))
  (ae (bj (aR p9 hr.mo px (mw (pv 2) (dm (pv 0) au (dy (v:=.ref aM) rfl ajQ rfl)))))
  (ag (aA (ba (pv 2) rfl))))),?_⟩
 refine ⟨_,rfl,?_⟩
 intro ga gd nga ngd neg
 have sG:az H (upd (upd H gd (.own ga)) ga (.ins CG gd [])):=fun b o e=>by rw [ah (ak e nga),ah (ak e ngd)];exact e
 refine ⟨ga,gd,.ref dp,rfl,aj,fun fr FJ pP pW pB H1 k1 nf nP nW nB R1 hg1=>⟨rfl,?_⟩⟩
 have nf:=aJ sG nf
 have nP:=aJ sG nP
 have nW:=aJ sG nW
 have nB:=aJ sG nB
 have s1:az H H1:=fun b o e=>k1 b o (ak e nga) (sG _ _ e)
 have kp:∀{H'},KP ⟨ga,gd,fr,FJ,pP,pW,pB⟩ H1 H' ->az H H' :=fun {H'} k b o e=>k b o (ak e nP) (ak e nW) (ak e nB) (ak e nga) (s1 _ _ e)
 refine ⟨_,rfl,_,rfl,⟨ga,gd,fr,FJ,pP,pW,pB⟩,rA,dp,ls,.ref aM,"",(0,0),0,⟨[],[],0⟩,ps,rows,XA,rfl,⟨hg1,⟨[],[],[],R1,.nil⟩,am_,by decide,by decide,by decide⟩,hP.keep (s1 _ _ hP.t_) (fun b xs e=>s1 _ _ e) (.of s1),⟨ak hP.t_ nP,ak hP.t_ nW,ak hP.t_ nB⟩,hM' H1,s1 _ _ hrA,Paired.cy pr fun _ _ z=>z.keep (fun b xs e=>s1 _ _ e) (.of s1),rok,pok,lay,by decide,CJ (by decide),CJ (by decide),by decide+kernel,?_⟩
 refine iY ps 13 rows _ _ _ _ _ _ _ (fun g1 gU z la ld o H2 k2 _ _ L2=>?_) (fun e he=>wW (fun H' k=>kp k) (.of s1) he) q
 obtain ⟨kP,kW,kB,R2,W2⟩:=L2.gr.fr
 exact ⟨_,rfl,ga,CG,gd,_,_,rfl,L2.gr.oO,gc.cls,gc.fr,aep,z fr H2 (kp k2) ⟨⟨_,_,_,_,kP,kW,kB,R2,W2⟩,L2.gr.nd,L2.gr.lp,L2.gr.lb⟩⟩
noncomputable def js (x:Str):List Str:=if x="" then [] else Txt.split x "\n"
structure ZI (R:Str->Option Sg)(x:Str):Prop where
 len:x.length+2<=sizeLine
 ws:(Txt.split x " ").length<=1000
 tk:∀w∈Txt.split x " ",YO w
 rd:ck bX (Txt.split x " ")=(R x).map dq
 ok:∀sg,R x=some sg->FD sg
def lM (K:Frag)(CF CP CN CB CO CT CX:Addr):Sp:=fun vs H Q E=>(∃(x:Str) (R:Str->Option Sg),vs=[.str x]/\x.length+2<=sizeLine/\(js x).length<=900/\(∀r∈js x,ZI R r)/\lZ R (js x) 0 ⟨[],[],none⟩ (fun sh=>sh.pieces.length<=13/\NP K CF CP CN CB CO CT sh.pieces sh.outside H Q E) (fun k=>bS H E CX "at" (.int (k:Int))))\/
 (∃u:V,vs=[u]/\jM H u/\bS H E CX "at" (.int 0))
structure ShL (sh:Sh)(m:Nat):Prop where
 o:sh.outside.length<=m
 p:sh.pieces.length<=m
 r:∀p∈sh.pieces,p.2.length<=m
theorem ZJ {sh:Sh}{m:Nat}(h:ShL sh m)(sg:Sg):ShL (di sh sg) (m+1):=by
 have ho:=h.o
 have hp:=h.p
 have hr:∀p∈sh.pieces,p.2.length<=m+1:=fun p hp=>aga (h.r p hp)
 cases sg with
 | du n=>
  refine ⟨aga ho,?_,fun p hp=>?_⟩
  ·show (sh.pieces++[(n,[])]).length<=m+1
   rw [aa_,adL]
   omega
  ·rcases abB.mp hp with z | z
   ·exact hr p z
   ·rw [abv.mp z]
    exact af0 _
 | fin=>exact ⟨aga ho,aga hp,hr⟩
 | row r=>
  cases c:sh.cur with
  | none=>
   have ek:di sh (.row r)={sh with outside:=sh.outside++[r]}:=by simp only [di,c]
   rw [ek]
   refine ⟨?_,aga hp,hr⟩
   show (sh.outside++[r]).length<=m+1
   rw [aa_,adL]
   omega
  | some n=>
   have ek:di sh (.row r)={sh with pieces:=cw sh.pieces n r}:=by simp only [di,c]
   rw [ek]
   refine ⟨aga ho,?_,fun p hp=>?_⟩
   ·show (cw sh.pieces n r).length<=m+1
    unfold cw
    rw [Wp]
    omega
   ·obtain ⟨q,hq,rfl⟩:=aeu.mp hp
    have:=h.r q hq
    split
    ·show (q.2++[r]).length<=m+1
     rw [aa_,adL]
     omega
    ·omega
theorem RowC.any {H:Hp}{cs:π}{u:V}{r:Rw}(h:RowC K H cs u r):RowC K H [] u r:=by
 obtain ⟨l,us,e,n,hl,p⟩:=h
 exact ⟨l,us,e,(fun z=>nomatch z),hl,p⟩
theorem bQ:av zaE zaM (aa cH):=sq
theorem zH {CS CF CP CN CB CO CT CX fS fX aF:Addr}{fdS fdX:FuncData}(D:Def K mg "read_frame" cH zaM)(aD:mg "isinstance"=none)(jh:mg "str"=none)(bP:mg "len"=none)(jO:mg "enumerate"=none)(sc:ShC K CS)(wY:Mk K CS fS)(wZ:mg "Sheet"=some (.ref CS))(rC:bH P w K mg base (aV P w) 1 fS fdS zas (yi K CS))(iR:Binds K fdS zas [])
  (fo:mg "NoLine"=some (.ref CX)) (iw:pF K CX fX) (dZ:bH P w K mg base (aV P w) 1 fX fdX za3 (fT CX "at")) (cK:Binds K fdX za3 [])
  (MS:bM P w K mg base (aV P w) 1 CS "may_stand" zaC (wU K CS)) (MK:bM P w K mg base (aV P w) 1 CS "keep" zaC (FH K CS))
  (w6:mg "FORMS"=some (.ref aF)) (hF:∀H,cT K H aF (bX.map V.str)) (yA:Fn P w K mg base (aV P w) 40 "read_row" za4 (Zq K)) (rE:Fn P w K mg base (aV P w) 65 "laid_frame" za2 (Q7 K CF CP CN CB CO CT)):
  Fn P w K mg base (aV P w) 66 "read_frame" zaM (lM K CF CP CN CB CO CT CX):=by
 refine D.Yu bQ (fun vs H Q E h=>?_) (fun f cdv A outer s H vs Q E hr h=>?_)
 ·rcases h with ⟨x,R,rfl,_⟩ | ⟨u,rfl,_⟩ <;> rfl
 have px:Passes (aV P w) (gK P w K mg base zaE "read_frame" (aa cH) f cdv A outer s H E) E:=d_
 have L1:1<=sizeLine:=by decide
 rcases h with ⟨x,R,rfl,lz,l9,rd,q⟩ | ⟨u,rfl,hu,qe⟩
 ·have ln:(("\n":Str).length==0)=false:=by decide+kernel
  have tail:∃t,PSs (gK P w K mg base zaE "read_frame" (aa cH) f cdv A outer s H E) ((aq cH).drop 2) t/\∀(lR:Addr) (H1:Hp),az H H1->H1 lR=some (.lst ((js x).map V.str))->
    t {nx:=fun _ H' =>Q .bN H',rt:=Q} [some (.str x),some (.ref lR),none,none,none,none] H1:=by
   refine ⟨_,(ae (aO (i:=2) bQ.nd (xt wY rC hr.mo rfl wZ iR .nil px)) (ae (i8 PassesOwn.leaving rfl (Tt rfl jO (aG (pv 1))) (pA rfl (cB (ku (i:=3) bQ.nd) (cB (ku (i:=4) bQ.nd) kT))) (ae (aO (i:=5) bQ.nd (aR yA hr.mo px (aU (dy (v:=.ref aF) rfl w6 rfl) (pv 4))))
   (ae (aK (PW.pt (lU (aE kY (pv 5) bz) (iZ (gN (eU (df (k:=1) (pv 2) hr.mo px (aG (pv 5)))))))) (ag (cN iw dZ hr.mo cK fo (aG (pv 3)))) ay)
   (ag (bj (df (k:=1) (pv 2) hr.mo px (aG (pv 5)))))))) (ae (aK (aE iK (ba (pv 2) rfl) bz) (ag (cN iw dZ hr.mo cK fo (aG (aL bw rfl bP g_ (aG (pv 1)))))) ay) (ag (aA (aR rE hr.mo px (aU (ba (pv 2) rfl) (ba (pv 2) rfl)))))))),?_⟩
   intro lR H1 s1 eR
   intro sa sd nsa nsd nes
   have sS:az H1 (upd (upd H1 sd (.own sa)) sa (.ins CS sd [])):=fun b o e=>by rw [ah (ak e nsa),ah (ak e nsd)];exact e
   refine ⟨sa,sd,rfl,aj,fun lo dp H2 k2 nlo ndp ha2 avP avQ=>⟨rfl,?_⟩⟩
   have nlo:=aJ sS nlo
   have ndp:=aJ sS ndp
   have s2:az H1 H2:=fun b o e=>k2 b o (ak e nsa) (sS _ _ e)
   have R2:ShR K H2 CS sa sd lo dp [] ⟨[],[],none⟩:=⟨ha2,by simp,⟨[],avP,.nil⟩,avQ,rfl,fun i l p e=>by simp at e⟩
   generalize js x=rows at q rd l9 eR ⊢
   refine ⟨_,rfl,lR,rfl,⟨_,bq.of (s2 _ _ eR)⟩,Y3 (K:=K) (a:=lR) (xs:=rows.map V.str) (fun i σ H' =>Ex5 fun (o3 o4 o5:Η) (ls:π) (sh:Sh)=>σ=[some (.str x),some (.ref lR),some (.ref sa),o3,o4,o5]/\az H1 H' /\ShR K H' CS sa sd lo dp ls sh/\QY sh/\(∀b∈lo::ls,H1 b=none)/\ShL sh i/\lZ R (rows.drop i) i sh (fun sh=>sh.pieces.length<=13/\NP K CF CP CN CB CO CT sh.pieces sh.outside H Q E) (fun k=>bS H E CX "at" (.int (k:Int)))) ⟨none,none,none,[],⟨[],[],none⟩,rfl,s2,R2,ajz,(fun b hb=>by rw [abv.mp hb];exact nlo),⟨abt _,abt _,(fun p h=>nomatch h)⟩,q⟩ (fun i σ H' _ h=>by
     obtain ⟨_,_,_,_,_,_,h,_⟩:=h
     exact bq.of (h _ _ eR)) ?_ ?_⟩
   ·rintro i z σ H3 p hi ⟨o3,o4,o5,ls,sh,rfl,s3,R3,so3,n3,l3,q3⟩ np
    rw [abx] at hi
    obtain ⟨y,ey,rfl⟩:=abD.mp hi
    have il:=(W1.mp ey).1
    have ed:rows.drop i=y::rows.drop (i+1):=by
     rw [afZ il]
     rw [gE il] at ey
     rw [abq ey]
    have ry:=rd y (abw ey)
    rw [ed] at q3
    unfold lZ at q3
    have s4:=aT np (.tup [.int (i:Int),.str y])
    have e4:(upd H3 p (.tup [.int (i:Int),.str y])) p=some (.tup [.int (i:Int),.str y]):=aj
    generalize upd H3 p (.tup [.int (i:Int),.str y])=H4 at s4 e4 ⊢
    refine ⟨p,_,rfl,cT.of e4,rfl,_,_,rfl,_,_,rfl,rfl,?_⟩
    have s14:=aw s3 s4
    have s04:=aw s1 s14
    refine ⟨_,rfl,aF,bX,y,rfl,hF H4,Vp,ry.len,ry.ws,ry.tk,fun no H5 s5=>?_,fun rs ers l us H5 s5 nl el pr=>?_⟩
    ·rw [ry.rd,aj_] at no
     rw [no] at q3
     dsimp only at q3
     refine ⟨_,rfl,rfl,_,rfl,?_⟩
     refine aI (fun _=>?_) (fun c=>absurd (by decide) c)
     have qE:=aw s04 s5
     exact ⟨_,rfl,L1,bS.go fun d H' sH nd hd=>q3 d H' (aw qE sH) (aJ qE nd) hd⟩
    ·rw [ry.rd] at ers
     obtain ⟨sg,esg,rfl⟩:=abD.mp ers
     rw [esg] at q3
     dsimp only at q3
     have sgk:=ry.ok sg esg
     have s35:=aw s4 s5
     have R5:=R3.same s35
     refine ⟨_,rfl,rfl,_,rfl,?_⟩
     refine aI (fun c=>absurd (of_decide_eq_true c) (fun z=>nomatch z)) (fun _=>?_)
     refine ⟨_,rfl,sa,CS,sd,_,_,_,rfl,R5.obj,rfl,MS,_,rfl,sa,sd,lo,dp,l,ls,sh,us,sg,rfl,R5,el,pr,fun H6 s6=>⟨_,rfl,?_⟩⟩
     have s36:=aw s35 s6
     have s16:=aw s3 s36
     have s06:=aw s1 s16
     by_cases st:bJ sh sg=true
     ·rw [if_pos st] at q3
      rw [st]
      refine aI (fun c=>nomatch c) (fun _=>?_)
      have R6:=R3.same s36
      have nlL:l∉lo::ls:=fun z=>by
       rw [aby] at z
       rcases z with z | z
       ·obtain ⟨xs,hx,_⟩:=(R3.same s4).out
        rw [z,hx] at nl
        cases nl
       ·obtain ⟨i',Xy⟩:=aeV z
        have:=(W1.mp Xy).1
        obtain ⟨ys,hy,_⟩:=(R3.same s4).oN i' l (sh.pieces[i']'(by rw [<- R3.len];exact this)) Xy (gE _)
        rw [hy] at nl
        cases nl
      have a1:=l3.o
      have a2:=l3.p
      refine ⟨_,rfl,sa,CS,sd,_,_,_,rfl,R6.obj,rfl,MK,_,rfl,sa,sd,lo,dp,l,ls,sh,us,sg,rfl,R6,so3,s6 _ _ el,nlL,Paired.cy pr fun _ _ z=>z.aZ (.of s6),st,by omega,by omega,(fun p hp=>ir (l3.r p hp) (by omega)),fun H7 ls' k7 nls R7=>?_⟩
      have n7:∀b∈lo::ls',H1 b=none:=fun b hb=>by
       rcases aby.mp hb with z | z
       ·rw [z]
        exact nlo
       ·rcases nls b z with z | z
        ·exact n3 b (abz _ z)
        ·exact aJ s16 z
      exact ⟨_,_,_,ls',di sh sg,rfl,fun b o e=>k7 b o (ak e nsa) (ak e ndp) (fun z=>by rw [n3 b z] at e;cases e) (s16 _ _ e),R7,aej so3 st sgk,n7,ZJ l3 sg,q3⟩
     ·rw [if_neg st] at q3
      rw [adv.mpr st]
      refine aI (fun _=>?_) (fun c=>absurd rfl c)
      exact ⟨_,rfl,L1,bS.go fun d H' sH nd hd=>q3 d H' (aw s06 sH) (aJ s06 nd) hd⟩
   ·rintro σ H3 ⟨o3,o4,o5,ls,sh,rfl,s3,R3,so3,n3,l3,q3⟩
    rw [Wp,agM] at q3
    unfold lZ at q3
    have mm:=aw s1 s3
    refine ⟨_,rfl,sa,CS,sd,_,_,rfl,R3.obj,sc.cls,sc.cu,NC,rfl,_,rfl,?_⟩
    cases c:sh.cur with
    | some n=>
     rw [c,if_neg (fun z=>nomatch z)] at q3
     refine aI (fun _=>?_) (fun c=>absurd rfl c)
     refine ⟨_,rfl,lR,_,rfl,.inl (bq.of (s3 _ _ eR)),L1,?_⟩
     rw [Wp]
     exact bS.go fun d H' sH nd hd=>q3 d H' (aw mm sH) (aJ mm nd) hd
    | none=>
     rw [c,if_pos rfl] at q3
     obtain ⟨l13,q3⟩:=q3
     refine aI (fun c=>nomatch c) (fun _=>?_)
     obtain ⟨xs,hxs,pxs⟩:=R3.out
     refine ⟨_,rfl,sa,CS,sd,_,_,rfl,R3.obj,sc.cls,sc.ou,aoy,_,rfl,sa,CS,sd,_,_,rfl,R3.obj,sc.cls,sc.pi,Zw,lo,dp,ls,sh.pieces,sh.outside,xs,rfl,⟨R3.t_,R3.len,fun i l p e1 e2=>?_⟩,hxs,Paired.cy pxs fun _ _ z=>z.any,fun r hr=>⟨so3.ok r hr,fun p e=>so3.hold p (.inl (by rw [<- e];exact hr))⟩,⟨so3.nd,fun p hp r hr=>⟨so3.okp p hp r hr,fun q e=>so3.hold q (.inr ⟨p,hp,by rw [<- e];exact hr⟩)⟩,so3.lay⟩,tZ so3.out l13,?_⟩
     ·obtain ⟨ys,e3,e4⟩:=R3.oN i l p e1 e2
      exact ⟨ys,e3,Paired.cy e4 fun _ _ z=>z.any⟩
     ·exact iY _ 13 _ _ _ _ _ _ _ _ (fun g1 _ z a H' sH fg=>z a H' (aw mm sH) fg) (fun e he=>wW (fun H' k=>aw mm k) (.of mm) he) q3
  obtain ⟨t4,p4,q4⟩:=tail
  refine ⟨_,(ae (aK (gN (eU (aL gP rfl aD aY (aU (pv 0) (oE rfl jh xB))))) (ag (cN iw dZ hr.mo cK fo (aG ai))) ay) (ae (aO (i:=1) bQ.nd (eV (aE a9 (pv 0) au) (bB ja) (gO PySem.F.plainAttrs_str PySem.F.slot_str_split PySem.F.type_str_split q0 (pv 0) (aG au)))) p4)),?_⟩
  refine ⟨_,rfl,_,_,_,true,rfl,rfl,.str _,aoq,_,rfl,?_⟩
  refine aI (fun c=>nomatch c) (fun _=>?_)
  refine ⟨_,rfl,rfl,_,rfl,?_⟩
  by_cases er:x=""
  ·refine aI (fun _=>?_) (fun c=>absurd (decide_eq_true (by rw [er])) c)
   refine ⟨(by show 0<=sizeLine;decide),?_⟩
   intro lR nR;generalize eX:upd _ lR _=H1;have ⟨sR,eR⟩:=nw nR eX;clear eX
   exact q4 lR H1 sR (by unfold js;rw [if_pos er];exact eR)
  ·refine aI (fun c=>absurd (V.str.inj (of_decide_eq_true c)) er) (fun _=>?_)
   refine ⟨_,rfl,rfl,_,"\n",rfl,rfl,ln,lz,?_⟩
   intro lR nR;generalize eX:upd _ lR _=H1;have ⟨sR,eR⟩:=nw nR eX;clear eX
   exact q4 lR H1 sR (by unfold js;rw [if_neg er];exact eR)
 ·refine ⟨_,(ae (aK (gN (eU (aL gP rfl aD aY (aU (pv 0) (oE rfl jh xB))))) (ag (cN iw dZ hr.mo cK fo (aG ai))) ay)
  (ae (aO (i:=1) bQ.nd (eV (aE a9 (pv 0) au) (bB ja) (gO PySem.F.plainAttrs_str PySem.F.slot_str_split PySem.F.type_str_split q0 (pv 0) (aG au))))
  (ae (aO (i:=2) bQ.nd (xt wY rC hr.mo rfl wZ iR .nil px))
  (ae (i8 PassesOwn.leaving rfl (Tt rfl jO (aG (pv 1))) (pA rfl (cB (ku (i:=3) bQ.nd) (cB (ku (i:=4) bQ.nd) kT))) (ae (aO (i:=5) bQ.nd (aR yA hr.mo px (aU (dy (v:=.ref aF) rfl w6 rfl) (pv 4))))
   (ae (aK (PW.pt (lU (aE kY (pv 5) bz) (iZ (gN (eU (df (k:=1) (pv 2) hr.mo px (aG (pv 5)))))))) (ag (cN iw dZ hr.mo cK fo (aG (pv 3)))) ay)
   (ag (bj (df (k:=1) (pv 2) hr.mo px (aG (pv 5))))))))
  (ae (aK (aE iK (ba (pv 2) rfl) bz) (ag (cN iw dZ hr.mo cK fo (aG (aL bw rfl bP g_ (aG (pv 1)))))) ay)
  (ag (aA (aR rE hr.mo px (aU (ba (pv 2) rfl) (ba (pv 2) rfl)))))))))),?_⟩
  obtain ⟨t,ht,hk⟩:=hu.ty (K:=K)
  refine ⟨_,rfl,_,_,_,false,rfl,rfl,ht,hk,_,rfl,?_⟩
  refine aI (fun _=>?_) (fun c=>absurd rfl c)
  exact ⟨L1,bS.go qe⟩
structure DkC (K:Frag)(C:Addr):Prop where
 cls:vF K C
 fr:cp K C "frame"
 lo:cp K C "loads"
 gr:cp K C "grips"
 bo:cp K C "bounds"
theorem yB {R:Str->Option Sg}{Q Q' :Sh->Prop}{E E' :Nat->Prop}(hq:∀sh,Q sh->Q' sh)(he:∀k,E k->E' k):∀(rows:ζ) (k:Nat) (sh:Sh),lZ R rows k sh Q E->lZ R rows k sh Q' E'
 | [],k,sh,h=>by
  unfold lZ at h ⊢
  split
  ·next c=>rw [if_pos c] at h;exact hq _ h
  ·next c=>rw [if_neg c] at h;exact he _ h
 | x::t,k,sh,h=>by
  unfold lZ at h ⊢
  cases e:R x with
  | none=>rw [e] at h;exact he _ h
  | some sg=>
   rw [e] at h
   dsimp only at h ⊢
   split
   ·next c=>rw [if_pos c] at h;exact yB hq he t _ _ h
   ·next c=>rw [if_neg c] at h;exact he _ h
theorem Q8 {CF CP CN CB CO CT:Addr}{ps:ν}{rows:List Rw}{H:Hp}{Q Q' :VK}{E:XK}(hq:∀v H',az H H' ->Q v H' ->Q' v H')(h:NP K CF CP CN CB CO CT ps rows H Q E):NP K CF CP CN CB CO CT ps rows H Q' E:=
 iY _ 13 _ _ _ _ _ _ _ _ (fun g1 _ z a H' sH fg=>hq _ _ sH (z a H' sH fg)) (fun e he=>he) h
theorem Vw {CF CP CN CB CO CT CX:Addr}{vs:η}{H:Hp}{Q Q' :VK}{E:XK}(hq:∀v H',az H H' ->Q v H' ->Q' v H')(h:lM K CF CP CN CB CO CT CX vs H Q E):lM K CF CP CN CB CO CT CX vs H Q' E:=by
 rcases h with ⟨x,R,e,l1,l2,rd,q⟩ | h
 ·exact .inl ⟨x,R,e,l1,l2,rd,yB (fun sh z=>⟨z.1,Q8 hq z.2⟩) (fun _ z=>z) _ _ _ q⟩
 ·exact .inr h
theorem aeF {x y:V}:cL "loads" y [("frame",x)]=([("frame",x),("loads",y)]:List (Str×V)):=by
 simp only [cL]
 rw [if_neg (by decide)]
theorem aeG {x y z:V}:cL "grips" z [("frame",x),("loads",y)]=([("frame",x),("loads",y),("grips",z)]:List (Str×V)):=by
 simp only [cL]
 rw [if_neg (by decide),if_neg (by decide)]
inductive Q9 (K:Frag)(C CF CP CN CB CO CT CX:Addr)(vs:η)(H:Hp)(Q:VK)(E:XK):Prop where
 | mk (a dx:Addr) (v:V) (_:vs=[.ref a,v]) (_:H a=some (.ins C dx [])) (_:lM K CF CP CN CB CO CT CX [v] H (fun _ H1=>∀H',(∀b o,b≠a->H1 b=some o->H' b=some o)->Q .bN H') E):Q9 K C CF CP CN CB CO CT CX vs H Q E
theorem FQ:av zaR zaR (aa fh):=sq
theorem FR {f:Addr}{fd:FuncData}{C CF CP CN CB CO CT CX:Addr}(F:lV K "__init__" "Desk.__init__" fh f fd)(dc:DkC K C)(lO:Fn P w K mg base (aV P w) 66 "read_frame" zaM (lM K CF CP CN CB CO CT CX)):bH P w K mg base (aV P w) 67 f fd zaR (Q9 K C CF CP CN CB CO CT CX):=by
 refine jH F FQ (fun vs H Q E h=>?_) (fun cdv A outer s H vs Q E hr h=>?_)
 ·obtain ⟨a,dx,v,rfl,_⟩:=h
  rfl
 have px:Passes (aV P w) (gK P w K mg base zaR "Desk.__init__" (aa fh) f cdv A outer s H E) E:=d_
 obtain ⟨a,dx,v,rfl,ha,q⟩:=h
 refine ⟨_,(ae (dA (pv 0) (aR lO hr.mo px (aG (pv 1))) rfl)
  (ae (dA (pv 0) iq rfl)
  (ae (dA (pv 0) iq rfl)
  (ag (dA (pv 0) iq rfl))))),?_⟩
 refine ⟨_,rfl,?_⟩
 dsimp only [zd]
 refine Vw (fun y H1 s1 q1=>?_) q
 have ha1:=s1 _ _ ha
 refine ⟨_,rfl,a,C,dx,_,rfl,ha1,dc.cls,dc.fr,(by show 0 < 1000;decide),?_⟩
 have k2:∀b o,b≠a->H1 b=some o->(upd H1 a (.ins C dx [("frame",y)])) b=some o:=fun b o n e=>by rw [ah n];exact e
 have o2:(upd H1 a (.ins C dx [("frame",y)])) a=some (.ins C dx [("frame",y)]):=aj
 show aii _ _ _ _ (upd H1 a (.ins C dx [("frame",y)]))
 generalize upd H1 a (.ins C dx [("frame",y)])=H2 at k2 o2 ⊢
 intro d3 n3
 have a3:a≠d3:=ak o2 n3
 refine ⟨_,rfl,a,C,dx,_,rfl,(by rw [ah a3];exact o2),dc.cls,dc.lo,(by show 1 < 1000;decide),?_⟩
 rw [aeF]
 have k4:∀b o,b≠a->H1 b=some o->(upd (upd H2 d3 (.dK [])) a (.ins C dx [("frame",y),("loads",.ref d3)])) b=some o:=fun b o n e=>by rw [ah n,ah (ak (k2 b o n e) n3)];exact k2 b o n e
 have o4:(upd (upd H2 d3 (.dK [])) a (.ins C dx [("frame",y),("loads",.ref d3)])) a=some (.ins C dx [("frame",y),("loads",.ref d3)]):=aj
 generalize upd (upd H2 d3 (.dK [])) a (.ins C dx [("frame",y),("loads",.ref d3)])=H4 at k4 o4 ⊢
 intro d5 n5
 have a5:a≠d5:=ak o4 n5
 refine ⟨_,rfl,a,C,dx,_,rfl,(by rw [ah a5];exact o4),dc.cls,dc.gr,(by show 2 < 1000;decide),?_⟩
 rw [aeG]
 have k6:∀b o,b≠a->H1 b=some o->(upd (upd H4 d5 (.dK [])) a (.ins C dx [("frame",y),("loads",.ref d3),("grips",.ref d5)])) b=some o:=fun b o n e=>by rw [ah n,ah (ak (k4 b o n e) n5)];exact k4 b o n e
 have o6:(upd (upd H4 d5 (.dK [])) a (.ins C dx [("frame",y),("loads",.ref d3),("grips",.ref d5)])) a=some (.ins C dx [("frame",y),("loads",.ref d3),("grips",.ref d5)]):=aj
 generalize upd (upd H4 d5 (.dK [])) a (.ins C dx [("frame",y),("loads",.ref d3),("grips",.ref d5)])=H6 at k6 o6 ⊢
 intro d7 n7
 have a7:a≠d7:=ak o6 n7
 refine ⟨_,rfl,a,C,dx,_,rfl,(by rw [ah a7];exact o6),dc.cls,dc.bo,(by show 3 < 1000;decide),?_⟩
 exact q1 _ fun b o n e=>by rw [ah n,ah (ak (k6 b o n e) n7)];exact k6 b o n e
theorem yC (x:Str):jn 32 ((Txt.split x " ").map fun w=>w.cps.toList)=x.cps.toList:=by
 rw [blank, <- q_]
 exact congrArg (fun z:Str=>z.cps.toList) (StrLaws.join_split x ⟨#[32]⟩)
theorem ZK (x:Str):∀w∈Txt.split x " ",32∉w.cps.toList:=fun w hw=>by
 rw [blank] at hw
 exact StrLaws.split_free _ 32 w hw
theorem Q_ {c d:Nat}:∀{ws:List (List Nat)},d∈jn c ws->d=c\/∃w∈ws,d∈w
 | [],h=>nomatch h
 | [w],h=>.inr ⟨w,abE,h⟩
 | w::v::ws,h=>by
  have h' :d∈w++c::jn c (v::ws):=h
  rw [abB,aby] at h'
  rcases h' with h | h | h
  ·exact .inr ⟨w,abE,h⟩
  ·exact .inl h
  ·rcases Q_ h with z | ⟨u,hu,z⟩
   ·exact .inl z
   ·exact .inr ⟨u,abz _ hu,z⟩
theorem ZL {c:Nat}:∀{ws:List (List Nat)} {w:Α},w∈ws->w.length<=(jn c ws).length/\∀d∈w,d∈jn c ws
 | [v],w,h=>by
  rw [abv.mp h]
  exact ⟨abt _,fun _ z=>z⟩
 | v::u::ws,w,h=>by
  show w.length<=(v++c::jn c (u::ws)).length/\∀d∈w,d∈v++c::jn c (u::ws)
  rw [aa_,abC]
  rcases aby.mp h with rfl | h
  ·exact ⟨by omega,fun d z=>af_ _ z⟩
  ·obtain ⟨h1,h2⟩:=ZL (c:=c) h
   exact ⟨by omega,fun d z=>aeB _ (abz _ (h2 d z))⟩
theorem ZM {b:Α}:∀{ws:List (List Nat)} {a:Α},(∀w∈ws,32∉w)->jn 32 ws=a++32::b->(∃b',b=32::b')\/b=[]->[]∈ws
 | [],a,_,e,_=>by simp [jn] at e
 | [w],a,h,e,_=>absurd (by rw [show w=a++32::b from e];simp) (h w abE)
 | w::v::ws,a,h,e,hb=>by
  have e' :w++32::jn 32 (v::ws)=a++32::b:=e
  have hw:=h w abE
  have hv:=h v (abz _ abE)
  have last:jn 32 (v::ws)=b->[]∈w::v::ws:=fun z=>by
   cases v with
   | nil=>exact abz _ abE
   | cons x v=>
    exfalso
    have:∃t,jn 32 ((x::v)::ws)=x::t:=by
     cases ws with
     | nil=>exact ⟨v,rfl⟩
     | cons u ws=>exact ⟨v++32::jn 32 (u::ws),rfl⟩
    obtain ⟨t,et⟩:=this
    rw [et] at z
    rcases hb with ⟨b',rfl⟩ | rfl
    ·exact hv (by rw [(af5 z).1];exact abE)
    ·cases z
  rcases List.append_eq_append_iff.mp e' with ⟨a',e1,e2⟩ | ⟨c',e1,e2⟩
  ·cases a' with
   | nil=>exact last (af5 e2).2
   | cons y a' =>
    obtain ⟨_,e3⟩:=af5 e2
    exact abz _ (ZM (fun u hu=>h u (abz _ hu)) e3 hb)
  ·cases c' with
   | nil=>exact last (af5 e2).2.symm
   | cons y c' =>
    obtain ⟨e3,_⟩:=af5 e2
    exact absurd (by rw [e1, <- e3];simp) hw
def Vx (w:Str):Option (Int×Int):=if 47∈w.cps.toList then (match intText? (Txt.partition w ⟨#[47]⟩).1,intText? (Txt.partition w ⟨#[47]⟩).2.2 with | some a,some b=>some (a,b) | _,_=>none) else (intText? w).map (·,1)
def fM (w:Str):Bool:=match Vx w with
 | none=>false
 | some q=>decide (0 < q.2) && (decide (af1 q.1 q.2=1) && (decide (q.1.natAbs < 10^60) && (decide (q.2.natAbs < 10^60) && decide (nt q=w))))
theorem aeH {q:Int×Int}(g:Good q):Vx (nt q)=some q:=by
 have up:∀{n:Int},n.natAbs < 10^60->n.natAbs < 10^4000:=fun h=>abu h (af' (by decide) (by decide))
 unfold Vx
 by_cases c:q.2=1
 ·rw [lC c,if_neg (oJ (by decide) (by decide)),fY (up g.top)]
  exact congrArg some (agx rfl c.symm)
 ·rw [lD c,if_pos (by rw [cps_append,cps_append,nH];simp)]
  have p:=wJ (a:=tx q.1) (b:=tx q.2) (oJ (by decide) (by decide))
  have p' :Txt.partition (tx q.1++xK++tx q.2) ⟨#[47]⟩=(tx q.1,⟨#[47]⟩,tx q.2):=p
  rw [p']
  dsimp only
  rw [fY (up g.top),fY (up g.bot)]
theorem w_ {w:Str}(h:fM w=true):∃r:Rat,Good (qr r)/\w=QP r/\Vx w=some (qr r):=by
 unfold fM at h
 cases e:Vx w with
 | none=>rw [e] at h;cases h
 | some q=>
  rw [e] at h
  simp only [abA,decide_eq_true_eq] at h
  obtain ⟨h1,h2,h3,h4,h5⟩:=h
  have eq:=MB h1 h2
  refine ⟨vl q,by rw [<- eq];exact ⟨h1,h2,h3,h4⟩,?_,by rw [<- eq]⟩
  unfold QP
  rw [<- eq]
  exact h5.symm
theorem ZN {w:Str}(h:fM w=false):numOf w=none:=rl fun r g e=>by
 have e2:w=nt (qr r):=e
 unfold fM at h
 rw [e2,aeH g] at h
 simp [g.pos,g.low,g.top,g.bot] at h
def kJ (w:Str):Bool:=fM w && (match Vx w with | none=>false | some q=>decide (q.2=1) && (decide (1<=q.1) && decide (q.1<=60)))
theorem ZO {w:Str}(h:kJ w=true):∃k:Nat,1<=k/\k<=60/\gS w=some (k:Int):=by
 unfold kJ at h
 rw [abA] at h
 obtain ⟨r,g,e,ec⟩:=w_ h.1
 have h2:=h.2
 rw [ec] at h2
 simp only [abA,decide_eq_true_eq] at h2
 obtain ⟨a1,a2,a3⟩:=h2
 refine ⟨(qr r).1.toNat,by omega,by omega,?_⟩
 rw [e,pN g]
 unfold BV
 rw [if_pos ⟨a1,a2,a3⟩]
 exact congrArg some (by omega)
theorem aeI {w:Str}(h:kJ w=false):gS w=none:=by
 by_cases c:fM w=true
 ·obtain ⟨r,g,e,ec⟩:=w_ c
  unfold kJ at h
  rw [c,ec,asX] at h
  rw [e,pN g]
  unfold BV
  refine if_neg fun z=>?_
  simp [z.1,z.2.1,z.2.2] at h
 ·unfold gS
  rw [ZN (adv.mpr c)]
  rfl
def bu (w:Str):Bool:=isName w && decide ((w.length:Int)<=20)
theorem cf {w:Str}:bu w=true ↔ fj w:=by
 unfold bu
 rw [abA,decide_eq_true_eq]
 exact ⟨fun h=>⟨h.1,by omega⟩,fun h=>⟨h.nm,by have:=h.len;omega⟩⟩
theorem FT (w:Str):valOf "NAME" w=if bu w=true then some (.w w) else none:=by
 unfold valOf bu
 rw [if_neg (ne_str (by decide+kernel)),if_neg (ne_str (by decide+kernel)),if_pos rfl]
theorem CK (w:Str):valOf "NUMBER" w=(numOf w).map RV.q:=by
 unfold valOf
 rw [if_pos rfl]
theorem FU (w:Str):valOf "MANY" w=(gS w).map RV.n:=by
 unfold valOf
 rw [if_neg (ne_str (by decide+kernel)),if_pos rfl]
def Ra (k:Str):Bool:= !decide (k="NUMBER") && (!decide (k="MANY") && (!decide (k="NAME") && !decide (k="WORD")))
theorem v_lit {k:Str}(h:Ra k=true)(w:Str):valOf k w=if w=k then some (.w w) else none:=by
 unfold Ra at h
 simp only [abA,ae_,decide_eq_false_iff_not] at h
 obtain ⟨h1,h2,h3,h4⟩:=h
 unfold valOf
 rw [if_neg (ne_str h1),if_neg (ne_str h2),if_neg (ne_str h3),if_neg (ne_str h4)]
 by_cases c:w=k
 ·rw [if_pos (by rw [c]),if_pos c]
 ·rw [if_neg (ne_str c),if_neg c]
theorem Rb {ks ws:ζ}{i:Nat}{k w:Str}(e1:ks[i]? =some k)(e2:ws[i]? =some w)(h:valOf k w=none):fit ks ws=none:=by
 unfold fit
 split
 ·have key:∀{os:List (Option RV)} {i:Nat},os[i]? =some none->gT os=none:=by
   intro os
   induction os with
   | nil=>intro i e;simp at e
   | cons o t ih=>
    intro i e
    cases i with
    | zero=>
     have:o=none:=by simpa using e
     rw [this]
     rfl
    | succ i=>
     have:=ih (i:=i) (by simpa using e)
     cases o with
     | none=>rfl
     | some a=>
      show (gT t).map (a::·)=none
      rw [this]
      rfl
  exact key (i:=i) (by rw [am0,e1,e2];exact congrArg some h)
 ·rfl
def TZ (x y:Option (List RV)):Option (List RV):=match x with
 | some r=>some r
 | none=>y
theorem or_none (y:Option (List RV)):TZ none y=y:=rfl
theorem gJ {f:Str}{fs ks ws:ζ}(e:cU f=ks):ck (f::fs) ws=TZ (fit ks ws) (ck fs ws):=by
 show (match fit (cU f) ws with | some rs=>some rs | none=>ck fs ws)=_
 rw [e]
 unfold TZ
 cases fit ks ws <;> rfl
theorem fZ (ws:ζ):ck bX ws=TZ (fit zaq ws) (TZ (fit zad ws) (TZ (fit zab ws) (TZ (fit zat ws) (TZ (fit zaz ws) (TZ (fit zaY ws) (TZ (fit zae ws) (TZ (fit zaa ws) none))))))):=by
 unfold bX
 rw [gJ ajq,gJ ajr,gJ ajs,gJ ajt,gJ aju,gJ ajv,gJ ajw,gJ ajx]
 rfl
theorem f9 {k w:Str}{ks ws:ζ}(h:Ra k=true)(ne:w≠k):fit (k::ks) (w::ws)=none:=Rb (i:=0) rfl rfl (by rw [v_lit h,if_neg ne])
theorem aX {k:Str}{ks ws:ζ}{rs:List RV}(h:fit (k::ks) ws=some rs):∃w ws' a rs',ws=w::ws' /\valOf k w=some a/\fit ks ws' =some rs' /\rs=a::rs' :=by
 unfold fit at h
 split at h
 ·next c=>
  cases ws with
  | nil=>cases c
  | cons w ws' =>
   rw [amS] at h
   cases e:valOf k w with
   | none=>rw [e] at h;cases h
   | some a=>
    rw [e] at h
    have h' :(gT (aj3 valOf ks ws')).map (a::·)=some rs:=h
    obtain ⟨r,er,e2⟩:=abD.mp h'
    exact ⟨w,ws',a,r,rfl,e,by unfold fit;rw [if_pos (an3 c)];exact er,e2.symm⟩
 ·cases h
theorem jP {ws:ζ}{rs:List RV}(h:fit [] ws=some rs):ws=[]/\rs=[]:=by
 unfold fit at h
 split at h
 ·next c=>
  cases ws with
  | nil=>exact ⟨rfl,(abq h).symm⟩
  | cons w ws=>cases c
 ·cases h
theorem bD {k w:Str}{ks ws:ζ}{a:RV}{rs:List RV}(h1:valOf k w=some a)(h2:fit ks ws=some rs):fit (k::ks) (w::ws)=some (a::rs):=by
 unfold fit at h2 ⊢
 split at h2
 ·next c=>
  rw [if_pos (by rw [abC,abC,c]),amS,h1]
  show (gT (aj3 valOf ks ws)).map (a::·)=_
  rw [h2]
  rfl
 ·cases h2
theorem jQ:fit [] []=some []:=rfl
theorem vn {w:Str}{a:RV}(h:valOf "NAME" w=some a):a=.w w/\fj w:=by
 rw [FT] at h
 split at h
 ·next c=>exact ⟨(abq h).symm,cf.mp c⟩
 ·cases h
theorem vq {w:Str}{a:RV}(h:valOf "NUMBER" w=some a):∃r,a=.q r/\Good (qr r):=by
 rw [CK] at h
 obtain ⟨r,er,e⟩:=abD.mp h
 refine ⟨r,e.symm,?_⟩
 unfold numOf at er
 split at er
 ·next c=>
  rw [<- abq er]
  exact c.choose_spec.1
 ·cases er
theorem vm {w:Str}{a:RV}(h:valOf "MANY" w=some a):∃k:Nat,a=.n (k:Int)/\1<=k/\k<=60:=by
 rw [FU] at h
 obtain ⟨i,ei,e⟩:=abD.mp h
 unfold gS at ei
 obtain ⟨r,_,er⟩:=Option.bind_eq_some_iff.mp ei
 unfold BV at er
 split at er
 ·next c=>
  refine ⟨i.toNat,?_,?_,?_⟩ <;> have:=abq er
  ·rw [show ((i.toNat:Nat):Int)=i by omega]
   exact e.symm
  ·omega
  ·omega
 ·cases er
theorem zI {k w:Str}{a:RV}(l:Ra k=true)(h:valOf k w=some a):a=.w k:=by
 rw [v_lit l] at h
 split at h
 ·next c=>rw [c] at h;exact (abq h).symm
 ·cases h
theorem or_some {x y:Option (List RV)}{r:List RV}(h:TZ x y=some r):x=some r\/y=some r:=by
 unfold TZ at h
 cases x with
 | none=>exact .inr h
 | some z=>exact .inl h
theorem rF (ws:ζ){rs:List RV}(h:ck bX ws=some rs):∃sg,FD sg/\rs=dq sg:=by
 rw [fZ] at h
 rcases or_some h with h | h
 ·obtain ⟨_,_,_,_,rfl,a0,h1,rfl⟩:=aX h
  obtain ⟨n,_,_,_,rfl,a1,h2,rfl⟩:=aX h1
  obtain ⟨_,_,_,_,rfl,a2,h3,rfl⟩:=aX h2
  obtain ⟨_,_,_,_,rfl,a3,h4,rfl⟩:=aX h3
  obtain ⟨rfl,rfl⟩:=jP h4
  obtain ⟨rfl,ok⟩:=vn a1
  obtain ⟨x,rfl,gx⟩:=vq a2
  obtain ⟨y,rfl,gy⟩:=vq a3
  exact ⟨.row (.pin ⟨n,(x,y),[]⟩),⟨ok,gx,gy,.inl rfl⟩,by rw [zI (by decide+kernel) a0];rfl⟩
 rcases or_some h with h | h
 ·obtain ⟨_,_,_,_,rfl,a0,h1,rfl⟩:=aX h
  obtain ⟨n,_,_,_,rfl,a1,h2,rfl⟩:=aX h1
  obtain ⟨_,_,_,_,rfl,a2,h3,rfl⟩:=aX h2
  obtain ⟨_,_,_,_,rfl,a3,h4,rfl⟩:=aX h3
  obtain ⟨_,_,_,_,rfl,a4,h5,rfl⟩:=aX h4
  obtain ⟨rfl,rfl⟩:=jP h5
  obtain ⟨rfl,ok⟩:=vn a1
  obtain ⟨x,rfl,gx⟩:=vq a2
  obtain ⟨y,rfl,gy⟩:=vq a3
  exact ⟨.row (.pin ⟨n,(x,y),[(1,0),(0,1)]⟩),⟨ok,gx,gy,.inr (.inl rfl)⟩,by rw [zI (by decide+kernel) a0,zI (by decide+kernel) a4];rfl⟩
 rcases or_some h with h | h
 ·obtain ⟨_,_,_,_,rfl,a0,h1,rfl⟩:=aX h
  obtain ⟨n,_,_,_,rfl,a1,h2,rfl⟩:=aX h1
  obtain ⟨_,_,_,_,rfl,a2,h3,rfl⟩:=aX h2
  obtain ⟨_,_,_,_,rfl,a3,h4,rfl⟩:=aX h3
  obtain ⟨_,_,_,_,rfl,a4,h5,rfl⟩:=aX h4
  obtain ⟨_,_,_,_,rfl,a5,h6,rfl⟩:=aX h5
  obtain ⟨_,_,_,_,rfl,a6,h7,rfl⟩:=aX h6
  obtain ⟨rfl,rfl⟩:=jP h7
  obtain ⟨rfl,ok⟩:=vn a1
  obtain ⟨x,rfl,gx⟩:=vq a2
  obtain ⟨y,rfl,gy⟩:=vq a3
  obtain ⟨u,rfl,gu⟩:=vq a5
  obtain ⟨v,rfl,gv⟩:=vq a6
  exact ⟨.row (.pin ⟨n,(x,y),[(u,v)]⟩),⟨ok,gx,gy,.inr (.inr ⟨_,rfl,gu,gv⟩)⟩,by rw [zI (by decide+kernel) a0,zI (by decide+kernel) a4];rfl⟩
 rcases or_some h with h | h
 ·obtain ⟨_,_,_,_,rfl,a0,h1,rfl⟩:=aX h
  obtain ⟨n,_,_,_,rfl,a1,h2,rfl⟩:=aX h1
  obtain ⟨x,_,_,_,rfl,a2,h3,rfl⟩:=aX h2
  obtain ⟨y,_,_,_,rfl,a3,h4,rfl⟩:=aX h3
  obtain ⟨rfl,rfl⟩:=jP h4
  obtain ⟨rfl,ok⟩:=vn a1
  obtain ⟨rfl,o2⟩:=vn a2
  obtain ⟨rfl,o3⟩:=vn a3
  exact ⟨.row (.bar n x y),⟨ok,o2,o3⟩,by rw [zI (by decide+kernel) a0];rfl⟩
 rcases or_some h with h | h
 ·obtain ⟨_,_,_,_,rfl,a0,h1,rfl⟩:=aX h
  obtain ⟨n,_,_,_,rfl,a1,h2,rfl⟩:=aX h1
  obtain ⟨rfl,rfl⟩:=jP h2
  obtain ⟨rfl,ok⟩:=vn a1
  exact ⟨.du n,ok,by rw [zI (by decide+kernel) a0];rfl⟩
 rcases or_some h with h | h
 ·obtain ⟨_,_,_,_,rfl,a0,h1,rfl⟩:=aX h
  obtain ⟨rfl,rfl⟩:=jP h1
  exact ⟨.fin,trivial,by rw [zI (by decide+kernel) a0];rfl⟩
 rcases or_some h with h | h
 ·obtain ⟨_,_,_,_,rfl,a0,h1,rfl⟩:=aX h
  obtain ⟨n,_,_,_,rfl,a1,h2,rfl⟩:=aX h1
  obtain ⟨p,_,_,_,rfl,a4,h3,rfl⟩:=aX h2
  obtain ⟨_,_,_,_,rfl,a2,h4,rfl⟩:=aX h3
  obtain ⟨_,_,_,_,rfl,a3,h5,rfl⟩:=aX h4
  obtain ⟨rfl,rfl⟩:=jP h5
  obtain ⟨rfl,ok⟩:=vn a1
  obtain ⟨rfl,o4⟩:=vn a4
  obtain ⟨x,rfl,gx⟩:=vq a2
  obtain ⟨y,rfl,gy⟩:=vq a3
  exact ⟨.row (.lay n p (x,y) none),⟨ok,o4,gx,gy,fun _ _ z=>nomatch z⟩,by rw [zI (by decide+kernel) a0];rfl⟩
 rcases or_some h with h | h
 ·obtain ⟨_,_,_,_,rfl,a0,h1,rfl⟩:=aX h
  obtain ⟨n,_,_,_,rfl,a1,h2,rfl⟩:=aX h1
  obtain ⟨p,_,_,_,rfl,a4,h3,rfl⟩:=aX h2
  obtain ⟨_,_,_,_,rfl,a2,h4,rfl⟩:=aX h3
  obtain ⟨_,_,_,_,rfl,a3,h5,rfl⟩:=aX h4
  obtain ⟨_,_,_,_,rfl,a5,h6,rfl⟩:=aX h5
  obtain ⟨_,_,_,_,rfl,a6,h7,rfl⟩:=aX h6
  obtain ⟨_,_,_,_,rfl,a7,h8,rfl⟩:=aX h7
  obtain ⟨rfl,rfl⟩:=jP h8
  obtain ⟨rfl,ok⟩:=vn a1
  obtain ⟨rfl,o4⟩:=vn a4
  obtain ⟨x,rfl,gx⟩:=vq a2
  obtain ⟨y,rfl,gy⟩:=vq a3
  obtain ⟨k,rfl,k1,k2⟩:=vm a5
  obtain ⟨u,rfl,gu⟩:=vq a6
  obtain ⟨v,rfl,gv⟩:=vq a7
  refine ⟨.row (.lay n p (x,y) (some (k,(u,v)))),⟨ok,o4,gx,gy,fun _ _ z=>?_⟩,by rw [zI (by decide+kernel) a0];rfl⟩
  cases z
  exact ⟨k1,k2,gu,gv⟩
 ·cases h
theorem ZP {a b:Sg}(ha:FD a)(hb:FD b)(e:dq a=dq b):a=b:=by
 cases a with
 | du n=>
  cases b with
  | du m=>simp [dq] at e;rw [e]
  | fin=>simp [dq] at e
  | row r=>
   cases r with
   | pin p=>simp [dq,fU,tY] at e
   | bar x y z=>simp [dq,fU] at e
   | lay x y z s=>cases s <;> simp [dq,fU] at e
 | fin=>
  cases b with
  | du m=>simp [dq] at e
  | fin=>rfl
  | row r=>
   cases r with
   | pin p=>simp [dq,fU,tY] at e
   | bar x y z=>simp [dq,fU] at e
   | lay x y z s=>cases s <;> simp [dq,fU] at e
 | row r=>
  cases r with
  | pin p=>
   cases b with
   | du m=>simp [dq,fU,tY] at e
   | fin=>simp [dq,fU,tY] at e
   | row r=>
    cases r with
    | pin q=>
     simp [dq,fU,tY] at e
     obtain ⟨e1,e2,e3,e4⟩:=e
     have key:∀{ws:χ},(ws=[]\/ws=[(1,0),(0,1)]\/∃w,ws=[w]/\Good (qr w.1)/\Good (qr w.2))->(ws=[]\/ws=[(1,0),(0,1)]\/∃w,ws=[w]):=fun h=>by
      rcases h with h | h | ⟨w,h,_⟩
      ·exact .inl h
      ·exact .inr (.inl h)
      ·exact .inr (.inr ⟨w,h⟩)
     have e5:=Zv (key ha.2.2.2) (key hb.2.2.2) e4
     cases p
     cases q
     simp only at e1 e2 e3 e5
     rw [e1,e5,show _=_ from agx e2 e3]
    | bar x y z=>simp [dq,fU,tY] at e
    | lay x y z s=>cases s <;> simp [dq,fU,tY] at e
  | bar x y z=>
   cases b with
   | du m=>simp [dq,fU] at e
   | fin=>simp [dq,fU] at e
   | row r=>
    cases r with
    | pin q=>simp [dq,fU,tY] at e
    | bar x' y' z' =>simp [dq,fU] at e;obtain ⟨e1,e2,e3⟩:=e;rw [e1,e2,e3]
    | lay x' y' z' s=>cases s <;> simp [dq,fU] at e
  | lay x y z s=>
   cases b with
   | du m=>cases s <;> simp [dq,fU] at e
   | fin=>cases s <;> simp [dq,fU] at e
   | row r=>
    cases r with
    | pin q=>cases s <;> simp [dq,fU,tY] at e
    | bar x' y' z' =>cases s <;> simp [dq,fU] at e
    | lay x' y' z' s' =>
     cases s with
     | none=>
      cases s' with
      | none=>simp [dq,fU] at e;obtain ⟨e1,e2,e3,e4⟩:=e;rw [e1,e2,show z=z' from agx e3 e4]
      | some t=>simp [dq,fU] at e
     | some t=>
      cases s' with
      | none=>simp [dq,fU] at e
      | some t' =>
       simp [dq,fU] at e
       obtain ⟨e1,e2,e3,e4,e5,e6,e7⟩:=e
       rw [e1,e2,show z=z' from agx e3 e4,show t=t' from agx (by omega) (agx e6 e7)]
open Classical in
noncomputable def uf (x:Str):Option Sg:=if h:∃sg,FD sg/\ck bX (Txt.split x " ")=some (dq sg) then some h.choose else none
theorem yD {x:Str}{sg:Sg}(ok:FD sg)(h:ck bX (Txt.split x " ")=some (dq sg)):uf x=some sg:=by
 have hx:∃sg,FD sg/\ck bX (Txt.split x " ")=some (dq sg):=⟨sg,ok,h⟩
 unfold uf
 rw [dif_pos hx]
 obtain ⟨h1,h2⟩:=hx.choose_spec
 exact congrArg some (ZP ok h1 (abq (h.symm.trans h2))).symm
theorem mY {x:Str}(h:ck bX (Txt.split x " ")=none):uf x=none:=by
 unfold uf
 rw [dif_neg]
 rintro ⟨sg,_,e⟩
 rw [h] at e
 cases e
structure oh (n:Nat)(x:Str):Prop where
 len:x.length<=n
 Pz:∀c∈x.cps.toList,c < 1000/\c≠10
theorem oh.rd {x:Str}(h:oh 400 x):ZI uf x:=by
 have sub:∀w∈Txt.split x " ",w.length<=x.length/\∀c∈w.cps.toList,c∈x.cps.toList:=fun w hw=>by
  have:=ZL (c:=32) (ws:=(Txt.split x " ").map fun w=>w.cps.toList) (w:=w.cps.toList) (aeu.mpr ⟨w,hw,rfl⟩)
  rw [yC] at this
  rw [bf,bf]
  exact this
 have l4:=h.len
 refine ⟨ir (show x.length+2<=500 by omega) (by decide),?_,fun w hw=>⟨ir (sub w hw).1 l4,fun c hc=>(h.Pz c ((sub w hw).2 c hc)).1⟩,?_,fun sg e=>?_⟩
 ·have:=split_le x " "
  omega
 ·cases e:ck bX (Txt.split x " ") with
  | none=>rw [mY e];rfl
  | some rs=>
   obtain ⟨sg,ok,rfl⟩:=rF _ e
   rw [yD ok e]
   rfl
 ·cases e2:ck bX (Txt.split x " ") with
  | none=>rw [mY e2] at e;cases e
  | some rs=>
   obtain ⟨sg',ok,rfl⟩:=rF _ e2
   rw [yD ok e2] at e
   rw [<- abq e]
   exact ok
def kK (x:Str):Prop:=uf x=none\/∃p:nT,uf x=some (.row (.pin p))/\p.ws=[(0,0)]
def ZQ (w:Str):Prop:=w.cps.toList=[]\/9∈w.cps.toList
theorem ajR {w:Str}(h:ZQ w){k:Str}(hk:k∈(["NAME","NUMBER","MANY"]:List Str)\/(Ra k=true/\k.cps.toList≠[]/\9∉k.cps.toList)):valOf k w=none:=by
 have nn:bu w=false:=by
  cases c:bu w with
  | false=>rfl
  | true=>
   exfalso
   have ok:=cf.mp c
   have:=ok.nm
   unfold isName at this
   rw [abA] at this
   rcases h with h | h
   ·have e:w="":=Tx (by rw [h];rfl)
    rw [e] at this
    exact absurd this.1 (by decide+kernel)
   ·have:=alx.mp this.2 9 h
    exact absurd this (by decide+kernel)
 have nu:numOf w=none:=rl fun r g e=>by
  have e2:w=nt (qr r):=e
  rcases h with h | h
  ·have l:0 < (nt (qr r)).cps.toList.length:=by
    have p:∀n:Int,0 < (tx n).cps.toList.length:=fun n=>by
     rw [tJ]
     split
     ·simp
     ·exact anh.mpr (Tj _)
    by_cases c:(qr r).2=1
    ·rw [lC c];exact p _
    ·rw [lD c,cps_append,cps_append,aa_,aa_];have:=p (qr r).1;omega
   rw [<- e2,h] at l
   cases l
  ·rw [e2] at h
   by_cases c:(qr r).2=1
   ·rw [lC c] at h
    exact oJ (by decide) (by decide) h
   ·rw [lD c,cps_append,cps_append,abB,abB,nH] at h
    rcases h with (h | h) | h
    ·exact oJ (by decide) (by decide) h
    ·exact absurd (abv.mp h) (by decide)
    ·exact oJ (by decide) (by decide) h
 rcases hk with hk | ⟨l,n1,n2⟩
 ·simp only [aby,aeS,or_false] at hk
  rcases hk with rfl | rfl | rfl
  ·rw [FT,if_neg (by rw [nn];exact abr)]
  ·rw [CK,nu]
   rfl
  ·rw [FU]
   unfold gS
   rw [nu]
   rfl
 ·rw [v_lit l,if_neg]
  intro z
  rcases h with h | h
  ·exact n1 (by rw [<- z];exact h)
  ·exact n2 (by rw [<- z];exact h)
theorem mZ {ws:ζ}{w:Str}(hw:w∈ws)(h:ZQ w):ck bX ws=none:=by
 have key:∀ks:List Str,(∀k∈ks,k∈(["NAME","NUMBER","MANY"]:List Str)\/(Ra k=true/\k.cps.toList≠[]/\9∉k.cps.toList))->fit ks ws=none:=fun ks hk=>by
  by_cases l:ks.length=ws.length
  ·obtain ⟨i,ei⟩:=aeV hw
   have il:=(W1.mp ei).1
   exact Rb (i:=i) (gE (by omega)) ei (ajR h (hk _ (alw _)))
  ·exact aQ l
 rw [fZ,key _ (by decide+kernel),key _ (by decide+kernel),key _ (by decide+kernel),key _ (by decide+kernel),key _ (by decide+kernel),key _ (by decide+kernel),key _ (by decide+kernel),key _ (by decide+kernel)]
 rfl
theorem ug {x:Str}{a b:Α}(e:x.cps.toList=a++32::b)(h:(∃b',b=32::b')\/b=[]):kK x:=by
 have:=ZM (ws:=(Txt.split x " ").map fun w=>w.cps.toList) (fun w hw=>by
  obtain ⟨w',hw',rfl⟩:=aeu.mp hw
  exact ZK x w' hw') ((yC x).trans e) h
 obtain ⟨w,hw,e2⟩:=aeu.mp this
 exact .inl (mY (mZ hw (.inl e2)))
theorem FV {x:Str}(h:9∈x.cps.toList):kK x:=by
 rw [<- yC x] at h
 rcases Q_ h with z | ⟨w,hw,z⟩
 ·exact absurd z (by decide)
 ·obtain ⟨w',hw',rfl⟩:=aeu.mp hw
  exact .inl (mY (mZ hw' (.inr z)))
theorem u_ (x:Option (List RV)):TZ x none=x:=by cases x <;> rfl
theorem CM (n x y:Str):ck bX ["pin",n,x,y]=fit zaq ["pin",n,x,y]:=by
 rw [fZ,aQ (ks:=zad) (by simp),aQ (ks:=zab) (by simp),f9 (k:="bar") (by decide+kernel) (by decide+kernel),aQ (ks:=zaz) (by simp),aQ (ks:=zaY) (by simp),aQ (ks:=zae) (by simp),aQ (ks:=zaa) (by simp)]
 exact u_ _
theorem CQ (n x y:Str):ck bX ["bar",n,x,y]=fit zat ["bar",n,x,y]:=by
 rw [fZ,f9 (k:="pin") (by decide+kernel) (by decide+kernel),aQ (ks:=zad) (by simp),aQ (ks:=zab) (by simp),aQ (ks:=zaz) (by simp),aQ (ks:=zaY) (by simp),aQ (ks:=zae) (by simp),aQ (ks:=zaa) (by simp)]
 exact u_ _
theorem FW (h n x y z:Str):ck bX [h,n,x,y,z]=TZ (fit zad [h,n,x,y,z]) (fit zae [h,n,x,y,z]):=by
 rw [fZ,aQ (ks:=zaq) (by simp),aQ (ks:=zab) (by simp),aQ (ks:=zat) (by simp),aQ (ks:=zaz) (by simp),aQ (ks:=zaY) (by simp),aQ (ks:=zaa) (by simp)]
 simp only [or_none,u_]
theorem Rc (h n x y z u v:Str):ck bX [h,n,x,y,z,u,v]=fit zab [h,n,x,y,z,u,v]:=by
 rw [fZ,aQ (ks:=zaq) (by simp),aQ (ks:=zad) (by simp),aQ (ks:=zat) (by simp),aQ (ks:=zaz) (by simp),aQ (ks:=zaY) (by simp),aQ (ks:=zae) (by simp),aQ (ks:=zaa) (by simp)]
 simp only [or_none,u_]
theorem ZR (h n x y z u v w:Str):ck bX [h,n,x,y,z,u,v,w]=fit zaa [h,n,x,y,z,u,v,w]:=by
 rw [fZ,aQ (ks:=zaq) (by simp),aQ (ks:=zad) (by simp),aQ (ks:=zab) (by simp),aQ (ks:=zat) (by simp),aQ (ks:=zaz) (by simp),aQ (ks:=zaY) (by simp),aQ (ks:=zae) (by simp)]
 simp only [or_none,u_]
theorem Rf (h n:Str):ck bX [h,n]=fit zaz [h,n]:=by
 rw [fZ,aQ (ks:=zaq) (by simp),aQ (ks:=zad) (by simp),aQ (ks:=zab) (by simp),aQ (ks:=zat) (by simp),aQ (ks:=zaY) (by simp),aQ (ks:=zae) (by simp),aQ (ks:=zaa) (by simp)]
 simp only [or_none,u_]
theorem ZS (h:Str):ck bX [h]=fit zaY [h]:=by
 rw [fZ,aQ (ks:=zaq) (by simp),aQ (ks:=zad) (by simp),aQ (ks:=zab) (by simp),aQ (ks:=zat) (by simp),aQ (ks:=zaz) (by simp),aQ (ks:=zae) (by simp),aQ (ks:=zaa) (by simp)]
 simp only [or_none,u_]
theorem NQ {ws:ζ}(h:ws.length=3\/ws.length=6):ck bX ws=none:=by
 have k:∀ks:List Str,ks.length≠3->ks.length≠6->fit ks ws=none:=fun ks a b=>aQ (by omega)
 rw [fZ,k _ (by simp) (by simp),k _ (by simp) (by simp),k _ (by simp) (by simp),k _ (by simp) (by simp),k _ (by simp) (by simp),k _ (by simp) (by simp),k _ (by simp) (by simp),k _ (by simp) (by simp)]
 rfl
theorem eP {w:Str}(h:fM w=true):∃r,valOf "NUMBER" w=some (.q r)/\Good (qr r):=by
 obtain ⟨r,g,e,_⟩:=w_ h
 exact ⟨r,by rw [CK,e,kH g];rfl,g⟩
theorem eQ {w:Str}(h:fM w=false):valOf "NUMBER" w=none:=by
 rw [CK,ZN h]
 rfl
theorem name_val {w:Str}(h:bu w=true):valOf "NAME" w=some (.w w):=by rw [FT,if_pos h]
theorem fq {w:Str}(h:bu w=false):valOf "NAME" w=none:=by rw [FT,h];rfl
theorem ZT {w:Str}(h:kJ w=true):∃k:Nat,valOf "MANY" w=some (.n (k:Int))/\1<=k/\k<=60:=by
 obtain ⟨k,k1,k2,e⟩:=ZO h
 exact ⟨k,by rw [FU,e];rfl,k1,k2⟩
theorem ZU {w:Str}(h:kJ w=false):valOf "MANY" w=none:=by
 rw [FU,aeI h]
 rfl
theorem ij {k:Str}(h:Ra k=true):valOf k k=some (.w k):=by rw [v_lit h,if_pos rfl]
def txt (ws:ζ):Str:=Txt.join " " ws
theorem va {ws:ζ}{sg:Sg}(ne:ws≠[])(h:∀w∈ws,Wd w)(ok:FD sg)(e:ck bX ws=some (dq sg)):uf (txt ws)=some sg:=yD ok (by unfold txt;rw [yd ne h];exact e)
theorem rG {ws:ζ}(ne:ws≠[])(h:∀w∈ws,Wd w)(e:ck bX ws=none):kK (txt ws):=.inl (mY (by unfold txt;rw [yd ne h];exact e))
theorem lQ {ws:ζ}(h:∀w∈ws,Wd w)(l:(ws.map (·.length)).sum+ws.length<=390):oh 390 (txt ws):=by
 have e:(txt ws).cps.toList=jn 32 (ws.map fun w=>w.cps.toList):=by
  unfold txt
  rw [blank,show Txt.join (⟨#[32]⟩:Str) ws=Str.join ⟨#[32]⟩ ws from StrLaws.glued_eq_join _ _,q_]
 have lj:∀vs:List Str,(jn 32 (vs.map fun w=>w.cps.toList)).length<=(vs.map (·.length)).sum+vs.length:=by
  intro vs
  induction vs with
  | nil=>exact abt _
  | cons v t ih=>
   cases t with
   | nil=>
    show v.cps.toList.length<=v.length+0+1
    rw [bf]
    omega
   | cons u t=>
    show (v.cps.toList++32::jn 32 ((u::t).map fun w=>w.cps.toList)).length<=_
    rw [aa_,abC,show ((v::u::t).map (·.length)).sum=v.length+((u::t).map (·.length)).sum from rfl,show (v::u::t).length=(u::t).length+1 from rfl]
    have:v.cps.toList.length=v.length:=(bf v).symm
    omega
 refine ⟨?_,fun c hc=>?_⟩
 ·rw [bf,e]
  exact ir (lj ws) l
 ·rw [e] at hc
  rcases Q_ hc with rfl | ⟨w,hw,z⟩
  ·decide
  ·obtain ⟨w',hw',rfl⟩:=aeu.mp hw
   exact ⟨((h w' hw').Pz c z).1,((h w' hw').Pz c z).2.2⟩
def gi (n:Nat)(w:Str):Bool:=decide (w.length<=n) && w.cps.toList.all (fun c=>decide (c < 1000) && (!decide (c=32) && !decide (c=10)))
theorem gC {n:Nat}{w:Str}(hn:n<=400)(h:gi n w=true):Wd w:=by
 unfold gi at h
 rw [abA,decide_eq_true_eq,alx] at h
 refine ⟨ir h.1 hn,fun c hc=>?_⟩
 have:=h.2 c hc
 simp only [abA,decide_eq_true_eq,ae_,decide_eq_false_iff_not] at this
 exact this
theorem bE {n:Nat}{w:Str}(h:gi n w=true):w.length<=n:=by
 unfold gi at h
 rw [abA,decide_eq_true_eq] at h
 exact h.1
structure LR where
 x:Str
 k:Str
 nm:Str
 g:Bool
structure gM (n:Nat)(r:LR):Prop where
 tx:oh n r.x
 nw:gi 21 r.nm=true
 bad:r.g=false->kK r.x
 pin:r.g=true->r.k="pin"\/r.k="bar"->∃w,uf r.x=some (.row w)/\∀sh,bJ sh (.row w)=true
 fin:r.g=true->r.k="end"->uf r.x=some .fin
 pc:r.g=true->r.k="piece"->fj r.nm->uf r.x=some (.du r.nm)
 lay:r.g=true->r.k="lay"->fj r.nm->∃a b c,uf r.x=some (.row (.lay r.nm a b c))
 kd:r.g=true->r.k="pin"\/r.k="bar"\/r.k="end"\/r.k="piece"\/r.k="lay"
theorem gM.up {r:LR}(h:gM 390 r):gM 400 r:={h with tx:=⟨ir h.tx.len (by decide),h.tx.Pz⟩}
theorem gM.ajS {r:LR}(h:gM 390 r){x:Str}(t:oh 400 x)(b:kK x):gM 400 ⟨x,r.k,r.nm,false⟩:=⟨t,h.nw,fun _=>b,(fun z=>nomatch z),(fun z=>nomatch z),(fun z=>nomatch z),(fun z=>nomatch z),(fun z=>nomatch z)⟩
def Src (ns:ζ)(r:LR):Prop:=r.g=true->r.k="piece"\/r.k="lay"->fj r.nm\/r.nm∈ns
def oN (rs:List LR):List Str:=(rs.filter (fun r=>decide (r.k=("piece":Str)))).map (·.nm)
theorem rH (r:LR)(t:List LR):oN (r::t)=(if r.k="piece" then [r.nm] else [])++oN t:=by
 unfold oN
 by_cases c:r.k="piece"
 ·rw [List.filter_cons_of_pos (by simpa using c),if_pos c]
  rfl
 ·rw [List.filter_cons_of_neg (by simpa using c),if_neg c]
  rfl
theorem xa (a b:List LR):oN (a++b)=oN a++oN b:=by
 unfold oN
 rw [List.filter_append,aeU]
def oQ (rs:List LR):Prop:=∀i r,rs[i]? =some r->gM 400 r/\Src (oN (rs.take i)) r
theorem oQ.snoc {rs:List LR}{r:LR}(h:oQ rs)(p:gM 400 r)(s:Src (oN rs) r):oQ (rs++[r]):=fun i r' e=>by
 by_cases c:i < rs.length
 ·rw [aeE c] at e
  rw [List.take_append_of_le_length (by omega)]
  exact h i r' e
 ·rw [aea (by omega)] at e
  have:=abv.mp (abw e)
  have il:=(W1.mp e).1
  have:i=rs.length:=by simp at il;omega
  rw [this,aoS rfl]
  rw [abv.mp (abw e)]
  exact ⟨p,s⟩
def g7 (op:Β)(cl:ζ)(r:LR):Bool:= !r.g || (decide (r.k="piece") && (!decide (op=none) || decide (r.nm∈cl)))
def iS (op:Β)(cl:ζ)(r:LR):Bool:=(decide (r.k="end") && decide (op=none)) || (decide (r.k="lay") && !decide (r.nm∈cl))
def XC (op:Β)(r:LR):Option Str:=if r.k="end" then none else if r.k="piece" then some r.nm else op
def XD (op:Β)(cl:ζ)(r:LR):List Str:=if r.k="end" then cl++op.toList else cl
def p_:List LR->Nat->Option Str->List Str->Int
 | [],k,op,_=>if op=none then -1 else (k:Int)
 | r::t,k,op,cl=>if g7 op cl r=true then (k:Int) else if iS op cl r=true then (k:Int) else p_ t (k+1) (XC op r) (XD op cl r)
noncomputable def oR (R:Str->Option Sg):List Str->Nat->Sh->Int
 | [],k,sh=>if sh.cur=none then -1 else (k:Int)
 | x::t,k,sh=>match R x with
  | none=>(k:Int)
  | some sg=>if bJ sh sg=true then oR R t (k+1) (di sh sg) else (k:Int)
theorem yE (sh:Sh)(w:Rw):(di sh (.row w)).cur=sh.cur/\(di sh (.row w)).pieces.map (·.1)=sh.pieces.map (·.1)/\(di sh (.row w)).pieces.length=sh.pieces.length:=by
 cases c:sh.cur with
 | none=>
  have ek:di sh (.row w)={sh with outside:=sh.outside++[w]}:=by simp only [di,c]
  rw [ek]
  exact ⟨c,rfl,rfl⟩
 | some n=>
  have ek:di sh (.row w)={sh with pieces:=cw sh.pieces n w}:=by simp only [di,c]
  rw [ek]
  exact ⟨c,BZ,by show (cw sh.pieces n w).length=_;unfold cw;rw [Wp]⟩
theorem NR:∀(rs:List LR) (k:Nat) (sh:Sh) (op:Β) (cl pre:ζ),sh.cur=op->sh.pieces.map (·.1)=cl++op.toList->(cl++op.toList).Nodup->(∀n∈pre,fj n)->(∀i r,rs[i]? =some r->gM 400 r/\Src (pre++oN (rs.take i)) r)->oR uf (rs.map (·.x)) k sh=p_ rs k op cl
 | [],k,sh,op,cl,pre,e1,_,_,_,_=>by
  show (if sh.cur=none then (-1:Int) else (k:Int))=if op=none then (-1:Int) else (k:Int)
  rw [e1]
 | r::t,k,sh,op,cl,pre,e1,e2,nd,np,h=>by
  obtain ⟨P,S⟩:=h 0 r rfl
  have S' :Src pre r:=by
   have z:oN ((r::t).take 0)=[]:=rfl
   rw [z,ad_] at S
   exact S
  have ht:(∀n∈pre++(if r.k="piece" then [r.nm] else []),fj n)->∀sh' JU Rg,sh'.cur=JU ->sh'.pieces.map (·.1)=Rg ++JU.toList->(Rg ++JU.toList).Nodup->oR uf (t.map (·.x)) (k+1) sh' =p_ t (k+1) JU Rg :=fun hn sh' JU Rg a b c=>NR t (k+1) sh' JU Rg _ a b c hn fun i r' e=>by
   have:=h (i+1) r' e
   rw [List.take_succ_cons,rH, <- ajD] at this
   exact this
  show (match uf r.x with | none=>(k:Int) | some sg=>if bJ sh sg=true then oR uf (t.map (·.x)) (k+1) (di sh sg) else (k:Int))=if g7 op cl r=true then (k:Int) else if iS op cl r=true then (k:Int) else p_ t (k+1) (XC op r) (XD op cl r)
  cases g:r.g with
  | false=>
   have b1:g7 op cl r=true:=by unfold g7;rw [g];rfl
   rw [if_pos b1]
   rcases P.bad g with z | ⟨p,z,zw⟩
   ·rw [z]
   ·rw [z]
    dsimp only
    rw [if_neg]
    simp [bJ,zw]
  | true=>
   have nok:r.k="piece"\/r.k="lay"->fj r.nm:=fun z=>by
    rcases S' g z with z | z
    ·exact z
    ·exact np _ z
   have other:∀{w:Rw},uf r.x=some (.row w)->bJ sh (.row w)=true->r.k≠ "piece"->r.k≠ "end"->g7 op cl r=false->iS op cl r=false->(match uf r.x with | none=>(k:Int) | some sg=>if bJ sh sg=true then oR uf (t.map (·.x)) (k+1) (di sh sg) else (k:Int))=if g7 op cl r=true then (k:Int) else if iS op cl r=true then (k:Int) else p_ t (k+1) (XC op r) (XD op cl r):=fun {w} ew st n1 n2 b1 b2=>by
    rw [ew,b1,b2,if_neg abr,if_neg abr]
    dsimp only
    rw [if_pos st]
    unfold XC XD
    rw [if_neg n2,if_neg n1,if_neg n2]
    obtain ⟨k1,k2,_⟩:=yE sh w
    refine ht (fun n hn=>?_) _ _ _ (k1.trans e1) (k2.trans e2) nd
    rw [if_neg n1,ad_] at hn
    exact np n hn
   rcases P.kd g with kk | kk | kk | kk | kk
   ·obtain ⟨w,ew,st⟩:=P.pin g (.inl kk)
    have a1:r.k≠ "piece":=by rw [kk];decide+kernel
    have a2:r.k≠ "end":=by rw [kk];decide+kernel
    have a3:r.k≠ "lay":=by rw [kk];decide+kernel
    exact other ew (st sh) a1 a2 (by unfold g7;simp [g,a1]) (by unfold iS;simp [a2,a3])
   ·obtain ⟨w,ew,st⟩:=P.pin g (.inr kk)
    have a1:r.k≠ "piece":=by rw [kk];decide+kernel
    have a2:r.k≠ "end":=by rw [kk];decide+kernel
    have a3:r.k≠ "lay":=by rw [kk];decide+kernel
    exact other ew (st sh) a1 a2 (by unfold g7;simp [g,a1]) (by unfold iS;simp [a2,a3])
   ·have a1:r.k≠ "piece":=by rw [kk];decide+kernel
    have a3:r.k≠ "lay":=by rw [kk];decide+kernel
    rw [P.fin g kk]
    dsimp only
    have b1:g7 op cl r=false:=by unfold g7;simp [g,a1]
    rw [b1,if_neg abr]
    cases op with
    | none=>
     have b2:iS none cl r=true:=by unfold iS;simp [kk]
     rw [b2,if_pos rfl,if_neg]
     simp [bJ,e1]
    | some n=>
     have b2:iS (some n) cl r=false:=by unfold iS;simp [a3]
     rw [b2,if_neg abr,if_pos (by simp [bJ,e1])]
     unfold XC XD
     rw [if_pos kk,if_pos kk]
     refine ht (fun m hm=>?_) _ _ _ rfl ?_ ?_
     ·rw [if_neg a1,ad_] at hm
      exact np m hm
     ·show sh.pieces.map (·.1)=cl++[n]++[]
      rw [e2,ad_]
      rfl
     ·show (cl++[n]++[]).Nodup
      rw [ad_]
      exact nd
   ·have a2:r.k≠ "end":=by rw [kk];decide+kernel
    have a3:r.k≠ "lay":=by rw [kk];decide+kernel
    have ok:=nok (.inl kk)
    rw [P.pc g kk ok]
    dsimp only
    have b2:iS op cl r=false:=by unfold iS;simp [a2,a3]
    rw [b2]
    cases op with
    | some n=>
     have b1:g7 (some n) cl r=true:=by unfold g7;simp [kk]
     rw [if_pos b1,if_neg]
     simp [bJ,e1]
    | none=>
     have Vy :sh.pieces.map (·.1)=cl:=by rw [e2];exact ad_ _
     by_cases m:r.nm∈cl
     ·have b1:g7 none cl r=true:=by unfold g7;simp [kk,m]
      rw [if_pos b1,if_neg]
      simp only [bJ,Vy]
      simp [m]
     ·have b1:g7 none cl r=false:=by unfold g7;simp [g,m]
      rw [b1,if_neg abr,if_neg abr,if_pos (by simp only [bJ,e1,Vy];simp [m])]
      unfold XC XD
      rw [if_neg a2,if_pos kk,if_neg a2]
      refine ht (fun n hn=>?_) _ _ _ rfl ?_ ?_
      ·rw [if_pos kk] at hn
       rcases abB.mp hn with z | z
       ·exact np n z
       ·rw [abv.mp z]
        exact ok
      ·show (sh.pieces++[(r.nm,([]:List Rw))]).map al_=cl++[r.nm]
       rw [aeU,Vy]
       rfl
      ·rw [aie]
       have nd' :cl.Nodup:=by have:=nd;rw [show (none:Β).toList=[] from rfl,ad_] at this;exact this
       exact ⟨nd',by simp,fun a ha b hb z=>m (by rw [show b=r.nm by simpa using hb] at z;rw [<- z];exact ha)⟩
   ·have a1:r.k≠ "piece":=by rw [kk];decide+kernel
    have a2:r.k≠ "end":=by rw [kk];decide+kernel
    obtain ⟨a,b,c,ew⟩:=P.lay g kk (nok (.inr kk))
    have b1:g7 op cl r=false:=by unfold g7;simp [g,a1]
    by_cases m:r.nm∈cl
    ·refine other ew ?_ a1 a2 b1 (by unfold iS;simp [a2,m])
     have ne:sh.cur≠some r.nm:=fun z=>by
      rw [e1] at z
      rw [z,aie] at nd
      exact nd.2.2 _ m _ (by simp) rfl
     simp only [bJ,e2,abA,decide_eq_true_eq,ae_,decide_eq_false_iff_not]
     exact ⟨af_ _ m,ne⟩
    ·have b2:iS op cl r=true:=by unfold iS;simp [kk,m]
     rw [ew,b1,b2,if_neg abr,if_pos rfl]
     dsimp only
     rw [if_neg]
     simp only [bJ,e2,abA,decide_eq_true_eq,ae_,decide_eq_false_iff_not]
     rintro ⟨z1,z2⟩
     rcases abB.mp z1 with z | z
     ·exact m z
     ·rw [e1] at z2
      cases op with
      | none=>cases z
      | some n=>
       rw [show r.nm=n by simpa using z] at z2
       exact z2 rfl
theorem NS {R:Str->Option Sg}{Q:Sh->Prop}{E:Nat->Prop}:∀(rows:ζ) (k:Nat) (sh:Sh),(oR R rows k sh= -1->∀sh' :Sh,sh'.pieces.length<=sh.pieces.length+rows.length->Q sh')->(∀j:Nat,oR R rows k sh=(j:Int)->E j)->lZ R rows k sh Q E
 | [],k,sh,hq,he=>by
  unfold lZ
  unfold oR at hq he
  split
  ·next c=>rw [if_pos c] at hq;exact hq rfl sh (Nat.le_add_right _ _)
  ·next c=>rw [if_neg c] at he;exact he k rfl
 | x::t,k,sh,hq,he=>by
  unfold lZ
  unfold oR at hq he
  cases e:R x with
  | none=>rw [e] at he;exact he k rfl
  | some sg=>
   rw [e] at hq he
   dsimp only at hq he ⊢
   split
   ·next c=>
    rw [if_pos c] at hq he
    refine NS t (k+1) _ (fun z sh' l=>hq z sh' ?_) he
    have:(di sh sg).pieces.length<=sh.pieces.length+1:=by
     cases sg with
     | du n=>show (sh.pieces++[_]).length<=_;rw [aa_,adL];exact abt _
     | fin=>exact agl _
     | row w=>rw [(yE sh w).2.2];exact agl _
    rw [abC]
    omega
   ·next c=>rw [if_neg c] at he;exact he k rfl
theorem dj {x m:Int}(h:0 < m):0<=x.fmod m/\x.fmod m < m:=⟨ajC x h,alK x h⟩
inductive Rh (K:Frag)(vs:η)(H:Hp)(Q:VK)(E_:XK):Prop where
 | mk (a:Addr) (ns:List Int) (k:Int) (_:vs=[.ref a,.int k]) (_:bq K H a (ns.map V.int)) (_:(∀i∈ns,intBits i<=1048576)) (_:0<=k) (_:k<=100) (_:∀v,intBits v<=1048576->Q (.int v) H):Rh K vs H Q E_
theorem aoL:av zaI zaI (aa U1):=sq
theorem aoM (D:Def K mg "_law_cell_at" U1 zaI)(bP:mg "len"=none):Fn P w K mg base CX 1 "_law_cell_at" zaI (Rh K):=by
 refine D.oo aoL fun H hr h=>?_
 obtain ⟨a,ns,k,rfl,hS,hb,h0,h1,q⟩:=h
 refine ⟨_,(ae (aK (aE AX (pv 1) (aL bw rfl bP g_ (aG (pv 0)))) (ag (aA (nU d9 (pv 0) (pv 1)))) ay)
  (ag (aA (aC aS (aC iL (aC aS (aC iL (aC pC (pv 1) ai) (aC DJ ai ai)) ai) (aC pC (pv 1) ai)) ai)))),?_⟩
 have hl:(ns.map V.int).length=ns.length:=Wp _
 refine ⟨_,rfl,_,rfl,a,_,rfl,.inl hS,_,_,rfl,rfl,_,rfl,?_⟩
 refine aI (fun c=>?_) (fun c=>?_)
 ·have c' :k < (((ns.map V.int).length:Nat):Int):=of_decide_eq_true c
  rw [hl] at c'
  have hk:k.toNat < ns.length:=by omega
  have ek:k=((k.toNat:Nat):Int):=by omega
  have e:mv (ns.map V.int) k=some (.int ns[k.toNat]):=by
   have z:mv (ns.map V.int) ((k.toNat:Nat):Int)=some (.int ns[k.toNat]):=b5 (by rw [abx,gE hk];rfl)
   rw [<- ek] at z
   exact z
  exact ⟨_,rfl,_,rfl,a,_,k,_,rfl,rfl,hS,e,q _ (hb _ (alw hk))⟩
 ·have b1:intBits (k+7)<=64:=intBits_le_64 (by omega) (by omega)
  have b2:intBits (k+3)<=64:=intBits_le_64 (by omega) (by omega)
  have e1:=dj (x:=(k+7)*48271^(2:Int).toNat) (m:=2147483647) (by decide)
  have b3:intBits (((k+7)*48271^(2:Int).toNat).fmod 2147483647)<=64:=intBits_le_64 (by omega) (by omega)
  have e2:=dj (x:=((k+7)*48271^(2:Int).toNat).fmod 2147483647*(k+3)) (m:=2147483587) (by decide)
  have b4:intBits ((((k+7)*48271^(2:Int).toNat).fmod 2147483647*(k+3)).fmod 2147483587)<=64:=intBits_le_64 (by omega) (by omega)
  have c:∀{i j:Int},intBits i<=64->intBits j<=64->LB i j:=fun a b=>⟨ir a (by decide),ir b (by decide)⟩
  refine ⟨_,rfl,_,_,rfl,rfl,_,_,rfl,rfl,⟨by decide,by decide,by decide⟩,_,_,rfl,rfl,c b1 (by decide+kernel),_,_,rfl,rfl,nz (by decide),?_⟩
  exact ⟨_,rfl,_,_,rfl,rfl,_,_,rfl,rfl,c b3 b2,_,_,rfl,rfl,nz (by decide),q _ (ir b4 (by decide))⟩
theorem NT {a:Int}{m:Int}(h:1<=m):(a.fdiv m).natAbs<=a.natAbs:=by
 rw [alP _ (by omega)]
 have h1:=Int.mul_ediv_add_emod a m
 have h2:=Int.emod_nonneg a (show m≠0 by omega)
 have h3:=Int.emod_lt_of_pos a (show 0 < m by omega)
 by_cases c:0<=a
 ·have:=Int.ediv_nonneg c (show 0<=m by omega)
  have h4:=Int.ediv_le_self m c
  omega
 ·have h5:a / m < 0:=Int.ediv_neg_of_neg_of_pos (by omega) (by omega)
  have h6:a<=a / m:=Int.le_ediv_of_mul_le (by omega) (by
   have:=Int.mul_le_mul_of_nonpos_left (a:=a) (b:=m) (c:=1) (by omega) h
   omega)
  omega
theorem bits_fdiv {a m:Int}{k:Nat}(h:1<=m)(b:intBits a<=k):intBits (a.fdiv m)<=k:=intBits_le_of_natAbs (NT h) b
inductive uh (vs:η)(H:Hp)(Q:VK)(E_:XK):Prop where
 | mk (c k:Int) (_:vs=[.int c,.int k]) (_:intBits c<=2000000) (_:0<=k) (_:k < 9) (_:∀(r:Int) (H' :Hp),0<=r->r < 1000000000000000000->az H H' ->Q (.int r) H'):uh vs H Q E_
theorem jR:av zaS zaw (aa fe):=sq
theorem NU (D:Def K mg "_law_part" fe zaw)(iQ:mg "range"=none):Fn P w K mg base CX 1 "_law_part" zaw uh:=by
 refine D.op jR fun f cdv A outer s H vs Q E hr h=>?_
 obtain ⟨c,k,rfl,bc,k0,k9,q⟩:=h
 obtain ⟨kn,rfl⟩:∃n:Nat,k=(n:Int):=⟨k.toNat,by omega⟩
 have e18:(10:Int)^(18:Int).toNat=1000000000000000000:=by decide+kernel
 have p18:amL 10 18:=⟨by decide,by decide,by decide⟩
 have d18:∀i,Yk i ((10:Int)^(18:Int).toNat):=fun i=>⟨by rw [e18];decide,by rw [e18];decide+kernel⟩
 have tail:∃tt,PSs (fu (aV P w) P w K mg base zaS "_law_part" (aa fe) f cdv A outer s H E).pq ((aq fe).drop 1) tt/\tt {nx:=fun _ H' =>Q .bN H',rt:=Q} [some (.int c),some (.int (kn:Int)),none,none] H:=by
  refine ⟨_,(ae (i8 PassesOwn.never rfl (tj rfl iQ (aG (pv 1))) (ku (i:=3) jR.nd) (ag (aO (i:=0) jR.nd (aC bT (pv 0) (aC DJ ai ai))))) (ag (aA (aC aS (pv 0) (aC DJ ai ai))))),?_⟩
  refine ⟨_,rfl,(kn:Int),rfl,by omega,by omega,AW (lo:=0) (n:=kn) (fun i σ H' =>Ex2 fun (c' :Int) (o:Η)=>σ=[some (.int c'),some (.int (kn:Int)),none,o]/\H' =H/\intBits c' <=2000000) ⟨c,none,rfl,rfl,bc⟩ ?_ ?_⟩
  ·rintro i σ H' hi ⟨c',o,rfl,rfl,b'⟩
   exact ⟨_,rfl,_,_,rfl,rfl,p18,_,_,rfl,rfl,d18 _,_,_,rfl,rfl,bits_fdiv (by rw [e18];decide) b'⟩
  ·rintro σ H' ⟨c',o,rfl,rfl,b'⟩
   have m:=dj (x:=c') (m:=1000000000000000000) (by decide)
   refine ⟨_,rfl,_,_,rfl,rfl,p18,_,_,rfl,rfl,by rw [e18];exact nz (by decide),?_⟩
   rw [e18]
   exact q _ _ m.1 m.2 (az.refl _)
 obtain ⟨tt,pt,ht⟩:=tail
 refine ⟨_,(ae (aK (xn AY AX ai (pv 0) (aC DJ ai ai)) (ae (aO (i:=2) jR.nd (aC aS (aC iL (aC pC (pv 0) ai) (nU d9 (bB (mw ai (mw ai (mw ai (mw ai (mw ai (mw ai (dm ai ai ai)))))))) (pv 1))) ai))
   (ag (aA (aC aS (aC iL (pv 2) (aC pC (aC pC (aC bT (pv 2) ai) (pv 1)) ai)) ai)))) ay) pt),?_⟩
 refine ⟨_,rfl,_,_,rfl,rfl,_,rfl,?_⟩
 refine aI (fun c1=>?_) (fun c1=>?_)
 ·refine ⟨_,_,rfl,rfl,p18,_,_,rfl,rfl,_,rfl,?_⟩
  refine aI (fun c2=>?_) (fun c2=>ht)
  have h1:0<=c:=of_decide_eq_true c1
  have h2:c < 10^(18:Int).toNat:=of_decide_eq_true c2
  rw [e18] at h2
  have ix:∃m:Int,mv [V.int 40692,.int 48271,.int 104729,.int 1299709,.int 15485863,.int 611953,.int 7919,.int 69621,.int 32452843] (kn:Int)=some (.int m)/\0<=m/\m < 100000000:=by
   have:kn < 9:=by omega
   match kn,this with
   | 0,_=>exact ⟨_,rfl,by decide,by decide⟩
   | 1,_=>exact ⟨_,rfl,by decide,by decide⟩
   | 2,_=>exact ⟨_,rfl,by decide,by decide⟩
   | 3,_=>exact ⟨_,rfl,by decide,by decide⟩
   | 4,_=>exact ⟨_,rfl,by decide,by decide⟩
   | 5,_=>exact ⟨_,rfl,by decide,by decide⟩
   | 6,_=>exact ⟨_,rfl,by decide,by decide⟩
   | 7,_=>exact ⟨_,rfl,by decide,by decide⟩
   | 8,_=>exact ⟨_,rfl,by decide,by decide⟩
  obtain ⟨m,em,m0,m1⟩:=ix
  have cm:∀{i j:Int},intBits i<=64->intBits j<=64->LB i j:=fun a b=>⟨ir a (by decide),ir b (by decide)⟩
  refine ⟨_,rfl,_,_,rfl,rfl,(by show 9<=sizeLine;decide),fun p np=>?_⟩
  have s1:=aT np (.lst [V.int 40692,.int 48271,.int 104729,.int 1299709,.int 15485863,.int 611953,.int 7919,.int 69621,.int 32452843])
  refine ⟨_,rfl,p,_,_,_,rfl,rfl,bq.of aj,em,_,_,rfl,rfl,cm (intBits_le_64 (by omega) (by omega)) (intBits_le_64 (by omega) (by omega)),_,_,rfl,rfl,nz (by decide),?_⟩
  have e1:=dj (x:=(c+7919)*m) (m:=2147483647) (by decide)
  have e2:(((c+7919)*m).fmod 2147483647).fdiv 7=(((c+7919)*m).fmod 2147483647) / 7:=alP _ (by decide)
  refine ⟨_,rfl,_,rfl,_,_,rfl,rfl,⟨by decide,by decide+kernel⟩,_,rfl,_,_,rfl,rfl,_,_,rfl,rfl,_,_,rfl,rfl,cm (intBits_le_64 (by omega) (by omega)) (intBits_le_64 (by omega) (by omega)),_,_,rfl,rfl,nz (by decide),?_⟩
  have e3:=dj (x:=((c+7919)*m).fmod 2147483647*((((c+7919)*m).fmod 2147483647).fdiv 7+(kn:Int)+1)) (m:=2147483587) (by decide)
  exact q _ _ e3.1 (by omega) s1
 ·exact ⟨_,rfl,ht⟩
theorem pick {ws:ζ}{m:Int}(h0:0<=m)(h1:m < ws.length):∃w∈ws,mv (ws.map V.str) m=some (.str w):=by
 obtain ⟨k,rfl⟩:=Int.eq_ofNat_of_zero_le h0
 have hk:k < ws.length:=by omega
 exact ⟨ws[k],alw hk,b5 (by rw [abx,gE hk];rfl)⟩
def ZV:List Str:=["a","b7","ab","a0","0","pin",Txt.mul "z" 20,"end"]
def ajT:List Str:=["",Txt.mul "z" 21,"A","a_b","a-1","b\t"]
theorem ZW:∀w∈ZV,bu w=true/\gi 21 w=true:=by decide+kernel
theorem aeJ:∀w∈ajT,bu w=false/\gi 21 w=true:=by decide+kernel
theorem ajU:MulOk "z" 20:=by unfold MulOk;decide+kernel
theorem ajV:MulOk "z" 21:=by unfold MulOk;decide+kernel
theorem dv {i j:Int}(h:j≠0/\intBits j<=9000):Yk i j:=h
def gvW (n:Nat)(f:Str->Bool)(H:Hp)(Q:VK):Prop:=∀(t:Addr) (w:Str) (H' :Hp),az H H' ->H t=none->H' t=some (.tup [.str w,.bl (f w)])->gi n w=true->Q (.ref t) H'
inductive xb (vs:η)(H:Hp)(Q:VK)(E_:XK):Prop where
 | mk (c:Int) (_:vs=[.int c]) (_:gvW 21 bu H Q):xb vs H Q E_
theorem ZX:av zaL zaf (aa U2):=sq
theorem aoN (D:Def K mg "_law_name" U2 zaf):Fn P w K mg base CX 1 "_law_name" zaf xb:=by
 refine D.oo ZX fun H hr h=>?_
 obtain ⟨c,rfl,q⟩:=h
 have sz:∀n:Nat,n<=30->n<=sizeLine:=fun n h=>ir h (by decide)
 refine ⟨_,(ae (aO (i:=1) ZX.nd (bB (mw au (mw au (mw au (mw au (mw au (dm au (aC jI au ai) au))))))))
  (ae (aO (i:=2) ZX.nd (bB (mw au (mw (aC jI au ai) (mw au (dm au au au))))))
  (ae (aK (aE a9 (aC aS (pv 0) ai) ai) (ag (aA (a_ (aU (nU d9 (pv 2) (aC aS (aC bT (pv 0) ai) ai)) dO)))) ay)
  (ag (aA (a_ (aU (nU d9 (pv 1) (aC aS (aC bT (pv 0) ai) ai)) dO))))))),?_⟩
 refine ⟨_,_,rfl,rfl,ajU,sz 8 (by decide),?_⟩
 intro l1 n1;generalize eX:upd _ l1 _=H1;have ⟨s1,e1⟩:=nw n1 eX;clear eX
 refine ⟨_,_,rfl,rfl,ajV,sz 6 (by decide),?_⟩
 intro l2 n2;generalize eX:upd _ l2 _=H2;have ⟨s2,e2⟩:=nw n2 eX;clear eX
 have Tg :H2 l1=some (.lst (ZV.map V.str)):=s2 _ _ e1
 have Vy :H2 l2=some (.lst (ajT.map V.str)):=e2
 have m6:=dj (x:=c.fdiv 24) (m:=6) (by decide)
 have m8:=dj (x:=c.fdiv 24) (m:=8) (by decide)
 refine ⟨_,rfl,_,_,rfl,rfl,nz (by decide),rfl,_,rfl,?_⟩
 refine aI (fun _=>?_) (fun _=>?_)
 ·obtain ⟨w',hw,ix⟩:=pick (ws:=ajT) m6.1 m6.2
  refine ⟨_,rfl,_,rfl,_,_,rfl,rfl,dv ⟨by decide,by decide+kernel⟩,_,_,rfl,rfl,nz (by decide),l2,_,_,_,rfl,rfl,bq.of Vy,ix,sz 2 (by decide),?_⟩
  intro t3 n3;generalize eX:upd _ t3 _=H3;have ⟨s3,e3⟩:=nw n3 eX;clear eX
  obtain ⟨h1,h2⟩:=aeJ w' hw
  exact q t3 w' H3 (aw s1 (aw s2 s3)) (aJ (aw s1 s2) n3) (by rw [h1];exact e3) h2
 ·obtain ⟨w',hw,ix⟩:=pick (ws:=ZV) m8.1 m8.2
  refine ⟨_,rfl,_,rfl,_,_,rfl,rfl,dv ⟨by decide,by decide+kernel⟩,_,_,rfl,rfl,nz (by decide),l1,_,_,_,rfl,rfl,bq.of Tg,ix,sz 2 (by decide),?_⟩
  intro t3 n3;generalize eX:upd _ t3 _=H3;have ⟨s3,e3⟩:=nw n3 eX;clear eX
  obtain ⟨h1,h2⟩:=ZW w' hw
  exact q t3 w' H3 (aw s1 (aw s2 s3)) (aJ (aw s1 s2) n3) (by rw [h1];exact e3) h2
def ZY:List Str:=["0","-3","1/2","-7/3","12",Txt.mul "9" 12,"1/"++Txt.mul "7" 12,"4"]
def ajX:List Str:=["2/4","+1","01","-0","1/1","","x","1/0","0/2","1/-2"]
theorem ZZ:∀w∈ZY,fM w=true/\gi 61 w=true:=by decide+kernel
theorem aeK:∀w∈ajX,fM w=false/\gi 61 w=true:=by decide+kernel
theorem avS:MulOk "9" 12:=by unfold MulOk;decide+kernel
theorem avT:MulOk "7" 12:=by unfold MulOk;decide+kernel
inductive uk (vs:η)(H:Hp)(Q:VK)(E_:XK):Prop where
 | mk (c:Int) (_:vs=[.int c]) (_:gvW 61 fM H Q):uk vs H Q E_
theorem Z0:av zaL zaf (aa U3):=sq
theorem aoO (D:Def K mg "_law_number" U3 zaf):Fn P w K mg base CX 1 "_law_number" zaf uk:=by
 refine D.oo Z0 fun H hr h=>?_
 obtain ⟨c,rfl,q⟩:=h
 have sz:∀n:Nat,n<=30->n<=sizeLine:=fun n h=>ir h (by decide)
 refine ⟨_,(ae (aO (i:=1) Z0.nd (bB (mw au (mw au (mw au (mw au (mw au (dm (aC jI au ai) (aC eY au (aC jI au ai)) au))))))))
  (ae (aO (i:=2) Z0.nd (bB (qY ["2/4","+1","01","-0","1/1","","x","1/0","0/2","1/-2"] (by decide+kernel))))
  (ae (aK (aE a9 (aC aS (pv 0) ai) ai) (ag (aA (a_ (aU (nU d9 (pv 2) (aC aS (aC bT (pv 0) ai) ai)) dO)))) ay)
  (ag (aA (a_ (aU (nU d9 (pv 1) (aC aS (aC bT (pv 0) ai) ai)) dO))))))),?_⟩
 refine ⟨_,_,rfl,rfl,avS,_,_,rfl,rfl,avT,_,_,rfl,rfl,ir (show ("1/":Str).length+(Txt.mul "7" 12).length<=30 by decide+kernel) (by decide),sz 8 (by decide),?_⟩
 intro l1 n1;generalize eX:upd _ l1 _=H1;have ⟨s1,e1⟩:=nw n1 eX;clear eX
 refine ⟨sz 10 (by decide),?_⟩
 intro l2 n2;generalize eX:upd _ l2 _=H2;have ⟨s2,e2⟩:=nw n2 eX;clear eX
 have Tg :H2 l1=some (.lst (ZY.map V.str)):=s2 _ _ e1
 have Vy :H2 l2=some (.lst (ajX.map V.str)):=e2
 have m6:=dj (x:=c.fdiv 24) (m:=10) (by decide)
 have m8:=dj (x:=c.fdiv 24) (m:=8) (by decide)
 refine ⟨_,rfl,_,_,rfl,rfl,nz (by decide),rfl,_,rfl,?_⟩
 refine aI (fun _=>?_) (fun _=>?_)
 ·obtain ⟨w',hw,ix⟩:=pick (ws:=ajX) m6.1 m6.2
  refine ⟨_,rfl,_,rfl,_,_,rfl,rfl,dv ⟨by decide,by decide+kernel⟩,_,_,rfl,rfl,nz (by decide),l2,_,_,_,rfl,rfl,bq.of Vy,ix,sz 2 (by decide),?_⟩
  intro t3 n3;generalize eX:upd _ t3 _=H3;have ⟨s3,e3⟩:=nw n3 eX;clear eX
  obtain ⟨h1,h2⟩:=aeK w' hw
  exact q t3 w' H3 (aw s1 (aw s2 s3)) (aJ (aw s1 s2) n3) (by rw [h1];exact e3) h2
 ·obtain ⟨w',hw,ix⟩:=pick (ws:=ZY) m8.1 m8.2
  refine ⟨_,rfl,_,rfl,_,_,rfl,rfl,dv ⟨by decide,by decide+kernel⟩,_,_,rfl,rfl,nz (by decide),l1,_,_,_,rfl,rfl,bq.of Tg,ix,sz 2 (by decide),?_⟩
  intro t3 n3;generalize eX:upd _ t3 _=H3;have ⟨s3,e3⟩:=nw n3 eX;clear eX
  obtain ⟨h1,h2⟩:=ZZ w' hw
  exact q t3 w' H3 (aw s1 (aw s2 s3)) (aJ (aw s1 s2) n3) (by rw [h1];exact e3) h2
theorem avU:MulOk "5" 60:=by unfold MulOk;decide+kernel
theorem avV:MulOk "8" 61:=by unfold MulOk;decide+kernel
theorem T1:fM (Txt.mul "5" 60)=true/\gi 61 (Txt.mul "5" 60)=true:=by decide+kernel
theorem NV:fM (Txt.mul "8" 61)=false/\gi 61 (Txt.mul "8" 61)=true:=by decide+kernel
theorem zJ:av zaf zaf (aa dE):=sq
theorem zK (hM:j_ CX)(D:Def K mg "_law_across" dE zaf)(ajY:Fn P w K mg base CX 1 "_law_number" zaf uk):Fn P w K mg base CX 2 "_law_across" zaf uk:=by
 refine D.op zJ fun f cdv A outer s H vs Q E hr h=>?_
 obtain ⟨c,rfl,q⟩:=h
 have px:=gQ (X:=(fu (aV P w) P w K mg base zaf "_law_across" (aa dE) f cdv A outer s H E)) hM
 have L2:2<=sizeLine:=by decide
 refine ⟨_,(ae (aK (aE a9 (aC aS (pv 0) ai) ai) (ag (aA (a_ (aU (aC jI au ai) dO)))) ay)
  (ae (aK (aE a9 (aC aS (pv 0) ai) ai) (ag (aA (a_ (aU (aC jI au ai) dO)))) ay)
  (ag (aA (aR ajY hr.mo px (aG (pv 0))))))),?_⟩
 refine ⟨_,rfl,_,_,rfl,rfl,nz (by decide),rfl,_,rfl,?_⟩
 refine aI (fun _=>?_) (fun _=>?_)
 ·refine ⟨_,_,rfl,rfl,avU,L2,?_⟩
  intro t3 n3;generalize eX:upd _ t3 _=H3;have ⟨s3,e3⟩:=nw n3 eX;clear eX
  exact q t3 _ H3 s3 n3 (by rw [T1.1];exact e3) T1.2
 refine ⟨_,rfl,_,_,rfl,rfl,nz (by decide),rfl,_,rfl,?_⟩
 refine aI (fun _=>?_) (fun _=>?_)
 ·refine ⟨_,_,rfl,rfl,avV,L2,?_⟩
  intro t3 n3;generalize eX:upd _ t3 _=H3;have ⟨s3,e3⟩:=nw n3 eX;clear eX
  exact q t3 _ H3 s3 n3 (by rw [NV.1];exact e3) NV.2
 exact ⟨_,rfl,c,rfl,q⟩
inductive rJ (vs:η)(H:Hp)(Q:VK)(E_:XK):Prop where
 | mk (c k p:Int) (_:vs=[.int c,.int k,.int p]) (_:intBits c<=2000000) (_:0<=k) (_:k < 9) (_:gvW 61 fM H Q):rJ vs H Q E_
theorem gvW.same {n:Nat}{f:Str->Bool}{H H1:Hp}{Q:VK}(h:gvW n f H Q)(s:az H H1):gvW n f H1 Q:=fun t w H' s' nt e o=>h t w H' (aw s s') (aJ s nt) e o
theorem um:av zaj zaj (aa cq):=sq
theorem uo (hM:j_ CX)(D:Def K mg "_law_number_at" cq zaj)(ajY:Fn P w K mg base CX 1 "_law_number" zaf uk)(FX:Fn P w K mg base CX 2 "_law_across" zaf uk)(cg:Fn P w K mg base CX 1 "_law_part" zaw uh):Fn P w K mg base CX 3 "_law_number_at" zaj rJ:=by
 refine D.op um fun f cdv A outer s H vs Q E hr h=>?_
 obtain ⟨c,k,p,rfl,bc,k0,k9,q⟩:=h
 have px:=gQ (X:=(fu (aV P w) P w K mg base zaj "_law_number_at" (aa cq) f cdv A outer s H E)) hM
 refine ⟨_,(ae (aK (aE a9 (aC aS (aC bT (aR cg hr.mo px (aU (pv 0) ai)) ai) ai) (pv 2)) (ag (aA (aR FX hr.mo px (aG (aR cg hr.mo px (aU (pv 0) (pv 1))))))) ay)
  (ag (aA (aR ajY hr.mo px (aG (aR cg hr.mo px (aU (pv 0) (pv 1)))))))),?_⟩
 refine ⟨_,rfl,c,8,rfl,bc,by decide,by decide,fun r H1 r0 r1 s1=>?_⟩
 refine ⟨_,_,rfl,rfl,dv ⟨by decide,by decide+kernel⟩,_,_,rfl,rfl,nz (by decide),_,rfl,rfl,_,rfl,?_⟩
 refine aI (fun _=>?_) (fun _=>?_)
 ·exact ⟨_,rfl,_,rfl,c,k,rfl,bc,k0,k9,fun r2 H2 _ _ s2=>⟨r2,rfl,q.same (aw s1 s2)⟩⟩
 ·exact ⟨_,rfl,_,rfl,c,k,rfl,bc,k0,k9,fun r2 H2 _ _ s2=>⟨r2,rfl,q.same (aw s1 s2)⟩⟩
def Z1:List Str:=["1","2","3","5"]
def ajZ:List Str:=["0","61","01","-1","3/1","1/2","","x","+2"]
theorem Z2:∀w∈Z1,kJ w=true/\gi 21 w=true:=by decide+kernel
theorem aeL:∀w∈ajZ,kJ w=false/\gi 21 w=true:=by decide+kernel
inductive FY (vs:η)(H:Hp)(Q:VK)(E_:XK):Prop where
 | mk (c:Int) (_:vs=[.int c]) (_:gvW 21 kJ H Q):FY vs H Q E_
theorem Z3:av zaL zaf (aa U4):=sq
theorem aoP (D:Def K mg "_law_times" U4 zaf):Fn P w K mg base CX 1 "_law_times" zaf FY:=by
 refine D.oo Z3 fun H hr h=>?_
 obtain ⟨c,rfl,q⟩:=h
 have sz:∀n:Nat,n<=30->n<=sizeLine:=fun n h=>ir h (by decide)
 refine ⟨_,(ae (aO (i:=1) Z3.nd (bB (qY ["1","2","3","5"] (by decide+kernel))))
  (ae (aO (i:=2) Z3.nd (bB (qY ["0","61","01","-1","3/1","1/2","","x","+2"] (by decide+kernel))))
  (ae (aK (aE a9 (aC aS (pv 0) ai) ai) (ag (aA (a_ (aU (nU d9 (pv 2) (aC aS (aC bT (pv 0) ai) ai)) dO)))) ay)
  (ag (aA (a_ (aU (nU d9 (pv 1) (aC aS (aC bT (pv 0) ai) ai)) dO))))))),?_⟩
 refine ⟨sz 4 (by decide),?_⟩
 intro l1 n1;generalize eX:upd _ l1 _=H1;have ⟨s1,e1⟩:=nw n1 eX;clear eX
 refine ⟨sz 9 (by decide),?_⟩
 intro l2 n2;generalize eX:upd _ l2 _=H2;have ⟨s2,e2⟩:=nw n2 eX;clear eX
 have Tg :H2 l1=some (.lst (Z1.map V.str)):=s2 _ _ e1
 have Vy :H2 l2=some (.lst (ajZ.map V.str)):=e2
 have m6:=dj (x:=c.fdiv 24) (m:=9) (by decide)
 have m8:=dj (x:=c.fdiv 24) (m:=4) (by decide)
 refine ⟨_,rfl,_,_,rfl,rfl,nz (by decide),rfl,_,rfl,?_⟩
 refine aI (fun _=>?_) (fun _=>?_)
 ·obtain ⟨w',hw,ix⟩:=pick (ws:=ajZ) m6.1 m6.2
  refine ⟨_,rfl,_,rfl,_,_,rfl,rfl,dv ⟨by decide,by decide+kernel⟩,_,_,rfl,rfl,nz (by decide),l2,_,_,_,rfl,rfl,bq.of Vy,ix,sz 2 (by decide),?_⟩
  intro t3 n3;generalize eX:upd _ t3 _=H3;have ⟨s3,e3⟩:=nw n3 eX;clear eX
  obtain ⟨h1,h2⟩:=aeL w' hw
  exact q t3 w' H3 (aw s1 (aw s2 s3)) (aJ (aw s1 s2) n3) (by rw [h1];exact e3) h2
 ·obtain ⟨w',hw,ix⟩:=pick (ws:=Z1) m8.1 m8.2
  refine ⟨_,rfl,_,rfl,_,_,rfl,rfl,dv ⟨by decide,by decide+kernel⟩,_,_,rfl,rfl,nz (by decide),l1,_,_,_,rfl,rfl,bq.of Tg,ix,sz 2 (by decide),?_⟩
  intro t3 n3;generalize eX:upd _ t3 _=H3;have ⟨s3,e3⟩:=nw n3 eX;clear eX
  obtain ⟨h1,h2⟩:=Z2 w' hw
  exact q t3 w' H3 (aw s1 (aw s2 s3)) (aJ (aw s1 s2) n3) (by rw [h1];exact e3) h2
theorem gM.T2 {x kd nm:Str}{g:Bool}(hk:kd="pin"\/kd="bar")(t:oh 390 x)(nw:gi 21 nm=true)(b:g=false->kK x)(p:g=true->∃w,uf x=some (.row w)/\∀sh,bJ sh (.row w)=true):gM 390 ⟨x,kd,nm,g⟩:=by
 have n:∀{k:Str},k≠ "pin"->k≠ "bar"->kd≠k:=fun a b z=>by
  rcases hk with h | h
  ·exact a (z.symm.trans h)
  ·exact b (z.symm.trans h)
 have n1:kd≠ "end":=n (by decide+kernel) (by decide+kernel)
 have n2:kd≠ "piece":=n (by decide+kernel) (by decide+kernel)
 have n3:kd≠ "lay":=n (by decide+kernel) (by decide+kernel)
 refine ⟨t,nw,b,fun h _=>p h,fun _ z=>absurd z n1,fun _ z=>absurd z n2,fun _ z=>absurd z n3,fun _=>?_⟩
 rcases hk with h | h
 ·exact .inl h
 ·exact .inr (.inl h)
theorem gM.aeM {x nm:Str}{g:Bool}(t:oh 390 x)(nw:gi 21 nm=true)(b:g=false->kK x)(p:g=true->fj nm->uf x=some (.du nm)):gM 390 ⟨x,"piece",nm,g⟩:=by
 have n1:("piece":Str)≠ "pin":=by decide+kernel
 have n2:("piece":Str)≠ "bar":=by decide+kernel
 have n3:("piece":Str)≠ "end":=by decide+kernel
 have n4:("piece":Str)≠ "lay":=by decide+kernel
 exact ⟨t,nw,b,fun _ z=>by rcases z with z | z;exact absurd z n1;exact absurd z n2,fun _ z=>absurd z n3,fun h _=>p h,fun _ z=>absurd z n4,fun _=>.inr (.inr (.inr (.inl rfl)))⟩
theorem gM.agL {x nm:Str}{g:Bool}(t:oh 390 x)(nw:gi 21 nm=true)(b:g=false->kK x)(p:g=true->fj nm->∃a b c,uf x=some (.row (.lay nm a b c))):gM 390 ⟨x,"lay",nm,g⟩:=by
 have n1:("lay":Str)≠ "pin":=by decide+kernel
 have n2:("lay":Str)≠ "bar":=by decide+kernel
 have n3:("lay":Str)≠ "end":=by decide+kernel
 have n4:("lay":Str)≠ "piece":=by decide+kernel
 exact ⟨t,nw,b,fun _ z=>by rcases z with z | z;exact absurd z n1;exact absurd z n2,fun _ z=>absurd z n3,fun _ z=>absurd z n4,fun h _=>p h,fun _=>.inr (.inr (.inr (.inr rfl)))⟩
theorem cS {w:Str}(h:gi 21 w=true):Wd w:=gC (by decide) h
theorem Vz:gi 21 ""=true:=by decide+kernel
theorem bK {ks ws:ζ}(i:Nat){k w:Str}(h:valOf k w=none)(e1:ks[i]? =some k)(e2:ws[i]? =some w):fit ks ws=none:=Rb e1 e2 h
theorem uq {p:nT}(h:p.ws≠[(0,0)])(sh:Sh):bJ sh (.row (.pin p))=true:=by simp [bJ,h]
theorem aeN {n a b:Str}(on:gi 21 n=true)(oa:gi 21 a=true)(ob:gi 21 b=true):gM 390 ⟨txt ["bar",n,a,b],"bar","",bu n && (bu a && (bu b && true))⟩:=by
 have wd:∀w∈(["bar",n,a,b]:List Str),Wd w:=fun w hw=>by
  simp only [aby,aeS,or_false] at hw
  rcases hw with rfl | rfl | rfl | rfl
  ·exact cS (by decide+kernel)
  ·exact cS on
  ·exact cS oa
  ·exact cS ob
 have l3:("bar":Str).length=3:=by decide+kernel
 have a1:=bE on
 have a2:=bE oa
 have a3:=bE ob
 refine .T2 (.inr rfl) (lQ wd (by simp only [adA,agj,aic,aiG,abC,agh];omega)) Vz (fun h=>?_) (fun h=>?_)
 ·refine rG (by simp) wd ?_
  rw [CQ]
  cases c1:bu n with
  | false=>exact bK 1 (fq c1) rfl rfl
  | true=>
   cases c2:bu a with
   | false=>exact bK 2 (fq c2) rfl rfl
   | true=>
    cases c3:bu b with
    | false=>exact bK 3 (fq c3) rfl rfl
    | true=>rw [c1,c2,c3] at h;cases h
 ·simp only [abA] at h
  obtain ⟨h1,h2,h3,_⟩:=h
  exact ⟨.bar n a b,va (by simp) wd ⟨cf.mp h1,cf.mp h2,cf.mp h3⟩ (by rw [CQ];exact bD (ij (by decide+kernel)) (bD (name_val h1) (bD (name_val h2) (bD (name_val h3) jQ)))),fun sh=>by simp [bJ]⟩
theorem Z4 {n x y:Str}(on:gi 21 n=true)(ox:gi 61 x=true)(oy:gi 61 y=true):gM 390 ⟨txt ["pin",n,x,y],"pin","",bu n && (fM x && (fM y && true))⟩:=by
 have wd:∀w∈(["pin",n,x,y]:List Str),Wd w:=fun w hw=>by
  simp only [aby,aeS,or_false] at hw
  rcases hw with rfl | rfl | rfl | rfl
  ·exact cS (by decide+kernel)
  ·exact cS on
  ·exact gC (by decide) ox
  ·exact gC (by decide) oy
 have l3:("pin":Str).length=3:=by decide+kernel
 have a1:=bE on
 have a2:=bE ox
 have a3:=bE oy
 refine .T2 (.inl rfl) (lQ wd (by simp only [adA,agj,aic,aiG,abC,agh];omega)) Vz (fun h=>?_) (fun h=>?_)
 ·refine rG (by simp) wd ?_
  rw [CM]
  cases c1:bu n with
  | false=>exact bK 1 (fq c1) rfl rfl
  | true=>
   cases c2:fM x with
   | false=>exact bK 2 (eQ c2) rfl rfl
   | true=>
    cases c3:fM y with
    | false=>exact bK 3 (eQ c3) rfl rfl
    | true=>rw [c1,c2,c3] at h;cases h
 ·simp only [abA] at h
  obtain ⟨h1,h2,h3,_⟩:=h
  obtain ⟨rx,vx,gx⟩:=eP h2
  obtain ⟨ry,vy,gy⟩:=eP h3
  exact ⟨.pin ⟨n,(rx,ry),[]⟩,va (by simp) wd ⟨cf.mp h1,gx,gy,.inl rfl⟩ (by rw [CM];exact bD (ij (by decide+kernel)) (bD (name_val h1) (bD vx (bD vy jQ)))),uq (by simp)⟩
theorem Z5 {n x y:Str}(on:gi 21 n=true)(ox:gi 61 x=true)(oy:gi 61 y=true):gM 390 ⟨txt ["pin",n,x,y,"fixed"],"pin","",bu n && (fM x && (fM y && (true && true)))⟩:=by
 have wd:∀w∈(["pin",n,x,y,"fixed"]:List Str),Wd w:=fun w hw=>by
  simp only [aby,aeS,or_false] at hw
  rcases hw with rfl | rfl | rfl | rfl | rfl
  ·exact cS (by decide+kernel)
  ·exact cS on
  ·exact gC (by decide) ox
  ·exact gC (by decide) oy
  ·exact cS (by decide+kernel)
 have l3:("pin":Str).length=3:=by decide+kernel
 have l5:("fixed":Str).length=5:=by decide+kernel
 have a1:=bE on
 have a2:=bE ox
 have a3:=bE oy
 have rd:ck bX ["pin",n,x,y,"fixed"]=fit zad ["pin",n,x,y,"fixed"]:=by
  rw [FW,f9 (k:="lay") (by decide+kernel) (by decide+kernel)]
  exact u_ _
 refine .T2 (.inl rfl) (lQ wd (by simp only [adA,agj,aic,aiG,abC,agh];omega)) Vz (fun h=>?_) (fun h=>?_)
 ·refine rG (by simp) wd ?_
  rw [rd]
  cases c1:bu n with
  | false=>exact bK 1 (fq c1) rfl rfl
  | true=>
   cases c2:fM x with
   | false=>exact bK 2 (eQ c2) rfl rfl
   | true=>
    cases c3:fM y with
    | false=>exact bK 3 (eQ c3) rfl rfl
    | true=>rw [c1,c2,c3] at h;cases h
 ·simp only [abA] at h
  obtain ⟨h1,h2,h3,_⟩:=h
  obtain ⟨rx,vx,gx⟩:=eP h2
  obtain ⟨ry,vy,gy⟩:=eP h3
  exact ⟨.pin ⟨n,(rx,ry),[(1,0),(0,1)]⟩,va (by simp) wd ⟨cf.mp h1,gx,gy,.inr (.inl rfl)⟩ (by rw [rd];exact bD (ij (by decide+kernel)) (bD (name_val h1) (bD vx (bD vy (bD (ij (by decide+kernel)) jQ))))),uq (by simp)⟩
theorem yF:QP 0="0":=by
 unfold QP
 rw [cZ]
 decide+kernel
theorem NW:valOf "NUMBER" "0"=some (.q 0):=by
 rw [CK, <- yF,kH (by rw [cZ];exact ⟨by decide,by decide,by decide,by decide⟩)]
 rfl
theorem NX {n x y u v:Str}(on:gi 21 n=true)(ox:gi 61 x=true)(oy:gi 61 y=true)(ou:gi 61 u=true)(ov:gi 61 v=true):gM 390 ⟨txt ["pin",n,x,y,"roller",u,v],"pin","",bu n && (fM x && (fM y && ((!(decide (u="0") && decide (v="0"))) && (fM u && (fM v && true)))))⟩:=by
 have wd:∀w∈(["pin",n,x,y,"roller",u,v]:List Str),Wd w:=fun w hw=>by
  simp only [aby,aeS,or_false] at hw
  rcases hw with rfl | rfl | rfl | rfl | rfl | rfl | rfl
  ·exact cS (by decide+kernel)
  ·exact cS on
  ·exact gC (by decide) ox
  ·exact gC (by decide) oy
  ·exact cS (by decide+kernel)
  ·exact gC (by decide) ou
  ·exact gC (by decide) ov
 have l3:("pin":Str).length=3:=by decide+kernel
 have l5:("roller":Str).length=6:=by decide+kernel
 have a1:=bE on
 have a2:=bE ox
 have a3:=bE oy
 have a4:=bE ou
 have a5:=bE ov
 have good:bu n=true->fM x=true->fM y=true->∀{ru rv:Rat},valOf "NUMBER" u=some (.q ru)->valOf "NUMBER" v=some (.q rv)->Good (qr ru)->Good (qr rv)->∃p:nT,p.ws=[(ru,rv)]/\uf (txt ["pin",n,x,y,"roller",u,v])=some (.row (.pin p)):=fun h1 h2 h3 {ru rv} vu vv gu gv=>by
  obtain ⟨rx,vx,gx⟩:=eP h2
  obtain ⟨ry,vy,gy⟩:=eP h3
  exact ⟨⟨n,(rx,ry),[(ru,rv)]⟩,rfl,va (by simp) wd ⟨cf.mp h1,gx,gy,.inr (.inr ⟨_,rfl,gu,gv⟩)⟩ (by rw [Rc];exact bD (ij (by decide+kernel)) (bD (name_val h1) (bD vx (bD vy (bD (ij (by decide+kernel)) (bD vu (bD vv jQ)))))))⟩
 have g0:Good (qr 0):=by rw [cZ];exact ⟨by decide,by decide,by decide,by decide⟩
 refine .T2 (.inl rfl) (lQ wd (by simp only [adA,agj,aic,aiG,abC,agh];omega)) Vz (fun h=>?_) (fun h=>?_)
 ·have no:ck bX ["pin",n,x,y,"roller",u,v]=none->kK (txt ["pin",n,x,y,"roller",u,v]):=fun z=>rG (by simp) wd z
  rw [Rc] at no
  cases c1:bu n with
  | false=>exact no (bK 1 (fq c1) rfl rfl)
  | true=>
   cases c2:fM x with
   | false=>exact no (bK 2 (eQ c2) rfl rfl)
   | true=>
    cases c3:fM y with
    | false=>exact no (bK 3 (eQ c3) rfl rfl)
    | true=>
     by_cases c4:u="0"/\v="0"
     ·obtain ⟨rfl,rfl⟩:=c4
      obtain ⟨p,e1,e2⟩:=good c1 c2 c3 NW NW g0 g0
      exact .inr ⟨p,e2,e1⟩
     ·cases c5:fM u with
      | false=>exact no (bK 5 (eQ c5) rfl rfl)
      | true=>
       cases c6:fM v with
       | false=>exact no (bK 6 (eQ c6) rfl rfl)
       | true=>
        rw [c1,c2,c3,c5,c6] at h
        have:(decide (u="0") && decide (v="0"))=false:=by
         rw [Bool.and_eq_false_iff,decide_eq_false_iff_not,decide_eq_false_iff_not]
         exact Decidable.not_and_iff_or_not.mp c4
        rw [this] at h
        cases h
 ·simp only [abA,ae_] at h
  obtain ⟨h1,h2,h3,h4,h5,h6,_⟩:=h
  obtain ⟨ru,vu,gu⟩:=eP h5
  obtain ⟨rv,vv,gv⟩:=eP h6
  obtain ⟨p,e1,e2⟩:=good h1 h2 h3 vu vv gu gv
  refine ⟨.pin p,e2,uq fun z=>?_⟩
  rw [e1] at z
  have e3:ru=0:=congrArg (fun l:List (Rat×Rat)=>(l.headD (0,0)).1) z
  have e4:rv=0:=congrArg (fun l:List (Rat×Rat)=>(l.headD (0,0)).2) z
  have back:∀{w:Str} {r:Rat},valOf "NUMBER" w=some (.q r)->fM w=true->w=QP r:=fun {w r} e c=>by
   obtain ⟨r',g',e',_⟩:=w_ c
   rw [CK,e',kH g'] at e
   rw [e',show r' =r from RV.q.inj (abq e)]
  have u0:=back vu h5
  have v0:=back vv h6
  rw [e3,yF] at u0
  rw [e4,yF] at v0
  rw [u0,v0] at h4
  exact absurd h4 (by decide+kernel)
theorem VA {nm:Str}{b:Bool}(o:gi 21 nm=true)(hb:b=bu nm\/b=true):gM 390 ⟨txt ["piece",nm],"piece",nm,b && true⟩:=by
 have wd:∀w∈(["piece",nm]:List Str),Wd w:=fun w hw=>by
  simp only [aby,aeS,or_false] at hw
  rcases hw with rfl | rfl
  ·exact cS (by decide+kernel)
  ·exact cS o
 have l3:("piece":Str).length=5:=by decide+kernel
 have a1:=bE o
 refine .aeM (lQ wd (by simp only [adA,agj,aic,aiG,abC,agh];omega)) o (fun h=>?_) (fun _ ok=>?_)
 ·rw [aly] at h
  refine rG (by simp) wd ?_
  rw [Rf]
  rcases hb with z | z
  ·exact bK 1 (fq (z.symm.trans h)) rfl rfl
  ·rw [z] at h;cases h
 ·exact va (by simp) wd ok (by rw [Rf];exact bD (ij (by decide+kernel)) (bD (name_val (cf.mpr ok)) jQ))
theorem Z6 {nm p x y:Str}{b:Bool}(o:gi 21 nm=true)(hb:b=bu nm\/b=true)(op:gi 21 p=true)(ox:gi 61 x=true)(oy:gi 61 y=true):gM 390 ⟨txt ["lay",nm,p,x,y],"lay",nm,b && (bu p && (fM x && (fM y && true)))⟩:=by
 have wd:∀w∈(["lay",nm,p,x,y]:List Str),Wd w:=fun w hw=>by
  simp only [aby,aeS,or_false] at hw
  rcases hw with rfl | rfl | rfl | rfl | rfl
  ·exact cS (by decide+kernel)
  ·exact cS o
  ·exact cS op
  ·exact gC (by decide) ox
  ·exact gC (by decide) oy
 have l3:("lay":Str).length=3:=by decide+kernel
 have a0:=bE o
 have a1:=bE op
 have a2:=bE ox
 have a3:=bE oy
 have rd:ck bX ["lay",nm,p,x,y]=fit zae ["lay",nm,p,x,y]:=by
  rw [FW,f9 (k:="pin") (by decide+kernel) (by decide+kernel)]
  rfl
 refine .agL (lQ wd (by simp only [adA,agj,aic,aiG,abC,agh];omega)) o (fun h=>?_) (fun h ok=>?_)
 ·refine rG (by simp) wd ?_
  rw [rd]
  cases c1:bu p with
  | false=>exact bK 2 (fq c1) rfl rfl
  | true=>
   cases c2:fM x with
   | false=>exact bK 3 (eQ c2) rfl rfl
   | true=>
    cases c3:fM y with
    | false=>exact bK 4 (eQ c3) rfl rfl
    | true=>
     rw [c1,c2,c3] at h
     rcases hb with z | z
     ·rw [z] at h
      exact bK 1 (fq (by simpa using h)) rfl rfl
     ·rw [z] at h;cases h
 ·simp only [abA] at h
  obtain ⟨_,h1,h2,h3,_⟩:=h
  obtain ⟨rx,vx,gx⟩:=eP h2
  obtain ⟨ry,vy,gy⟩:=eP h3
  exact ⟨p,(rx,ry),none,va (by simp) wd ⟨ok,cf.mp h1,gx,gy,fun _ _ z=>nomatch z⟩ (by rw [rd];exact bD (ij (by decide+kernel)) (bD (name_val (cf.mpr ok)) (bD (name_val h1) (bD vx (bD vy jQ)))))⟩
theorem Z7 {nm p x y t u v:Str}{b:Bool}(o:gi 21 nm=true)(hb:b=bu nm\/b=true)(op:gi 21 p=true)(ox:gi 61 x=true)(oy:gi 61 y=true)(ot:gi 21 t=true)(ou:gi 61 u=true)(ov:gi 61 v=true):gM 390 ⟨txt ["lay",nm,p,x,y,t,u,v],"lay",nm,b && (bu p && (fM x && (fM y && (kJ t && (fM u && (fM v && true))))))⟩:=by
 have wd:∀w∈(["lay",nm,p,x,y,t,u,v]:List Str),Wd w:=fun w hw=>by
  simp only [aby,aeS,or_false] at hw
  rcases hw with rfl | rfl | rfl | rfl | rfl | rfl | rfl | rfl
  ·exact cS (by decide+kernel)
  ·exact cS o
  ·exact cS op
  ·exact gC (by decide) ox
  ·exact gC (by decide) oy
  ·exact cS ot
  ·exact gC (by decide) ou
  ·exact gC (by decide) ov
 have l3:("lay":Str).length=3:=by decide+kernel
 have a0:=bE o
 have a1:=bE op
 have a2:=bE ox
 have a3:=bE oy
 have a4:=bE ot
 have a5:=bE ou
 have a6:=bE ov
 refine .agL (lQ wd (by simp only [adA,agj,aic,aiG,abC,agh];omega)) o (fun h=>?_) (fun h ok=>?_)
 ·refine rG (by simp) wd ?_
  rw [ZR]
  cases c1:bu p with
  | false=>exact bK 2 (fq c1) rfl rfl
  | true=>
   cases c2:fM x with
   | false=>exact bK 3 (eQ c2) rfl rfl
   | true=>
    cases c3:fM y with
    | false=>exact bK 4 (eQ c3) rfl rfl
    | true=>
     cases c4:kJ t with
     | false=>exact bK 5 (ZU c4) rfl rfl
     | true=>
      cases c5:fM u with
      | false=>exact bK 6 (eQ c5) rfl rfl
      | true=>
       cases c6:fM v with
       | false=>exact bK 7 (eQ c6) rfl rfl
       | true=>
        rw [c1,c2,c3,c4,c5,c6] at h
        rcases hb with z | z
        ·rw [z] at h
         exact bK 1 (fq (by simpa using h)) rfl rfl
        ·rw [z] at h;cases h
 ·simp only [abA] at h
  obtain ⟨_,h1,h2,h3,h4,h5,h6,_⟩:=h
  obtain ⟨rx,vx,gx⟩:=eP h2
  obtain ⟨ry,vy,gy⟩:=eP h3
  obtain ⟨ru,vu,gu⟩:=eP h5
  obtain ⟨rv,vv,gv⟩:=eP h6
  obtain ⟨k,vk,k1,k2⟩:=ZT h4
  exact ⟨p,(rx,ry),some (k,(ru,rv)),va (by simp) wd ⟨ok,cf.mp h1,gx,gy,fun _ _ z=>by cases z;exact ⟨k1,k2,gu,gv⟩⟩ (by rw [ZR];exact bD (ij (by decide+kernel)) (bD (name_val (cf.mpr ok)) (bD (name_val h1) (bD vx (bD vy (bD vk (bD vu (bD vv jQ))))))))⟩
theorem aeO:gM 390 ⟨"end","end","",true⟩:=by
 have e:txt zaY="end":=by decide+kernel
 have wd:∀w∈(zaY:List Str),Wd w:=fun w hw=>by
  rw [abv.mp hw]
  exact cS (by decide+kernel)
 have t:oh 390 "end":=by rw [<- e];exact lQ wd (by decide+kernel)
 exact ⟨t,Vz,(fun z=>nomatch z),fun _ z=>by rcases z with z | z <;> exact absurd z (by decide+kernel),fun _ _=>by
  show uf "end"=_
  rw [<- e]
  exact va (by simp) wd trivial (by rw [ZS];exact bD (ij (by decide+kernel)) jQ),fun _ z=>absurd z (by decide+kernel),fun _ z=>absurd z (by decide+kernel),fun _=>.inr (.inr (.inl rfl))⟩
def aeP:List Str:=[""," ","pin","bar a","end "," end","piece","pieces a","End","lay a","pin a 0 0 fixed fixed","pin a 0 0 free","pin a 0 0 roller 1","pin a 0 0 roller 0 0","bar a b","bar a b c d","pin a 0","lay a b 0 0 2","lay a b 0 0 2 1","end a"]
def aj0:List (List Str):=[[""],["",""],["pin"],["bar","a"],["end",""],["","end"],["piece"],["pieces","a"],["End"],["lay","a"],["pin","a","0","0","fixed","fixed"],["pin","a","0","0","free"],["pin","a","0","0","roller","1"],["pin","a","0","0","roller","0","0"],["bar","a","b"],["bar","a","b","c","d"],["pin","a","0"],["lay","a","b","0","0","2"],["lay","a","b","0","0","2","1"],["end","a"]]
theorem aeQ:aj0.map txt=aeP:=by decide+kernel
theorem aj1:∀ws∈aj0,(∀w∈ws,gi 21 w=true)/\ws≠[]/\(ws.map (·.length)).sum+ws.length<=390:=by decide+kernel
def aj2 (ws:ζ):Bool:=ws.any (fun w=>decide (w="")) || (decide (ws.length=3) || (decide (ws.length=6) || ((decide (ws.length=1) && !decide (ws.head? =some "end")) || ((decide (ws.length=2) && !decide (ws.head? =some "piece")) || ((decide (ws.length=5) && (!decide (ws.head? =some "pin") && !decide (ws.head? =some "lay"))) || (decide (ws.length=7) && !decide (ws.head? =some "pin")))))))
theorem Z8 {ws:ζ}(h:aj2 ws=true):ck bX ws=none:=by
 unfold aj2 at h
 simp only [Bool.or_eq_true,abA,decide_eq_true_eq,ae_,decide_eq_false_iff_not,ak_] at h
 rcases h with ⟨w,hw,e⟩ | h | h | ⟨l,h⟩ | ⟨l,h⟩ | ⟨l,h,h2⟩ | ⟨l,h⟩
 ·exact mZ hw (.inl (by rw [e];rfl))
 ·exact NQ (.inl h)
 ·exact NQ (.inr h)
 ·match ws,l with
  | [a],_=>
   rw [ZS]
   exact f9 (by decide+kernel) (fun z=>h (by rw [z];rfl))
 ·match ws,l with
  | [a,b],_=>
   rw [Rf]
   exact f9 (by decide+kernel) (fun z=>h (by rw [z];rfl))
 ·match ws,l with
  | [a,b,c,d,e],_=>
   rw [FW,f9 (by decide+kernel) (fun z=>h (by rw [z];rfl)),f9 (by decide+kernel) (fun z=>h2 (by rw [z];rfl))]
   rfl
 ·match ws,l with
  | [a,b,c,d,e,f,g],_=>
   rw [Rc]
   exact f9 (by decide+kernel) (fun z=>h (by rw [z];rfl))
theorem aeR:∀ws∈aj0,aj2 ws=true\/ws=(["pin","a","0","0","free"]:List Str)\/ws=(["pin","a","0","0","roller","0","0"]:List Str):=by decide+kernel
theorem T3 {x:Str}(h:x∈aeP):gM 390 ⟨x,"odd","",false⟩:=by
 rw [<- aeQ] at h
 obtain ⟨ws,hw,rfl⟩:=aeu.mp h
 obtain ⟨o1,o2,o3⟩:=aj1 ws hw
 have wd:∀w∈ws,Wd w:=fun w hw=>cS (o1 w hw)
 refine ⟨lQ wd o3,Vz,fun _=>?_,(fun z=>nomatch z),(fun z=>nomatch z),(fun z=>nomatch z),(fun z=>nomatch z),(fun z=>nomatch z)⟩
 rcases aeR ws hw with z | z | z
 ·exact rG o2 wd (Z8 z)
 ·refine rG o2 wd ?_
  rw [z,FW,bK 4 (k:="fixed") (w:="free") (by rw [v_lit (by decide+kernel),if_neg (by decide+kernel)]) rfl rfl,f9 (by decide+kernel) (by decide+kernel)]
  rfl
 ·have:=(NX (n:="a") (x:="0") (y:="0") (u:="0") (v:="0") (by decide+kernel) (by decide+kernel) (by decide+kernel) (by decide+kernel) (by decide+kernel)).bad (by decide+kernel)
  rw [z]
  exact this
def gvR (H:Hp)(Q:VK)(ns:ζ):Prop:=∀(t:Addr) (r:LR) (H' :Hp),az H H' ->H t=none->H' t=some (.tup [.str r.x,.str r.k,.str r.nm,.bl r.g])->gM 390 r->Src ns r->Q (.ref t) H'
theorem gvR.same {H H1:Hp}{Q:VK}{ns:ζ}(h:gvR H Q ns)(s:az H H1):gvR H1 Q ns:=fun t r H' s' nt e p z=>h t r H' (aw s s') (aJ s nt) e p z
inductive Z9 (vs:η)(H:Hp)(Q:VK)(E_:XK):Prop where
 | mk (c:Int) (ns:ζ) (_:vs=[.int c]) (_:gvR H Q ns):Z9 vs H Q E_
theorem gW:av ["_law_cell","_law_some"] zaf (aa dS):=sq
theorem yG (D:Def K mg "_law_odd_row" dS zaf):Fn P w K mg base CX 1 "_law_odd_row" zaf Z9:=by
 refine D.oo gW fun H hr h=>?_
 obtain ⟨c,ns,rfl,q⟩:=h
 have sz:∀n:Nat,n<=30->n<=sizeLine:=fun n h=>ir h (by decide)
 refine ⟨_,(ae (aO (i:=1) gW.nd (bB (qY [""," ","pin","bar a","end "," end","piece","pieces a","End","lay a","pin a 0 0 fixed fixed"] (by decide+kernel))))
  (ae (aO (i:=1) gW.nd (aC k_ (pv 1) (bB (qY ["pin a 0 0 free","pin a 0 0 roller 1","pin a 0 0 roller 0 0","bar a b","bar a b c d","pin a 0"] (by decide+kernel)))))
  (ae (aO (i:=1) gW.nd (aC k_ (pv 1) (bB (dm au au au))))
  (ag (aA (a_ (mw (nU d9 (pv 1) (aC aS (pv 0) ai)) (dm au au dO)))))))),?_⟩
 refine ⟨sz 11 (by decide),?_⟩
 intro l1 n1;generalize eX:upd _ l1 _=H1;have ⟨s1,e1⟩:=nw n1 eX;clear eX
 refine ⟨_,rfl,sz 6 (by decide),?_⟩
 intro l2 n2;generalize eX:upd _ l2 _=H2;have ⟨s2,e2⟩:=nw n2 eX;clear eX
 refine ⟨l1,l2,_,_,rfl,rfl,s2 _ _ e1,e2,sz 17 (by decide),?_⟩
 intro l3 n3;generalize eX:upd _ l3 _=H3;have ⟨s3,e3⟩:=nw n3 eX;clear eX
 refine ⟨_,rfl,sz 3 (by decide),?_⟩
 intro l4 n4;generalize eX:upd _ l4 _=H4;have ⟨s4,e4⟩:=nw n4 eX;clear eX
 refine ⟨l3,l4,_,_,rfl,rfl,s4 _ _ e3,e4,sz 20 (by decide),?_⟩
 intro l5 n5;generalize eX:upd _ l5 _=H5;have ⟨s5,e5⟩:=nw n5 eX;clear eX
 have e5' :H5 l5=some (.lst (aeP.map V.str)):=e5
 have m:=dj (x:=c) (m:=20) (by decide)
 obtain ⟨x,hx,ix⟩:=pick (ws:=aeP) m.1 m.2
 refine ⟨_,rfl,_,rfl,_,_,rfl,rfl,nz (by decide),l5,_,_,_,rfl,rfl,bq.of e5',ix,sz 4 (by decide),?_⟩
 intro t6 n6;generalize eX:upd _ t6 _=H6;have ⟨s6,e6⟩:=nw n6 eX;clear eX
 have qE:=aw s1 (aw s2 (aw s3 (aw s4 s5)))
 exact q t6 ⟨x,"odd","",false⟩ H6 (aw qE s6) (aJ qE n6) e6 (T3 hx) (fun z=>nomatch z)
def oi (K:Frag)(H:Hp)(v:V)(p:Str×Bool):Prop:=∃t,v=.ref t/\cT K H t [.str p.1,.bl p.2]
theorem oi.same {H H' :Hp}{v:V}{p:Str×Bool}(h:oi K H v p)(s:az H H'):oi K H' v p:=by
 obtain ⟨t,e,z⟩:=h
 exact ⟨t,e,Ty.az.km s z⟩
theorem cx {H:Hp}{t:Addr}{w:Str}{b:Bool}(e:H t=some (.tup [.str w,.bl b])):oi K H (.ref t) (w,b):=⟨t,rfl,cT.of e⟩
def T4 (K:Frag)(H:Hp)(l:Addr)(ps:List (Str×Bool)):Prop:=∃us,H l=some (.lst us)/\Paired (oi K H) us ps
inductive jS (K:Frag)(vs:η)(H:Hp)(Q:VK)(E_:XK):Prop where
 | mk (kd nm:Str) (l:Addr) (ps:List (Str×Bool)) (_:vs=[.str kd,.str nm,.ref l]) (_:T4 K H l ps) (_:(Txt.partition kd " ").1=kd) (_:kd.length<=10) (_:ps.length<=10) (_:(∀p∈ps,p.1.length<=100)) (_:∀(t:Addr) (H' :Hp),az H H' ->H t=none->H' t=some (.tup [.str (txt (kd::ps.map (·.1))),.str kd,.str nm,.bl (ps.all (·.2))])->Q (.ref t) H'):jS K vs H Q E_
theorem oS:av ["_law_kind","_law_name_here","_law_parts","_law_words"] zap (aa fC):=sq
theorem zL (D:Def K mg "_law_row_of" fC zap)(rj:mg "all"=none):Fn P w K mg base CX 1 "_law_row_of" zap (jS K):=by
 refine D.oo oS fun H hr h=>?_
 obtain ⟨kd,nm,l,ps,rfl,⟨us,hl,pu⟩,hk,lk,lp,lw,q⟩:=h
 have lb:(((" ":Str).length==0)=false):=by decide+kernel
 have lkz:kd.length<=sizeLine:=ir lk (by decide)
 have lu:us.length=ps.length:=Paired.length pu
 have L1:1<=sizeLine:=by decide
 refine ⟨_,(ae (aO (i:=3) oS.nd (aC k_ (bB (aG (bh (gO PySem.F.plainAttrs_str PySem.F.slot_str_partition PySem.F.type_str_partition iO (pv 0) (aG au))))) (nL (tn:=["_law_part_here"]) (fr:=[]) (caps:=[]) (kU (pv 2)) (nU (EI (K:=K) rfl) (pv 0) ai))))
  (ag (aA (a_ (mw (gO PySem.F.plainAttrs_str PySem.F.slot_str_join PySem.F.type_str_join Tn au (aG (pv 3))) (dm (bh (gO PySem.F.plainAttrs_str PySem.F.slot_str_partition PySem.F.type_str_partition iO (pv 0) (aG au))) (pv 1) (aL (tH rfl) rfl rj Yn (aG (nL (tn:=["_law_part_here"]) (fr:=[]) (caps:=[]) (kU (pv 2)) (nU (EI (K:=K) rfl) (pv 0) ai)))))))))),?_⟩
 refine ⟨_,rfl,rfl,kd," ",rfl,rfl,lb,lkz,?_⟩
 intro p1 n1;generalize eX:upd _ p1 _=H1;have ⟨s1,e1⟩:=nw n1 eX;clear eX
 refine ⟨p1,_,_,_,rfl,rfl,cT.of e1,zB,L1,?_⟩
 intro l2 n2;generalize eX:upd _ l2 _=H2;have ⟨s2,e2⟩:=nw n2 eX;clear eX
 have u5:=aw s1 s2
 have hl2:=u5 _ _ hl
 refine ⟨_,rfl,l,rfl,⟨_,bq.of hl2⟩,fun D nD=>?_⟩
 refine tK (K:=K) (a:=l) (xs:=us) (fun i v _=>∃p,ps[i]? =some p/\v=.str p.1) nD (by rw [lu];exact abF lp (by decide)) (fun H3 s3=>bq.of (s3 _ _ hl2)) (fun _ _ _ _ _ _ _ h=>h) ?_ ?_
 ·intro i x H3 R ex s3 k
  obtain ⟨p,ep,t,rfl,ht⟩:=b8 pu ex
  exact ⟨_,rfl,t,_,_,_,rfl,rfl,Ty.az.km (aw u5 s3) ht,wM,k _ H3 (az.refl _) ⟨p,ep,rfl⟩⟩
 intro ys H3 ly py s3 e3
 have ey:ys=(ps.map (·.1)).map V.str:=by
  refine ajW fun i=>?_
  rw [abx,abx]
  by_cases hi:i < ys.length
  ·obtain ⟨p,ep,ev⟩:=py i ys[i] (gE hi)
   rw [gE hi,ev,ep]
   rfl
  ·rw [aeD (by omega),aeD (by omega)]
   rfl
 have mm:=aw u5 s3
 refine ⟨l2,D,_,_,rfl,rfl,s3 _ _ e2,e3,ir (show 1+ys.length<=20 by omega) (by decide),?_⟩
 rw [hk,ey]
 intro l4 n4;generalize eX:upd _ l4 _=H4;have ⟨s4,e4⟩:=nw n4 eX;clear eX
 have s04:=aw mm s4
 have hl4:=s04 _ _ hl
 have e4' :H4 l4=some (.lst ((kd::ps.map (·.1)).map V.str)):=e4
 have sm:((kd::ps.map (·.1)).map (·.length)).sum+(kd::ps.map (·.1)).length*(" ":Str).length<=16777216:=by
  have b1:(" ":Str).length=1:=by decide+kernel
  have b2:∀l:List (Str×Bool),(∀p∈l,p.1.length<=100)->((l.map (·.1)).map (·.length)).sum<=100*l.length:=by
   intro l
   induction l with
   | nil=>intro _;exact abt _
   | cons p t ih=>
    intro h
    have:=ih fun z hz=>h z (abz _ hz)
    have:=h p abE
    show p.1.length+((t.map (·.1)).map (·.length)).sum<=100*(t.length+1)
    omega
  have b3:=b2 ps lw
  show kd.length+((ps.map (·.1)).map (·.length)).sum+((ps.map (·.1)).length+1)*_<=_
  rw [b1,Wp]
  omega
 refine ⟨rfl,_,rfl," ",l4,kd::ps.map (·.1),rfl,rfl,bq.of e4',sm,?_⟩
 refine ⟨_,rfl,rfl,kd," ",rfl,rfl,lb,lkz,?_⟩
 intro p5 n5;generalize eX:upd _ p5 _=H5;have ⟨s5,e5⟩:=nw n5 eX;clear eX
 have hl5:=s5 _ _ hl4
 refine ⟨p5,_,_,_,rfl,rfl,cT.of e5,zB,_,rfl,?_⟩
 refine ⟨_,rfl,l,rfl,⟨_,bq.of hl5⟩,fun D2 nD2=>?_⟩
 have qE:=aw s04 s5
 refine tK (K:=K) (a:=l) (xs:=us) (fun i v _=>∃p,ps[i]? =some p/\v=.bl p.2) nD2 (by rw [lu];exact abF lp (by decide)) (fun H6 s6=>bq.of (s6 _ _ hl5)) (fun _ _ _ _ _ _ _ h=>h) ?_ ?_
 ·intro i x H6 R ex s6 k
  obtain ⟨p,ep,t,rfl,ht⟩:=b8 pu ex
  exact ⟨_,rfl,t,_,_,_,rfl,rfl,Ty.az.km (aw qE s6) ht,TF,k _ H6 (az.refl _) ⟨p,ep,rfl⟩⟩
 intro zs H6 lz pz s6 e6
 have ez:zs=(ps.map (·.2)).map V.bl:=by
  refine ajW fun i=>?_
  rw [abx,abx]
  by_cases hi:i < zs.length
  ·obtain ⟨p,ep,ev⟩:=pz i zs[i] (gE hi)
   rw [gE hi,ev,ep]
   rfl
  ·rw [aeD (by omega),aeD (by omega)]
   rfl
 refine ⟨D2,ps.map (·.2),rfl,by rw [<- ez];exact bq.of e6,(by show 4<=sizeLine;decide),?_⟩
 rw [hk]
 intro t7 n7;generalize eX:upd _ t7 _=H7;have ⟨s7,e7⟩:=nw n7 eX;clear eX
 have s06:=aw qE s6
 refine q t7 H7 (aw s06 s7) (aJ s06 n7) ?_
 rw [alI] at e7
 exact e7
inductive Ri (K:Frag)(vs:η)(H:Hp)(Q:VK)(E_:XK):Prop where
 | mk (c:Int) (l:Addr) (n x y:Str) (ns:ζ) (_:vs=[.int c,.ref l]) (_:intBits c<=2000000) (_:T4 K H l [(n,bu n),(x,fM x),(y,fM y)]) (_:gi 21 n=true) (_:gi 61 x=true) (_:gi 61 y=true) (_:gvR H Q ns):Ri K vs H Q E_
theorem eq_str (a b:Str):decide (V.str a=V.str b)=decide (a=b):=by
 by_cases c:a=b
 ·rw [decide_eq_true c,decide_eq_true (by rw [c])]
 ·rw [decide_eq_false c,decide_eq_false (ne_str c)]
theorem j6:av zax zaN (aa cI):=sq
theorem zM (hM:j_ CX)(D:Def K mg "_law_roller" cI zaN)(bG:Fn P w K mg base CX 3 "_law_number_at" zaj rJ)(dG:Fn P w K mg base CX 1 "_law_row_of" zap (jS K)):Fn P w K mg base CX 4 "_law_roller" zaN (Ri K):=by
 refine D.op j6 fun f cdv A outer s H vs Q E hr h=>?_
 obtain ⟨c,l,n,x,y,ns,rfl,bc,⟨us,hl,pu⟩,on,ox,oy,q⟩:=h
 have px:=gQ (X:=(fu (aV P w) P w K mg base zax "_law_roller" (aa cI) f cdv A outer s H E)) hM
 have lu:us.length=3:=Paired.length pu
 have L2:2<=sizeLine:=by decide
 have lb:∀{n:Nat} {w:Str},gi n w=true->n<=100->w.length<=100:=fun h l=>ir (bE h) l
 have tail:∃t,PSs (fu (aV P w) P w K mg base zax "_law_roller" (aa cI) f cdv A outer s H E).pq ((aq cI).drop 2) t/\∀(b:Bool) (l3 t1 t2:Addr) (u1 u2:Str) (H3:Hp),az H H3->H3 l3=some (.lst [.ref t1,.ref t2])->H3 t1=some (.tup [.str u1,.bl (fM u1)])->H3 t2=some (.tup [.str u2,.bl (fM u2)])->gi 61 u1=true->gi 61 u2=true->b=(decide (u1="0") && decide (u2="0"))->
   t {nx:=fun _ H' =>Q .bN H',rt:=Q} [some (.int c),some (.ref l),some (.ref l3),some (.bl b)] H3:=by
  refine ⟨_,(ag (aA (aR dG hr.mo px (dm au au (aC k_ (aC k_ (pv 1) (bB (aG (a_ (aU au (xk (pv 3))))))) (pv 2)))))),?_⟩
  intro b l3 t1 t2 u1 u2 H3 mm e3 e1 e2 o1 o2 hb
  refine ⟨_,rfl,_,rfl,_,rfl,L2,?_⟩
  intro t4 n4;generalize eX:upd _ t4 _=H4;have ⟨s4,e4⟩:=nw n4 eX;clear eX
  refine ⟨(by show 1<=sizeLine;decide),?_⟩
  intro l5 n5;generalize eX:upd _ l5 _=H5;have ⟨s5,e5⟩:=nw n5 eX;clear eX
  have qE:=aw mm (aw s4 s5)
  have s35:=aw s4 s5
  refine ⟨l,l5,_,_,rfl,rfl,qE _ _ hl,e5,ir (show us.length+1<=20 by omega) (by decide),?_⟩
  intro l6 n6;generalize eX:upd _ l6 _=H6;have ⟨s6,e6⟩:=nw n6 eX;clear eX
  refine ⟨_,rfl,l6,l3,_,_,rfl,rfl,e6,s6 _ _ (s35 _ _ e3),ir (show (us++[V.ref t4]).length+2<=20 by rw [aa_,adL];omega) (by decide),?_⟩
  intro l7 n7;generalize eX:upd _ l7 _=H7;have ⟨s7,e7⟩:=nw n7 eX;clear eX
  have s67:=aw s6 s7
  have s07:=aw qE s67
  have s37:=aw s35 s67
  have pr:T4 K H7 l7 [(n,bu n),(x,fM x),(y,fM y),("roller", !b),(u1,fM u1),(u2,fM u2)]:=⟨_,e7,by
   cases pu with
   | cons a1 pu=>
    cases pu with
    | cons a2 pu=>
     cases pu with
     | cons a3 pu=>
      cases pu
      exact .cons (oi.same a1 s07) (.cons (oi.same a2 s07) (.cons (oi.same a3 s07) (.cons (cx ((aw s5 s67) _ _ e4)) (.cons (cx (s37 _ _ e1)) (.cons (cx (s37 _ _ e2)) .nil)))))⟩
  refine ⟨"pin","",l7,_,rfl,pr,(by decide+kernel),(by decide+kernel),(by show 6<=10;decide),?_,fun t8 H8 s8 n8 e8=>?_⟩
  ·intro p hp
   simp only [aby,aeS,or_false] at hp
   rcases hp with rfl | rfl | rfl | rfl | rfl | rfl
   ·exact lb on (by decide)
   ·exact lb ox (by decide)
   ·exact lb oy (by decide)
   ·show ("roller":Str).length<=100
    decide+kernel
   ·exact lb o1 (by decide)
   ·exact lb o2 (by decide)
  ·refine q t8 ⟨_,"pin","",_⟩ H8 (aw s07 s8) (aJ s07 n8) e8 ?_ (fun _ z=>by rcases z with z | z <;> exact absurd (show ("pin":Str)=_ from z) (by decide+kernel))
   rw [hb]
   exact NX on ox oy o1 o2
 obtain ⟨tt,pt,ht⟩:=tail
 refine ⟨_,(ae (aO (i:=2) j6.nd (bB (aU (aR bG hr.mo px (dm (pv 0) ai ai)) (aR bG hr.mo px (dm (pv 0) ai ai))))) (ae (aO (i:=3) j6.nd (ti (dz a9 (bh (cW (pv 2))) au (i_ _)) (kS (dz a9 (bh (cW (pv 2))) au (i_ _))))) pt)),?_⟩
 refine ⟨_,rfl,c,5,2,rfl,bc,by decide,by decide,fun t1 u1 H1 s1 n1 e1 o1=>?_⟩
 refine ⟨_,rfl,c,6,3,rfl,bc,by decide,by decide,fun t2 u2 H2 s2 n2 e2 o2=>⟨L2,?_⟩⟩
 intro l3 n3;generalize eX:upd _ l3 _=H3;have ⟨s3,e3⟩:=nw n3 eX;clear eX
 have Tg :=s3 _ _ (s2 _ _ e1)
 have Vy :=s3 _ _ e2
 have mm:=aw s1 (aw s2 s3)
 refine ⟨_,rfl,l3,_,_,_,rfl,rfl,bq.of e3,rfl,t1,_,_,_,rfl,rfl,cT.of Tg,wM,rfl,_,rfl,?_⟩
 rw [eq_str]
 by_cases c1:u1="0"
 ·rw [decide_eq_true c1]
  refine fw ?_
  refine ⟨_,rfl,l3,_,_,_,rfl,rfl,bq.of e3,rfl,t2,_,_,_,rfl,rfl,cT.of Vy,wM,rfl,?_⟩
  exact ht _ l3 t1 t2 u1 u2 H3 mm e3 Tg Vy o1 o2 (by rw [eq_str,decide_eq_true c1];rfl)
 ·rw [decide_eq_false c1]
  refine cM ?_
  exact ht _ l3 t1 t2 u1 u2 H3 mm e3 Tg Vy o1 o2 (by rw [decide_eq_false c1];rfl)
structure yH (H:Hp)(op:Β)(lc:Addr)(cl ns:ζ):Prop where
 hl:H lc=some (.lst (cl.map V.str))
 len:cl.length<=100
 c:∀n∈cl,n∈ns/\gi 21 n=true
 o:∀n,op=some n->n∈ns/\gi 21 n=true
theorem yH.same {H H' :Hp}{op:Β}{lc:Addr}{cl ns:ζ}(h:yH H op lc cl ns)(s:az H H'):yH H' op lc cl ns:={h with hl:=s _ _ h.hl}
inductive Rj (K:Frag)(vs:η)(H:Hp)(Q:VK)(E_:XK):Prop where
 | mk (c:Int) (op:Β) (lc:Addr) (cl ns:ζ) (_:vs=[.int c,mj op,.ref lc]) (_:intBits c<=1048576) (_:yH H op lc cl ns) (_:gvR H Q ns):Rj K vs H Q E_
theorem uu {ps:List (Str×Bool)}(h:∀p∈ps,gi 61 p.1=true\/gi 21 p.1=true):∀p∈ps,p.1.length<=100:=fun p hp=>by
 rcases h p hp with z | z <;> have:=bE z <;> omega
theorem gD:av zai zak (aa cO):=sq
theorem Rk (hM:j_ CX)(D:Def K mg "_law_lay" cO zak)(bP:mg "len"=none)(VB:Fn P w K mg base CX 1 "_law_name" zaf xb)(avW:Fn P w K mg base CX 1 "_law_times" zaf FY)(cg:Fn P w K mg base CX 1 "_law_part" zaw uh)(bG:Fn P w K mg base CX 3 "_law_number_at" zaj rJ)(dG:Fn P w K mg base CX 1 "_law_row_of" zap (jS K)):Fn P w K mg base CX 4 "_law_lay" zak (Rj K):=by
 refine D.op gD fun f cdv A outer s H vs Q E hr h=>?_
 obtain ⟨c,op,lc,cl,ns,rfl,bc,oc,q⟩:=h
 have px:=gQ (X:=(fu (aV P w) P w K mg base zai "_law_lay" (aa cO) f cdv A outer s H E)) hM
 have L2:2<=sizeLine:=by decide
 have FZ:intBits c<=2000000:=ir bc (by decide)
 have Z_:∃t,PSs (fu (aV P w) P w K mg base zai "_law_lay" (aa cO) f cdv A outer s H E).pq ((aq cO).drop 6) t/\∀(lp tN:Addr) (nm:Str) (b:Bool) (ps:List (Str×Bool)) (H6:Hp),az H H6->H6 tN=some (.tup [.str nm,.bl b])->T4 K H6 lp ps->ps.length<=10->(∀p∈ps,p.1.length<=100)->gM 390 ⟨txt ("lay"::ps.map (·.1)),"lay",nm,ps.all (·.2)⟩->Src ns ⟨txt ("lay"::ps.map (·.1)),"lay",nm,ps.all (·.2)⟩->
   t {nx:=fun _ H' =>Q .bN H',rt:=Q} [some (.int c),some (mj op),some (.ref lc),some (.ref tN),some (.ref lp)] H6:=by
  refine ⟨_,(ag (aA (aR dG hr.mo px (dm au (bh (pv 3)) (pv 4))))),?_⟩
  intro lp tN nm b ps H6 s6 eN pp l10 lw rp sr
  exact ⟨_,rfl,tN,_,_,_,rfl,rfl,cT.of eN,wM,_,rfl,"lay",nm,lp,ps,rfl,pp,(by decide+kernel),(by decide+kernel),l10,lw,fun t8 H8 s8 n8 e8=>q t8 _ H8 (aw s6 s8) (aJ s6 n8) e8 rp sr⟩
 obtain ⟨tt6,pt6,ht6⟩:=Z_
 have tail3:∃t,PSs (fu (aV P w) P w K mg base zai "_law_lay" (aa cO) f cdv A outer s H E).pq ((aq cO).drop 3) t/\∀(tN:Addr) (nm:Str) (b:Bool) (H3:Hp),az H H3->H3 tN=some (.tup [.str nm,.bl b])->gi 21 nm=true->(b=bu nm\/(b=true/\nm∈ns))->
   t {nx:=fun _ H' =>Q .bN H',rt:=Q} [some (.int c),some (mj op),some (.ref lc),some (.ref tN),none] H3:=by
  refine ⟨_,(ae (aO (i:=4) gD.nd (bB (aU (pv 3) (aR VB hr.mo px (aG (aR cg hr.mo px (aU (pv 0) ai))))))) (ae (aO (i:=4) gD.nd (aC k_ (pv 4) (bB (aU (aR bG hr.mo px (dm (pv 0) ai ai)) (aR bG hr.mo px (dm (pv 0) ai ai)))))) (ae (aK (aE a9 (aC aS (pv 0) ai) ai) (ae (bj (gO PySem.F.plainAttrs_list PySem.F.slot_list_append PySem.F.type_list_append fv (pv 4) (aG (aR avW hr.mo px (aG (aR cg hr.mo px (aU (pv 0) ai)))))))
   (ag (aO (i:=4) gD.nd (aC k_ (pv 4) (bB (aU (aR bG hr.mo px (dm (pv 0) ai ai)) (aR bG hr.mo px (dm (pv 0) ai ai)))))))) ay) pt6))),?_⟩
  intro tN nm b H3 s3 eN on hb
  have vL :b=bu nm\/b=true:=hb.imp id (·.1)
  have src:∀{x:Str} {g:Bool},(g=true->b=true)->Src ns ⟨x,"lay",nm,g⟩:=fun {x g} hg h _=>by
   rcases hb with z | z
   ·exact .inl (cf.mp (z.symm.trans (hg h)))
   ·exact .inr z.2
  refine ⟨_,rfl,_,rfl,c,2,rfl,FZ,by decide,by decide,fun r4 H4 _ _ s4=>?_⟩
  refine ⟨r4,rfl,fun t5 w5 H5 s5 n5 e5 o5=>⟨L2,?_⟩⟩
  intro l6 n6;generalize eX:upd _ l6 _=H6;have ⟨s6,e6⟩:=nw n6 eX;clear eX
  refine ⟨_,rfl,_,rfl,c,1,0,rfl,FZ,by decide,by decide,fun t7 w7 H7 s7 n7 e7 o7=>?_⟩
  refine ⟨_,rfl,c,3,1,rfl,FZ,by decide,by decide,fun t8 w8 H8 s8 n8 e8 o8=>⟨L2,?_⟩⟩
  intro l9 n9;generalize eX:upd _ l9 _=H9;have ⟨s9,e9⟩:=nw n9 eX;clear eX
  have s69:=aw s7 (aw s8 s9)
  refine ⟨l6,l9,_,_,rfl,rfl,s69 _ _ e6,e9,(by show 4<=sizeLine;decide),?_⟩
  intro lA nA;generalize eX:upd _ lA _=HA;have ⟨sA,eA0⟩:=nw nA eX;clear eX
  have eA:HA lA=some (.lst [V.ref tN,.ref t5,.ref t7,.ref t8]):=eA0
  have s6A:=aw s69 sA
  have s5A:=aw s6 s6A
  have s3A:=aw s4 (aw s5 s5A)
  have s0A:=aw s3 s3A
  have eNA:=s3A _ _ eN
  have prA:Paired (oi K HA) [V.ref tN,.ref t5,.ref t7,.ref t8] [(nm,b),(w5,bu w5),(w7,fM w7),(w8,fM w8)]:=.cons (cx eNA) (.cons (cx (s5A _ _ e5)) (.cons (cx ((aw s8 (aw s9 sA)) _ _ e7)) (.cons (cx ((aw s9 sA) _ _ e8)) .nil)))
  refine ⟨_,rfl,_,_,rfl,rfl,nz (by decide),rfl,_,rfl,?_⟩
  refine aI (fun _=>?_) (fun _=>?_)
  ·refine ⟨_,rfl,.inl ⟨rfl,_,bq.of eA⟩,_,rfl,c,4,rfl,FZ,by decide,by decide,fun rB HB _ _ sB=>?_⟩
   refine ⟨rB,rfl,fun tC wC HC sC nC eC oC=>?_⟩
   have sAC:=aw sB sC
   refine ⟨lA,_,_,rfl,rfl,sAC _ _ eA,(by show 4 < sizeLine;decide),?_⟩
   have tD:bg HC (upd HC lA (.lst ([V.ref tN,.ref t5,.ref t7,.ref t8]++[V.ref tC]))):=.list (sAC _ _ eA)
   have eD:(upd HC lA (.lst ([V.ref tN,.ref t5,.ref t7,.ref t8]++[V.ref tC]))) lA=some (.lst ([V.ref tN,.ref t5,.ref t7,.ref t8]++[V.ref tC])):=aj
   have kD:∀b' o',H b' =some o' ->(upd HC lA (.lst ([V.ref tN,.ref t5,.ref t7,.ref t8]++[V.ref tC]))) b' =some o' :=fun b' o' e=>by
    have nlA:H lA=none:=aJ (aw s3 (aw s4 (aw s5 (aw s6 s69)))) nA
    rw [ah (ak e nlA)]
    exact sAC _ _ (s0A _ _ e)
   have VC:∀{t:Addr} {xs:η},HC t=some (.tup xs)->(upd HC lA (.lst ([V.ref tN,.ref t5,.ref t7,.ref t8]++[V.ref tC]))) t=some (.tup xs):=fun {t xs} e=>by rw [ah (fun z=>by rw [z,sAC _ _ eA] at e;cases e)];exact e
   generalize upd HC lA (.lst ([V.ref tN,.ref t5,.ref t7,.ref t8]++[V.ref tC]))=HD at tD eD kD VC ⊢
   have prD:Paired (oi K HD) [V.ref tN,.ref t5,.ref t7,.ref t8,.ref tC] [(nm,b),(w5,bu w5),(w7,fM w7),(w8,fM w8),(wC,kJ wC)]:=.cons (cx (VC (sAC _ _ eNA))) (.cons (cx (VC (sAC _ _ (s5A _ _ e5)))) (.cons (cx (VC (sAC _ _ ((aw s8 (aw s9 sA)) _ _ e7)))) (.cons (cx (VC (sAC _ _ ((aw s9 sA) _ _ e8)))) (.cons (cx (VC eC)) .nil))))
   refine ⟨_,rfl,_,rfl,c,5,2,rfl,FZ,by decide,by decide,fun tF wF HF sF nF eF oF=>?_⟩
   refine ⟨_,rfl,c,6,3,rfl,FZ,by decide,by decide,fun tG wG HG sG nG eG oG=>⟨L2,?_⟩⟩
   intro lI nI;generalize eX:upd _ lI _=HI;have ⟨sI,eI⟩:=nw nI eX;clear eX
   have sDI:=aw sF (aw sG sI)
   refine ⟨lA,lI,_,_,rfl,rfl,sDI _ _ eD,eI,(by show 7<=sizeLine;decide),?_⟩
   intro lJ nJ;generalize eX:upd _ lJ _=HJ;have ⟨sJ,eJ⟩:=nw nJ eX;clear eX
   have sDJ:=aw sDI sJ
   refine ht6 lJ tN nm b [(nm,b),(w5,bu w5),(w7,fM w7),(w8,fM w8),(wC,kJ wC),(wF,fM wF),(wG,fM wG)] HJ (fun b' o' e=>sDJ _ _ (kD _ _ e)) (sDJ _ _ (VC (sAC _ _ eNA))) ⟨_,eJ,?_⟩ (by show 7<=10;decide) (uu ?_) (Z7 on vL o5 o7 o8 oC oF oG) (src fun z=>by simp only [ag_,abA] at z;exact z.1)
   ·cases prD with
    | cons a1 p=>
     cases p with
     | cons a2 p=>
      cases p with
      | cons a3 p=>
       cases p with
       | cons a4 p=>
        cases p with
        | cons a5 p=>exact .cons (oi.same a1 sDJ) (.cons (oi.same a2 sDJ) (.cons (oi.same a3 sDJ) (.cons (oi.same a4 sDJ) (.cons (oi.same a5 sDJ) (.cons (cx ((aw sG (aw sI sJ)) _ _ eF)) (.cons (cx ((aw sI sJ) _ _ eG)) .nil))))))
   ·intro p hp
    simp only [aby,aeS,or_false] at hp
    rcases hp with rfl | rfl | rfl | rfl | rfl | rfl | rfl
    ·exact .inr on
    ·exact .inr o5
    ·exact .inl o7
    ·exact .inl o8
    ·exact .inr oC
    ·exact .inl oF
    ·exact .inl oG
  ·refine ht6 lA tN nm b [(nm,b),(w5,bu w5),(w7,fM w7),(w8,fM w8)] HA s0A eNA ⟨_,eA,prA⟩ (by show 4<=10;decide) (uu ?_) (Z6 on vL o5 o7 o8) (src fun z=>by simp only [ag_,abA] at z;exact z.1)
   intro p hp
   simp only [aby,aeS,or_false] at hp
   rcases hp with rfl | rfl | rfl | rfl
   ·exact .inr on
   ·exact .inr o5
   ·exact .inl o7
   ·exact .inl o8
 obtain ⟨tt3,pt3,ht3⟩:=tail3
 have Zh:∃t,PSs (fu (aV P w) P w K mg base zai "_law_lay" (aa cO) f cdv A outer s H E).pq ((aq cO).drop 2) t/\∀(tN:Addr) (nm:Str) (b:Bool) (H3:Hp),az H H3->H3 tN=some (.tup [.str nm,.bl b])->gi 21 nm=true->(b=bu nm\/(b=true/\nm∈ns))->
   t {nx:=fun _ H' =>Q .bN H',rt:=Q} [some (.int c),some (mj op),some (.ref lc),some (.ref tN),none] H3:=by
  refine ⟨_,(ae (aK (PW.pt (iC (aE a9 (aC aS (aC bT (pv 0) ai) ai) ai) (gh (aE iK (pv 1) bz)))) (ag (aO (i:=3) gD.nd (a_ (aU (pv 1) dO)))) ay) pt3),?_⟩
  intro tN nm b H3 s3 eN on hb
  refine ⟨_,rfl,_,_,rfl,rfl,dv ⟨by decide,by decide+kernel⟩,_,_,rfl,rfl,nz (by decide),rfl,_,rfl,?_⟩
  refine aI (fun _=>?_) (fun _=>ht3 tN nm b H3 s3 eN on hb)
  refine ⟨_,rfl,rfl,_,rfl,?_⟩
  cases eo:op with
  | none=>exact cM (by have:=ht3 tN nm b H3 s3 eN on hb;rw [eo] at this;exact this)
  | some n=>
   refine fw ?_
   refine ⟨_,rfl,L2,?_⟩
   intro t4 n4;generalize eX:upd _ t4 _=H4;have ⟨s4,e4⟩:=nw n4 eX;clear eX
   obtain ⟨m1,m2⟩:=oc.o n eo
   have:=ht3 t4 n true H4 (aw s3 s4) e4 m2 (.inr ⟨rfl,m1⟩)
   rw [eo] at this
   exact this
 obtain ⟨tt2,pt2,ht2⟩:=Zh
 refine ⟨_,(ae (aO (i:=3) gD.nd (aR VB hr.mo px (aG (aC bT (pv 0) ai)))) (ae (aK (PW.pt (iC (aE uQ (aC aS (aC bT (pv 0) ai) ai) ai) (gh (aE X5 (aL bw rfl bP g_ (aG (pv 2))) ai)))) (ag (aO (i:=3) gD.nd (a_ (aU (nU d9 (pv 2) (aC aS (aC bT (pv 0) ai) (aL bw rfl bP g_ (aG (pv 2))))) dO)))) ay) pt2)),?_⟩
 refine ⟨_,rfl,_,_,rfl,rfl,dv ⟨by decide,by decide+kernel⟩,_,rfl,fun t1 w1 H1 s1 n1 e1 o1=>?_⟩
 have oc1:=oc.same s1
 refine ⟨_,rfl,_,_,rfl,rfl,dv ⟨by decide,by decide+kernel⟩,_,_,rfl,rfl,nz (by decide),rfl,_,rfl,?_⟩
 refine aI (fun _=>?_) (fun _=>ht2 t1 w1 _ H1 s1 e1 o1 (.inl rfl))
 refine ⟨_,rfl,lc,_,rfl,.inl (bq.of oc1.hl),_,_,rfl,rfl,_,rfl,?_⟩
 refine aI (fun cz=>?_) (fun _=>ht2 t1 w1 _ H1 s1 e1 o1 (.inl rfl))
 have cz' :(0:Int) < (((cl.map V.str).length:Nat):Int):=of_decide_eq_true cz
 have m:=dj (x:=c.fdiv 72) (m:=(((cl.map V.str).length:Nat):Int)) cz'
 obtain ⟨w',hw,ix⟩:=pick (ws:=cl) m.1 (by have:=m.2;rw [Wp] at this ⊢;exact this)
 refine ⟨_,rfl,_,rfl,_,_,rfl,rfl,dv ⟨by decide,by decide+kernel⟩,_,rfl,lc,_,rfl,.inl (bq.of oc1.hl),_,_,rfl,rfl,nz (by omega),lc,_,_,_,rfl,rfl,bq.of oc1.hl,ix,L2,?_⟩
 intro t4 n4;generalize eX:upd _ t4 _=H4;have ⟨s4,e4⟩:=nw n4 eX;clear eX
 obtain ⟨m1,m2⟩:=oc.c w' hw
 exact ht2 t4 w' true H4 (aw s1 s4) e4 m2 (.inr ⟨rfl,m1⟩)
inductive Rl (K:Frag)(vs:η)(H:Hp)(Q:VK)(E_:XK):Prop where
 | mk (c:Int) (op:Β) (lc:Addr) (cl ns:ζ) (_:vs=[.int c,mj op,.ref lc]) (_:intBits c<=1048576) (_:yH H op lc cl ns) (_:gvR H Q ns):Rl K vs H Q E_
theorem jt:av zan zak (aa fE):=sq
theorem Rm (hM:j_ CX)(D:Def K mg "_law_row" fE zak)(bP:mg "len"=none)(VB:Fn P w K mg base CX 1 "_law_name" zaf xb)(cg:Fn P w K mg base CX 1 "_law_part" zaw uh)(zN:Fn P w K mg base CX 1 "_law_odd_row" zaf Z9)(bG:Fn P w K mg base CX 3 "_law_number_at" zaj rJ)(dG:Fn P w K mg base CX 1 "_law_row_of" zap (jS K))
  (F_:Fn P w K mg base CX 4 "_law_roller" zaN (Ri K)) (VD:Fn P w K mg base CX 4 "_law_lay" zak (Rj K)):Fn P w K mg base CX 5 "_law_row" zak (Rl K):=by
 refine D.op jt fun f cdv A outer s H vs Q E hr h=>?_
 obtain ⟨c,op,lc,cl,ns,rfl,bc,oc,q⟩:=h
 have px:=gQ (X:=(fu (aV P w) P w K mg base zan "_law_row" (aa fE) f cdv A outer s H E)) hM
 have L2:2<=sizeLine:=by decide
 have FZ:intBits c<=2000000:=ir bc (by decide)
 have aeT:∀{x k nm:Str} {g:Bool},k="pin"\/k="bar"\/k="end"->Src ns ⟨x,k,nm,g⟩:=fun {x k nm g} hk _ z=>by
  exfalso
  have z' :k="piece"\/k="lay":=z
  rcases hk with h | h | h <;> rw [h] at z' <;> rcases z' with z | z <;> exact absurd z (by decide+kernel)
 have tail3:∃t,PSs (fu (aV P w) P w K mg base zan "_law_row" (aa fE) f cdv A outer s H E).pq ((aq fE).drop 3) t/\∀(tN:Addr) (nm:Str) (H3:Hp),az H H3->H3 tN=some (.tup [.str nm,.bl (bu nm)])->gi 21 nm=true->
   t {nx:=fun _ H' =>Q .bN H',rt:=Q} [some (.int c),some (mj op),some (.ref lc),some (.ref tN),none,none] H3:=by
  refine ⟨_,(ae (aK (aE AX (aC aS (pv 0) ai) ai) (ae (aO (i:=4) jt.nd (bB (dm (pv 3) (aR bG hr.mo px (dm (pv 0) ai ai)) (aR bG hr.mo px (dm (pv 0) ai ai)))))
   (ae (aK (aE a9 (aC aS (pv 0) ai) ai) (ag (bj (gO PySem.F.plainAttrs_list PySem.F.slot_list_append PySem.F.type_list_append fv (pv 4) (aG (a_ (aU au dO)))))) ay)
   (ae (aK (aE a9 (aC aS (pv 0) ai) ai) (ag (aA (aR F_ hr.mo px (aU (pv 0) (pv 4))))) ay)
   (ag (aA (aR dG hr.mo px (dm au au (pv 4)))))))) ay) (ae (aK (aE AX (aC aS (pv 0) ai) ai) (ae (aO (i:=5) jt.nd (bB (aU (aR VB hr.mo px (aG (aR cg hr.mo px (aU (pv 0) ai)))) (aR VB hr.mo px (aG (aR cg hr.mo px (aU (pv 0) ai)))))))
   (ag (aA (aR dG hr.mo px (dm au au (aC k_ (bB (aG (pv 3))) (pv 5))))))) ay) (ae (aK (PW.pt (iC (aE AX (aC aS (pv 0) ai) ai) (gh (PW.pt (lU (aE kY (pv 1) bz) (iZ (aE a9 (aC aS (aC bT (pv 0) ai) ai) ai))))))) (ae (aK (PW.pt (iC (aE a9 (aC aS (aC bT (pv 0) ai) ai) ai) (gh (aE X5 (aL bw rfl bP g_ (aG (pv 2))) ai)))) (ag (aO (i:=3) jt.nd (a_ (aU (nU d9 (pv 2) (aC aS (aC bT (pv 0) ai) (aL bw rfl bP g_ (aG (pv 2))))) dO)))) ay)
   (ag (aA (aR dG hr.mo px (dm au (bh (pv 3)) (bB (aG (pv 3)))))))) ay) (ag (aA (aR VD hr.mo px (dm (pv 0) (pv 1) (pv 2)))))))),?_⟩
  intro tN nm H3 s3 eN on
  have q3:=q.same s3
  have VE:=oc.same s3
  refine ⟨_,rfl,_,_,rfl,rfl,nz (by decide),_,_,rfl,rfl,_,rfl,?_⟩
  refine aI (fun _=>?_) (fun _=>?_)
  ·refine ⟨_,rfl,_,rfl,c,1,0,rfl,FZ,by decide,by decide,fun t4 w4 H4 s4 n4 e4 o4=>?_⟩
   refine ⟨_,rfl,c,3,1,rfl,FZ,by decide,by decide,fun t5 w5 H5 s5 n5 e5 o5=>⟨(by show 3<=sizeLine;decide),?_⟩⟩
   intro l6 n6;generalize eX:upd _ l6 _=H6;have ⟨s6,e6⟩:=nw n6 eX;clear eX
   have s36:=aw s4 (aw s5 s6)
   have pr6:Paired (oi K H6) [V.ref tN,.ref t4,.ref t5] [(nm,bu nm),(w4,fM w4),(w5,fM w5)]:=.cons (cx (s36 _ _ eN)) (.cons (cx ((aw s5 s6) _ _ e4)) (.cons (cx (s6 _ _ e5)) .nil))
   refine ⟨_,rfl,_,_,rfl,rfl,nz (by decide),rfl,_,rfl,?_⟩
   refine aI (fun c1=>?_) (fun _=>?_)
   ·have c1' :c.fmod 9=1:=by simpa [vI] using c1
    refine ⟨_,rfl,.inl ⟨rfl,_,bq.of e6⟩,L2,?_⟩
    intro t7 n7;generalize eX:upd _ t7 _=H7;have ⟨s7,e7⟩:=nw n7 eX;clear eX
    refine ⟨l6,_,_,rfl,rfl,s7 _ _ e6,(by show 3 < sizeLine;decide),?_⟩
    have nl6:H3 l6=none:=aJ (aw s4 s5) n6
    have kD:∀b' o',H3 b' =some o' ->(upd H7 l6 (.lst ([V.ref tN,.ref t4,.ref t5]++[V.ref t7]))) b' =some o' :=fun b' o' e=>by
     rw [ah (ak e nl6)]
     exact s7 _ _ (s36 _ _ e)
    have VC:∀{t:Addr} {xs:η},H7 t=some (.tup xs)->(upd H7 l6 (.lst ([V.ref tN,.ref t4,.ref t5]++[V.ref t7]))) t=some (.tup xs):=fun {t xs} e=>by rw [ah (fun z=>by rw [z,s7 _ _ e6] at e;cases e)];exact e
    have eD:(upd H7 l6 (.lst ([V.ref tN,.ref t4,.ref t5]++[V.ref t7]))) l6=some (.lst ([V.ref tN,.ref t4,.ref t5]++[V.ref t7])):=aj
    generalize upd H7 l6 (.lst ([V.ref tN,.ref t4,.ref t5]++[V.ref t7]))=H8 at kD VC eD ⊢
    refine ⟨_,rfl,_,_,rfl,rfl,nz (by decide),rfl,_,rfl,?_⟩
    refine aI (fun c2=>absurd (show c.fmod 9=2 by simpa [vI] using c2) (by omega)) (fun _=>?_)
    refine ⟨_,rfl,"pin","",l6,[(nm,bu nm),(w4,fM w4),(w5,fM w5),("fixed",true)],rfl,⟨_,eD,.cons (cx (VC (s7 _ _ (s36 _ _ eN)))) (.cons (cx (VC (s7 _ _ ((aw s5 s6) _ _ e4)))) (.cons (cx (VC (s7 _ _ (s6 _ _ e5)))) (.cons (cx (VC e7)) .nil)))⟩,(by decide+kernel),(by decide+kernel),(by show 4<=10;decide),uu ?_,fun t9 H9 s9 n9 e9=>?_⟩
    ·intro p hp
     simp only [aby,aeS,or_false] at hp
     rcases hp with rfl | rfl | rfl | rfl
     ·exact .inr on
     ·exact .inl o4
     ·exact .inl o5
     ·exact .inr (by decide+kernel:gi 21 "fixed"=true)
    ·refine q3 t9 ⟨_,"pin","",_⟩ H9 (fun b' o' e=>s9 _ _ (kD _ _ e)) ?_ e9 (Z5 on o4 o5) (aeT (.inl rfl))
     cases z:H3 t9 with
     | none=>rfl
     | some o=>rw [kD _ _ z] at n9;cases n9
   ·refine ⟨_,rfl,_,_,rfl,rfl,nz (by decide),rfl,_,rfl,?_⟩
    refine aI (fun _=>?_) (fun _=>?_)
    ·exact ⟨_,rfl,_,rfl,c,l6,nm,w4,w5,ns,rfl,FZ,⟨_,e6,pr6⟩,on,o4,o5,q3.same s36⟩
    ·refine ⟨_,rfl,"pin","",l6,[(nm,bu nm),(w4,fM w4),(w5,fM w5)],rfl,⟨_,e6,pr6⟩,(by decide+kernel),(by decide+kernel),(by show 3<=10;decide),uu ?_,fun t9 H9 s9 n9 e9=>(q3.same s36) t9 ⟨_,"pin","",_⟩ H9 s9 n9 e9 (Z4 on o4 o5) (aeT (.inl rfl))⟩
     intro p hp
     simp only [aby,aeS,or_false] at hp
     rcases hp with rfl | rfl | rfl
     ·exact .inr on
     ·exact .inl o4
     ·exact .inl o5
  refine ⟨_,rfl,_,_,rfl,rfl,nz (by decide),_,_,rfl,rfl,_,rfl,?_⟩
  refine aI (fun _=>?_) (fun _=>?_)
  ·refine ⟨_,rfl,c,1,rfl,FZ,by decide,by decide,fun r4 H4 _ _ s4=>?_⟩
   refine ⟨r4,rfl,fun t5 w5 H5 s5 n5 e5 o5=>?_⟩
   refine ⟨_,rfl,c,3,rfl,FZ,by decide,by decide,fun r6 H6 _ _ s6=>?_⟩
   refine ⟨r6,rfl,fun t7 w7 H7 s7 n7 e7 o7=>⟨L2,?_⟩⟩
   intro l8 n8;generalize eX:upd _ l8 _=H8;have ⟨s8,e8⟩:=nw n8 eX;clear eX
   refine ⟨_,rfl,(by show 1<=sizeLine;decide),?_⟩
   intro l9 n9;generalize eX:upd _ l9 _=H9;have ⟨s9,e9⟩:=nw n9 eX;clear eX
   refine ⟨_,rfl,l9,l8,_,_,rfl,rfl,e9,s9 _ _ e8,(by show 3<=sizeLine;decide),?_⟩
   intro lA nA;generalize eX:upd _ lA _=HA;have ⟨sA,eA⟩:=nw nA eX;clear eX
   have s8A:=aw s9 sA
   have s5A:=aw s6 (aw s7 (aw s8 s8A))
   have s3A:=aw s4 (aw s5 s5A)
   refine ⟨"bar","",lA,[(nm,bu nm),(w5,bu w5),(w7,bu w7)],rfl,⟨_,eA,.cons (cx (s3A _ _ eN)) (.cons (cx (s5A _ _ e5)) (.cons (cx ((aw s8 s8A) _ _ e7)) .nil))⟩,(by decide+kernel),(by decide+kernel),(by show 3<=10;decide),uu ?_,fun tB HB sB nB eB=>(q3.same s3A) tB ⟨_,"bar","",_⟩ HB sB nB eB (aeN on o5 o7) (aeT (.inr (.inl rfl)))⟩
   intro p hp
   simp only [aby,aeS,or_false] at hp
   rcases hp with rfl | rfl | rfl
   ·exact .inr on
   ·exact .inr o5
   ·exact .inr o7
  have du:∀(tM:Addr) (m:Str) (b:Bool) (H5:Hp),az H3 H5->H5 tM=some (.tup [.str m,.bl b])->gi 21 m=true->(b=bu m\/(b=true/\m∈ns))->∀(l6:Addr) (H6:Hp),az H5 H6->H6 l6=some (.lst [.ref tM])->jS K [.str "piece",.str m,.ref l6] H6 Q E0:=fun tM m b H5 s5 eM om hb l6 H6 s6 e6=>by
   refine ⟨"piece",m,l6,[(m,b)],rfl,⟨_,e6,.cons (cx (s6 _ _ eM)) .nil⟩,(by decide+kernel),(by decide+kernel),(by show 1<=10;decide),uu ?_,fun t9 H9 s9 n9 e9=>(q3.same (aw s5 s6)) t9 ⟨_,"piece",m,_⟩ H9 s9 n9 e9 (VA om (hb.imp id (·.1))) (fun h _=>?_)⟩
   ·intro p hp
    rw [abv.mp hp]
    exact .inr om
   ·have h' :(b && true)=true:=h
    rw [aly] at h'
    rcases hb with z | z
    ·exact .inl (cf.mp (z.symm.trans h'))
    ·exact .inr z.2
  refine ⟨_,rfl,_,_,rfl,rfl,nz (by decide),_,_,rfl,rfl,_,rfl,?_⟩
  refine aI (fun _=>?_) (fun _=>⟨_,rfl,_,rfl,_,rfl,c,op,lc,cl,ns,rfl,bc,VE,q3⟩)
  refine ⟨_,rfl,rfl,_,rfl,?_⟩
  cases eo:op with
  | none=>
   refine fw ?_
   ·refine ⟨_,rfl,_,_,rfl,rfl,dv ⟨by decide,by decide+kernel⟩,_,_,rfl,rfl,nz (by decide),rfl,_,rfl,?_⟩
    have plain:∀(l6:Addr),H3 l6=none->jS K [.str "piece",.str nm,.ref l6] (upd H3 l6 (.lst [.ref tN])) Q E0:=fun l6 n6=>du tN nm (bu nm) H3 (az.refl _) eN on (.inl rfl) l6 _ (aT n6 _) aj
    refine aI (fun _=>?_) (fun _=>⟨_,rfl,tN,_,_,_,rfl,rfl,cT.of eN,wM,_,rfl,(by show 1<=sizeLine;decide),fun l6 n6=>plain l6 n6⟩)
    refine ⟨_,rfl,lc,_,rfl,.inl (bq.of VE.hl),_,_,rfl,rfl,_,rfl,?_⟩
    refine aI (fun cz=>?_) (fun _=>⟨_,rfl,tN,_,_,_,rfl,rfl,cT.of eN,wM,_,rfl,(by show 1<=sizeLine;decide),fun l6 n6=>plain l6 n6⟩)
    have cz' :(0:Int) < (((cl.map V.str).length:Nat):Int):=of_decide_eq_true cz
    have m:=dj (x:=c.fdiv 216) (m:=(((cl.map V.str).length:Nat):Int)) cz'
    obtain ⟨w',hw,ix⟩:=pick (ws:=cl) m.1 (by have:=m.2;rw [Wp] at this ⊢;exact this)
    refine ⟨_,rfl,_,rfl,_,_,rfl,rfl,dv ⟨by decide,by decide+kernel⟩,_,rfl,lc,_,rfl,.inl (bq.of VE.hl),_,_,rfl,rfl,nz (by omega),lc,_,_,_,rfl,rfl,bq.of VE.hl,ix,L2,?_⟩
    intro t4 n4;generalize eX:upd _ t4 _=H4;have ⟨s4,e4⟩:=nw n4 eX;clear eX
    obtain ⟨m1,m2⟩:=oc.c w' hw
    exact ⟨_,rfl,t4,_,_,_,rfl,rfl,cT.of e4,wM,_,rfl,(by show 1<=sizeLine;decide),fun l6 n6=>du t4 w' true H4 s4 e4 m2 (.inr ⟨rfl,m1⟩) l6 _ (aT n6 _) aj⟩
  | some n=>
   refine cM ?_
   refine ⟨_,rfl,_,_,rfl,rfl,dv ⟨by decide,by decide+kernel⟩,_,_,rfl,rfl,nz (by decide),rfl,_,rfl,?_⟩
   refine aI (fun _=>?_) (fun _=>⟨_,rfl,_,rfl,_,rfl,c,some n,lc,cl,ns,rfl,bc,by rw [eo] at VE;exact VE,q3⟩)
   ·refine ⟨_,rfl,_,_,rfl,rfl,dv ⟨by decide,by decide+kernel⟩,_,_,rfl,rfl,nz (by decide),rfl,_,rfl,?_⟩
    have plain:∀(l6:Addr),H3 l6=none->jS K [.str "piece",.str nm,.ref l6] (upd H3 l6 (.lst [.ref tN])) Q E0:=fun l6 n6=>du tN nm (bu nm) H3 (az.refl _) eN on (.inl rfl) l6 _ (aT n6 _) aj
    refine aI (fun _=>?_) (fun _=>⟨_,rfl,tN,_,_,_,rfl,rfl,cT.of eN,wM,_,rfl,(by show 1<=sizeLine;decide),fun l6 n6=>plain l6 n6⟩)
    refine ⟨_,rfl,lc,_,rfl,.inl (bq.of VE.hl),_,_,rfl,rfl,_,rfl,?_⟩
    refine aI (fun cz=>?_) (fun _=>⟨_,rfl,tN,_,_,_,rfl,rfl,cT.of eN,wM,_,rfl,(by show 1<=sizeLine;decide),fun l6 n6=>plain l6 n6⟩)
    have cz' :(0:Int) < (((cl.map V.str).length:Nat):Int):=of_decide_eq_true cz
    have m:=dj (x:=c.fdiv 216) (m:=(((cl.map V.str).length:Nat):Int)) cz'
    obtain ⟨w',hw,ix⟩:=pick (ws:=cl) m.1 (by have:=m.2;rw [Wp] at this ⊢;exact this)
    refine ⟨_,rfl,_,rfl,_,_,rfl,rfl,dv ⟨by decide,by decide+kernel⟩,_,rfl,lc,_,rfl,.inl (bq.of VE.hl),_,_,rfl,rfl,nz (by omega),lc,_,_,_,rfl,rfl,bq.of VE.hl,ix,L2,?_⟩
    intro t4 n4;generalize eX:upd _ t4 _=H4;have ⟨s4,e4⟩:=nw n4 eX;clear eX
    obtain ⟨m1,m2⟩:=oc.c w' hw
    exact ⟨_,rfl,t4,_,_,_,rfl,rfl,cT.of e4,wM,_,rfl,(by show 1<=sizeLine;decide),fun l6 n6=>du t4 w' true H4 s4 e4 m2 (.inr ⟨rfl,m1⟩) l6 _ (aT n6 _) aj⟩
 obtain ⟨tt3,pt3,ht3⟩:=tail3
 refine ⟨_,(ae (aO (i:=3) jt.nd (aR VB hr.mo px (aG (aR cg hr.mo px (aU (pv 0) ai))))) (ae (aK (aE a9 (aC aS (pv 0) ai) ai) (ag (aA (aR zN hr.mo px (aG (aC bT (pv 0) ai))))) ay) (ae (aK (PW.pt (lU (PW.pt (iC (aE iK (pv 1) bz) (gh (aE a9 (aC aS (aR cg hr.mo px (aU (pv 0) ai)) ai) ai)))) (iZ (aE a9 (aC aS (pv 0) ai) ai)))) (ag (aA (a_ (mw au (dm au au dO))))) ay) pt3))),?_⟩
 refine ⟨_,rfl,c,2,rfl,FZ,by decide,by decide,fun r1 H1 _ _ s1=>?_⟩
 refine ⟨r1,rfl,fun t2 w2 H2 s2 n2 e2 o2=>?_⟩
 have u5:=aw s1 s2
 have aj5:∀H4,az H H4->∀t,H4 t=none->Q (.ref t) (upd H4 t (.tup [.str "end",.str "end",.str "",.bl true])):=fun H4 s4 t nt=>q t ⟨"end","end","",true⟩ _ (aw s4 (aT nt _)) (aJ s4 nt) aj aeO (aeT (.inr (.inr rfl)))
 refine ⟨_,rfl,_,_,rfl,rfl,nz (by decide),rfl,_,rfl,?_⟩
 refine aI (fun _=>?_) (fun _=>?_)
 ·exact ⟨_,rfl,_,_,rfl,rfl,dv ⟨by decide,by decide+kernel⟩,_,ns,rfl,q.same u5⟩
 refine ⟨_,rfl,rfl,_,rfl,?_⟩
 cases eo:op with
 | none=>
  rw [eo] at ht3
  refine cM ?_
  refine ⟨_,rfl,_,_,rfl,rfl,nz (by decide),rfl,_,rfl,?_⟩
  exact aI (fun _=>⟨(by show 4<=sizeLine;decide),aj5 H2 u5⟩) (fun _=>ht3 t2 w2 H2 u5 e2 o2)
 | some n=>
  rw [eo] at ht3
  refine fw ?_
  refine ⟨_,rfl,c,8,rfl,FZ,by decide,by decide,fun r4 H4 _ _ s4=>?_⟩
  refine ⟨_,_,rfl,rfl,nz (by decide),rfl,_,rfl,?_⟩
  refine aI (fun _=>⟨(by show 4<=sizeLine;decide),aj5 H4 (aw u5 s4)⟩) (fun _=>?_)
  refine ⟨_,rfl,_,_,rfl,rfl,nz (by decide),rfl,_,rfl,?_⟩
  exact aI (fun _=>⟨(by show 4<=sizeLine;decide),aj5 H4 (aw u5 s4)⟩) (fun _=>ht3 t2 w2 H4 (aw u5 s4) (s4 _ _ e2) o2)
inductive yI (vs:η)(H:Hp)(Q:VK)(E_:XK):Prop where
 | mk (c:Int) (t:Addr) (r:LR) (_:vs=[.int c,.ref t]) (_:H t=some (.tup [.str r.x,.str r.k,.str r.nm,.bl r.g])) (_:gM 390 r) (_:∀(t' :Addr) (r' :LR) (H' :Hp),az H H' ->H' t' =some (.tup [.str r'.x,.str r'.k,.str r'.nm,.bl r'.g])->gM 400 r' ->r'.k=r.k->r'.nm=r.nm->(r'.g=true->r' =r)->Q (.ref t') H'):yI vs H Q E_
theorem av0:∀b:Bool,MulOk " " (if b then 1 else 0):=by intro b;unfold MulOk;revert b;decide+kernel
theorem mult:∀b:Bool,MulOk "\t" (if b then 1 else 0):=by intro b;unfold MulOk;revert b;decide+kernel
theorem Z':∀b:Bool,(Txt.mul " " (if b then 1 else 0)).length<=1:=by decide+kernel
theorem aaa:∀b:Bool,(Txt.mul "\t" (if b then 1 else 0)).length<=1:=by decide+kernel
theorem rK:(Txt.mul " " 1).cps.toList=[32]/\(Txt.mul " " 0).cps.toList=[]/\(Txt.mul "\t" 1).cps.toList=[9]/\(Txt.mul "\t" 0).cps.toList=[]:=by decide+kernel
theorem NY {x y z:Str}(hy:y.length=1)(hz:z.length<=2):(rep1 x y z).length<=x.length+1:=by
 rcases pJ x y z with ⟨_,e⟩ | ⟨_,a,b,e1,e2⟩
 ·rw [e]
  omega
 ·have l1:=congrArg alB e1
  have l2:=congrArg alB e2
  rw [aa_,aa_, <- bf, <- bf] at l1 l2
  omega
theorem NZ {x:Str}(t:oh 390 x):oh 400 (rep1 x " " "  "++Txt.mul " " (if (!(!(Builtin.Str.occurrences x " " 0 x.length 1).isEmpty)) then 1 else 0))/\kK (rep1 x " " "  "++Txt.mul " " (if (!(!(Builtin.Str.occurrences x " " 0 x.length 1).isEmpty)) then 1 else 0)):=by
 have l1:(" ":Str).length=1:=by decide+kernel
 have l2:("  ":Str).length=2:=by decide+kernel
 have c1:(" ":Str).cps.toList=[32]:=by decide+kernel
 have c2:("  ":Str).cps.toList=[32,32]:=by decide+kernel
 have tl:=t.len
 rw [Bool.not_not]
 rcases pJ x " " "  " with ⟨h,e⟩ | ⟨h,a,b,e1,e2⟩
 ·rw [h,e]
  have ec:(x++Txt.mul " " (if true=true then 1 else 0)).cps.toList=x.cps.toList++[32]:=by rw [cps_append];exact congrArg (x.cps.toList++·) rK.1
  refine ⟨⟨by rw [bf,ec,aa_, <- bf];show x.length+1<=400;omega,fun c hc=>?_⟩,ug (a:=x.cps.toList) (b:=[]) ec (.inr rfl)⟩
  rw [ec,abB,abv] at hc
  rcases hc with z | rfl
  ·exact t.Pz c z
  ·decide
 ·rw [h]
  have ec:(rep1 x " " "  "++Txt.mul " " (if false=true then 1 else 0)).cps.toList=a++32::32::b:=by
   rw [cps_append,e2,c2,show (Txt.mul " " (if false=true then 1 else 0)).cps.toList=[] from rK.2.1,ad_,ajD]
   rfl
  rw [c1] at e1
  have lx:=congrArg alB e1
  rw [<- bf,aa_,aa_] at lx
  have lx' :x.length=a.length+1+b.length:=lx
  refine ⟨⟨by rw [bf,ec,aa_,abC,abC];omega,fun c hc=>?_⟩,ug (a:=a) (b:=32::b) ec (.inl ⟨b,rfl⟩)⟩
  rw [ec,abB,aby,aby] at hc
  have tc:=t.Pz c
  rw [e1,abB,abB,abv] at tc
  rcases hc with z | rfl | rfl | z
  ·exact tc (.inl (.inl z))
  ·decide
  ·decide
  ·exact tc (.inr z)
theorem VF {x:Str}(t:oh 390 x):oh 400 (rep1 x " " "\t"++Txt.mul "\t" (if (!(!(Builtin.Str.occurrences x " " 0 x.length 1).isEmpty)) then 1 else 0))/\kK (rep1 x " " "\t"++Txt.mul "\t" (if (!(!(Builtin.Str.occurrences x " " 0 x.length 1).isEmpty)) then 1 else 0)):=by
 have c1:(" ":Str).cps.toList=[32]:=by decide+kernel
 have c2:("\t":Str).cps.toList=[9]:=by decide+kernel
 have tl:=t.len
 rw [Bool.not_not]
 rcases pJ x " " "\t" with ⟨h,e⟩ | ⟨h,a,b,e1,e2⟩
 ·rw [h,e]
  have ec:(x++Txt.mul "\t" (if true=true then 1 else 0)).cps.toList=x.cps.toList++[9]:=by rw [cps_append];exact congrArg (x.cps.toList++·) rK.2.2.1
  refine ⟨⟨by rw [bf,ec,aa_, <- bf];show x.length+1<=400;omega,fun c hc=>?_⟩,FV (by rw [ec];simp)⟩
  rw [ec,abB,abv] at hc
  rcases hc with z | rfl
  ·exact t.Pz c z
  ·decide
 ·rw [h]
  have ec:(rep1 x " " "\t"++Txt.mul "\t" (if false=true then 1 else 0)).cps.toList=a++9::b:=by
   rw [cps_append,e2,c2,show (Txt.mul "\t" (if false=true then 1 else 0)).cps.toList=[] from rK.2.2.2,ad_,ajD]
   rfl
  rw [c1] at e1
  have lx:=congrArg alB e1
  rw [<- bf,aa_,aa_] at lx
  have lx' :x.length=a.length+1+b.length:=lx
  refine ⟨⟨by rw [bf,ec,aa_,abC];omega,fun c hc=>?_⟩,FV (by rw [ec];simp)⟩
  rw [ec,abB,aby] at hc
  have tc:=t.Pz c
  rw [e1,abB,abB,abv] at tc
  rcases hc with z | rfl | z
  ·exact tc (.inl (.inl z))
  ·decide
  ·exact tc (.inr z)
theorem CU {x z:Str}{d:Nat}(hz:z.cps.toList=[d])(hd:d=32\/d=9)(t:oh 390 x):oh 400 (x++z)/\kK (x++z):=by
 have ec:(x++z).cps.toList=x.cps.toList++[d]:=by rw [cps_append,hz]
 have tl:=t.len
 refine ⟨⟨by rw [bf,ec,aa_, <- bf];show x.length+1<=400;omega,fun c hc=>?_⟩,?_⟩
 ·rw [ec,abB,abv] at hc
  rcases hc with z | rfl
  ·exact t.Pz c z
  ·rcases hd with rfl | rfl <;> decide
 ·rcases hd with rfl | rfl
  ·exact ug (a:=x.cps.toList) (b:=[]) ec (.inr rfl)
  ·exact FV (by rw [ec];simp)
theorem zO:av zay zay (aa fF):=sq
theorem zP (D:Def K mg "_law_spoilt" fF zay)(mP:mg "int"=none):Fn P w K mg base CX 1 "_law_spoilt" zay yI:=by
 refine D.op zO fun f cdv A outer s H vs Q E hr h=>?_
 obtain ⟨c,t,r,rfl,ht,rp,q⟩:=h
 have xl:=rp.tx.len
 have i1:mv [V.str r.x,.str r.k,.str r.nm,.bl r.g] 1=some (.str r.k):=b5 (j:=1) rfl
 have i2:mv [V.str r.x,.str r.k,.str r.nm,.bl r.g] 2=some (.str r.nm):=b5 (j:=2) rfl
 have L4:4<=sizeLine:=by decide
 have big:∀n:Nat,n<=1000->n<=sizeLine:=fun n h=>ir h (by decide)
 have y1:((" ":Str).length==0)=false:=by decide+kernel
 have y2:((" ":Str)=="  ")=false:=by decide+kernel
 have y3:((" ":Str)=="\t")=false:=by decide+kernel
 have l1:(" ":Str).length=1:=by decide+kernel
 have l2:("  ":Str).length=2:=by decide+kernel
 have l3:("\t":Str).length=1:=by decide+kernel
 have fin:∀{x' :Str},oh 400 x' /\kK x' ->∀t',H t' =none->Q (.ref t') (upd H t' (.tup [.str x',.str r.k,.str r.nm,.bl false])):=fun {x'} h t' nt=>q t' ⟨x',r.k,r.nm,false⟩ _ (aT nt _) aj (rp.ajS h.1 h.2) rfl rfl (fun z=>nomatch z)
 refine ⟨_,(ae (aK (aE a9 (aC aS (pv 0) ai) ai) (ag (aA (a_ (mw (aC eY (TB (pv 1)) (aC jI au (gF AZ rfl mP LD (aG (dz qM au (bh (pv 1)) rfl))))) (dm (bh (pv 1)) (bh (pv 1)) dO))))) ay)
  (ae (aK (aE a9 (aC aS (pv 0) ai) ai) (ag (aA (a_ (mw (aC eY (bh (pv 1)) au) (dm (bh (pv 1)) (bh (pv 1)) dO))))) ay)
  (ae (aK (aE a9 (aC aS (pv 0) ai) ai) (ag (aA (a_ (mw (aC eY (TB (pv 1)) (aC jI au (gF AZ rfl mP LD (aG (dz qM au (bh (pv 1)) rfl))))) (dm (bh (pv 1)) (bh (pv 1)) dO))))) ay)
  (ae (aK (aE a9 (aC aS (pv 0) ai) ai) (ag (aA (a_ (mw (aC eY (bh (pv 1)) au) (dm (bh (pv 1)) (bh (pv 1)) dO))))) ay)
  (ag (aA (pv 1))))))),?_⟩
 refine ⟨_,rfl,_,_,rfl,rfl,nz (by decide),rfl,_,rfl,?_⟩
 refine aI (fun _=>?_) (fun _=>?_)
 ·refine ⟨_,rfl,t,_,r.x,rfl,cT.of ht,zB,y1,y2,by omega,_,rfl,t,_,_,_,rfl,rfl,cT.of ht,zB,_,_,rfl,rfl,.inr ⟨_,rfl,_,_,rfl,rfl,av0 _,_,_,rfl,rfl,?_,?_⟩⟩
  ·have a1:=NY (x:=r.x) (y:=" ") (z:="  ") l1 (by omega)
   exact big _ (ir (alO a1 (Z' _)) (by omega))
  ·exact ⟨_,rfl,t,_,_,_,rfl,rfl,cT.of ht,i1,_,rfl,t,_,_,_,rfl,rfl,cT.of ht,i2,L4,fin (NZ rp.tx)⟩
 refine ⟨_,rfl,_,_,rfl,rfl,nz (by decide),rfl,_,rfl,?_⟩
 refine aI (fun _=>?_) (fun _=>?_)
 ·exact ⟨_,rfl,t,_,_,_,rfl,rfl,cT.of ht,zB,_,_,rfl,rfl,big _ (by omega),_,rfl,t,_,_,_,rfl,rfl,cT.of ht,i1,_,rfl,t,_,_,_,rfl,rfl,cT.of ht,i2,L4,fin (CU (d:=32) (by decide+kernel) (.inl rfl) rp.tx)⟩
 refine ⟨_,rfl,_,_,rfl,rfl,nz (by decide),rfl,_,rfl,?_⟩
 refine aI (fun _=>?_) (fun _=>?_)
 ·refine ⟨_,rfl,t,_,r.x,rfl,cT.of ht,zB,y1,y3,by omega,_,rfl,t,_,_,_,rfl,rfl,cT.of ht,zB,_,_,rfl,rfl,.inr ⟨_,rfl,_,_,rfl,rfl,mult _,_,_,rfl,rfl,?_,?_⟩⟩
  ·have a1:=NY (x:=r.x) (y:=" ") (z:="\t") l1 (by omega)
   exact big _ (ir (alO a1 (aaa _)) (by omega))
  ·exact ⟨_,rfl,t,_,_,_,rfl,rfl,cT.of ht,i1,_,rfl,t,_,_,_,rfl,rfl,cT.of ht,i2,L4,fin (VF rp.tx)⟩
 refine ⟨_,rfl,_,_,rfl,rfl,nz (by decide),rfl,_,rfl,?_⟩
 refine aI (fun _=>?_) (fun _=>?_)
 ·exact ⟨_,rfl,t,_,_,_,rfl,rfl,cT.of ht,zB,_,_,rfl,rfl,big _ (by omega),_,rfl,t,_,_,_,rfl,rfl,cT.of ht,i1,_,rfl,t,_,_,_,rfl,rfl,cT.of ht,i2,L4,fin (CU (d:=9) (by decide+kernel) (.inr rfl) rp.tx)⟩
 exact ⟨_,rfl,q t r H (az.refl _) ht rp.up rfl rfl (fun _=>rfl)⟩
def LrR (K:Frag)(H:Hp)(v:V)(r:LR):Prop:=∃t,v=.ref t/\cT K H t [.str r.x,.str r.k,.str r.nm,.bl r.g]
theorem LrR.aZ {H H' :Hp}{v:V}{r:LR}(h:LrR K H v r)(s:bg H H'):LrR K H' v r:=by
 obtain ⟨t,e,z⟩:=h
 exact ⟨t,e,s.km z⟩
inductive F' (K:Frag)(vs:η)(H:Hp)(Q:VK)(E_:XK):Prop where
 | mk (la:Addr) (cs:List Int) (_:vs=[.ref la]) (_:H la=some (.lst (cs.map V.int))) (_:cs.length<=12) (_:(∀i∈cs,intBits i<=1048576)) (_:∀(l:Addr) (us:η) (rs:List LR) (H' :Hp),az H H' ->H l=none->H' l=some (.lst us)->Paired (LrR K H') us rs->oQ rs->rs.length=cs.length->Q (.ref l) H'):F' K vs H Q E_
theorem yH.up {H H' :Hp}{op JU :Β}{lc:Addr}{cl Rg ns ns' :ζ}(h:yH H op lc cl ns)(hl:H' lc=some (.lst (Rg.map V.str)))(len:Rg.length<=100)(sub:∀n∈ns,n∈ns')(hc:∀n∈Rg,n∈cl\/op=some n)(ho:∀n,JU =some n->op=some n\/(n∈ns' /\gi 21 n=true)):yH H' JU lc Rg ns' :=⟨hl,len,fun n hn=>by
 rcases hc n hn with z | z
 ·exact ⟨sub _ (h.c n z).1,(h.c n z).2⟩
 ·exact ⟨sub _ (h.o n z).1,(h.o n z).2⟩,fun n hn=>by
 rcases ho n hn with z | z
 ·exact ⟨sub _ (h.o n z).1,(h.o n z).2⟩
 ·exact z⟩
theorem dw:av zav za5 (aa gB):=sq
theorem N_ (hM:j_ CX)(D:Def K mg "_law_rows" gB za5)(VG:Fn P w K mg base CX 5 "_law_row" zak (Rl K))(cg:Fn P w K mg base CX 1 "_law_part" zaw uh)(GA:Fn P w K mg base CX 1 "_law_spoilt" zay yI):Fn P w K mg base CX 6 "_law_rows" za5 (F' K):=by
 refine D.op dw fun f cdv A outer s H vs Q E hr h=>?_
 obtain ⟨la,cs,rfl,l0,l12,bits,q⟩:=h
 have px:=gQ (X:=(fu (aV P w) P w K mg base zav "_law_rows" (aa gB) f cdv A outer s H E)) hM
 refine ⟨_,(ae (aO (i:=1) dw.nd (bB ja))
  (ae (aO (i:=2) dw.nd bz)
  (ae (aO (i:=3) dw.nd (bB ja))
  (ae (i8 PassesOwn.never rfl (kU (pv 0)) (ku (i:=4) dw.nd) (ae (aO (i:=5) dw.nd (aR VG hr.mo px (dm (pv 4) (pv 2) (pv 3))))
   (ae (aK (aE a9 (bh (pv 5)) au) (ag (aO (i:=2) dw.nd (bh (pv 5)))) ay)
   (ae (aK (PW.pt (iC (aE a9 (bh (pv 5)) au) (gh (aE iK (pv 2) bz)))) (ae (bj (gO PySem.F.plainAttrs_list PySem.F.slot_list_append PySem.F.type_list_append fv (pv 3) (aG (pv 2))))
    (ag (aO (i:=2) dw.nd bz))) ay)
   (ag (bj (gO PySem.F.plainAttrs_list PySem.F.slot_list_append PySem.F.type_list_append fv (pv 1) (aG (aR GA hr.mo px (aU (aR cg hr.mo px (aU (pv 4) ai)) (pv 5)))))))))))
  (ag (aA (pv 1))))))),?_⟩
 refine ⟨(by show 0<=sizeLine;decide),?_⟩
 intro lr nr;generalize eX:upd _ lr _=H1;have ⟨s1,er⟩:=nw nr eX;clear eX
 refine ⟨(by show 0<=sizeLine;decide),?_⟩
 intro lc nc;generalize eX:upd _ lc _=H2;have ⟨s2,ec⟩:=nw nc eX;clear eX
 have ncH:=aJ s1 nc
 have lrc:lr≠lc:=fun z=>by rw [z] at er;rw [er] at nc;cases nc
 have u5:=aw s1 s2
 refine ⟨_,rfl,la,rfl,⟨_,bq.of (u5 _ _ l0)⟩,qH (K:=K) (a:=la) (xs:=cs.map V.int) (fun i σ H' =>Ex6 fun (o4 o5:Η) (op:Β) (cl:ζ) (rs:List LR) (us:η)=>σ=[some (.ref la),some (.ref lr),some (mj op),some (.ref lc),o4,o5]/\az H H' /\H' lr=some (.lst us)/\Paired (LrR K H') us rs/\oQ rs/\rs.length=i/\yH H' op lc cl (oN rs)/\cl.length<=i) ⟨none,none,none,[],[],[],rfl,u5,s2 _ _ er,.nil,(fun i r e=>by simp at e),rfl,⟨ec,by decide,(fun _ h=>nomatch h),(fun _ h=>nomatch h)⟩,abt _⟩ (fun i σ H' _ h=>by
   obtain ⟨_,_,_,_,_,_,_,h,_⟩:=h
   exact bq.of (h _ _ l0)) ?_ ?_⟩
 ·rintro i v σ H3 ei ⟨o4,o5,op,cl,rs,us,rfl,s3,er3,pr3,rp3,lr3,VE,lc3⟩
  rw [abx] at ei
  obtain ⟨c,ec',rfl⟩:=abD.mp ei
  have il:=(W1.mp ec').1
  have bc:=bits c (abw ec')
  refine ⟨_,rfl,_,rfl,_,rfl,c,op,lc,cl,oN rs,rfl,bc,VE,fun t5 r H5 s5 n5 e5 rp sr=>?_⟩
  have qE:=aw s3 s5
  have i1:mv [V.str r.x,.str r.k,.str r.nm,.bl r.g] 1=some (.str r.k):=b5 (j:=1) rfl
  have i2:mv [V.str r.x,.str r.k,.str r.nm,.bl r.g] 2=some (.str r.nm):=b5 (j:=2) rfl
  have XE:=VE.same s5
  have er5:=s5 _ _ er3
  have lus:us.length=rs.length:=Paired.length pr3
  have fin:∀(H6:Hp) (JU :Β) (Rg :ζ),az H H6->bg H5 H6->H6 lr=some (.lst us)->H6 t5=some (.tup [.str r.x,.str r.k,.str r.nm,.bl r.g])->(∀(H7:Hp),H7 lc=H6 lc->yH H7 JU lc Rg (oN (rs++[r])))->Rg.length<=i+1->∀(t' :Addr) (r' :LR) (H7:Hp),az H6 H7->H7 t' =some (.tup [.str r'.x,.str r'.k,.str r'.nm,.bl r'.g])->gM 400 r' ->r'.k=r.k->r'.nm=r.nm->(r'.g=true->r' =r)->∃(o4 o5:Η) (aoU :Β) (cl:ζ) (rs2:List LR) (us2:η),[some (.ref la),some (.ref lr),some (mj JU),some (.ref lc),some (.int c),some (.ref t5)]=[some (.ref la),some (.ref lr),some (mj aoU),some (.ref lc),o4,o5]/\az H (upd H7 lr (.lst (us++[.ref t'])))/\(upd H7 lr (.lst (us++[.ref t']))) lr=some (.lst us2)/\Paired (LrR K (upd H7 lr (.lst (us++[.ref t'])))) us2 rs2/\oQ rs2/\rs2.length=i+1/\yH (upd H7 lr (.lst (us++[.ref t']))) aoU lc cl (oN rs2)/\cl.length<=i+1:=fun H6 JU Rg s06 t56 er6 e6 oc6 lc6 t' r' H7 s7 e7 rp' k' n' g' =>by
   have er7:=s7 _ _ er6
   have t78:bg H7 (upd H7 lr (.lst (us++[.ref t']))):=.list er7
   have pe:oN (rs++[r'])=oN (rs++[r]):=by
    rw [xa,xa,rH,rH,k',n']
   refine ⟨_,_,JU,Rg,rs++[r'],us++[.ref t'],rfl,fun b o e=>?_,aj,?_,rp3.snoc rp' (fun h z=>?_),by rw [aa_,adL,lr3],?_,lc6⟩
   ·rw [ah (fun z=>by rw [z,nr] at e;cases e)]
    exact s7 _ _ (s06 _ _ e)
   ·refine Paired.snoc (Paired.cy pr3 fun _ _ z=>((((z.aZ (.of s5)).aZ t56).aZ (.of s7)).aZ t78)) ⟨t',rfl,t78.km (cT.of e7)⟩
   ·have:=g' h
    rw [this] at h z ⊢
    exact sr h z
   ·rw [pe]
    refine oc6 _ ?_
    rw [ah (ac_ lrc)]
    have:=(oc6 H6 rfl).hl
    rw [this]
    exact s7 _ _ this
  have sub:∀n∈oN rs,n∈oN (rs++[r]):=fun n hn=>by rw [xa];exact af_ _ hn
  have aeW :us.length < sizeLine:=abF (show us.length<=100 by omega) (by decide)
  have FZ:intBits c<=2000000:=ir bc (by decide)
  refine ⟨_,rfl,t5,_,_,_,rfl,rfl,cT.of e5,i1,rfl,_,rfl,?_⟩
  rw [eq_str]
  by_cases k1:r.k="piece"
  ·rw [decide_eq_true k1]
   refine fw ?_
   refine ⟨_,rfl,t5,_,_,_,rfl,rfl,cT.of e5,i2,?_⟩
   refine ⟨_,rfl,t5,_,_,_,rfl,rfl,cT.of e5,i1,rfl,_,rfl,?_⟩
   rw [eq_str,decide_eq_false (by rw [k1];decide+kernel)]
   refine cM ?_
   refine ⟨_,rfl,.inl ⟨rfl,_,bq.of er5⟩,_,rfl,c,7,rfl,FZ,by decide,by decide,fun r6 H6 _ _ s6=>?_⟩
   refine ⟨_,rfl,r6,t5,r,rfl,s6 _ _ e5,rp,fun t' r' H7 s7 e7 rp' k' n' g' =>?_⟩
   refine ⟨lr,us,_,rfl,rfl,s7 _ _ (s6 _ _ er5),aeW,?_⟩
   obtain ⟨_,_,_,_,_,_,hh⟩:=fin H6 (some r.nm) cl (aw qE s6) (.of s6) (s6 _ _ er5) (s6 _ _ e5) (fun H8 e8=>XE.up (by rw [e8];exact s6 _ _ XE.hl) XE.len sub (fun n hn=>.inl hn) (fun n hn=>.inr (by cases hn;exact ⟨by rw [xa,rH,if_pos k1];simp,rp.nw⟩))) (by omega) t' r' H7 s7 e7 rp' k' n' g'
   exact ⟨_,_,_,_,_,_,hh⟩
  ·rw [decide_eq_false k1]
   refine cM ?_
   refine ⟨_,rfl,t5,_,_,_,rfl,rfl,cT.of e5,i1,rfl,_,rfl,?_⟩
   rw [eq_str]
   have go:∀(H6:Hp) (s6:az H5 H6) (t' :Addr) (r' :LR) (H7:Hp),az H6 H7->H7 t' =some (.tup [.str r'.x,.str r'.k,.str r'.nm,.bl r'.g])->gM 400 r' ->r'.k=r.k->r'.nm=r.nm->(r'.g=true->r' =r)->_:=fun H6 s6=>fin H6 op cl (aw qE s6) (.of s6) (s6 _ _ er5) (s6 _ _ e5) (fun H8 e8=>XE.up (by rw [e8];exact s6 _ _ XE.hl) XE.len sub (fun n hn=>.inl hn) (fun n hn=>.inl hn)) (by omega)
   by_cases k2:r.k="end"
   ·rw [decide_eq_true k2]
    refine fw ?_
    refine ⟨_,rfl,rfl,_,rfl,?_⟩
    cases eo:op with
    | none=>
     refine cM ?_
     refine ⟨_,rfl,.inl ⟨rfl,_,bq.of er5⟩,_,rfl,c,7,rfl,FZ,by decide,by decide,fun r6 H6 _ _ s6=>?_⟩
     refine ⟨_,rfl,r6,t5,r,rfl,s6 _ _ e5,rp,fun t' r' H7 s7 e7 rp' k' n' g' =>?_⟩
     refine ⟨lr,us,_,rfl,rfl,s7 _ _ (s6 _ _ er5),aeW,?_⟩
     have hh:=go H6 s6 t' r' H7 s7 e7 rp' k' n' g'
     rw [eo] at hh
     obtain ⟨_,_,_,_,_,_,hh⟩:=hh
     exact ⟨_,_,_,_,_,_,hh⟩
    | some n=>
     refine fw ?_
     refine ⟨_,rfl,.inl ⟨rfl,_,bq.of XE.hl⟩,_,rfl,lc,_,_,rfl,rfl,XE.hl,abF (show (cl.map V.str).length<=100 by rw [Wp];exact XE.len) (by decide),?_⟩
     have t56:bg H5 (upd H5 lc (.lst (cl.map V.str++[.str n]))):=.list XE.hl
     have k6:∀b o,b≠lc->H5 b=some o->(upd H5 lc (.lst (cl.map V.str++[.str n]))) b=some o:=fun b o nb e=>by rw [ah nb];exact e
     have ec6:(upd H5 lc (.lst (cl.map V.str++[.str n]))) lc=some (.lst ((cl++[n]).map V.str)):=by rw [aj,aeU];rfl
     show aii _ _ _ _ (upd H5 lc (.lst (cl.map V.str++[V.str n])))
     generalize upd H5 lc (.lst (cl.map V.str++[.str n]))=H6 at t56 k6 ec6 ⊢
     have er6:=k6 _ _ lrc er5
     have e56:=k6 _ _ (fun z=>by rw [z,XE.hl] at e5;cases e5) e5
     have s06:az H H6:=fun b o e=>k6 b o (ak e ncH) (qE _ _ e)
     refine ⟨_,rfl,.inl ⟨rfl,_,bq.of er6⟩,_,rfl,c,7,rfl,FZ,by decide,by decide,fun r8 H8 _ _ s8=>?_⟩
     refine ⟨_,rfl,r8,t5,r,rfl,s8 _ _ e56,rp,fun t' r' H7 s7 e7 rp' k' n' g' =>?_⟩
     refine ⟨lr,us,_,rfl,rfl,s7 _ _ (s8 _ _ er6),aeW,?_⟩
     obtain ⟨_,_,_,_,_,_,hh⟩:=fin H8 none (cl++[n]) (aw s06 s8) (t56.trans (.of s8)) (s8 _ _ er6) (s8 _ _ e56) (fun H9 e9=>XE.up (by rw [e9];exact s8 _ _ ec6) (by rw [aa_,adL];omega) sub (fun m hm=>by
      rcases abB.mp hm with z | z
      ·exact .inl z
      ·rw [abv.mp z];exact .inr eo) (fun m hm=>nomatch hm)) (by rw [aa_,adL];omega) t' r' H7 s7 e7 rp' k' n' g'
     exact ⟨_,_,_,_,_,_,hh⟩
   ·rw [decide_eq_false k2]
    refine cM ?_
    refine ⟨_,rfl,.inl ⟨rfl,_,bq.of er5⟩,_,rfl,c,7,rfl,FZ,by decide,by decide,fun r6 H6 _ _ s6=>?_⟩
    refine ⟨_,rfl,r6,t5,r,rfl,s6 _ _ e5,rp,fun t' r' H7 s7 e7 rp' k' n' g' =>?_⟩
    refine ⟨lr,us,_,rfl,rfl,s7 _ _ (s6 _ _ er5),aeW,?_⟩
    obtain ⟨_,_,_,_,_,_,hh⟩:=go H6 s6 t' r' H7 s7 e7 rp' k' n' g'
    exact ⟨_,_,_,_,_,_,hh⟩
 ·rintro σ H3 ⟨o4,o5,op,cl,rs,us,rfl,s3,er3,pr3,rp3,lr3,VE,lc3⟩
  rw [Wp] at lr3
  exact ⟨_,rfl,q lr us rs H3 s3 nr er3 pr3 rp3 lr3⟩
inductive aab (K:Frag)(vs:η)(H:Hp)(Q:VK)(E_:XK):Prop where
 | mk (l:Addr) (us:η) (rs:List LR) (_:vs=[.ref l]) (_:H l=some (.lst us)) (_:Paired (LrR K H) us rs) (_:rs.length<=100) (_:∀H',az H H' ->Q (.int (p_ rs 0 none [])) H'):aab K vs H Q E_
theorem xc (x:Str):∀l:List Str,inV (.str x) (l.map V.str)=decide (x∈l):=fun l=>by
 rw [MA]
theorem dh:av ["_law_rows_here","_law_opened","_law_closed","_law_k","_law_text","_law_kind","_law_name_here","_law_good"] za0 (aa iW):=sq
theorem Rn (D:Def K mg "_law_due" iW za0)(bP:mg "len"=none)(iQ:mg "range"=none):Fn P w K mg base CX 1 "_law_due" za0 (aab K):=by
 refine D.op dh fun f cdv A outer s H vs Q E hr h=>?_
 obtain ⟨l,us,rs,rfl,hl,pu,aFy,q⟩:=h
 have lu:us.length=rs.length:=Paired.length pu
 refine ⟨_,(ae (aO (i:=1) dh.nd bz)
  (ae (aO (i:=2) dh.nd (bB ja))
  (ae (i8 PassesOwn.never rfl (tj rfl iQ (aG (aL bw rfl bP g_ (aG (pv 0))))) (ku (i:=3) dh.nd) (ae (aik (nU d9 (pv 0) (pv 3)) (pA rfl (cB (ku (i:=4) dh.nd) (cB (ku (i:=5) dh.nd) (cB (ku (i:=6) dh.nd) (cB (ku (i:=7) dh.nd) kT))))))
   (ae (aK (PW.pt (lU (gN (eU (pv 7))) (iZ (PW.pt (iC (aE a9 (pv 5) au) (gh (PW.pt (lU (aE iK (pv 1) bz) (iZ (wt Uz (pv 6) (pv 2) rfl)))))))))) (ag (aA (pv 3))) ay)
   (ae (aK (PW.pt (lU (PW.pt (iC (aE a9 (pv 5) au) (gh (aE kY (pv 1) bz)))) (iZ (PW.pt (iC (aE a9 (pv 5) au) (gh (wt DS (pv 6) (pv 2) rfl))))))) (ag (aA (pv 3))) ay)
   (ae (aK (aE a9 (pv 5) au) (ag (aO (i:=1) dh.nd (pv 6))) ay)
   (ag (aK (aE a9 (pv 5) au) (ae (bj (gO PySem.F.plainAttrs_list PySem.F.slot_list_append PySem.F.type_list_append fv (pv 2) (aG (pv 1))))
    (ag (aO (i:=1) dh.nd bz))) ay)))))))
  (ae (aK (aE iK (pv 1) bz) (ag (aA (aL bw rfl bP g_ (aG (pv 0))))) ay)
  (ag (aA (S5 DK ai))))))),?_⟩
 refine ⟨(by show 0<=sizeLine;decide),?_⟩
 intro lc nc;generalize eX:upd _ lc _=H1;have ⟨s1,ec⟩:=nw nc eX;clear eX
 refine ⟨_,rfl,l,_,rfl,.inl (bq.of (s1 _ _ hl)),((us.length:Nat):Int),rfl,by omega,by omega,?_⟩
 rw [show ((us.length:Nat):Int).toNat=us.length by omega]
 refine AW (lo:=0) (n:=us.length) (fun i σ H' =>Ex7 fun (o3 o4 o5 o6 o7:Η) (op:Β) (cl:ζ)=>σ=[some (.ref l),some (mj op),some (.ref lc),o3,o4,o5,o6,o7]/\az H H' /\H' lc=some (.lst (cl.map V.str))/\cl.length<=i/\p_ rs 0 none []=p_ (rs.drop i) i op cl) ⟨none,none,none,none,none,none,[],rfl,s1,ec,abt _,rfl⟩ ?_ ?_
 ·rintro i σ H2 hi ⟨o3,o4,o5,o6,o7,op,cl,rfl,s2,ec2,lc2,d2⟩
  have ei:=gE hi
  obtain ⟨r,er,t,et,ht⟩:=b8 pu ei
  have jl:=(W1.mp er).1
  have ed:rs.drop i=r::rs.drop (i+1):=by
   rw [afZ jl]
   rw [gE jl] at er
   rw [abq er]
  rw [ed] at d2
  have d2' :p_ rs 0 none []=if g7 op cl r=true then (i:Int) else if iS op cl r=true then (i:Int) else p_ (rs.drop (i+1)) (i+1) (XC op r) (XD op cl r):=d2
  rw [Int.zero_add]
  refine ⟨_,rfl,_,rfl,l,_,_,_,rfl,rfl,bq.of (s2 _ _ hl),b5 ei,t,_,et,Ty.az.km s2 ht,rfl,_,_,rfl,_,_,rfl,_,_,rfl,_,_,rfl,rfl,?_⟩
  have ret:(g7 op cl r=true\/iS op cl r=true)->∀H3,az H2 H3->Q (.int (i:Int)) H3:=fun h H3 s3=>by
   have:p_ rs 0 none []=(i:Int):=by
    rw [d2']
    rcases h with h | h
    ·rw [if_pos h]
    ·by_cases b:g7 op cl r=true
     ·rw [if_pos b]
     ·rw [if_neg b,if_pos h]
   rw [<- this]
   exact q H3 (aw s2 s3)
  have opn:(!decide (mj op=V.bN))= !decide (op=none):=by rw [wQ]
  refine ⟨_,rfl,_,rfl,?_⟩
  cases g:r.g with
  | false=>exact fw ⟨_,rfl,ret (.inl (by unfold g7;rw [g];rfl)) H2 (az.refl _)⟩
  | true=>
   refine cM ?_
   have go:g7 op cl r=false->iS op cl r=false->p_ rs 0 none []=p_ (rs.drop (i+1)) (i+1) (XC op r) (XD op cl r):=fun b1 b2=>by rw [d2',b1,b2,if_neg abr,if_neg abr]
   have le1:cl.length<=i+1:=by omega
   refine ⟨_,rfl,rfl,_,rfl,?_⟩
   rw [eq_str]
   by_cases k1:r.k="piece"
   ·have k2:r.k≠ "end":=by rw [k1];decide+kernel
    have k3:r.k≠ "lay":=by rw [k1];decide+kernel
    rw [decide_eq_true k1]
    refine fw ?_
    refine ⟨_,rfl,rfl,_,rfl,?_⟩
    rw [opn]
    cases eo:op with
    | some n=>exact fw ⟨_,rfl,ret (.inl (by unfold g7;simp [k1,eo])) H2 (az.refl _)⟩
    | none=>
     refine cM ?_
     refine ⟨_,rfl,_,rfl,lc,_,rfl,.inl (bq.of ec2),rfl,BR _,_,rfl,?_⟩
     by_cases m:r.nm∈cl
     ·refine aI (fun _=>⟨_,rfl,ret (.inl (by unfold g7;simp [k1,m])) H2 (az.refl _)⟩) (fun z=>absurd (by show inV _ _=true;rw [xc,decide_eq_true m]) z)
     ·refine aI (fun z=>absurd (show inV _ _=true from z) (by rw [xc,decide_eq_false m];exact abr)) (fun _=>?_)
      have dg:=go (by unfold g7;simp [g,eo,m]) (by unfold iS;simp [k2,k3])
      unfold XC XD at dg
      rw [if_neg k2,if_pos k1,if_neg k2] at dg
      refine ⟨_,rfl,rfl,_,rfl,?_⟩
      rw [eq_str,decide_eq_false k2]
      refine cM ?_
      refine ⟨_,rfl,rfl,_,rfl,?_⟩
      rw [eq_str,decide_eq_false k3]
      refine cM ?_
      refine ⟨_,rfl,rfl,_,rfl,?_⟩
      rw [eq_str,decide_eq_true k1]
      refine fw ?_
      refine ⟨_,rfl,?_⟩
      refine ⟨_,rfl,rfl,_,rfl,?_⟩
      rw [eq_str,decide_eq_false k2]
      refine cM ?_
      exact ⟨_,_,_,_,_,some r.nm,cl,rfl,s2,ec2,le1,dg⟩
   ·rw [decide_eq_false k1]
    refine cM ?_
    have b1:g7 op cl r=false:=by unfold g7;simp [g,k1]
    refine ⟨_,rfl,rfl,_,rfl,?_⟩
    rw [eq_str]
    by_cases k2:r.k="end"
    ·have k3:r.k≠ "lay":=by rw [k2];decide+kernel
     rw [decide_eq_true k2]
     refine fw ?_
     refine ⟨_,rfl,rfl,_,rfl,?_⟩
     rw [wQ]
     cases eo:op with
     | none=>exact fw ⟨_,rfl,ret (.inr (by unfold iS;simp [k2,eo])) H2 (az.refl _)⟩
     | some n=>
      refine cM ?_
      have dg:=go b1 (by unfold iS;simp [k3,eo])
      unfold XC XD at dg
      rw [if_pos k2,if_pos k2,eo] at dg
      refine ⟨_,rfl,rfl,_,rfl,?_⟩
      rw [eq_str,decide_eq_false k3]
      refine cM ?_
      refine ⟨_,rfl,rfl,_,rfl,?_⟩
      rw [eq_str,decide_eq_false k1]
      refine cM ?_
      refine ⟨_,rfl,rfl,_,rfl,?_⟩
      rw [eq_str,decide_eq_true k2]
      refine fw ?_
      refine ⟨_,rfl,.inl ⟨rfl,_,bq.of ec2⟩,_,rfl,lc,_,_,rfl,rfl,ec2,abF (show (cl.map V.str).length<=200 by rw [Wp];omega) (by decide),?_⟩
      refine ⟨_,_,_,_,_,none,cl++[n],rfl,fun b o e=>?_,?_,?_,dg⟩
      ·rw [ah (ak e nc)]
       exact s2 _ _ e
      ·rw [aj,aeU]
       rfl
      ·rw [aa_,adL]
       omega
    ·rw [decide_eq_false k2]
     refine cM ?_
     refine ⟨_,rfl,rfl,_,rfl,?_⟩
     rw [eq_str]
     by_cases k3:r.k="lay"
     ·rw [decide_eq_true k3]
      refine fw ?_
      refine ⟨_,rfl,_,rfl,lc,_,rfl,.inl (bq.of ec2),rfl,BR _,_,rfl,?_⟩
      by_cases m:r.nm∈cl
      ·refine aI (fun z=>absurd (show (!inV _ _)=true from z) (by rw [xc,decide_eq_true m];exact abr)) (fun _=>?_)
       have dg:=go b1 (by unfold iS;simp [k2,m])
       unfold XC XD at dg
       rw [if_neg k2,if_neg k1,if_neg k2] at dg
       refine ⟨_,rfl,rfl,_,rfl,?_⟩
       rw [eq_str,decide_eq_false k1]
       refine cM ?_
       refine ⟨_,rfl,rfl,_,rfl,?_⟩
       rw [eq_str,decide_eq_false k2]
       refine cM ?_
       exact ⟨_,_,_,_,_,op,cl,rfl,s2,ec2,le1,dg⟩
      ·exact aI (fun _=>⟨_,rfl,ret (.inr (by unfold iS;simp [k3,m])) H2 (az.refl _)⟩) (fun z=>absurd (by show (!inV _ _)=true;rw [xc,decide_eq_false m];rfl) z)
     ·rw [decide_eq_false k3]
      refine cM ?_
      have dg:=go b1 (by unfold iS;simp [k2,k3])
      unfold XC XD at dg
      rw [if_neg k2,if_neg k1,if_neg k2] at dg
      refine ⟨_,rfl,rfl,_,rfl,?_⟩
      rw [eq_str,decide_eq_false k1]
      refine cM ?_
      refine ⟨_,rfl,rfl,_,rfl,?_⟩
      rw [eq_str,decide_eq_false k2]
      refine cM ?_
      exact ⟨_,_,_,_,_,op,cl,rfl,s2,ec2,le1,dg⟩
 ·rintro σ H2 ⟨o3,o4,o5,o6,o7,op,cl,rfl,s2,ec2,lc2,d2⟩
  rw [lu,agM] at d2
  have d2' :p_ rs 0 none []=if op=none then (-1:Int) else (rs.length:Int):=d2
  refine ⟨_,rfl,rfl,_,rfl,?_⟩
  cases op with
  | none=>
   refine cM ?_
   refine ⟨_,rfl,?_⟩
   rw [if_pos rfl] at d2'
   rw [<- show p_ rs 0 none []= -1 from d2']
   exact q H2 s2
  | some n=>
   refine fw ?_
   refine ⟨_,rfl,l,_,rfl,.inl (bq.of (s2 _ _ hl)),?_⟩
   rw [if_neg (fun z=>nomatch z)] at d2'
   rw [lu, <- d2']
   exact q H2 s2
inductive GB (vs:η)(H:Hp)(Q:VK)(E_:XK):Prop where
 | mk (c:Int) (_:vs=[.int c]) (_:∀(v:V) (H' :Hp),az H H' ->jM H' v->Q v H'):GB vs H Q E_
theorem yJ:av zaf zaf (aa dU):=sq
theorem yK (D:Def K mg "_law_no_text" dU zaf):Fn P w K mg base CX 1 "_law_no_text" zaf GB:=by
 refine D.oo yJ fun H hr h=>?_
 obtain ⟨c,rfl,q⟩:=h
 have L1:1<=sizeLine:=by decide
 refine ⟨_,(ae (aK (aE a9 (aC aS (pv 0) ai) ai) (ag (aA bz)) ay)
  (ae (aK (aE a9 (aC aS (pv 0) ai) ai) (ag (aA ai)) ay)
  (ae (aK (aE a9 (aC aS (pv 0) ai) ai) (ag (aA (bB (aG au)))) ay)
  (ae (aK (aE a9 (aC aS (pv 0) ai) ai) (ag (aA (a_ (aG au)))) ay)
  (ag (aA dO)))))),?_⟩
 refine ⟨_,rfl,_,_,rfl,rfl,nz (by decide),rfl,_,rfl,?_⟩
 refine aI (fun _=>q _ H (az.refl _) .bN) (fun _=>?_)
 refine ⟨_,rfl,_,_,rfl,rfl,nz (by decide),rfl,_,rfl,?_⟩
 refine aI (fun _=>q _ H (az.refl _) (.int _)) (fun _=>?_)
 refine ⟨_,rfl,_,_,rfl,rfl,nz (by decide),rfl,_,rfl,?_⟩
 refine aI (fun _=>⟨L1,fun l nl=>q _ _ (aT nl _) (.lst aj)⟩) (fun _=>?_)
 refine ⟨_,rfl,_,_,rfl,rfl,nz (by decide),rfl,_,rfl,?_⟩
 exact aI (fun _=>⟨L1,fun l nl=>q _ _ (aT nl _) (.tup aj)⟩) (fun _=>q _ H (az.refl _) (.bl true))
structure KitX (K:Frag)(CX CTx CNu CWa CP CN CB CO CT CY:Addr):Prop where
 ek:TyExc.jc K CX
 tx:PySem.W.kitOne K (.ref CX) (.ref CTx)=some false
 nu:PySem.W.kitOne K (.ref CX) (.ref CNu)=some false
 wa:PySem.W.kitOne K (.ref CX) (.ref CWa)=some false
 p:PySem.W.kitOne K (.ref CX) (.ref CP)=some false
 n:PySem.W.kitOne K (.ref CX) (.ref CN)=some false
 b:PySem.W.kitOne K (.ref CX) (.ref CB)=some false
 o:PySem.W.kitOne K (.ref CX) (.ref CO)=some false
 t:PySem.W.kitOne K (.ref CX) (.ref CT)=some false
 y:PySem.W.kitOne K (.ref CX) (.ref CY)=some true
 v:PySem.W.kitOne K (.ref CX) (.type "ValueError")=some true
def yL (CX:Addr):Addr->Sp:=fun a vs H Q _=>∃(d:Addr),vs=[.ref a]/\H a=some (j' (.ref CX) a (some d))/\∀H',az H H' ->Q (.bl false) H'
theorem j7:av ["_law_e","_law_found"] ["_law_e"] (aa fH):=sq
theorem zQ {CX CTx CNu CWa CP CN CB CO CT CY:Addr}(D:Def K mg "_law_others" fH ["_law_e"])(k:KitX K CX CTx CNu CWa CP CN CB CO CT CY)(aD:mg "isinstance"=none)(aac:mg "any"=none)(lS:mg "ValueError"=none)(b6:mg "NoText"=some (.ref CTx))(dF:mg "NoNumber"=some (.ref CNu))(aj7:mg "NoWay"=some (.ref CWa))(EW:mg "PinThere"=some (.ref CP))(ET:mg "NoPin"=some (.ref CN))(Vh:mg "BarThere"=some (.ref CB))(Vi:mg "NoLength"=some (.ref CO))(vO:mg "TooMany"=some (.ref CT)):
  FnA P w K mg base 1 "_law_others" ["_law_e"] (yL CX):=by
 refine D.okA j7 (fun a vs H Q E h=>?_) (fun f cdv A outer s H vs Q a hA hr h=>?_)
 ·obtain ⟨d,rfl,_⟩:=h
  rfl
 obtain ⟨d,rfl,ha,q⟩:=h
 refine ⟨_,(ae (aO (i:=1) j7.nd (bB (mw (aL (dR (K:=K) rfl) rfl aD aY (aU (pv 0) (lB rfl b6))) (dm (aL (dR (K:=K) rfl) rfl aD aY (aU (pv 0) (lB rfl dF))) (aL (dR (K:=K) rfl) rfl aD aY (aU (pv 0) (lB rfl aj7))) (aL (dR (K:=K) rfl) rfl aD aY (aU (pv 0) (lB rfl EW)))))))
  (ae (aO (i:=1) j7.nd (aC k_ (pv 1) (bB (mw (aL (dR (K:=K) rfl) rfl aD aY (aU (pv 0) (lB rfl ET))) (dm (aL (dR (K:=K) rfl) rfl aD aY (aU (pv 0) (lB rfl Vh))) (aL (dR (K:=K) rfl) rfl aD aY (aU (pv 0) (lB rfl Vi))) (aL (dR (K:=K) rfl) rfl aD aY (aU (pv 0) (lB rfl vO))))))))
  (ag (aA (XQ (aL (UZ hA) rfl aac anG (aG (pv 1))) (kS (xk (aL (dR (K:=K) rfl) rfl aD aY (aU (pv 0) (oE rfl lS DW)))))))))),?_⟩
 refine ⟨_,rfl,a,CX,_,false,some d,rfl,rfl,ha,k.ek,k.tx,?_⟩
 refine ⟨_,rfl,a,CX,_,false,some d,rfl,rfl,ha,k.ek,k.nu,?_⟩
 refine ⟨_,rfl,a,CX,_,false,some d,rfl,rfl,ha,k.ek,k.wa,?_⟩
 refine ⟨_,rfl,a,CX,_,false,some d,rfl,rfl,ha,k.ek,k.p,(by show 4<=sizeLine;decide),?_⟩
 intro l1 n1;generalize eX:upd _ l1 _=H1;have ⟨s1,e1⟩:=nw n1 eX;clear eX
 have ha1:=s1 _ _ ha
 refine ⟨_,rfl,?_⟩
 refine ⟨_,rfl,a,CX,_,false,some d,rfl,rfl,ha1,k.ek,k.n,?_⟩
 refine ⟨_,rfl,a,CX,_,false,some d,rfl,rfl,ha1,k.ek,k.b,?_⟩
 refine ⟨_,rfl,a,CX,_,false,some d,rfl,rfl,ha1,k.ek,k.o,?_⟩
 refine ⟨_,rfl,a,CX,_,false,some d,rfl,rfl,ha1,k.ek,k.t,(by show 4<=sizeLine;decide),?_⟩
 intro l2 n2;generalize eX:upd _ l2 _=H2;have ⟨s2,e2⟩:=nw n2 eX;clear eX
 refine ⟨l1,l2,_,_,rfl,rfl,s2 _ _ e1,e2,(by show 4+4<=sizeLine;decide),?_⟩
 intro l3 n3;generalize eX:upd _ l3 _=H3;have ⟨s3,e3⟩:=nw n3 eX;clear eX
 have s13:az H H3:=fun b o z=>s3 _ _ (s2 _ _ (s1 _ _ z))
 have ha3:=s13 _ _ ha
 have e3' :H3 l3=some (.lst (([false,false,false,false,false,false,false,false]:List Bool).map V.bl)):=e3
 refine ⟨_,rfl,l3,_,_,_,rfl,bq.of e3',ha3,_,rfl,?_⟩
 refine cM ?_
 exact ⟨_,rfl,a,CX,_,true,some d,rfl,rfl,ha3,k.ek,k.v,_,rfl,q H3 s13⟩
structure aj8 (K:Frag)(CX CP CN CB CO CT CY:Addr):Prop where
 xx:PySem.W.exmOne K (.ref CX) (.ref CX)=some true
 px:PySem.W.exmOne K (.ref CP) (.ref CX)=some false
 nx:PySem.W.exmOne K (.ref CN) (.ref CX)=some false
 bx:PySem.W.exmOne K (.ref CB) (.ref CX)=some false
 ox:PySem.W.exmOne K (.ref CO) (.ref CX)=some false
 tx:PySem.W.exmOne K (.ref CT) (.ref CX)=some false
 py:PySem.W.exmOne K (.ref CP) (.ref CY)=some true
 ny:PySem.W.exmOne K (.ref CN) (.ref CY)=some true
 by' :PySem.W.exmOne K (.ref CB) (.ref CY)=some true
 oy:PySem.W.exmOne K (.ref CO) (.ref CY)=some true
 ty:PySem.W.exmOne K (.ref CT) (.ref CY)=some true
def aad (H:Hp)(v:V)(n:Int):Prop:=(∃x:Str,v=.str x/\x.length+2<=sizeLine/\(js x).length<=13/\(∀r∈js x,ZI uf r)/\oR uf (js x) 0 ⟨[],[],none⟩=n)\/(jM H v/\n=0)
theorem CV {CF CP CN CB CO CT CX:Addr}{H H1:Hp}{v:V}{n:Int}{Q1:VK}{E1:XK}(h:aad H v n)(s:az H H1)(hq:n= -1->∀u H2,az H1 H2->Q1 u H2)(he:n= -1->∀e,pZ CP CN CB CO CT (az H1) H1 E1 e)(hx:∀k:Nat,n=(k:Int)->bS H1 E1 CX "at" (.int (k:Int))):lM K CF CP CN CB CO CT CX [v] H1 Q1 E1:=by
 rcases h with ⟨x,rfl,l1,l2,rd,e⟩ | ⟨h,e⟩
 ·refine .inl ⟨x,uf,rfl,l1,by omega,rd,NS _ _ _ (fun z sh l=>⟨?_,?_⟩) (fun j z=>hx j (e.symm.trans z))⟩
  ·have l' :sh.pieces.length<=0+(js x).length:=l
   omega
  ·exact M_ _ 13 _ _ _ _ _ _ (fun g o a H2 s2 _=>hq (e.symm.trans z) _ H2 s2) (he (e.symm.trans z))
 ·exact .inr ⟨v,rfl,h.same s,hx 0 e⟩
theorem N' {CX CP CN CB CO CT CY:Addr}{Kp:Hp->Prop}{H:Hp}{E:XK}(ex:aj8 K CX CP CN CB CO CT CY)(h:∀C dx H',PySem.W.exmOne K (.ref C) (.ref CX)=some false->PySem.W.exmOne K (.ref C) (.ref CY)=some true->Kp H' ->E (.ref C) dx H'):∀e,pZ CP CN CB CO CT Kp H E e
 | .there _=>fun _ _ y _ _=>h _ _ _ ex.px ex.py y
 | .BY _=>fun _ _ y _ _=>h _ _ _ ex.nx ex.ny y
 | .rm _=>fun _ _ y _ _=>h _ _ _ ex.bx ex.by' y
 | .length _=>fun _ _ y _ _=>h _ _ _ ex.ox ex.oy y
 | .many=>fun _ y=>h _ _ _ ex.tx ex.ty y
theorem none_of {H H' :Hp}{a:Addr}(s:az H H')(n:H' a=none):H a=none:=by
 cases e:H a with
 | none=>rfl
 | some o=>rw [s _ _ e] at n;cases n
inductive Ro (vs:η)(H:Hp)(Q:VK)(E_:XK):Prop where
 | mk (v:V) (b:Bool) (n:Int) (_:vs=[v,.bl b]) (_:aad H v n) (_:∀(t:Addr) (H' :Hp),az H H' ->H t=none->H' t=some (.tup [.int n,.bl false])->Q (.ref t) H'):Ro vs H Q E_
theorem iy:av ["_law_thing","_law_at_desk","_law_told_here","_law_e"] zaJ (aa h9):=sq
theorem OA {CD CF CP CN CB CO CT CX CTx CNu CWa CY fD:Addr}{fdD:FuncData}(D:Def K mg "_law_told" h9 zaJ)(aD:mg "isinstance"=none)(fo:mg "NoLine"=some (.ref CX))(jF:mg "YardError"=some (.ref CY))(ex:aj8 K CX CP CN CB CO CT CY)(k:KitX K CX CTx CNu CWa CP CN CB CO CT CY)(xf:TyExc.mK K CX "at")
  (Rp:Mk K CD fD) (Rr:mg "Desk"=some (.ref CD)) (OB:bH P w K mg base (aV P w) 67 fD fdD zaR (Q9 K CD CF CP CN CB CO CT CX)) (m3:Binds K fdD zaR [])
  (lO:Fn P w K mg base (aV P w) 66 "read_frame" zaM (lM K CF CP CN CB CO CT CX)) (GD:FnA P w K mg base 1 "_law_others" ["_law_e"] (yL CX)):Fn P w K mg base (aV P w) 69 "_law_told" zaJ Ro:=by
 refine D.op iy fun f cdv A outer s H vs Q E hr h=>?_
 obtain ⟨v,b,n,rfl,ht,q⟩:=h
 have L2:2<=sizeLine:=by decide
 refine ⟨_,(ae (aO (i:=2) iy.nd (a_ (aU (S5 DK ai) dO)))
  (ae (Yr ⟨rfl,rfl⟩ (ai2 (eU (pv 1)) (LJ (ad2 Rp OB hr.mo m3 rfl Rr (aG (pv 0)))) (LJ (agd lO hr.mo (aG (pv 0))))) (ai6 (i:=3) (Qw.own fo) iy.nd rfl rfl (fun a=>(ag (aO (i:=2) iy.nd (a_ (aU (Y_ (K:=K) rfl (pv 3) rfl) (XQ (ai5 (a:=a) (sp:=yL CX) GD rfl (oI.mark hr.mo _) (aG (pv 3))) (kS (xk (aL (dR (K:=K) rfl) rfl aD aY (aU (pv 3) (lB rfl jF))))))))))) (agz (Qw.own jF) (fun a=>(ag (aO (i:=2) iy.nd (a_ (aU (S5 DK ai) dO))))) Yq)))
  (ag (aA (pv 2))))),?_⟩
 refine ⟨_,rfl,L2,?_⟩
 intro t0 n0;generalize eX:upd _ t0 _=H0;have ⟨s0,e0⟩:=nw n0 eX;clear eX
 refine ⟨_,rfl,_,rfl,?_⟩
 have fin:∀H2,az H0 H2->n= -1->Q (.ref t0) H2:=fun H2 s2 z=>q t0 H2 (fun b o y=>s2 _ _ (s0 _ _ y)) n0 (by rw [z];exact s2 _ _ e0)
 cases b with
 | false=>
  refine cM ?_
  refine ⟨_,rfl,?_⟩
  dsimp only [zd]
  have s01:az H0 H0:=az.refl _
  refine CV ht s0 (fun z u H2 s2=>⟨_,rfl,fin H2 s2 z⟩) (fun z e=>?_) (fun m z d H2 s2 nd hd=>?_)
  ·refine N' ex (fun C dx' H2 hx hy s2=>?_) e
   refine ⟨false,hx,cM ⟨true,hy,fw ?_⟩⟩
   refine ⟨_,rfl,L2,?_⟩
   intro t3 n3;generalize eX:upd _ t3 _=H3;have ⟨s3,e3⟩:=nw n3 eX;clear eX
   have mm:az H H2:=fun b o y=>s2 _ _ (s01 _ _ (s0 _ _ y))
   exact ⟨_,rfl,q t3 H3 (fun b o y=>s3 _ _ (mm _ _ y)) (none_of mm n3) (by rw [z];exact e3)⟩
  ·refine ⟨true,ex.xx,fw fun ea na=>?_⟩
   have u5:az H H2:=fun b o y=>s2 _ _ (s01 _ _ (s0 _ _ y))
   have ned:d≠ea:=fun y=>by rw [y,na] at hd;cases hd
   have s4:az H2 (upd H2 ea (j' (.ref CX) ea (some d))):=aT na _
   have e4:(upd H2 ea (j' (.ref CX) ea (some d))) ea=some (j' (.ref CX) ea (some d)):=aj
   have d4:=s4 _ _ hd
   show KN _ _ _ _ (upd H2 ea (j' (.ref CX) ea (some d)))
   generalize upd H2 ea (j' (.ref CX) ea (some d))=H4 at s4 e4 d4 ⊢
   refine ⟨_,rfl,ea,CX,d,_,_,rfl,e4,d4,xf,agC _ _,?_⟩
   refine ⟨_,rfl,d,rfl,e4,fun H5 s5=>?_⟩
   refine ⟨_,rfl,cM ?_⟩
   refine ⟨_,rfl,ea,CX,_,true,some d,rfl,rfl,s5 _ _ e4,k.ek,k.y,_,rfl,L2,?_⟩
   intro t3 n3;generalize eX:upd _ t3 _=H3;have ⟨s3,e3⟩:=nw n3 eX;clear eX
   have qE:az H H5:=fun b o y=>s5 _ _ (s4 _ _ (u5 _ _ y))
   exact ⟨_,rfl,q t3 H3 (fun b o y=>s3 _ _ (qE _ _ y)) (none_of qE n3) (by rw [z];exact e3)⟩
 | true=>
  refine fw ?_
  refine ⟨_,rfl,?_⟩
  dsimp only [zd]
  intro y dx ny ndx nxy
  refine ⟨y,dx,v,rfl,aj,?_⟩
  have s01:az H0 (upd (upd H0 dx (.own y)) y (.ins CD dx [])):=fun b o e=>by rw [ah (ak e ny),ah (ak e ndx)];exact e
  generalize upd (upd H0 dx (.own y)) y (.ins CD dx [])=H1 at s01 ⊢
  refine CV ht (fun b o e=>s01 _ _ (s0 _ _ e)) (fun z u H2 s2 H3 k3=>⟨rfl,_,rfl,fin H3 (fun b o e=>k3 _ _ (ak e ny) (s2 _ _ (s01 _ _ e))) z⟩) (fun z e=>?_) (fun m z d H2 s2 nd hd=>?_)
  ·refine N' ex (fun C dx' H2 hx hy s2=>?_) e
   refine ⟨false,hx,cM ⟨true,hy,fw ?_⟩⟩
   refine ⟨_,rfl,L2,?_⟩
   intro t3 n3;generalize eX:upd _ t3 _=H3;have ⟨s3,e3⟩:=nw n3 eX;clear eX
   have mm:az H H2:=fun b o y=>s2 _ _ (s01 _ _ (s0 _ _ y))
   exact ⟨_,rfl,q t3 H3 (fun b o y=>s3 _ _ (mm _ _ y)) (none_of mm n3) (by rw [z];exact e3)⟩
  ·refine ⟨true,ex.xx,fw fun ea na=>?_⟩
   have u5:az H H2:=fun b o y=>s2 _ _ (s01 _ _ (s0 _ _ y))
   have ned:d≠ea:=fun y=>by rw [y,na] at hd;cases hd
   have s4:az H2 (upd H2 ea (j' (.ref CX) ea (some d))):=aT na _
   have e4:(upd H2 ea (j' (.ref CX) ea (some d))) ea=some (j' (.ref CX) ea (some d)):=aj
   have d4:=s4 _ _ hd
   show KN _ _ _ _ (upd H2 ea (j' (.ref CX) ea (some d)))
   generalize upd H2 ea (j' (.ref CX) ea (some d))=H4 at s4 e4 d4 ⊢
   refine ⟨_,rfl,ea,CX,d,_,_,rfl,e4,d4,xf,agC _ _,?_⟩
   refine ⟨_,rfl,d,rfl,e4,fun H5 s5=>?_⟩
   refine ⟨_,rfl,cM ?_⟩
   refine ⟨_,rfl,ea,CX,_,true,some d,rfl,rfl,s5 _ _ e4,k.ek,k.y,_,rfl,L2,?_⟩
   intro t3 n3;generalize eX:upd _ t3 _=H3;have ⟨s3,e3⟩:=nw n3 eX;clear eX
   have qE:az H H5:=fun b o y=>s5 _ _ (s4 _ _ (u5 _ _ y))
   exact ⟨_,rfl,q t3 H3 (fun b o y=>s3 _ _ (qE _ _ y)) (none_of qE n3) (by rw [z];exact e3)⟩
theorem xg {H:Hp}{t:Addr}{n:Int}{b:Bool}(e:H t=some (.tup [.int n,.bl b])):Is K H (.t [.v (.int n),.v (.bl b)]) (.ref t):=by
 unfold Is
 refine ⟨t,_,rfl,cT.of e,?_⟩
 unfold mh
 refine ⟨by unfold Is;exact ⟨rfl,rfl⟩,?_⟩
 unfold mh
 refine ⟨by unfold Is;exact ⟨rfl,rfl⟩,?_⟩
 unfold mh
 trivial
theorem T5 (n:Int)(b:Bool):gG [.v (.int n),.v (.bl b)] [.v (.int n),.v (.bl b)]=true:=by
 simp [gG,jE,vI]
theorem T6 (n:Int)(b:Bool):gm [.v (.int n),.v (.bl b)] [.v (.int n),.v (.bl b)]=true:=by
 simp [gm,alike]
theorem T7 (n:Int)(b:Bool):qR [.v (.int n),.v (.bl b)]<=60:=by
 simp [qR,dep]
theorem aae (ns:List Int){m:Int}(h0:2<=m)(h1:m<=14):∃cs:List Int,KZ (ns.map V.int) (some 2) (some m)=cs.map V.int/\cs.length<=12/\∀i∈cs,i∈ns:=by
 have a:HT.zb (ns.map V.int).length 0 (some 2)=min 2 (ns.map V.int).length:=by
  simp only [HT.zb]
  split <;> omega
 have b:HT.zb (ns.map V.int).length (ns.map V.int).length (some m)=min m.toNat (ns.map V.int).length:=by
  simp only [HT.zb]
  split <;> omega
 refine ⟨(ns.drop (min 2 (ns.map V.int).length)).take (min m.toNat (ns.map V.int).length - min 2 (ns.map V.int).length),?_,?_,fun i hi=>am9 (alC hi)⟩
 ·unfold KZ
  rw [a,b,alz,List.map_drop]
 ·rw [aiC]
  omega
theorem VH {rs:List LR}(rp:oQ rs)(ne:Txt.join "\n" (rs.map (·.x))≠ ""):js (Txt.join "\n" (rs.map (·.x)))=rs.map (·.x):=by
 unfold js
 rw [if_neg ne,ajp]
 refine pI (fun z=>ne ?_) fun w hw z=>?_
 ·rw [z]
  decide+kernel
 ·obtain ⟨r,hr,rfl⟩:=aeu.mp hw
  obtain ⟨i,ei⟩:=aeV hr
  exact ((rp i r ei).1.tx.Pz 10 z).2 rfl
theorem sum_rows {rs:List LR}(rp:oQ rs)(l:rs.length<=13):((rs.map (·.x)).map (·.length)).sum+(rs.map (·.x)).length*("\n":Str).length<=6000:=by
 have go:∀l:List LR,(∀r∈l,r.x.length<=400)->((l.map (·.x)).map (·.length)).sum<=400*l.length:=by
  intro l
  induction l with
  | nil=>intro _;exact abt _
  | cons r t ih=>
   intro h
   have:=ih fun z hz=>h z (abz _ hz)
   have:=h r abE
   show r.x.length+((t.map (·.x)).map (·.length)).sum<=400*(t.length+1)
   omega
 have:=go rs fun r hr=>by
  obtain ⟨i,ei⟩:=aeV hr
  exact (rp i r ei).1.tx.len
 have ln:("\n":Str).length=1:=by decide+kernel
 rw [ln,Wp]
 omega
theorem text_len {rs:List LR}(rp:oQ rs)(l:rs.length<=13):(Txt.join "\n" (rs.map (·.x))).length+2<=sizeLine:=by
 have h:=sum_rows rp l
 have j:(Txt.join "\n" (rs.map (·.x))).length<=((rs.map (·.x)).map (·.length)).sum+(rs.map (·.x)).length*("\n":Str).length:=by
  rw [show Txt.join "\n" (rs.map (·.x))=Builtin.Str.glued "\n" (rs.map (·.x)) from rfl,size_glued]
  have:=agI ("\n":Str).length (Nat.sub_le (rs.map (·.x)).length 1)
  omega
 exact ir (show _<=7000 by omega) (by decide)
theorem qa:av zar ["_law_script"] (aa kC):=sq
theorem aj9 {f:Addr}{fd:FuncData}(F:lV K "law" "law" kC f fd)(bP:mg "len"=none)(aD:mg "isinstance"=none)(pM:mg "bool"=none)
  (aaf:Fn P w K mg base (aV P w) 1 "_law_cell_at" zaI (Rh K)) (Rt:Fn P w K mg base (aV P w) 6 "_law_rows" za5 (F' K)) (VI:Fn P w K mg base (aV P w) 1 "_law_due" za0 (aab K)) (yM:Fn P w K mg base (aV P w) 69 "_law_told" zaJ Ro) (zR:Fn P w K mg base (aV P w) 1 "_law_no_text" zaf GB):
  bH P w K mg base (aV P w) 70 f fd ["_law_script"] (Yp K):=by
 refine F.okG qa (fun vs H Q E h=>?_) (fun cdv A outer s H vs Q E hr h=>?_)
 ·obtain ⟨a,ns,rfl,_⟩:=h
  rfl
 obtain ⟨sA,ns,rfl,hS,hn,hb,q⟩:=h
 have L2:2<=sizeLine:=by decide
 have Z_:∃t,PSs (fu (aV P w) P w K mg base zar "law" (aa kC) f cdv A outer s H E).pq ((aq kC).drop 6) t/\∀(x:Str) (n:Int) (o1 o2:Η) (H6:Hp),az H H6->aad H6 (.str x) n->
   t {nx:=fun _ H' =>Q .bN H',rt:=Q} [some (.ref sA),o1,o2,some (.str x),some (.int n),none] H6:=by
  refine ⟨_,(ae (aO (i:=5) qa.nd (xX yM hr (aU (pv 3) (dz a9 (aC aS (aC bT (xX aaf hr (aU (pv 0) ai)) ai) ai) ai (i_ _))))) (ae (aK (PW.pt (lU (eU (aL gP rfl aD aY (aU (bh (pv 5)) (oE rfl pM Qu)))) (iZ (aE (Td hr.units) (pv 5) (a_ (aU (pv 4) dO)))))) (ag (aA dO)) ay) (ag (aA (dz (wB hr.units) (xX yM hr (aU (xX zR hr (aG (xX aaf hr (aU (pv 0) ai)))) (dz a9 (aC aS (aC bT (xX aaf hr (aU (pv 0) ai)) ai) ai) ai (i_ _)))) (a_ (aU ai dO)) (i_ _)))))),?_⟩
  intro x n o1 o2 H6 s6 tt
  refine ⟨_,rfl,_,rfl,sA,ns,1,rfl,s6.seq hS,hb,by decide,by decide,fun c7 b7=>?_⟩
  refine ⟨_,_,rfl,rfl,dv ⟨by decide,by decide+kernel⟩,_,_,rfl,rfl,nz (by decide),rfl,.str x,_,n,rfl,tt,fun t8 H8 s8 n8 e8=>?_⟩
  refine ⟨_,rfl,t8,_,_,_,rfl,rfl,cT.of e8,wM,_,_,_,false,rfl,rfl,.int _,aop,_,rfl,?_⟩
  refine cM ?_
  refine ⟨_,rfl,_,rfl,L2,?_⟩
  intro t9 n9;generalize eX:upd _ t9 _=H9;have ⟨s9,e9⟩:=nw n9 eX;clear eX
  refine ⟨_,_,.inl ⟨xg (s9 _ _ e8),xg e9⟩,T6 _ _,T7 _ _,?_⟩
  rw [T5]
  refine ⟨_,rfl,cM ?_⟩
  have s69:=aw s8 s9
  have s09:=aw s6 s69
  refine ⟨_,rfl,sA,ns,1,rfl,s09.seq hS,hb,by decide,by decide,fun cA bA=>?_⟩
  refine ⟨cA,rfl,fun vB HB sB nB=>?_⟩
  refine ⟨_,rfl,sA,ns,1,rfl,(aw s09 sB).seq hS,hb,by decide,by decide,fun cC bC=>?_⟩
  refine ⟨_,_,rfl,rfl,dv ⟨by decide,by decide+kernel⟩,_,_,rfl,rfl,nz (by decide),rfl,vB,_,0,rfl,.inr ⟨nB,rfl⟩,fun tD HD sD nD eD=>⟨L2,?_⟩⟩
  intro tE nE;generalize eX:upd _ tE _=HE;have ⟨sE,eE⟩:=nw nE eX;clear eX
  refine ⟨_,_,.inl ⟨xg (sE _ _ eD),xg eE⟩,T6 _ _,T7 _ _,?_⟩
  rw [T5]
  exact q HE
 obtain ⟨t6,p6,q6⟩:=Z_
 have tail3:∃t,PSs (fu (aV P w) P w K mg base zar "law" (aa kC) f cdv A outer s H E).pq ((aq kC).drop 3) t/\∀(lr:Addr) (us:η) (rs:List LR) (o1:Η) (H3:Hp),az H H3->H3 lr=some (.lst us)->Paired (LrR K H3) us rs->oQ rs->rs.length<=13->
   t {nx:=fun _ H' =>Q .bN H',rt:=Q} [some (.ref sA),o1,some (.ref lr),none,none,none] H3:=by
  refine ⟨_,(ae (aO (i:=3) qa.nd (gO PySem.F.plainAttrs_str PySem.F.slot_str_join PySem.F.type_str_join Tn au (aG (nL (tn:=["_law_row_here"]) (fr:=[]) (caps:=[]) (kU (pv 2)) (nU (EI (K:=K) rfl) (pv 0) ai))))) (ae (aO (i:=4) qa.nd (xX VI hr (aG (pv 2)))) (ae (aK (aE a9 (pv 3) au) (ag (aO (i:=4) qa.nd (aC aip ai ai))) ay) p6))),?_⟩
  intro lr us rs o1 H3 s3 er pr rp l13
  have lu:us.length=rs.length:=Paired.length pr
  refine ⟨rfl,_,rfl,lr,rfl,⟨_,bq.of er⟩,fun D nD=>?_⟩
  refine tK (K:=K) (a:=lr) (xs:=us) (fun i v _=>∃r,rs[i]? =some r/\v=.str r.x) nD (by rw [lu];exact abF l13 (by decide)) (fun H4 s4=>bq.of (s4 _ _ er)) (fun _ _ _ _ _ _ _ h=>h) ?_ ?_
  ·intro i x H4 R ex s4 k
   obtain ⟨r,ep,t,rfl,ht⟩:=b8 pr ex
   exact ⟨_,rfl,t,_,_,_,rfl,rfl,Ty.az.km s4 ht,zB,k _ H4 (az.refl _) ⟨r,ep,rfl⟩⟩
  intro ys H4 ly py s4 e4
  have ey:ys=(rs.map (·.x)).map V.str:=by
   refine ajW fun i=>?_
   rw [abx,abx]
   by_cases hi:i < ys.length
   ·obtain ⟨p,ep,ev⟩:=py i ys[i] (gE hi)
    rw [gE hi,ev,ep]
    rfl
   ·rw [aeD (by omega),aeD (by omega)]
    rfl
  have s04:=aw s3 s4
  refine ⟨"\n",D,rs.map (·.x),rfl,rfl,by rw [<- ey];exact bq.of e4,ir (sum_rows rp l13) (by decide),?_⟩
  refine ⟨_,rfl,lr,us,rs,rfl,s4 _ _ er,Paired.cy pr fun _ _ z=>z.aZ (.of s4),by omega,fun H5 s5=>?_⟩
  have qE:=aw s04 s5
  refine ⟨_,rfl,rfl,_,rfl,?_⟩
  rw [eq_str]
  have tz:=text_len rp l13
  by_cases ne:Txt.join "\n" (rs.map (·.x))=""
  ·rw [decide_eq_true ne]
   refine fw ?_
   refine ⟨_,_,rfl,rfl,?_⟩
   have rt:js (Txt.join "\n" (rs.map (·.x)))=[]:=by unfold js;rw [if_pos ne]
   exact q6 _ _ _ _ H5 qE (.inl ⟨_,rfl,tz,by rw [rt];exact af0 _,by rw [rt];exact (fun _ h=>nomatch h),by rw [rt];rfl⟩)
  ·rw [decide_eq_false ne]
   refine cM ?_
   have rt:=VH rp ne
   refine q6 _ _ _ _ H5 qE (.inl ⟨_,rfl,tz,by rw [rt,Wp];exact l13,fun r hr=>?_,?_⟩)
   ·rw [rt] at hr
    obtain ⟨r',hr',rfl⟩:=aeu.mp hr
    obtain ⟨i,ei⟩:=aeV hr'
    exact (rp i r' ei).1.tx.rd
   ·rw [rt]
    exact NR rs 0 ⟨[],[],none⟩ none [] [] rfl rfl am_ (fun _ h=>nomatch h) (fun i r e=>by rw [List.nil_append];exact rp i r e)
 obtain ⟨t3,p3,q3⟩:=tail3
 refine ⟨_,(ae (aO (i:=1) qa.nd (aC pC ai (aC aS (aC bT (xX aaf hr (aU (pv 0) ai)) ai) ai))) (ae (aO (i:=2) qa.nd (xX Rt hr (aG (qK DR (pv 0) (qJ ai) (qJ (pv 1)))))) (ae (aK (PW.pt (iC (aE a9 (aC aS (xX aaf hr (aU (pv 0) ai)) ai) ai) (gh (aE X5 (aL bw rfl bP g_ (aG (pv 2))) ai)))) (ag (bj (gO PySem.F.plainAttrs_list PySem.F.slot_list_append PySem.F.type_list_append fv (pv 2) (aG (a_ (mw au (dm au au dO))))))) ay) p3))),?_⟩
 refine ⟨_,rfl,sA,ns,0,rfl,hS,hb,by decide,by decide,fun c1 b1=>?_⟩
 refine ⟨_,_,rfl,rfl,dv ⟨by decide,by decide+kernel⟩,_,_,rfl,rfl,nz (by decide),_,_,rfl,rfl,?_⟩
 have m1:=dj (x:=c1.fdiv 8) (m:=13) (by decide)
 obtain ⟨cs,ec,lc,mc⟩:=aae ns (m:=2+(c1.fdiv 8).fmod 13) (by omega) (by omega)
 refine ⟨_,rfl,2,rfl,_,rfl,_,rfl,sA,_,rfl,hS,?_⟩
 rw [ec]
 intro l2 n2;generalize eX:upd _ l2 _=H2;have ⟨s2,e2⟩:=nw n2 eX;clear eX
 refine ⟨l2,cs,rfl,e2,lc,fun i hi=>hb i (mc i hi),fun lr us rs H3 s3 nr er pr rp lrs=>?_⟩
 have mm:=aw s2 s3
 have lu:us.length=rs.length:=Paired.length pr
 refine ⟨_,rfl,sA,ns,0,rfl,mm.seq hS,hb,by decide,by decide,fun c4 b4=>?_⟩
 refine ⟨_,_,rfl,rfl,nz (by decide),rfl,_,rfl,?_⟩
 refine aI (fun _=>?_) (fun _=>q3 lr us rs _ H3 mm er pr rp (by omega))
 refine ⟨_,rfl,lr,_,rfl,.inl (bq.of er),_,_,rfl,rfl,_,rfl,?_⟩
 refine aI (fun _=>?_) (fun _=>q3 lr us rs _ H3 mm er pr rp (by omega))
 refine ⟨_,rfl,.inl ⟨rfl,_,bq.of er⟩,(by show 4<=sizeLine;decide),?_⟩
 intro t5 n5;generalize eX:upd _ t5 _=H5;have ⟨s5,e5⟩:=nw n5 eX;clear eX
 refine ⟨lr,us,_,rfl,rfl,s5 _ _ er,abF (show us.length<=100 by omega) (by decide),?_⟩
 have t6:bg H5 (upd H5 lr (.lst (us++[.ref t5]))):=.list (s5 _ _ er)
 have nrH:H lr=none:=aJ s2 nr
 refine q3 lr (us++[.ref t5]) (rs++[⟨"","odd","",false⟩]) _ _ (fun b o e=>?_) aj (Paired.snoc (Paired.cy pr fun _ _ z=>(z.aZ (.of s5)).aZ t6) ⟨t5,rfl,t6.km (cT.of e5)⟩) (rp.snoc (T3 (by decide+kernel)).up (fun z=>nomatch z)) (by rw [aa_,adL];omega)
 rw [ah (ak e nrH)]
 exact s5 _ _ (mm _ _ e)
end
theorem all_mk {l:PySem.W.OpenLaw}{w:World}{K:Frag}{h:Heap}{mg:ε}{fa:Addr}(X:K.In h)(G:h.Ns mainGlobals mg)(hfa:mg "law"=some (.ref fa))
  {aoW aoX:Str} {aoY agQ:θ} {aoZ:Bool} {ao0:ζ} {aj':θ} {ao1:Bool} {aka:Option Bool} {ao2 ao3 ao4 ao5 ao6:Ι} {ao7 ao8:Str} {ao9 agR:θ} {ao':Bool} {apa:ζ} {akb:θ} {apb:Bool} {akc:Option Bool} {apc apd ape apf apg:Ι} {aph api:Str} {apj agS:θ} {apk:Bool} {apl:ζ} {akd:θ} {apm:Bool} {ake:Option Bool} {apn apo apq apr aps:Ι} {apt apu:Str} {apv agT:θ} {apw:Bool} {apx:ζ} {akf:θ} {apy:Bool} {akg:Option Bool} {apz apA apB apC apD:Ι} {apE apF:Str} {apG agU:θ} {apH:Bool} {apI:ζ} {akh:θ} {apJ:Bool} {aki:Option Bool} {apK apL apM apN apO:Ι} {VJ VL:Str} {VM CW:θ} {VN:Bool} {VO:ζ} {Ru:θ} {VP:Bool} {Rv:Option Bool} {VQ VR VS VT VU:Ι}
  (Rx:nsIn K mainGlobals "ratio_of"=some (some (.ref qb))) (Ry:K.lookup qb=some ⟨agV,agW,.func (fnOf "ratio_of" "ratio_of" (ar b9) (aq b9) (aa b9) (.ref m4) vc vd ve vf m5 vg),agX⟩) (Rz:codeIn K m5 "ratio_of"=true) (RA:keepIn K (.ref qb)=true) (yN:K.lookup m4=some ⟨agY,aeX,.seq #[.int 1 vh] agZ,aeY⟩) (aag:HXx K "sum_of" jg) (GF:HXx K "product_of" dB) (RB:HXx K "is_whole" hU) (av5:HXx K "lowest_terms" MG) (av9:HXx K "greatest_shared" U0) (GK:HXx K "show_ratio" fA) (GQ:HXx K "read_ratio" cG) (GY:HXx K "read_whole" c9) (RF:HXx K "pair_sum" gn) (OF:HXx K "stretched" fb) (HK:HXx K "laid_frame" dC) (RJ:HXx K "lay_rows" gp) (VW:HXx K "lay_pin" hV) (V0:HXx K "lay_bar" hW) (OK:HXx K "lay_piece" dr) (m7:HXx K "prefixes_and_spots" bU) (aak:HXx K "pin_at" kz) (OP:HXx K "hold_from" gH) (RP:HXx K "read_row" gw) (aao:HXx K "fitted" kA) (RU:HXx K "value_of" gA) (V6:HXx K "is_name" iV) (OW:HXx K "number_of" gI) (V_:HXx K "many_of" hZ) (HS:HXx K "read_frame" cH) (awc:HXx K "_law_cell_at" U1) (R9:HXx K "_law_part" fe) (awg:HXx K "_law_name" U2) (awk:HXx K "_law_number" U3) (HX:HXx K "_law_across" dE) (vP:HXx K "_law_number_at" cq) (awo:HXx K "_law_times" U4) (zZ:HXx K "_law_odd_row" dS) (IA:HXx K "_law_row_of" fC) (IF:HXx K "_law_roller" cI) (Wl:HXx K "_law_lay" cO) (Wq:HXx K "_law_row" fE) (IJ:HXx K "_law_spoilt" fF) (Sf:HXx K "_law_rows" gB) (Wu:HXx K "_law_due" iW) (IP:HXx K "_law_others" fH) (Sm:HXx K "_law_told" h9) (z_:HXx K "_law_no_text" dU) (ap1:nsIn K mainGlobals "law"=some (some (.ref ah1))) (ap2:K.lookup ah1=some ⟨aws,awt,.func (fnOf "law" "law" (ar kC) (aq kC) (aa kC) .none alc ald ale alf aaI alg),awu⟩) (ap3:codeIn K aaI "law"=true) (ap4:keepIn K (.ref ah1)=true) (awv:nsIn K mainGlobals "MOST_PINS"=some (some (.int 24 aAS))) (aww:nsIn K mainGlobals "MOST_BARS"=some (some (.int 60 aAT))) (Pl:nsIn K mainGlobals "MOST_ROWS"=some (some (.int 500 afu))) (yY:nsIn K mainGlobals "LONGEST_NAME"=some (some (.int 20 XF))) (vT:nsIn K mainGlobals "GREATEST_MANY"=some (some (.int 60 Wy))) (Wz:nsIn K mainGlobals "LETTERS"=some (some (.str "abcdefghijklmnopqrstuvwxyz" alh))) (WA:nsIn K mainGlobals "FIGURES"=some (some (.str "0123456789" ali))) (yZ:nsIn K mainGlobals "MOST_FIGURES"=some (some (.int 60 XG))) (awx:nsIn K mainGlobals "NOUGHT"=some (some (.ref alj))) (awy:K.lookup alj=some ⟨.type "tuple",aAU,.seq #[.int 0 awz,.int 1 awA] aAV,aAW⟩) (awB:nsIn K mainGlobals "NO_MOVE"=some (some (.ref alk))) (awC:K.lookup alk=some ⟨.type "tuple",aAX,.seq #[.ref ap5,.ref ap6] aAY,aAZ⟩) (awD:K.lookup ap5=some ⟨.type "tuple",aA0,.seq #[.int 0 awE,.int 1 awF] aA1,aA2⟩) (awG:K.lookup ap6=some ⟨.type "tuple",aA3,.seq #[.int 0 awH,.int 1 awI] aA4,aA5⟩) (afv:nsIn K mainGlobals "FORMS"=some (some (.ref IU))) (afw:K.lookup IU=some ⟨.type "tuple",ap7,.seq #[.str "pin NAME NUMBER NUMBER" amm,.str "pin NAME NUMBER NUMBER fixed" amn,.str "pin NAME NUMBER NUMBER roller NUMBER NUMBER" amo,.str "bar NAME NAME NAME" amq,.str "piece NAME" amr,.str "end" ams,.str "lay NAME NAME NUMBER NUMBER" amt,.str "lay NAME NAME NUMBER NUMBER MANY NUMBER NUMBER" amu] ap8,ap9⟩) (IV:nsIn K mainGlobals "ValueError"=some none) (ap':nsIn K mainGlobals "abs"=some none) (aqa:nsIn K mainGlobals "all"=some none) (aqb:nsIn K mainGlobals "any"=some none) (alm:nsIn K mainGlobals "bool"=some none) (Pm:nsIn K mainGlobals "enumerate"=some none) (aqc:nsIn K mainGlobals "int"=some none) (IW:nsIn K mainGlobals "isinstance"=some none) (aqd:nsIn K mainGlobals "len"=some none) (aln:nsIn K mainGlobals "list"=some none) (afx:nsIn K mainGlobals "range"=some none) (aqe:nsIn K mainGlobals "str"=some none) (aqf:nsIn K mainGlobals "zip"=some none) (awJ:nsIn K mainGlobals "YardError"=some (some (.ref uw))) (Sr:nsIn K mainGlobals "NoNumber"=some (some (.ref lT))) (aaJ:nsIn K mainGlobals "NoText"=some (some (.ref ju))) (awK:nsIn K mainGlobals "NoWay"=some (some (.ref alp))) (awL:nsIn K mainGlobals "PinThere"=some (some (.ref g8))) (awM:nsIn K mainGlobals "SpotTaken"=some (some (.ref kL))) (awN:nsIn K mainGlobals "NoPin"=some (some (.ref gX))) (awO:nsIn K mainGlobals "BarThere"=some (some (.ref ie))) (awP:nsIn K mainGlobals "NoBar"=some (some (.ref awQ))) (awR:nsIn K mainGlobals "NoLength"=some (some (.ref ig))) (awS:nsIn K mainGlobals "TooMany"=some (some (.ref y4))) (aaK:nsIn K mainGlobals "NoLine"=some (some (.ref aH))) (awT:nsIn K mainGlobals "Frame"=some (some (.ref dH))) (awU:nsIn K mainGlobals "Hold"=some (some (.ref vU))) (awV:nsIn K mainGlobals "Roller"=some (some (.ref oj))) (awW:nsIn K mainGlobals "Fixed"=some (some (.ref uz))) (aaL:nsIn K mainGlobals "Ground"=some (some (.ref bY))) (aaM:nsIn K mainGlobals "Laying"=some (some (.ref a8))) (afy:nsIn K mainGlobals "Sheet"=some (some (.ref bZ))) (alq:nsIn K mainGlobals "Desk"=some (some (.ref fV))) (aqg:PySem.W.plainGet K dH Str.empty=true) (aqh:PySem.W.hasDictIn K dH=true) (aqi:PySem.W.plainOver K dH=true) (aqj:PySem.W.findIn K (.ref dH) "__setattr__"=some (some (.builtin "object.__setattr__"))) (aqk:PySem.W.makesIn K dH=true) (aql:keepIn K (.ref dH)=true) (aqm:HXy K dH "__init__" "Frame.__init__" U7) (awZ:PySem.W.findIn K (.ref dH) "put_pin"=some (some (.ref afz))) (aw0:PySem.W.isFn K (.ref afz)=true) (aw1:K.lookup afz=some ⟨aBd,aBe,.func (fnOf "put_pin" "Frame.put_pin" (ar tQ) (aq tQ) (aa tQ) (.ref aaO) ah2 ah3 ah4 ah5 aaP ah6),aBf⟩) (aqq:K.lookup aaO=some ⟨aBg,aw2,.seq #[.none] aBh,aw3⟩) (aw4:codeIn K aaP "Frame.put_pin"=true) (aqr:keepIn K (.ref afz)=true) (aw5:HXy K dH "put_bar" "Frame.put_bar" QM) (aw9:HXy K dH "check_bar" "Frame.check_bar" QN) (axc:HXy K dH "check_pin" "Frame.check_pin" U8) (axg:HXy K dH "pins" "Frame.pins" U9) (axk:HXy K dH "place" "Frame.place" U_) (aqC:PySem.W.plainGet K vU Str.empty=true) (aqD:PySem.W.hasDictIn K vU=true) (aqE:PySem.W.plainOver K vU=true) (aqF:PySem.W.findIn K (.ref vU) "__setattr__"=some (some (.builtin "object.__setattr__"))) (aqG:PySem.W.makesIn K vU=true) (aqH:keepIn K (.ref vU)=true) (aqI:PySem.W.findIn K (.ref vU) "__init__"=some (some (.builtin "object.__init__"))) (axo:HXy K vU "ways" "Hold.ways" aed) (aqL:PySem.W.plainGet K oj Str.empty=true) (aqM:PySem.W.hasDictIn K oj=true) (aqN:PySem.W.plainOver K oj=true) (aqO:PySem.W.findIn K (.ref oj) "__setattr__"=some (some (.builtin "object.__setattr__"))) (aqP:PySem.W.makesIn K oj=true) (aqQ:keepIn K (.ref oj)=true) (aqR:HXy K oj "__init__" "Roller.__init__" U') (axu:HXy K oj "ways" "Roller.ways" Va) (aqX:PySem.W.plainGet K uz Str.empty=true) (aqY:PySem.W.hasDictIn K uz=true) (aqZ:PySem.W.plainOver K uz=true) (aq0:PySem.W.findIn K (.ref uz) "__setattr__"=some (some (.builtin "object.__setattr__"))) (aq1:PySem.W.makesIn K uz=true) (aq2:keepIn K (.ref uz)=true) (aq3:PySem.W.findIn K (.ref uz) "__init__"=some (some (.builtin "object.__init__"))) (axy:HXy K uz "ways" "Fixed.ways" Vb) (WC:PySem.W.plainGet K bY Str.empty=true) (WD:PySem.W.hasDictIn K bY=true) (WE:PySem.W.plainOver K bY=true) (WG:PySem.W.findIn K (.ref bY) "__setattr__"=some (some (.builtin "object.__setattr__"))) (WH:PySem.W.makesIn K bY=true) (WI:keepIn K (.ref bY)=true) (oV:HXy K bY "__init__" "Ground.__init__" dX) (qc:HXy K bY "count_row" "Ground.count_row" b_) (WJ:PySem.W.plainGet K a8 Str.empty=true) (WK:PySem.W.hasDictIn K a8=true) (WL:PySem.W.plainOver K a8=true) (WM:PySem.W.findIn K (.ref a8) "__setattr__"=some (some (.builtin "object.__setattr__"))) (WN:PySem.W.makesIn K a8=true) (WO:keepIn K (.ref a8)=true) (oY:HXy K a8 "__init__" "Laying.__init__" dY) (qh:HXy K a8 "full_name" "Laying.full_name" cb) (ql:HXy K a8 "check_new" "Laying.check_new" bF) (rX:HXy K a8 "name_pin" "Laying.name_pin" bW) (uA:HXy K a8 "own_pin" "Laying.own_pin" cQ) (aa7:PySem.W.plainGet K bZ Str.empty=true) (aa8:PySem.W.hasDictIn K bZ=true) (aa9:PySem.W.plainOver K bZ=true) (aa':PySem.W.findIn K (.ref bZ) "__setattr__"=some (some (.builtin "object.__setattr__"))) (aba:PySem.W.makesIn K bZ=true) (abb:keepIn K (.ref bZ)=true) (se:HXy K bZ "__init__" "Sheet.__init__" fJ) (sk:HXy K bZ "may_stand" "Sheet.may_stand" cn) (IZ:HXy K bZ "keep" "Sheet.keep" fK) (afI:PySem.W.plainGet K fV Str.empty=true) (afJ:PySem.W.hasDictIn K fV=true) (afK:PySem.W.plainOver K fV=true) (afL:PySem.W.findIn K (.ref fV) "__setattr__"=some (some (.builtin "object.__setattr__"))) (afM:PySem.W.makesIn K fV=true) (afN:keepIn K (.ref fV)=true) (vw:HXy K fV "__init__" "Desk.__init__" fh) (axC:K.lookup g8=some (excClassObj aoW aoX g8 aFH aoY agQ aoZ ao0 aj' ao1 aka aCr ao2 ao3 ao4 ao5 ao6 "ValueError.__new__")) (aq6:PySem.W.tailIn K Xx agQ=true) (aq7:keepIn K (.ref g8)=true) (aq8:PySem.W.findIn K (.ref g8) "__getattribute__"=some (some (.builtin "BaseException.__getattribute__"))) (aq9:PySem.W.findIn K (.ref g8) "__getattr__"=some none) (aq':PySem.W.findIn K (.ref g8) "__class__"=some (some (.builtin "object.__class__"))) (ara:PySem.W.mroIn K g8 (.type "object")=some true) (arb:PySem.W.mroIn K g8 (.type "BaseException")=some true) (arc:PySem.W.mroIn K g8 (.type "ValueError")=some true) (ard:(PySem.W.clsIn K g8).isSome=true) (arf:PySem.W.findIn K (.ref g8) "__setattr__"=some (some (.builtin "object.__setattr__"))) (arh:PySem.W.hasDictIn K g8=true) (ari:(PySem.W.clsIn K g8).any (fun cd=>TyExc.iD cd.mro)=true) (vV:PySem.W.findIn K (.ref g8) "pin"=some none) (axD:HXy K g8 "__init__" "PinThere.__init__" U5) (axI:K.lookup kL=some (excClassObj ao7 ao8 kL aFI ao9 agR ao' apa akb apb akc aCA apc apd ape apf apg "ValueError.__new__")) (ark:PySem.W.tailIn K Xx agR=true) (arl:keepIn K (.ref kL)=true) (arn:PySem.W.findIn K (.ref kL) "__getattribute__"=some (some (.builtin "BaseException.__getattribute__"))) (aro:PySem.W.findIn K (.ref kL) "__getattr__"=some none) (arp:PySem.W.findIn K (.ref kL) "__class__"=some (some (.builtin "object.__class__"))) (arq:PySem.W.mroIn K kL (.type "object")=some true) (ars:PySem.W.mroIn K kL (.type "BaseException")=some true) (art:PySem.W.mroIn K kL (.type "ValueError")=some true) (aru:(PySem.W.clsIn K kL).isSome=true) (arv:PySem.W.findIn K (.ref kL) "__setattr__"=some (some (.builtin "object.__setattr__"))) (arw:PySem.W.hasDictIn K kL=true) (arx:(PySem.W.clsIn K kL).any (fun cd=>TyExc.iD cd.mro)=true) (uE:PySem.W.findIn K (.ref kL) "pin"=some none) (uF:HXy K kL "__init__" "SpotTaken.__init__" cP) (axJ:K.lookup gX=some (excClassObj aph api gX aFJ apj agS apk apl akd apm ake aCB apn apo apq apr aps "ValueError.__new__")) (ary:PySem.W.tailIn K Xx agS=true) (arz:keepIn K (.ref gX)=true) (arA:PySem.W.findIn K (.ref gX) "__getattribute__"=some (some (.builtin "BaseException.__getattribute__"))) (arB:PySem.W.findIn K (.ref gX) "__getattr__"=some none) (arC:PySem.W.findIn K (.ref gX) "__class__"=some (some (.builtin "object.__class__"))) (arD:PySem.W.mroIn K gX (.type "object")=some true) (arE:PySem.W.mroIn K gX (.type "BaseException")=some true) (arF:PySem.W.mroIn K gX (.type "ValueError")=some true) (arG:(PySem.W.clsIn K gX).isSome=true) (arH:PySem.W.findIn K (.ref gX) "__setattr__"=some (some (.builtin "object.__setattr__"))) (arI:PySem.W.hasDictIn K gX=true) (arJ:(PySem.W.clsIn K gX).any (fun cd=>TyExc.iD cd.mro)=true) (JD:PySem.W.findIn K (.ref gX) "pin"=some none) (axK:HXy K gX "__init__" "NoPin.__init__" U6) (axP:K.lookup ie=some (excClassObj apt apu ie aFK apv agT apw apx akf apy akg aCK apz apA apB apC apD "ValueError.__new__")) (arL:PySem.W.tailIn K Xx agT=true) (arM:keepIn K (.ref ie)=true) (arN:PySem.W.findIn K (.ref ie) "__getattribute__"=some (some (.builtin "BaseException.__getattribute__"))) (arO:PySem.W.findIn K (.ref ie) "__getattr__"=some none) (arP:PySem.W.findIn K (.ref ie) "__class__"=some (some (.builtin "object.__class__"))) (arQ:PySem.W.mroIn K ie (.type "object")=some true) (arR:PySem.W.mroIn K ie (.type "BaseException")=some true) (arS:PySem.W.mroIn K ie (.type "ValueError")=some true) (arT:(PySem.W.clsIn K ie).isSome=true) (arU:PySem.W.findIn K (.ref ie) "__setattr__"=some (some (.builtin "object.__setattr__"))) (arV:PySem.W.hasDictIn K ie=true) (arW:(PySem.W.clsIn K ie).any (fun cd=>TyExc.iD cd.mro)=true) (vW:PySem.W.findIn K (.ref ie) "bar"=some none) (vX:HXy K ie "__init__" "BarThere.__init__" cX) (axQ:K.lookup ig=some (excClassObj apE apF ig aFL apG agU apH apI akh apJ aki aCL apK apL apM apN apO "ValueError.__new__")) (arX:PySem.W.tailIn K Xx agU=true) (arY:keepIn K (.ref ig)=true) (arZ:PySem.W.findIn K (.ref ig) "__getattribute__"=some (some (.builtin "BaseException.__getattribute__"))) (ar0:PySem.W.findIn K (.ref ig) "__getattr__"=some none) (ar1:PySem.W.findIn K (.ref ig) "__class__"=some (some (.builtin "object.__class__"))) (ar2:PySem.W.mroIn K ig (.type "object")=some true) (ar3:PySem.W.mroIn K ig (.type "BaseException")=some true) (ar4:PySem.W.mroIn K ig (.type "ValueError")=some true) (ar5:(PySem.W.clsIn K ig).isSome=true) (ar6:PySem.W.findIn K (.ref ig) "__setattr__"=some (some (.builtin "object.__setattr__"))) (ar7:PySem.W.hasDictIn K ig=true) (ar8:(PySem.W.clsIn K ig).any (fun cd=>TyExc.iD cd.mro)=true) (v9:PySem.W.findIn K (.ref ig) "bar"=some none) (v_:HXy K ig "__init__" "NoLength.__init__" cY) (abc:K.lookup aH=some (excClassObj VJ VL aH ar9 VM CW VN VO Ru VP Rv amv VQ VR VS VT VU "ValueError.__new__")) (Xa:PySem.W.tailIn K Xx CW=true) (Xb:keepIn K (.ref aH)=true) (Xc:PySem.W.findIn K (.ref aH) "__getattribute__"=some (some (.builtin "BaseException.__getattribute__"))) (Xd:PySem.W.findIn K (.ref aH) "__getattr__"=some none) (Xe:PySem.W.findIn K (.ref aH) "__class__"=some (some (.builtin "object.__class__"))) (Xf:PySem.W.mroIn K aH (.type "object")=some true) (Xg:PySem.W.mroIn K aH (.type "BaseException")=some true) (Xh:PySem.W.mroIn K aH (.type "ValueError")=some true) (Xi:(PySem.W.clsIn K aH).isSome=true) (Xj:PySem.W.findIn K (.ref aH) "__setattr__"=some (some (.builtin "object.__setattr__"))) (Xk:PySem.W.hasDictIn K aH=true) (Xl:(PySem.W.clsIn K aH).any (fun cd=>TyExc.iD cd.mro)=true) (JE:PySem.W.findIn K (.ref aH) "at"=some none) (AK:HXy K aH "__init__" "NoLine.__init__" dW) (abl:PySem.W.findIn K (.ref dH) "pin_places"=some none) (alr:PySem.W.findIn K (.ref dH) "pin_ways"=some none) (alu:PySem.W.findIn K (.ref dH) "bar_ends"=some none) (ah7:PySem.W.findIn K (.ref oj) "way"=some none) (ht:l.prog.given.tree=none) (dQ:PySem.W.excIn K ju Yv "ValueError.__new__"=true) (ia:PySem.W.excIn K lT Yv "ValueError.__new__"=true) (Xm:(PySem.W.clsIn K ju).isSome=true) (e1:PySem.W.exmOne K (.ref ju) (.ref ju)=some true) (axR:PySem.W.findIn K (.ref bZ) "outside"=some none) (axS:PySem.W.findIn K (.ref bZ) "pieces"=some none) (axT:PySem.W.findIn K (.ref bZ) "current"=some none) (axU:PySem.W.findIn K (.ref bY) "frame"=some none) (axV:PySem.W.findIn K (.ref bY) "pieces"=some none) (axW:PySem.W.findIn K (.ref bY) "done"=some none) (axX:PySem.W.findIn K (.ref a8) "prefix"=some none) (axY:PySem.W.findIn K (.ref a8) "spot"=some none) (axZ:PySem.W.findIn K (.ref a8) "own"=some none) (ax0:PySem.W.findIn K (.ref fV) "frame"=some none) (ax1:PySem.W.findIn K (.ref fV) "loads"=some none) (ax2:PySem.W.findIn K (.ref fV) "grips"=some none) (ax3:PySem.W.findIn K (.ref fV) "bounds"=some none) (ax4:PySem.W.specialIn K (.ref uw) "__getattribute__"=some (some (.builtin "type.__getattribute__"))) (ax5:PySem.W.readsIn K uw (.type "type")=true) (ax6:PySem.W.findCls K (.ref uw) (.type "type") "__init__"=some (.val (.builtin "ValueError.__init__"))) (EU:PySem.W.excIn K y4 Xx "ValueError.__new__"=true) (ar':PySem.W.exmOne K (.ref aH) (.ref aH)=some true) (asa:PySem.W.exmOne K (.ref g8) (.ref aH)=some false) (asb:PySem.W.exmOne K (.ref gX) (.ref aH)=some false) (asd:PySem.W.exmOne K (.ref ie) (.ref aH)=some false) (ase:PySem.W.exmOne K (.ref ig) (.ref aH)=some false) (asf:PySem.W.exmOne K (.ref y4) (.ref aH)=some false) (ash:PySem.W.exmOne K (.ref g8) (.ref uw)=some true) (asi:PySem.W.exmOne K (.ref gX) (.ref uw)=some true) (asj:PySem.W.exmOne K (.ref ie) (.ref uw)=some true) (asl:PySem.W.exmOne K (.ref ig) (.ref uw)=some true) (asm:PySem.W.exmOne K (.ref y4) (.ref uw)=some true) (asn:PySem.W.findIn K (.ref aH) "__getattribute__"=some (some (.builtin "BaseException.__getattribute__"))) (aso:PySem.W.findIn K (.ref aH) "__getattr__"=some none) (asp:PySem.W.findIn K (.ref aH) "__class__"=some (some (.builtin "object.__class__"))) (asq:PySem.W.mroIn K aH (.type "object")=some true) (asr:PySem.W.mroIn K aH (.type "BaseException")=some true) (ass:(PySem.W.clsIn K aH).isSome=true) (asu:PySem.W.kitOne K (.ref aH) (.ref ju)=some false) (asv:PySem.W.kitOne K (.ref aH) (.ref lT)=some false) (asw:PySem.W.kitOne K (.ref aH) (.ref alp)=some false) (ax7:PySem.W.kitOne K (.ref aH) (.ref g8)=some false) (ax8:PySem.W.kitOne K (.ref aH) (.ref gX)=some false) (ax9:PySem.W.kitOne K (.ref aH) (.ref ie)=some false) (ax':PySem.W.kitOne K (.ref aH) (.ref ig)=some false) (aya:PySem.W.kitOne K (.ref aH) (.ref y4)=some false) (ayb:PySem.W.kitOne K (.ref aH) (.ref uw)=some true) (ayc:PySem.W.kitOne K (.ref aH) (.type "ValueError")=some true):
  ∃fd:FuncData,(∀(s:Shared) (v:Value),BindsTo s fd ⟨[v],[]⟩ [("_law_script",v)])/\∀base:Heap,K.In base->base.Ns mainGlobals mg->bH l.prog w K mg base (aV l.prog w) 70 fa fd ["_law_script"] (Yp K):=by
 have e:=hfa.symm.trans (mg_of X G ap1)
 cases e
 have ⟨aqm,aqn,awX,awY,aqp⟩:=aqm
 have ⟨aw5,aw6,aw7,aw8,aqt⟩:=aw5
 have ⟨aw9,aw',axa,axb,aqv⟩:=aw9
 have ⟨axc,axd,axe,axf,aqx⟩:=axc
 have ⟨axg,axh,axi,axj,aqz⟩:=axg
 have ⟨axk,axl,axm,axn,aqB⟩:=axk
 have ⟨axo,axp,axq,axr,aqK⟩:=axo
 have ⟨aqR,aqS,axs,axt,aqU⟩:=aqR
 have ⟨axu,axv,axw,axx,aqW⟩:=axu
 have ⟨axy,axz,axA,axB,aq5⟩:=axy
 have ⟨oV,oW,AE,AF,oX⟩:=oV
 have ⟨qc,qd,qf,qg,jv⟩:=qc
 have ⟨oY,oZ,AG,AH,o9⟩:=oY
 have ⟨qh,qi,qj,qk,jw⟩:=qh
 have ⟨ql,qm,qo,qp,jx⟩:=ql
 have ⟨rX,rY,rZ,r9,jT⟩:=rX
 have ⟨uA,uB,uC,uD,kM⟩:=uA
 have ⟨se,sf,IX,IY,sj⟩:=se
 have ⟨sk,su,sx,sy,jU⟩:=sk
 have ⟨IZ,I_,JA,JB,sM⟩:=IZ
 have ⟨vw,vz,Pn,Po,vA⟩:=vw
 have ⟨axD,axE,axF,axG,axH⟩:=axD
 have ⟨uF,uG,uH,uI,uJ⟩:=uF
 have ⟨axK,axL,axM,axN,axO⟩:=axK
 have ⟨vX,vY,vZ,v7,v8⟩:=vX
 have ⟨v_,wb,wc,we,wg⟩:=v_
 have ⟨AK,AL,AM,AN,AO⟩:=AK
 have Pp:Binds K (fnOf "ratio_of" "ratio_of" (ar b9) (aq b9) (aa b9) (.ref m4) vc vd ve vf m5 vg) ["top","bottom"] []:=fun s us X hl=>match us,hl with | [_,_],_=>BindsTo.of_defaults rfl (X _ _ yN) rfl rfl rfl
 have Pq:Binds K (fnOf "ratio_of" "ratio_of" (ar b9) (aq b9) (aa b9) (.ref m4) vc vd ve vf m5 vg) ["top","bottom"] [.int 1 vh]:=fun s us X hl=>match us,(show us.length=1 by simpa using hl) with | [_],_=>BindsTo.of_defaults rfl (X _ _ yN) rfl rfl rfl
 have SQ:adQ K mg "ratio_of" b9 ["top","bottom"] [.int 1 vh]:=⟨qb,_,_,_,_,_,_,_,_,_,_,Ry,Rz,RA,Pp,Pq,mg_of X G Rx⟩
 have abm:Def K mg _ _ ["one","other"]:=jZ X G aag
 have JF:Def K mg _ _ ["one","other"]:=jZ X G GF
 have SR:Def K mg _ _ ["value"]:=jZ X G RB
 have ayd:Def K mg _ _ ["top","bottom"]:=jZ X G av5
 have aye:Def K mg _ _ ["one","other"]:=jZ X G av9
 have JG:Def K mg _ _ ["one"]:=jZ X G GK
 have JH:Def K mg _ _ ["text"]:=jZ X G GQ
 have JI:Def K mg _ _ ["text"]:=jZ X G GY
 have SS:Def K mg _ _ ["one","other"]:=jZ X G RF
 have Pr:Def K mg _ _ ["number","pair"]:=jZ X G OF
 have JJ:Def K mg _ _ ["rows","pieces"]:=jZ X G HK
 have SU:Def K mg _ _ ["ground","rows","prefix","spot"]:=jZ X G RJ
 have Xn:Def K mg _ _ ["ground","laying","row"]:=jZ X G VW
 have Xo:Def K mg _ _ ["ground","laying","row"]:=jZ X G V0
 have vC:Def K mg _ _ ["ground","laying","row"]:=jZ X G OK
 have nh:Def K mg _ _ ["row"]:=jZ X G m7
 have abn:Def K mg _ _ ["F","spot"]:=jZ X G aak
 have Pu:Def K mg _ _ ["values"]:=jZ X G OP
 have SV:Def K mg _ _ ["forms","row"]:=jZ X G RP
 have abo:Def K mg _ _ ["kinds","words"]:=jZ X G aao
 have SW:Def K mg _ _ ["kind","word"]:=jZ X G RU
 have Xp:Def K mg _ _ ["word"]:=jZ X G V6
 have Pw:Def K mg _ _ ["word"]:=jZ X G OW
 have Xq:Def K mg _ _ ["word"]:=jZ X G V_
 have JK:Def K mg _ _ ["text"]:=jZ X G HS
 have ayf:Def K mg _ _ ["_law_script","_law_k"]:=jZ X G awc
 have SX:Def K mg _ _ ["_law_cell","_law_k"]:=jZ X G R9
 have ayg:Def K mg _ _ ["_law_cell"]:=jZ X G awg
 have ayh:Def K mg _ _ ["_law_cell"]:=jZ X G awk
 have JL:Def K mg _ _ ["_law_cell"]:=jZ X G HX
 have wj:Def K mg _ _ ["_law_cell","_law_part_here","_law_place"]:=jZ X G vP
 have ayi:Def K mg _ _ ["_law_cell"]:=jZ X G awo
 have AQ:Def K mg _ _ ["_law_cell"]:=jZ X G zZ
 have JM:Def K mg _ _ ["_law_kind","_law_name_here","_law_parts"]:=jZ X G IA
 have JN:Def K mg _ _ ["_law_cell","_law_parts"]:=jZ X G IF
 have Xr:Def K mg _ _ ["_law_cell","_law_opened","_law_closed"]:=jZ X G Wl
 have Xs:Def K mg _ _ ["_law_cell","_law_opened","_law_closed"]:=jZ X G Wq
 have JO:Def K mg _ _ ["_law_cell","_law_row_here"]:=jZ X G IJ
 have SY:Def K mg _ _ ["_law_cells"]:=jZ X G Sf
 have Xt:Def K mg _ _ ["_law_rows_here"]:=jZ X G Wu
 have JP:Def K mg _ _ ["_law_e"]:=jZ X G IP
 have S0:Def K mg _ _ ["_law_thing","_law_at_desk"]:=jZ X G Sm
 have AR:Def K mg _ _ ["_law_cell"]:=jZ X G z_
 have qv:vF K dH:=⟨aqg,aqh,aqi,aqj⟩
 have ajF:Mk K dH _:=⟨aqk,aqm,aqn,aql⟩
 have asx:=bV (st:=U7) awX awY aqp
 have ajH:=asx.tP (ps:=["self"])
 have aFM:Meth K dH "__init__" _:=⟨aqm,aqn,aqp⟩
 have ayj:=ad9 (st:=tQ) aw1 aw4 aqr
 have ayk:Binds K (fnOf "put_pin" "Frame.put_pin" (ar tQ) (aq tQ) (aa tQ) (.ref aaO) ah2 ah3 ah4 ah5 aaP ah6) ["self","name","x","y","hold"] []:=fun s us X hl=>match us,hl with | [_,_,_,_,_],_=>BindsTo.of_defaults rfl (X _ _ aqq) rfl rfl rfl
 have aCM:Binds K (fnOf "put_pin" "Frame.put_pin" (ar tQ) (aq tQ) (aa tQ) (.ref aaO) ah2 ah3 ah4 ah5 aaP ah6) ["self","name","x","y","hold"] [.none]:=fun s us X hl=>match us,(show us.length=4 by simpa using hl) with | [_,_,_,_],_=>BindsTo.of_defaults rfl (X _ _ aqq) rfl rfl rfl
 have ayl:Meth K dH "put_pin" afz:=⟨awZ,aw0,aqr⟩
 have asy:=bV (st:=QM) aw7 aw8 aqt
 have aym:=asy.tP (ps:=["self","name","one","other"])
 have ayn:Meth K dH "put_bar" _:=⟨aw5,aw6,aqt⟩
 have asz:=bV (st:=QN) axa axb aqv
 have ayo:=asz.tP (ps:=["self","name","one","other"])
 have ayp:Meth K dH "check_bar" _:=⟨aw9,aw',aqv⟩
 have asA:=bV (st:=U8) axe axf aqx
 have ayq:=asA.tP (ps:=["self","pin"])
 have ayr:Meth K dH "check_pin" _:=⟨axc,axd,aqx⟩
 have asB:=bV (st:=U9) axi axj aqz
 have ays:=asB.tP (ps:=["self"])
 have ayt:Meth K dH "pins" _:=⟨axg,axh,aqz⟩
 have asC:=bV (st:=U_) axm axn aqB
 have ayu:=asC.tP (ps:=["self","pin"])
 have ayv:Meth K dH "place" _:=⟨axk,axl,aqB⟩
 have cls_cm:vF K vU:=⟨aqC,aqD,aqE,aqF⟩
 have aFN:Mk0 K vU:=⟨aqG,aqI,aqH⟩
 have ayw:=bV (st:=aed) axq axr aqK
 have aFO:=ayw.tP (ps:=["self"])
 have aFP:Meth K vU "ways" _:=⟨axo,axp,aqK⟩
 have S1:vF K oj:=⟨aqL,aqM,aqN,aqO⟩
 have ajL:Mk K oj _:=⟨aqP,aqR,aqS,aqQ⟩
 have asD:=bV (st:=U') axs axt aqU
 have ajM:=asD.tP (ps:=["self","x","y"])
 have aFQ:Meth K oj "__init__" _:=⟨aqR,aqS,aqU⟩
 have asE:=bV (st:=Va) axw axx aqW
 have ayx:=asE.tP (ps:=["self"])
 have ayy:Meth K oj "ways" _:=⟨axu,axv,aqW⟩
 have alv:vF K uz:=⟨aqX,aqY,aqZ,aq0⟩
 have ajK:Mk0 K uz:=⟨aq1,aq3,aq2⟩
 have asF:=bV (st:=Vb) axA axB aq5
 have ayz:=asF.tP (ps:=["self"])
 have ayA:Meth K uz "ways" _:=⟨axy,axz,aq5⟩
 have za:vF K bY:=⟨WC,WD,WE,WG⟩
 have yy:Mk K bY _:=⟨WH,oV,oW,WI⟩
 have o_:=bV (st:=dX) AE AF oX
 have j5:=o_.tP (ps:=["self","pieces"])
 have adq:Meth K bY "__init__" _:=⟨oV,oW,oX⟩
 have jy:=bV (st:=b_) qf qg jv
 have qw:=jy.tP (ps:=["self"])
 have qz:Meth K bY "count_row" _:=⟨qc,qd,jv⟩
 have jz:vF K a8:=⟨WJ,WK,WL,WM⟩
 have yw:Mk K a8 _:=⟨WN,oY,oZ,WO⟩
 have pb:=bV (st:=dY) AG AH o9
 have j4:=pb.tP (ps:=["self","prefix","spot"])
 have ads:Meth K a8 "__init__" _:=⟨oY,oZ,o9⟩
 have jA:=bV (st:=cb) qj qk jw
 have qA:=jA.tP (ps:=["self","name"])
 have qB:Meth K a8 "full_name" _:=⟨qh,qi,jw⟩
 have jB:=bV (st:=bF) qo qp jx
 have qC:=jB.tP (ps:=["self","name"])
 have qD:Meth K a8 "check_new" _:=⟨ql,qm,jx⟩
 have jV:=bV (st:=bW) rZ r9 jT
 have sO:=jV.tP (ps:=["self","name","pin"])
 have sP:Meth K a8 "name_pin" _:=⟨rX,rY,jT⟩
 have kN:=bV (st:=cQ) uC uD kM
 have uM:=kN.tP (ps:=["self","name"])
 have uN:Meth K a8 "own_pin" _:=⟨uA,uB,kM⟩
 have uO:vF K bZ:=⟨aa7,aa8,aa9,aa'⟩
 have wY:Mk K bZ _:=⟨aba,se,sf,abb⟩
 have sQ:=bV (st:=fJ) IX IY sj
 have iR:=sQ.tP (ps:=["self"])
 have afY:Meth K bZ "__init__" _:=⟨se,sf,sj⟩
 have jW:=bV (st:=cn) sx sy jU
 have sT:=jW.tP (ps:=["self","values"])
 have sU:Meth K bZ "may_stand" _:=⟨sk,su,jU⟩
 have sV:=bV (st:=fK) JA JB sM
 have JQ:=sV.tP (ps:=["self","values"])
 have JR:Meth K bZ "keep" _:=⟨IZ,I_,sM⟩
 have abp:vF K fV:=⟨afI,afJ,afK,afL⟩
 have Rp:Mk K fV _:=⟨afM,vw,vz,afN⟩
 have vD:=bV (st:=fh) Pn Po vA
 have m3:=vD.tP (ps:=["self","text"])
 have ah8:Meth K fV "__init__" _:=⟨vw,vz,vA⟩
 have asG:=bV (st:=U5) axF axG axH
 have Vk:=asG.tP (ps:=["self","pin"])
 have asH:TyExc.jc K g8:=⟨aq8,aq9,aq',ara,arb,ard⟩
 have wk:TyExc.mK K g8 "pin":=⟨asH,arf,arh,ari,vV⟩
 have Vj:pF K g8 _:=⟨⟨_,_,_,_,_,_,_,_,_,_,_,_,_,_,_,_,axC,aq6⟩,axD,axE,aq7⟩
 have kO:=bV (st:=cP) uH uI uJ
 have h_:=kO.tP (ps:=["self","pin"])
 have asI:TyExc.jc K kL:=⟨arn,aro,arp,arq,ars,aru⟩
 have uP:TyExc.mK K kL "pin":=⟨asI,arv,arw,arx,uE⟩
 have ajk:pF K kL _:=⟨⟨_,_,_,_,_,_,_,_,_,_,_,_,_,_,_,_,axI,ark⟩,uF,uG,arl⟩
 have asJ:=bV (st:=U6) axM axN axO
 have Vg:=asJ.tP (ps:=["self","pin"])
 have asK:TyExc.jc K gX:=⟨arA,arB,arC,arD,arE,arG⟩
 have JS:TyExc.mK K gX "pin":=⟨asK,arH,arI,arJ,JD⟩
 have Vf:pF K gX _:=⟨⟨_,_,_,_,_,_,_,_,_,_,_,_,_,_,_,_,axJ,ary⟩,axK,axL,arz⟩
 have ma:=bV (st:=cX) vZ v7 v8
 have iE:=ma.tP (ps:=["self","bar"])
 have asL:TyExc.jc K ie:=⟨arN,arO,arP,arQ,arR,arT⟩
 have wm:TyExc.mK K ie "bar":=⟨asL,arU,arV,arW,vW⟩
 have ajd:pF K ie _:=⟨⟨_,_,_,_,_,_,_,_,_,_,_,_,_,_,_,_,axP,arL⟩,vX,vY,arM⟩
 have md:=bV (st:=cY) wc we wg
 have iF:=md.tP (ps:=["self","bar"])
 have asM:TyExc.jc K ig:=⟨arZ,ar0,ar1,ar2,ar3,ar5⟩
 have wo:TyExc.mK K ig "bar":=⟨asM,ar6,ar7,ar8,v9⟩
 have aje:pF K ig _:=⟨⟨_,_,_,_,_,_,_,_,_,_,_,_,_,_,_,_,axQ,arX⟩,v_,wb,arY⟩
 have pd:=bV (st:=dW) AM AN AO
 have cK:=pd.tP (ps:=["self","at"])
 have Xu:TyExc.jc K aH:=⟨Xc,Xd,Xe,Xf,Xg,Xi⟩
 have sX:TyExc.mK K aH "at":=⟨Xu,Xj,Xk,Xl,JE⟩
 have iw:pF K aH _:=⟨⟨_,_,_,_,_,_,_,_,_,_,_,_,_,_,_,_,abc,Xa⟩,AK,AL,Xb⟩
 have ajh:=mg_of X G awv
 have ajc:=mg_of X G aww
 have mU:=mg_of X G Pl
 have jk:=mg_of X G yY
 have iG:=mg_of X G vT
 have tX:=mg_of X G Wz
 have iX:=mg_of X G WA
 have ji:=mg_of X G yZ
 have aeo:mg "NOUGHT"=some (.ref alj):=mg_of X G awx
 have ajQ:mg "NO_MOVE"=some (.ref alk):=mg_of X G awB
 have w6:mg "FORMS"=some (.ref IU):=mg_of X G afv
 have jF:mg "YardError"=some (.ref uw):=mg_of X G awJ
 have dF:mg "NoNumber"=some (.ref lT):=mg_of X G Sr
 have b6:mg "NoText"=some (.ref ju):=mg_of X G aaJ
 have aj7:mg "NoWay"=some (.ref alp):=mg_of X G awK
 have EW:mg "PinThere"=some (.ref g8):=mg_of X G awL
 have ajj:mg "SpotTaken"=some (.ref kL):=mg_of X G awM
 have ET:mg "NoPin"=some (.ref gX):=mg_of X G awN
 have Vh:mg "BarThere"=some (.ref ie):=mg_of X G awO
 have aFR:mg "NoBar"=some (.ref awQ):=mg_of X G awP
 have Vi:mg "NoLength"=some (.ref ig):=mg_of X G awR
 have vO:mg "TooMany"=some (.ref y4):=mg_of X G awS
 have fo:mg "NoLine"=some (.ref aH):=mg_of X G aaK
 have ajG:mg "Frame"=some (.ref dH):=mg_of X G awT
 have aFS:mg "Hold"=some (.ref vU):=mg_of X G awU
 have ajI:mg "Roller"=some (.ref oj):=mg_of X G awV
 have ajJ:mg "Fixed"=some (.ref uz):=mg_of X G awW
 have yz:mg "Ground"=some (.ref bY):=mg_of X G aaL
 have yx:mg "Laying"=some (.ref a8):=mg_of X G aaM
 have wZ:mg "Sheet"=some (.ref bZ):=mg_of X G afy
 have Rr:mg "Desk"=some (.ref fV):=mg_of X G alq
 have lS:mg "ValueError"=none:=mg_none_of X G IV
 have Zf:mg "abs"=none:=mg_none_of X G ap'
 have rj:mg "all"=none:=mg_none_of X G aqa
 have aac:mg "any"=none:=mg_none_of X G aqb
 have pM:mg "bool"=none:=mg_none_of X G alm
 have jO:mg "enumerate"=none:=mg_none_of X G Pm
 have mP:mg "int"=none:=mg_none_of X G aqc
 have aD:mg "isinstance"=none:=mg_none_of X G IW
 have bP:mg "len"=none:=mg_none_of X G aqd
 have tV:mg "list"=none:=mg_none_of X G aln
 have iQ:mg "range"=none:=mg_none_of X G afx
 have jh:mg "str"=none:=mg_none_of X G aqe
 have Zp:mg "zip"=none:=mg_none_of X G aqf
 have F:=bV (st:=kC) ap2 ap3 ap4
 refine ⟨fnOf "law" "law" (ar kC) (aq kC) (aa kC) .none alc ald ale alf aaI alg,fun s v=>.of_eq rfl,fun base _ _=>?_⟩
 have hM:j_ (aV l.prog w):=aV.zg
 have nm:∀{c:Addr} {o:ξ} {k0 k1:Tok} {n:Nat} {sl:τ},K.lookup c=some ⟨.type "tuple",o,.seq #[.int 0 k0,.int 1 k1] n,sl⟩->∀H:Hp,sZ K H (.ref c) (0,1):=fun t H=>⟨_,rfl,.inr ⟨_,_,_,t,rfl,rfl,(by show 2<=sizeLine;decide),.cons ⟨_,rfl⟩ (.cons ⟨_,rfl⟩ .nil)⟩⟩
 have hN:∀H:Hp,sZ K H (.ref alj) (0,1):=nm awy
 have nq:∀{c:Addr} {H:Hp},sZ K H (.ref c) (0,1)->oK K H (.ref c) 0:=fun h=>by
  show sZ K _ _ (qr 0)
  rw [cZ]
  exact h
 have hMo:∀H:Hp,wL K H (.ref alk) (0,0):=fun H=>⟨_,.ref ap5,.ref ap6,rfl,.inr ⟨_,_,_,awC,rfl,rfl,(by show 2<=sizeLine;decide),.cons rfl (.cons rfl .nil)⟩,nq (nm awD H),nq (nm awG H)⟩
 have hF:∀H:Hp,cT K H IU (bX.map V.str):=fun H=>.inr ⟨_,_,_,afw,rfl,rfl,(by show 8<=sizeLine;decide),.cons ⟨_,rfl⟩ (.cons ⟨_,rfl⟩ (.cons ⟨_,rfl⟩ (.cons ⟨_,rfl⟩ (.cons ⟨_,rfl⟩ (.cons ⟨_,rfl⟩ (.cons ⟨_,rfl⟩ (.cons ⟨_,rfl⟩ .nil)))))))⟩
 have fc:FrC K dH:=⟨qv,abl,alr,alu⟩
 have shc:ShC K bZ:=⟨uO,axR,axS,axT⟩
 have gc:GrC K bY:=⟨za,axU,axV,axW⟩
 have lc:LyC K a8:=⟨jz,axX,axY,axZ⟩
 have dc:DkC K fV:=⟨abp,ax0,ax1,ax2,ax3⟩
 have hY:uW K uw:=⟨ax4,ax5,ax6⟩
 have ex:aj8 K aH g8 gX ie ig y4 uw:=⟨ar',asa,asb,asd,ase,asf,ash,asi,asj,asl,asm⟩
 have kx:KitX K aH ju lT alp g8 gX ie ig y4 uw:=⟨⟨asn,aso,asp,asq,asr,ass⟩,asu,asv,asw,ax7,ax8,ax9,ax',aya,ayb,ayc⟩
 have G1:=anQ (P:=l.prog) (w:=w) (base:=base) (CX:=aV l.prog w) aye Zf
 have G2:=anR ht ayd G1
 have GS:=ai8 (Vd hM abm G2)
 have GPS:=MJ hM SS GS
 have GSt:=EO hM Pr (ai9 (zr hM JF G2))
 have GI:=anY (P:=l.prog) (w:=w) (mg:=mg) (base:=base) asx fc
 have XP:=anT (P:=l.prog) (w:=w) (mg:=mg) (base:=base) asG hY jF wk arc
 have XS:=rg (P:=l.prog) (w:=w) (mg:=mg) (base:=base) kO hY jF uP art
 have XN:=anV (P:=l.prog) (w:=w) (mg:=mg) (base:=base) asJ hY jF JS arF
 have XB:=tS (P:=l.prog) (w:=w) (mg:=mg) (base:=base) ma hY jF wm arS
 have XL:=tU (P:=l.prog) (w:=w) (mg:=mg) (base:=base) md hY jF wo ar4
 have XX:=x9 (P:=l.prog) (w:=w) (mg:=mg) (base:=base) pd hY jF sX Xh
 have MPn:bM l.prog w K mg base (aV l.prog w) 1 dH "pins" ["self"] (ES K dH):=⟨_,_,qv,ayt,an0 asB fc tV,ays⟩
 have MCx:bM l.prog w K mg base (aV l.prog w) 3 dH "check_pin" ["self","pin"] (iu K dH gX):=⟨_,_,qv,ayr,an2 asA fc ET Vf XN Vg,ayq⟩
 have MPl:bM l.prog w K mg base (aV l.prog w) 4 dH "place" ["self","pin"] (wN K dH):=⟨_,_,qv,ayv,an5 asC fc (QO MCx),ayu⟩
 have MCb:bM l.prog w K mg base (aV l.prog w) 4 dH "check_bar" ["self","name","one","other"] (jL K dH ie gX ig y4):=⟨_,_,qv,ayp,an7 asz fc ajc bP Vh ajd XB iE Vi aje XL iF vO EU MCx,ayo⟩
 have MPb:bM l.prog w K mg base (aV l.prog w) 5 dH "put_bar" ["self","name","one","other"] (nM K dH ie gX ig y4):=⟨_,_,qv,ayn,an' asy fc MCb,aym⟩
 have MPp:bM l.prog w K mg base (aV l.prog w) 5 dH "put_pin" ["self","name","x","y","hold"] (kF l.prog w K mg base dH g8 kL y4):=⟨_,_,qv,ayl,aok ayj fc ajh bP tV EW Vj XP Vk ajj ajk XS h_ vO EU,ayk⟩
 have wR:bM l.prog w K mg base (aV l.prog w) 1 oj "ways" ["self"] (rh K oj):=⟨_,_,S1,ayy,aod asE S1 ah7,ayx⟩
 have wF:bM l.prog w K mg base (aV l.prog w) 1 uz "ways" ["self"] (ri K):=⟨_,_,alv,ayA,aof asF,ayz⟩
 have GRI:=aob (P:=l.prog) (w:=w) (mg:=mg) (base:=base) asD S1 ah7
 have GSK:=zt (P:=l.prog) (w:=w) (base:=base) (CX:=aV l.prog w) JG jh
 have GR:=MT SQ dF ia (MQ SR aD mP pM) G2
 have GRW:=zu (P:=l.prog) (w:=w) (base:=base) JI bP rj mP iX ji b6 dQ
 have GRR:=zv JH aD jh b6 dQ GRW GR.1 GSK
 have GNu:=FA Pw b6 e1 Xm GRR
 have GIN:=QT (P:=l.prog) (w:=w) (base:=base) hM Xp rj iX tX
 have GMo:=QV hM Xq iG GNu
 have GV:=MW hM SW bP jk GNu GMo GIN
 have GFi:=Vo hM abo bP Zp GV
 have GRo:=MX hM SV GFi
 have SI:=zA (P:=l.prog) (w:=w) (mg:=mg) (base:=base) sQ shc
 have MS:bM l.prog w K mg base (aV l.prog w) 1 bZ "may_stand" ["self","values"] (wU K bZ):=⟨_,_,uO,sU,pR jW shc aeo hN,sT⟩
 have MK:bM l.prog w K mg base (aV l.prog w) 1 bZ "keep" ["self","values"] (FH K bZ):=⟨_,_,uO,JR,zD sV shc,JQ⟩
 have GGI:=ym (P:=l.prog) (w:=w) (mg:=mg) (base:=base) o_ gc ajF ajG GI ajH
 have MC:bM l.prog w K mg base (aV l.prog w) 3 bY "count_row" ["self"] (rn K bY y4):=⟨_,_,za,qz,nX jy gc mU vO EU,qw⟩
 have LI:=yp (P:=l.prog) (w:=w) (mg:=mg) (base:=base) pb lc
 have MF:bM l.prog w K mg base (aV l.prog w) 1 a8 "full_name" ["self","name"] (pS K a8):=⟨_,_,jz,qB,nZ jA lc,qA⟩
 have MN:bM l.prog w K mg base (aV l.prog w) 3 a8 "check_new" ["self","name"] (yr K a8 g8):=⟨_,_,jz,qD,og jB lc MF EW Vj XP Vk,qC⟩
 have MP:bM l.prog w K mg base (aV l.prog w) 4 a8 "name_pin" ["self","name","pin"] (jm K a8 g8):=⟨_,_,jz,sP,pU jV lc MN,sO⟩
 have MO:bM l.prog w K mg base (aV l.prog w) 3 a8 "own_pin" ["self","name"] (FK K a8 gX):=⟨_,_,jz,uN,rq kN lc ET Vf XN Vg,uM⟩
 have GPA:=Vq abn MPn MPl
 have GHF:=FO Pu bP ajI ajJ ajK ajL GRI ajM (wR.mono (by decide)) (wF.mono (by decide))
 have GLP:=Q4 (CN:=gX) (CB:=ie) (CO:=ig) Xn gc lc GPS MN MF MP GPA GHF MPp
 have GLB:=Q5 (CP:=g8) Xo gc lc MO MF MPb
 have GPf:=mn nh bP iQ jh GPS GSt
 have GLR:=TY vC (fun h g z=>NN h SU yw yx LI j4 MC GLP GLB g z) (fun h g=>FP h vC gc lc GPS GPf MF MP g) 13
 have GLF:=zF JJ gc yy yz GGI j5 ajQ hMo GLR
 have GRF:=zH JK aD jh bP jO shc wY wZ SI iR fo iw XX cK MS MK w6 hF GRo GLF
 have GDk:=FR vD dc GRF
 have GC:=aoM (P:=l.prog) (w:=w) (base:=base) (CX:=aV l.prog w) ayf bP
 have GPt:=NU (P:=l.prog) (w:=w) (base:=base) (CX:=aV l.prog w) SX iQ
 have GNa:=aoN (P:=l.prog) (w:=w) (base:=base) (CX:=aV l.prog w) ayg
 have GNb:=aoO (P:=l.prog) (w:=w) (base:=base) (CX:=aV l.prog w) ayh
 have GNt:=uo hM wj GNb (zK hM JL GNb) GPt
 have GTi:=aoP (P:=l.prog) (w:=w) (base:=base) (CX:=aV l.prog w) ayi
 have GOd:=yG (P:=l.prog) (w:=w) (base:=base) (CX:=aV l.prog w) AQ
 have GRw:=zL (P:=l.prog) (w:=w) (base:=base) (CX:=aV l.prog w) JM rj
 have GRl:=zM hM JN GNt GRw
 have GLy:=Rk hM Xr bP GNa GTi GPt GNt GRw
 have GLr:=Rm hM Xs bP GNa GPt GOd GNt GRw GRl GLy
 have GSp:=zP (P:=l.prog) (w:=w) (base:=base) (CX:=aV l.prog w) JO mP
 have GRs:=N_ hM SY GLr GPt GSp
 have GDu:=Rn (P:=l.prog) (w:=w) (base:=base) (CX:=aV l.prog w) Xt bP iQ
 have GNo:=yK (P:=l.prog) (w:=w) (base:=base) (CX:=aV l.prog w) AR
 have GOt:=zQ (P:=l.prog) (w:=w) (base:=base) JP kx aD aac lS b6 dF aj7 EW ET Vh Vi vO
 have GTo:=OA S0 aD fo jF ex kx sX Rp Rr GDk m3 GRF GOt
 exact aj9 F bP aD pM GC GRs GDu GTo GNo
end T_k82
open PySem PySem.W PyProof.Rows
set_option maxRecDepth 100000 in
set_option maxHeartbeats 0 in
theorem PySem.Challenge.cw_trussyard_k82_rows_that_are_none_holds : PySem.Challenge.rw_trussyard_k82_rows_that_are_none.Holds := by
 w_on;o_law;k_head;(case hw=>w_witness2)
 k_fill
 refine Ty.walk (l:=PySem.Challenge.rw_trussyard_k82_rows_that_are_none) (x:="_law_script") (k:=70) (CX:=fun w=>Ty.aV (PySem.Challenge.rw_trussyard_k82_rows_that_are_none).prog w) rfl rfl (by first | rfl | decide+kernel) ⟨rfl,by decide,by decide⟩ (fun w h Y=>PySem.W.kIn_of Y) (fun w=>Ty.aV.zg) ?F
 case F=>
  intro w mg fa h KX G hmg
  refine' T_k82.all_mk KX G hmg ?A0 ?A1 ?A2 ?A3 ?A4 ⟨?A5,?A6,?A7,?A8⟩ ⟨?A9,?Aa,?Ab,?Ac⟩ ⟨?Ad,?Ae,?Af,?Ag⟩ ⟨?Ah,?Ai,?Aj,?Ak⟩ ⟨?Al,?Am,?An,?Ao⟩ ⟨?Ap,?Aq,?Ar,?As⟩ ⟨?At,?Au,?Av,?Aw⟩ ⟨?Ax,?Ay,?Az,?B0⟩ ⟨?B1,?B2,?B3,?B4⟩ ⟨?B5,?B6,?B7,?B8⟩ ⟨?B9,?Ba,?Bb,?Bc⟩ ⟨?Bd,?Be,?Bf,?Bg⟩ ⟨?Bh,?Bi,?Bj,?Bk⟩ ⟨?Bl,?Bm,?Bn,?Bo⟩ ⟨?Bp,?Bq,?Br,?Bs⟩ ⟨?Bt,?Bu,?Bv,?Bw⟩ ⟨?Bx,?By,?Bz,?C0⟩ ⟨?C1,?C2,?C3,?C4⟩ ⟨?C5,?C6,?C7,?C8⟩ ⟨?C9,?Ca,?Cb,?Cc⟩ ⟨?Cd,?Ce,?Cf,?Cg⟩ ⟨?Ch,?Ci,?Cj,?Ck⟩ ⟨?Cl,?Cm,?Cn,?Co⟩ ⟨?Cp,?Cq,?Cr,?Cs⟩ ⟨?Ct,?Cu,?Cv,?Cw⟩ ⟨?Cx,?Cy,?Cz,?D0⟩ ⟨?D1,?D2,?D3,?D4⟩ ⟨?D5,?D6,?D7,?D8⟩ ⟨?D9,?Da,?Db,?Dc⟩ ⟨?Dd,?De,?Df,?Dg⟩ ⟨?Dh,?Di,?Dj,?Dk⟩ ⟨?Dl,?Dm,?Dn,?Do⟩ ⟨?Dp,?Dq,?Dr,?Ds⟩ ⟨?Dt,?Du,?Dv,?Dw⟩ ⟨?Dx,?Dy,?Dz,?E0⟩ ⟨?E1,?E2,?E3,?E4⟩ ⟨?E5,?E6,?E7,?E8⟩ ⟨?E9,?Ea,?Eb,?Ec⟩ ⟨?Ed,?Ee,?Ef,?Eg⟩ ⟨?Eh,?Ei,?Ej,?Ek⟩ ⟨?El,?Em,?En,?Eo⟩ ⟨?Ep,?Eq,?Er,?Es⟩ ⟨?Et,?Eu,?Ev,?Ew⟩ ?Ex ?Ey ?Ez ?F0 ?F1 ?F2 ?F3 ?F4 ?F5 ?F6 ?F7 ?F8 ?F9 ?Fa ?Fb ?Fc ?Fd ?Fe ?Ff ?Fg ?Fh ?Fi ?Fj ?Fk ?Fl ?Fm ?Fn ?Fo ?Fp ?Fq ?Fr ?Fs ?Ft ?Fu ?Fv ?Fw ?Fx ?Fy ?Fz ?G0 ?G1 ?G2 ?G3 ?G4 ?G5 ?G6 ?G7 ?G8 ?G9 ?Ga ?Gb ?Gc ?Gd ?Ge ?Gf ?Gg ?Gh ?Gi ?Gj ⟨?Gk,?Gl,?Gm,?Gn,?Go⟩ ?Gp ?Gq ?Gr ?Gs ?Gt ?Gu ⟨?Gv,?Gw,?Gx,?Gy,?Gz⟩ ⟨?H0,?H1,?H2,?H3,?H4⟩ ⟨?H5,?H6,?H7,?H8,?H9⟩ ⟨?Ha,?Hb,?Hc,?Hd,?He⟩ ⟨?Hf,?Hg,?Hh,?Hi,?Hj⟩ ?Hk ?Hl ?Hm ?Hn ?Ho ?Hp ?Hq ⟨?Hr,?Hs,?Ht,?Hu,?Hv⟩ ?Hw ?Hx ?Hy ?Hz ?I0 ?I1 ⟨?I2,?I3,?I4,?I5,?I6⟩ ⟨?I7,?I8,?I9,?Ia,?Ib⟩ ?Ic ?Id ?Ie ?If ?Ig ?Ih ?Ii ⟨?Ij,?Ik,?Il,?Im,?In⟩ ?Io ?Ip ?Iq ?Ir ?Is ?It ⟨?Iu,?Iv,?Iw,?Ix,?Iy⟩ ⟨?Iz,?J0,?J1,?J2,?J3⟩ ?J4 ?J5 ?J6 ?J7 ?J8 ?J9 ⟨?Ja,?Jb,?Jc,?Jd,?Je⟩ ⟨?Jf,?Jg,?Jh,?Ji,?Jj⟩ ⟨?Jk,?Jl,?Jm,?Jn,?Jo⟩ ⟨?Jp,?Jq,?Jr,?Js,?Jt⟩ ⟨?Ju,?Jv,?Jw,?Jx,?Jy⟩ ?Jz ?K0 ?K1 ?K2 ?K3 ?K4 ⟨?K5,?K6,?K7,?K8,?K9⟩ ⟨?Ka,?Kb,?Kc,?Kd,?Ke⟩ ⟨?Kf,?Kg,?Kh,?Ki,?Kj⟩ ?Kk ?Kl ?Km ?Kn ?Ko ?Kp ⟨?Kq,?Kr,?Ks,?Kt,?Ku⟩ ?Kv ?Kw ?Kx ?Ky ?Kz ?L0 ?L1 ?L2 ?L3 ?L4 ?L5 ?L6 ?L7 ?L8 ⟨?L9,?La,?Lb,?Lc,?Ld⟩ ?Le ?Lf ?Lg ?Lh ?Li ?Lj ?Lk ?Ll ?Lm ?Ln ?Lo ?Lp ?Lq ?Lr ⟨?Ls,?Lt,?Lu,?Lv,?Lw⟩ ?Lx ?Ly ?Lz ?M0 ?M1 ?M2 ?M3 ?M4 ?M5 ?M6 ?M7 ?M8 ?M9 ?Ma ⟨?Mb,?Mc,?Md,?Me,?Mf⟩ ?Mg ?Mh ?Mi ?Mj ?Mk ?Ml ?Mm ?Mn ?Mo ?Mp ?Mq ?Mr ?Ms ?Mt ⟨?Mu,?Mv,?Mw,?Mx,?My⟩ ?Mz ?N0 ?N1 ?N2 ?N3 ?N4 ?N5 ?N6 ?N7 ?N8 ?N9 ?Na ?Nb ?Nc ⟨?Nd,?Ne,?Nf,?Ng,?Nh⟩ ?Ni ?Nj ?Nk ?Nl ?Nm ?Nn ?No ?Np ?Nq ?Nr ?Ns ?Nt ?Nu ?Nv ⟨?Nw,?Nx,?Ny,?Nz,?O0⟩ ?O1 ?O2 ?O3 ?O4 ?O5 ?O6 ?O7 ?O8 ?O9 ?Oa ?Ob ?Oc ?Od ?Oe ?Of ?Og ?Oh ?Oi ?Oj ?Ok ?Ol ?Om ?On ?Oo ?Op ?Oq ?Or ?Os ?Ot ?Ou ?Ov ?Ow ?Ox ?Oy ?Oz ?P0 ?P1 ?P2 ?P3 ?P4 ?P5 ?P6 ?P7 ?P8 ?P9 ?Pa ?Pb ?Pc ?Pd ?Pe ?Pf ?Pg ?Ph
  (case A0|A1|A2|A3|A4|A5|A6|A7|A8|A9|Aa|Ab|Ac|Ad|Ae|Af|Ag|Ah|Ai|Aj|Ak|Al|Am|An|Ao|Ap|Aq|Ar|As|At|Au|Av|Aw|Ax|Ay|Az|B0|B1|B2|B3|B4|B5|B6|B7|B8|B9|Ba|Bb|Bc|Bd|Be|Bf|Bg|Bh|Bi|Bj|Bk|Bl|Bm|Bn|Bo|Bp|Bq|Br|Bs|Bt|Bu|Bv|Bw|Bx|By|Bz|C0|C1|C2|C3|C4|C5|C6|C7|C8|C9|Ca|Cb|Cc|Cd|Ce|Cf|Cg|Ch|Ci|Cj|Ck|Cl|Cm|Cn|Co|Cp|Cq|Cr|Cs|Ct|Cu|Cv|Cw|Cx|Cy|Cz|D0|D1|D2|D3|D4|D5|D6|D7|D8|D9|Da|Db|Dc|Dd|De|Df|Dg|Dh|Di|Dj|Dk|Dl|Dm|Dn|Do|Dp|Dq|Dr|Ds|Dt|Du|Dv|Dw|Dx|Dy|Dz|E0|E1|E2|E3|E4|E5|E6|E7|E8|E9|Ea|Eb|Ec|Ed|Ee|Ef|Eg|Eh|Ei|Ej|Ek|El|Em|En|Eo|Ep|Eq|Er|Es|Et|Eu|Ev|Ew|Ex|Ey|Ez|F0|F1|F2|F3|F4|F5|F6|F7|F8|F9|Fa|Fb|Fc|Fd|Fe|Ff|Fg|Fh|Fi|Fj|Fk|Fl|Fm|Fn|Fo|Fp|Fq|Fr|Fs|Ft|Fu|Fv|Fw|Fx|Fy|Fz|G0|G1|G2|G3|G4|G5|G6|G7|G8|G9|Ga|Gb|Gc|Gd|Ge|Gf|Gg|Gh|Gi|Gj|Gk|Gl|Gm|Gn|Go|Gp|Gq|Gr|Gs|Gt|Gu|Gv|Gw|Gx|Gy|Gz|H0|H1|H2|H3|H4|H5|H6|H7|H8|H9|Ha|Hb|Hc|Hd|He|Hf|Hg|Hh|Hi|Hj|Hk|Hl|Hm|Hn|Ho|Hp|Hq|Hr|Hs|Ht|Hu|Hv|Hw|Hx|Hy|Hz|I0|I1|I2|I3|I4|I5|I6|I7|I8|I9|Ia|Ib|Ic|Id|Ie|If|Ig|Ih|Ii|Ij|Ik|Il|Im|In|Io|Ip|Iq|Ir|Is|It|Iu|Iv|Iw|Ix|Iy|Iz|J0|J1|J2|J3|J4|J5|J6|J7|J8|J9|Ja|Jb|Jc|Jd|Je|Jf|Jg|Jh|Ji|Jj|Jk|Jl|Jm|Jn|Jo|Jp|Jq|Jr|Js|Jt|Ju|Jv|Jw|Jx|Jy|Jz|K0|K1|K2|K3|K4|K5|K6|K7|K8|K9|Ka|Kb|Kc|Kd|Ke|Kf|Kg|Kh|Ki|Kj|Kk|Kl|Km|Kn|Ko|Kp|Kq|Kr|Ks|Kt|Ku|Kv=>k_is);(case Kw=>kernel_rfl);(case Kx|Ky|Kz|L0=>k_is);(case L1=>kernel_rfl);(case L2=>kernel_rfl);(case L3=>kernel_rfl);(case L4=>kernel_rfl);(case L5|L6=>k_is);(case L7=>kernel_rfl);(case L8|L9|La|Lb|Lc|Ld|Le=>k_is);(case Lf=>kernel_rfl);(case Lg|Lh|Li|Lj=>k_is);(case Lk=>kernel_rfl);(case Ll=>kernel_rfl);(case Lm=>kernel_rfl);(case Ln=>kernel_rfl);(case Lo|Lp=>k_is);(case Lq=>kernel_rfl);(case Lr|Ls|Lt|Lu|Lv|Lw|Lx=>k_is);(case Ly=>kernel_rfl);(case Lz|M0|M1|M2=>k_is);(case M3=>kernel_rfl);(case M4=>kernel_rfl);(case M5=>kernel_rfl);(case M6=>kernel_rfl);(case M7|M8=>k_is);(case M9=>kernel_rfl);(case Ma|Mb|Mc|Md|Me|Mf|Mg=>k_is);(case Mh=>kernel_rfl);(case Mi|Mj|Mk|Ml=>k_is);(case Mm=>kernel_rfl);(case Mn=>kernel_rfl);(case Mo=>kernel_rfl);(case Mp=>kernel_rfl);(case Mq|Mr=>k_is);(case Ms=>kernel_rfl);(case Mt|Mu|Mv|Mw|Mx|My|Mz=>k_is);(case N0=>kernel_rfl);(case N1|N2|N3|N4=>k_is);(case N5=>kernel_rfl);(case N6=>kernel_rfl);(case N7=>kernel_rfl);(case N8=>kernel_rfl);(case N9|Na=>k_is);(case Nb=>kernel_rfl);(case Nc|Nd|Ne|Nf|Ng|Nh|Ni=>k_is);(case Nj=>kernel_rfl);(case Nk|Nl|Nm|Nn=>k_is);(case No=>kernel_rfl);(case Np=>kernel_rfl);(case Nq=>kernel_rfl);(case Nr=>kernel_rfl);(case Ns|Nt=>k_is);(case Nu=>kernel_rfl);(case Nv|Nw|Nx|Ny|Nz|O0|O1|O2|O3|O4=>k_is);(case O5=>rfl);(case O6=>kernel_rfl);(case O7=>kernel_rfl);(case O8=>kernel_rfl);(case O9=>kernel_rfl);(case Oa|Ob|Oc|Od|Oe|Of|Og|Oh|Oi|Oj|Ok|Ol|Om|On|Oo=>k_is);(case Op=>kernel_rfl);(case Oq=>kernel_rfl);(case Or=>kernel_rfl);(case Os=>kernel_rfl);(case Ot=>kernel_rfl);(case Ou=>kernel_rfl);(case Ov=>kernel_rfl);(case Ow=>kernel_rfl);(case Ox=>kernel_rfl);(case Oy=>kernel_rfl);(case Oz=>kernel_rfl);(case P0=>kernel_rfl);(case P1=>kernel_rfl);(case P2|P3|P4=>k_is);(case P5=>kernel_rfl);(case P6=>kernel_rfl);(case P7=>kernel_rfl);(case P8=>kernel_rfl);(case P9=>kernel_rfl);(case Pa=>kernel_rfl);(case Pb=>kernel_rfl);(case Pc=>kernel_rfl);(case Pd=>kernel_rfl);(case Pe=>kernel_rfl);(case Pf=>kernel_rfl);(case Pg=>kernel_rfl);(case Ph=>kernel_rfl)
#print axioms PySem.Challenge.cw_trussyard_k82_rows_that_are_none_holds
