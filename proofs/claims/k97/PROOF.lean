import PyProof.Rows.All
import Wide.All
import OpenK.AllK
import PySem.Challenge.RW_trussyard_k97_whole_chains_bend
set_option Elab.async false
set_option linter.all false
set_option maxRecDepth 100000
set_option compiler.extract_closed false
def gE.{u}{Z:Type u}{l:List Z}(h:i < l.length):l[i]? =some l[i]:=List.getElem?_eq_getElem h
namespace PySem.W.Fast
theorem tw6801501436233394922:True:=⟨⟩
theorem tw8492411521752995894:True:=⟨⟩
theorem tw7666663357387348256:True:=⟨⟩
theorem tw16655798071619574367:True:=⟨⟩
theorem tw11239258644836490116:True:=⟨⟩
theorem tw803952995284263219:True:=⟨⟩
theorem tw1862350353198465882:True:=⟨⟩
theorem tw14048350073132505116:True:=⟨⟩
theorem tw6920376527261334596:True:=⟨⟩
theorem tw18182552454455200597:True:=⟨⟩
theorem tw11309433996684184965:True:=⟨⟩
theorem tw17736198261817413964:True:=⟨⟩
theorem tw5299604850110203051:True:=⟨⟩
theorem tw13269148727903620856:True:=⟨⟩
theorem tw8998335378662263211:True:=⟨⟩
theorem tw1494328093133758011:True:=⟨⟩
theorem tw9088810061965236600:True:=⟨⟩
theorem tw5698243629991397891:True:=⟨⟩
theorem tw16077809655761304894:True:=⟨⟩
theorem tw4051326214642294183:True:=⟨⟩
theorem tw14827599748390809285:True:=⟨⟩
theorem tw18298700259265225513:True:=⟨⟩
theorem tw10563917827454606443:True:=⟨⟩
theorem tw7641818085893382737:True:=⟨⟩
theorem tw16937110112595234423:True:=⟨⟩
theorem tw10931745161681334700:True:=⟨⟩
theorem tw15280170634676335263:True:=⟨⟩
theorem tw17619489880086284424:True:=⟨⟩
theorem tw1572391438761991967:True:=⟨⟩
theorem tw14041941485782659602:True:=⟨⟩
theorem tw13321888667597436863:True:=⟨⟩
theorem tw5241572485709276312:True:=⟨⟩
theorem tw112075410424891948:True:=⟨⟩
theorem tw17973481273065635766:True:=⟨⟩
theorem tw4495366254897355498:True:=⟨⟩
theorem tw8709772488830518401:True:=⟨⟩
theorem tw183454863877078060:True:=⟨⟩
theorem tw13599382044677999265:True:=⟨⟩
theorem tw1807510060446064552:True:=⟨⟩
theorem tw11448353447555477157:True:=⟨⟩
theorem tw14693035036982900873:True:=⟨⟩
theorem tw640439094170982524:True:=⟨⟩
theorem tw17300724448898523636:True:=⟨⟩
theorem tw16430888165415673386:True:=⟨⟩
theorem tw5527234711497716707:True:=⟨⟩
theorem tw12209119718615661859:True:=⟨⟩
theorem tw17739294687674214170:True:=⟨⟩
theorem tw1743257835521951111:True:=⟨⟩
theorem tw9643446849640172959:True:=⟨⟩
theorem tw4659443394119438966:True:=⟨⟩
theorem tw12829493367731615579:True:=⟨⟩
theorem tw11726834870032233059:True:=⟨⟩
theorem tw2120831570996555367:True:=⟨⟩
theorem tw15978128119022879252:True:=⟨⟩
theorem tw8771822337421671449:True:=⟨⟩
theorem tw7644347439700978374:True:=⟨⟩
theorem tw6798781915777294929:True:=⟨⟩
theorem tw14262380500327024009:True:=⟨⟩
theorem tw10381961376561275454:True:=⟨⟩
theorem tw4441777920704354856:True:=⟨⟩
theorem tw13358373437810935566:True:=⟨⟩
theorem tw9183250436986156625:True:=⟨⟩
theorem tw8856657677905394910:True:=⟨⟩
theorem tw4773041677641712007:True:=⟨⟩
theorem tw14157386369427413943:True:=⟨⟩
theorem tw13927582962418854805:True:=⟨⟩
theorem tw4861191922663405153:True:=⟨⟩
theorem tw2079967772651314899:True:=⟨⟩
theorem tw10153173407050946511:True:=⟨⟩
theorem tw14791879598177229492:True:=⟨⟩
theorem tw2046252494863648343:True:=⟨⟩
theorem tw421373269429799296:True:=⟨⟩
theorem tw4607241216548695939:True:=⟨⟩
theorem tw16532250280350358697:True:=⟨⟩
theorem tw12746757087053107218:True:=⟨⟩
theorem tw6889974017456992848:True:=⟨⟩
theorem tw766334732975702786:True:=⟨⟩
theorem tw12525749031089517384:True:=⟨⟩
theorem tw11957930720675850438:True:=⟨⟩
theorem tw10365506663794948546:True:=⟨⟩
theorem tw6108118906378786791:True:=⟨⟩
theorem tw4545932303722758720:True:=⟨⟩
theorem tw3185532110252493089:True:=⟨⟩
theorem tw18213795680757914978:True:=⟨⟩
theorem tw15285770092332017810:True:=⟨⟩
theorem tw13946509354102585475:True:=⟨⟩
theorem tw2909420739775775466:True:=⟨⟩
theorem tw16405614799593971335:True:=⟨⟩
theorem tw6243014896199742508:True:=⟨⟩
theorem tw2664986649263127252:True:=⟨⟩
theorem tw9402577908718916429:True:=⟨⟩
theorem tw4680110189841641508:True:=⟨⟩
theorem tw3417361028392975032:True:=⟨⟩
theorem tw16042277534947381012:True:=⟨⟩
theorem tw11791886000239699116:True:=⟨⟩
theorem tw8132382526212176910:True:=⟨⟩
theorem tw186395488269167435:True:=⟨⟩
theorem tw14968895667840347667:True:=⟨⟩
theorem tw10578682340595981149:True:=⟨⟩
theorem tw8868984008416749527:True:=⟨⟩
theorem tw12942993316088285605:True:=⟨⟩
theorem tw1394557921880652765:True:=⟨⟩
theorem tw11359591648059514878:True:=⟨⟩
theorem tw5930557040775898834:True:=⟨⟩
theorem tw815385283338018155:True:=⟨⟩
theorem tw17423876596659625150:True:=⟨⟩
theorem tw14110803297188694654:True:=⟨⟩
theorem tw3219100127248110730:True:=⟨⟩
theorem tw83510300352825058:True:=⟨⟩
theorem tw6570822720415154304:True:=⟨⟩
theorem tw4645915975535690398:True:=⟨⟩
theorem tw17182751010868342616:True:=⟨⟩
theorem tw14946718521065411821:True:=⟨⟩
theorem tw15556082004758864732:True:=⟨⟩
theorem tw15033674842918816390:True:=⟨⟩
theorem tw8799997870900239777:True:=⟨⟩
theorem tw19343605065730691:True:=⟨⟩
theorem tw12273430977631864790:True:=⟨⟩
theorem tw17783170983195932209:True:=⟨⟩
theorem tw16664457292908104873:True:=⟨⟩
theorem tw3200973325743128725:True:=⟨⟩
theorem tw8793091417898727853:True:=⟨⟩
theorem tw12117735006867343469:True:=⟨⟩
theorem tw13308241464623197184:True:=⟨⟩
theorem tw4244174428442960364:True:=⟨⟩
theorem tw12296302939257745756:True:=⟨⟩
theorem tw6729106484216633107:True:=⟨⟩
theorem tw10309437976211179212:True:=⟨⟩
theorem tw7382210943682163602:True:=⟨⟩
theorem tw11035293181518422905:True:=⟨⟩
theorem tw88922219561724432:True:=⟨⟩
theorem tw5209482823807573296:True:=⟨⟩
theorem tw4035763258986064037:True:=⟨⟩
theorem tw2352645105578243564:True:=⟨⟩
theorem tw15490432104119324982:True:=⟨⟩
theorem tw2599307531640508953:True:=⟨⟩
theorem tw9725038731515868405:True:=⟨⟩
theorem tw13063252506392034864:True:=⟨⟩
theorem tw12486398045791699031:True:=⟨⟩
theorem tw17146712423848083808:True:=⟨⟩
theorem tw17075262285750358886:True:=⟨⟩
theorem tw11847394981078816335:True:=⟨⟩
theorem tw1154251429427291915:True:=⟨⟩
theorem tw7547990227833796511:True:=⟨⟩
theorem tw3201529250213290478:True:=⟨⟩
theorem tw15110072617159680671:True:=⟨⟩
theorem tw13591116292649355503:True:=⟨⟩
theorem tw5418433841250347046:True:=⟨⟩
theorem tw4776274788401529977:True:=⟨⟩
theorem tw12414605492162602362:True:=⟨⟩
theorem tw16299958945946813116:True:=⟨⟩
theorem tw13532018928055013598:True:=⟨⟩
theorem tw9836234135877403308:True:=⟨⟩
theorem tw12140391249215084607:True:=⟨⟩
theorem tw997026283657824217:True:=⟨⟩
theorem tw5585318084015183805:True:=⟨⟩
theorem tw6544038248987172422:True:=⟨⟩
theorem tw3167661974526308433:True:=⟨⟩
theorem tw13101556521068836219:True:=⟨⟩
theorem tw1718442240764091899:True:=⟨⟩
theorem tw17252115975894679517:True:=⟨⟩
theorem tw13511230858553972580:True:=⟨⟩
theorem tw7220515987560490904:True:=⟨⟩
theorem tw19478275433820566:True:=⟨⟩
theorem tw4305136531364413511:True:=⟨⟩
theorem tw2668574348266759842:True:=⟨⟩
theorem tw15440960122988812700:True:=⟨⟩
theorem tw1608235565956121583:True:=⟨⟩
theorem tw9598779383135714314:True:=⟨⟩
theorem tw9231841779578587385:True:=⟨⟩
theorem tw6699888884596132289:True:=⟨⟩
theorem tw14591439072016956782:True:=⟨⟩
theorem tw12175563211298756279:True:=⟨⟩
theorem tw6000876387358659777:True:=⟨⟩
theorem tw3335084799326203109:True:=⟨⟩
theorem tw12029880862639584616:True:=⟨⟩
theorem tw16787235726636182131:True:=⟨⟩
theorem tw9486605656224447362:True:=⟨⟩
theorem tw6146319140448750193:True:=⟨⟩
theorem tw15630905236820089361:True:=⟨⟩
theorem tw800628894493682769:True:=⟨⟩
theorem tw7945132164051169911:True:=⟨⟩
theorem tw7766043975415492748:True:=⟨⟩
theorem tw4440916536868861648:True:=⟨⟩
theorem tw4413558157917463696:True:=⟨⟩
theorem tw16950932778382201511:True:=⟨⟩
theorem tw13477494336267911907:True:=⟨⟩
theorem tw12077021198328199032:True:=⟨⟩
theorem tw10721404961530446922:True:=⟨⟩
theorem tw10504644225621128716:True:=⟨⟩
theorem tw13472427378791778362:True:=⟨⟩
theorem tw9690826039985889161:True:=⟨⟩
theorem tw6346255800243825925:True:=⟨⟩
theorem tw1872505930996473149:True:=⟨⟩
theorem tw2361883558473689648:True:=⟨⟩
theorem tw13832298924142842080:True:=⟨⟩
theorem tw8586575971859943670:True:=⟨⟩
theorem tw7815890243518622580:True:=⟨⟩
theorem tw7627839137234080298:True:=⟨⟩
theorem tw32177167637795903:True:=⟨⟩
theorem tw18175746522072923727:True:=⟨⟩
theorem tw15222493167453343826:True:=⟨⟩
theorem tw13604285908660904533:True:=⟨⟩
theorem tw13171006624845941135:True:=⟨⟩
theorem tw1313858384336005305:True:=⟨⟩
theorem tw12654480707258931075:True:=⟨⟩
theorem tw11277719540052836938:True:=⟨⟩
theorem tw6407770509181348948:True:=⟨⟩
theorem tw4131011337703661802:True:=⟨⟩
theorem tw4058321982158924643:True:=⟨⟩
theorem tw13932614797243431308:True:=⟨⟩
theorem tw12930047103817326124:True:=⟨⟩
theorem tw12242773196835636799:True:=⟨⟩
theorem tw8531321569251662483:True:=⟨⟩
theorem tw3725517960072612164:True:=⟨⟩
theorem tw9989593264259422930:True:=⟨⟩
theorem tw5706949313035666861:True:=⟨⟩
theorem tw2081542168909312748:True:=⟨⟩
theorem tw1931465239014039668:True:=⟨⟩
theorem tw17739992512640195112:True:=⟨⟩
theorem tw16817785108382570763:True:=⟨⟩
theorem tw12902302543119804685:True:=⟨⟩
theorem tw8736073881077691680:True:=⟨⟩
theorem tw8282566833539270156:True:=⟨⟩
theorem tw5172670755508675626:True:=⟨⟩
theorem tw2647171787049926406:True:=⟨⟩
theorem tw17731931658775450750:True:=⟨⟩
theorem tw16519050091388423037:True:=⟨⟩
theorem tw12279665301501722021:True:=⟨⟩
theorem tw1183514458367431547:True:=⟨⟩
theorem tw18143911565567788223:True:=⟨⟩
theorem tw2239442001807734621:True:=⟨⟩
theorem tw9005309228524254477:True:=⟨⟩
theorem tw7207823926884190864:True:=⟨⟩
theorem tw7021371776966713029:True:=⟨⟩
theorem tw3568321124078682982:True:=⟨⟩
theorem tw3419656499426378064:True:=⟨⟩
theorem tw3159747545865661515:True:=⟨⟩
theorem tw2996013190666103802:True:=⟨⟩
theorem tw2983529953658645751:True:=⟨⟩
theorem tw2973945871134867937:True:=⟨⟩
theorem tw15813435859096519016:True:=⟨⟩
theorem tw13816099949446543564:True:=⟨⟩
theorem tw12127937650729569895:True:=⟨⟩
theorem tw11686971020234368998:True:=⟨⟩
theorem tw11228119939972609792:True:=⟨⟩
theorem tw1040260654388982544:True:=⟨⟩
theorem tw7646436948519780879:True:=⟨⟩
theorem tw7481894666234773420:True:=⟨⟩
theorem tw5293591353044899319:True:=⟨⟩
theorem tw5089133118459921838:True:=⟨⟩
theorem tw3011620241126937074:True:=⟨⟩
theorem tw17644238022050492882:True:=⟨⟩
theorem tw16942614266697774592:True:=⟨⟩
theorem tw16898873790499360951:True:=⟨⟩
theorem tw16478342680015046849:True:=⟨⟩
theorem tw15658277346674115578:True:=⟨⟩
theorem tw15160975886817833863:True:=⟨⟩
theorem tw13254680236791875005:True:=⟨⟩
theorem tw13089264200202911622:True:=⟨⟩
theorem tw12375798546413054730:True:=⟨⟩
theorem tw11460141641471338838:True:=⟨⟩
theorem tw3924448418717314323:True:=⟨⟩
theorem tw8509894916538315016:True:=⟨⟩
theorem tw7377382992744573779:True:=⟨⟩
theorem tw16382707281547112543:True:=⟨⟩
theorem tw11918857174092546227:True:=⟨⟩
theorem tw8493902637025860277:True:=⟨⟩
theorem tw8682862407038152720:True:=⟨⟩
theorem tw8176489419581298646:True:=⟨⟩
theorem tw6010745998631977729:True:=⟨⟩
theorem tw4703701115148981503:True:=⟨⟩
theorem tw17661904894988269408:True:=⟨⟩
theorem tw16085502333233368021:True:=⟨⟩
theorem tw15840458023597917751:True:=⟨⟩
theorem tw15296418558549858384:True:=⟨⟩
theorem tw15069198437365921045:True:=⟨⟩
theorem tw13938024441416612951:True:=⟨⟩
theorem tw12633193802224623617:True:=⟨⟩
theorem tw11556853596313294939:True:=⟨⟩
theorem tw7437624150691197767:True:=⟨⟩
theorem tw5519834954281910031:True:=⟨⟩
theorem tw5404455422814432475:True:=⟨⟩
theorem tw5403368912583049860:True:=⟨⟩
theorem tw4794920455898407481:True:=⟨⟩
theorem tw3310639132965842846:True:=⟨⟩
theorem tw18347818211574107882:True:=⟨⟩
theorem tw17816975500257883331:True:=⟨⟩
theorem tw17111555949771324659:True:=⟨⟩
theorem tw16361252031611373901:True:=⟨⟩
theorem tw15237620661739679193:True:=⟨⟩
theorem tw15071887404270365435:True:=⟨⟩
theorem tw15059303251245720409:True:=⟨⟩
theorem tw1300966804958641634:True:=⟨⟩
theorem tw106188747267275253:True:=⟨⟩
theorem tw4657793408824253043:True:=⟨⟩
theorem tw9997086041800621006:True:=⟨⟩
theorem tw999492485977533403:True:=⟨⟩
theorem tw9990716099258193093:True:=⟨⟩
theorem tw996908454830886915:True:=⟨⟩
theorem tw9803333594538617371:True:=⟨⟩
theorem tw4729913270143919819:True:=⟨⟩
theorem tw6142930826274261983:True:=⟨⟩
theorem tw18151063955330388115:True:=⟨⟩
theorem tw17216965846902957055:True:=⟨⟩
theorem tw9443912318274313327:True:=⟨⟩
theorem tw12625010073670907321:True:=⟨⟩
theorem tw2859500360295777993:True:=⟨⟩
theorem tw7542829636323936656:True:=⟨⟩
theorem tw10585818161612312271:True:=⟨⟩
theorem tw10495350270718150091:True:=⟨⟩
theorem tw5988496474846844246:True:=⟨⟩
theorem tw1317559878702674996:True:=⟨⟩
theorem tw4006477986789494698:True:=⟨⟩
theorem tw18165658010378633529:True:=⟨⟩
theorem tw18242380805996703356:True:=⟨⟩
theorem tw15508729401083350469:True:=⟨⟩
theorem tw4450598092974221915:True:=⟨⟩
theorem tw654528337534071128:True:=⟨⟩
theorem tw14951567939766835372:True:=⟨⟩
theorem tw10771799329710661113:True:=⟨⟩
theorem tw17581733479738818874:True:=⟨⟩
theorem tw5505755528834711057:True:=⟨⟩
theorem tw12677232051062909446:True:=⟨⟩
theorem tw16645110716743789743:True:=⟨⟩
theorem tw9940290050021955809:True:=⟨⟩
theorem tw6209144750984072897:True:=⟨⟩
theorem tw4933154471153937808:True:=⟨⟩
theorem tw5367064258864097475:True:=⟨⟩
theorem tw12702048095517809988:True:=⟨⟩
theorem tw16628164808557317165:True:=⟨⟩
theorem tw12679490334105864335:True:=⟨⟩
theorem tw16708703168327358157:True:=⟨⟩
theorem tw15174366307804130880:True:=⟨⟩
theorem tw14198792694068677894:True:=⟨⟩
theorem tw7597667225274302548:True:=⟨⟩
theorem tw12176111898374320129:True:=⟨⟩
theorem tw806802179429135397:True:=⟨⟩
theorem tw15589196528083206216:True:=⟨⟩
theorem tw547894904553953232:True:=⟨⟩
theorem tw8103082054514822987:True:=⟨⟩
theorem tw5046437226622804874:True:=⟨⟩
theorem tw1493044347735185146:True:=⟨⟩
theorem tw14608995811193967471:True:=⟨⟩
theorem tw584996742951874654:True:=⟨⟩
theorem tw10087909224748530878:True:=⟨⟩
theorem tw11073865408426543610:True:=⟨⟩
theorem tw11729062258962474160:True:=⟨⟩
theorem tw15777789674699337972:True:=⟨⟩
theorem tw18282629941005407843:True:=⟨⟩
theorem tw12337168301477447676:True:=⟨⟩
theorem tw11240277705078166888:True:=⟨⟩
theorem tw7110439697952984530:True:=⟨⟩
theorem tw8285162017677228975:True:=⟨⟩
theorem tw8662538433362286840:True:=⟨⟩
theorem tw8176474256616616446:True:=⟨⟩
theorem tw16765975536623191131:True:=⟨⟩
theorem tw2046509783759667428:True:=⟨⟩
theorem tw15237887927214979550:True:=⟨⟩
theorem tw8503008070851050289:True:=⟨⟩
theorem tw16317575123341296192:True:=⟨⟩
theorem tw1928722454746301555:True:=⟨⟩
theorem tw5968553190455554784:True:=⟨⟩
theorem tw10631148193080946306:True:=⟨⟩
theorem tw13318279581772237441:True:=⟨⟩
theorem tw9637211493250178233:True:=⟨⟩
theorem tw15192312490475020785:True:=⟨⟩
theorem tw17462268184960014797:True:=⟨⟩
theorem tw8555531037227481949:True:=⟨⟩
theorem tw3637023533886086006:True:=⟨⟩
theorem tw4512977629649821187:True:=⟨⟩
theorem tw12952782515348799365:True:=⟨⟩
theorem tw16784260590511144874:True:=⟨⟩
theorem tw15907959259888296933:True:=⟨⟩
theorem tw6851161662423260518:True:=⟨⟩
theorem tw9862174476803116904:True:=⟨⟩
theorem tw5914878263425064156:True:=⟨⟩
theorem tw195772846808321905:True:=⟨⟩
theorem tw6585081922249203855:True:=⟨⟩
theorem tw13867043315291855722:True:=⟨⟩
theorem tw4720491958264357295:True:=⟨⟩
theorem tw14714353367607729720:True:=⟨⟩
theorem tw11397174929985461074:True:=⟨⟩
theorem tw17189998869289506458:True:=⟨⟩
theorem tw8478597689487101443:True:=⟨⟩
theorem tw14226110268861034131:True:=⟨⟩
theorem tw11028508990239108660:True:=⟨⟩
theorem tw206048117734096801:True:=⟨⟩
theorem tw359410346667222479:True:=⟨⟩
theorem tw3149647686887258459:True:=⟨⟩
theorem tw7768594025345653561:True:=⟨⟩
theorem tw4773745221486552401:True:=⟨⟩
theorem tw8705835682044632973:True:=⟨⟩
theorem tw17068463655939617145:True:=⟨⟩
theorem tw13253254414726999492:True:=⟨⟩
theorem tw2315531775626653863:True:=⟨⟩
theorem tw6134837669611198705:True:=⟨⟩
theorem tw14223065457576907900:True:=⟨⟩
theorem tw7622077804559456948:True:=⟨⟩
theorem tw10335190213615591219:True:=⟨⟩
theorem tw7649324796586979859:True:=⟨⟩
theorem tw1811867392347454419:True:=⟨⟩
theorem tw18254751583679203225:True:=⟨⟩
theorem tw2092725507465924989:True:=⟨⟩
theorem tw529540910531042410:True:=⟨⟩
theorem tw13091994286343533436:True:=⟨⟩
theorem tw17675850680314348573:True:=⟨⟩
theorem tw14705464575006517534:True:=⟨⟩
theorem tw11818782017319797289:True:=⟨⟩
theorem tw17807597719510884646:True:=⟨⟩
theorem tw17870841045159685887:True:=⟨⟩
theorem tw17347745773180824565:True:=⟨⟩
theorem tw18373892286781792471:True:=⟨⟩
theorem tw4781276385157030573:True:=⟨⟩
theorem tw9496224920726444991:True:=⟨⟩
theorem tw11177855057371411040:True:=⟨⟩
theorem tw2977318639758553166:True:=⟨⟩
theorem tw11229586236632704775:True:=⟨⟩
theorem tw682417773368369278:True:=⟨⟩
theorem tw13642605067336512767:True:=⟨⟩
theorem tw8607254012812329302:True:=⟨⟩
theorem tw14556816293184769080:True:=⟨⟩
theorem tw5957841016391075767:True:=⟨⟩
theorem tw12106267999000213920:True:=⟨⟩
theorem tw6854586348348927483:True:=⟨⟩
theorem tw2310429750563953902:True:=⟨⟩
theorem tw15940746216297423075:True:=⟨⟩
theorem tw17464070634381376523:True:=⟨⟩
theorem tw12067498688556185268:True:=⟨⟩
theorem tw17768669946194174400:True:=⟨⟩
theorem tw9127977406768273448:True:=⟨⟩
theorem tw9255858454785082744:True:=⟨⟩
theorem tw9231569370336297217:True:=⟨⟩
theorem tw10114236920511821540:True:=⟨⟩
theorem tw17482538779383861153:True:=⟨⟩
theorem tw5870166490428703889:True:=⟨⟩
theorem tw6605824801123737870:True:=⟨⟩
theorem tw1340025731407748093:True:=⟨⟩
theorem tw5339042950395234706:True:=⟨⟩
theorem tw12502537408319633451:True:=⟨⟩
theorem tw7981164177130484698:True:=⟨⟩
theorem tw5410496055642588048:True:=⟨⟩
theorem tw785346703814542593:True:=⟨⟩
theorem tw7692440450009429794:True:=⟨⟩
theorem tw3908201149424815869:True:=⟨⟩
theorem tw10825031793757629386:True:=⟨⟩
theorem tw16089520805642717646:True:=⟨⟩
theorem tw1761632951971032372:True:=⟨⟩
theorem tw5431291302986253885:True:=⟨⟩
theorem tw12043221694658536912:True:=⟨⟩
theorem tw8957550901000140653:True:=⟨⟩
theorem tw2820919680823241462:True:=⟨⟩
theorem tw4842226165787407557:True:=⟨⟩
theorem tw10881872925329418910:True:=⟨⟩
theorem tw14144508557894028564:True:=⟨⟩
theorem tw2455907093849286002:True:=⟨⟩
theorem tw14054330519008438837:True:=⟨⟩
theorem tw13855317675618950675:True:=⟨⟩
theorem tw16036127447357814512:True:=⟨⟩
theorem tw8863602304250466526:True:=⟨⟩
theorem tw8918662733416947423:True:=⟨⟩
theorem tw5744984493479138634:True:=⟨⟩
theorem tw11268123607769117762:True:=⟨⟩
theorem tw15899478260082854570:True:=⟨⟩
theorem tw3552733838856144093:True:=⟨⟩
theorem tw16831130232735240707:True:=⟨⟩
theorem tw1620416970839354419:True:=⟨⟩
theorem tw9425716841189453300:True:=⟨⟩
theorem tw8764036220887878240:True:=⟨⟩
theorem tw4111723379809376930:True:=⟨⟩
theorem tw14049546589558468179:True:=⟨⟩
theorem tw4106598159217522822:True:=⟨⟩
theorem tw9339221234952305545:True:=⟨⟩
theorem tw10468879589417484402:True:=⟨⟩
theorem tw13284637312160935438:True:=⟨⟩
theorem tw7661654897255250224:True:=⟨⟩
theorem tw16185712823795597438:True:=⟨⟩
theorem tw7466393932236243439:True:=⟨⟩
theorem tw591792596337391102:True:=⟨⟩
theorem tw3848968818782642804:True:=⟨⟩
theorem tw14509464289002546936:True:=⟨⟩
theorem tw11114651283643048424:True:=⟨⟩
theorem tw15231849994474204695:True:=⟨⟩
theorem tw16093345067712644145:True:=⟨⟩
theorem tw1853665666314621376:True:=⟨⟩
theorem tw5935136956354432935:True:=⟨⟩
theorem tw1747506747147598778:True:=⟨⟩
theorem tw14465932630239986284:True:=⟨⟩
theorem tw10766898549762629113:True:=⟨⟩
theorem tw6104206264965472162:True:=⟨⟩
theorem tw10473879702384556425:True:=⟨⟩
theorem tw15087202005145273947:True:=⟨⟩
theorem tw200557970738989335:True:=⟨⟩
theorem tw7541503942561948856:True:=⟨⟩
theorem tw15093882393813196904:True:=⟨⟩
theorem tw740071883584454638:True:=⟨⟩
theorem tw7509846338995606613:True:=⟨⟩
theorem tw6728349176008610278:True:=⟨⟩
theorem tw3765082999574694436:True:=⟨⟩
theorem tw7574214702516194693:True:=⟨⟩
theorem tw4004481957478581453:True:=⟨⟩
theorem tw6716507394585199573:True:=⟨⟩
theorem tw10198546614861639808:True:=⟨⟩
theorem tw12672468735841461745:True:=⟨⟩
theorem tw2569315688307508828:True:=⟨⟩
theorem tw15795635170085027092:True:=⟨⟩
theorem tw1384883834907233511:True:=⟨⟩
theorem tw14743029325819803436:True:=⟨⟩
theorem tw16045931592569783166:True:=⟨⟩
theorem tw7074606958132026575:True:=⟨⟩
theorem tw13872467119404778978:True:=⟨⟩
theorem tw8246955341667681603:True:=⟨⟩
theorem tw279131549815807638:True:=⟨⟩
theorem tw6784338979007584547:True:=⟨⟩
theorem tw14160993204400646899:True:=⟨⟩
theorem tw15077865588088696499:True:=⟨⟩
theorem tw8543967334531984097:True:=⟨⟩
theorem tw9121442294595127545:True:=⟨⟩
theorem tw8350728645065042033:True:=⟨⟩
theorem tw2247620329720468165:True:=⟨⟩
theorem tw4583932061427507285:True:=⟨⟩
theorem tw13717170455829429516:True:=⟨⟩
theorem tw1152502954247747041:True:=⟨⟩
theorem tw17447419949056392292:True:=⟨⟩
theorem tw14525096120959057406:True:=⟨⟩
theorem tw4091217771192752456:True:=⟨⟩
theorem tw1865598918770790762:True:=⟨⟩
theorem tw15796131414616214668:True:=⟨⟩
theorem tw13811330464591740083:True:=⟨⟩
theorem tw7397658609796497807:True:=⟨⟩
theorem tw2726186934896174550:True:=⟨⟩
theorem tw1603385278860736256:True:=⟨⟩
theorem tw10946993182682935921:True:=⟨⟩
theorem tw16166380918189401470:True:=⟨⟩
theorem tw12037406309222046160:True:=⟨⟩
theorem tw10115585687991764294:True:=⟨⟩
theorem tw3250553260607929113:True:=⟨⟩
theorem tw1248355064790863708:True:=⟨⟩
theorem tw17827791665984230526:True:=⟨⟩
theorem tw6895027145787595510:True:=⟨⟩
theorem tw2573570009043655149:True:=⟨⟩
theorem tw5075530316960543376:True:=⟨⟩
theorem tw5420752091891924311:True:=⟨⟩
theorem tw350888322315758765:True:=⟨⟩
theorem tw15128712404149977024:True:=⟨⟩
theorem tw5187799426497968952:True:=⟨⟩
theorem tw4875345622356970493:True:=⟨⟩
theorem tw6477657495305759013:True:=⟨⟩
theorem tw3202530336976407346:True:=⟨⟩
theorem tw2132090228033439064:True:=⟨⟩
theorem tw17162558376541770964:True:=⟨⟩
theorem tw5535121250862304270:True:=⟨⟩
theorem tw3291756406838313661:True:=⟨⟩
theorem tw16512056201479860747:True:=⟨⟩
theorem tw13334921037419551267:True:=⟨⟩
theorem tw9780121184610859653:True:=⟨⟩
theorem tw275997999051101190:True:=⟨⟩
theorem tw17572850056361568598:True:=⟨⟩
theorem tw12425817339280284708:True:=⟨⟩
theorem tw12242415999554797376:True:=⟨⟩
theorem tw11591671582915854351:True:=⟨⟩
theorem tw8717999924578681535:True:=⟨⟩
end PySem.W.Fast
open Array renaming getElem?_eq_getElem->ag8, length_toList->ah5, toList->ao_
open Bool renaming false_ne_true->LM, eq_false_iff->SO, and_eq_true->SM, false_eq_true->TX, eq_iff_iff->WM, and_false->zZ, and_true->zI, false_or->aks
open Classical renaming byContradiction->TZ, not_imp->aiu, not_forall->ai'
open Int renaming ne_of_gt->LJ, zero_add->Lh, natAbs_mul->Nj, gcd->LI, mul_pos->Oo, natAbs_add_le->TV, mul_eq_zero->Sl, fmod_eq_emod_of_nonneg->IS, gcd_dvd_right->WW, mul_comm->S', gcd_dvd_left->WT, fmod_nonneg_of_pos->IL, natAbs_dvd_natAbs->IY, fdiv_eq_of_eq_mul_right->ag2, mul_ne_zero->Xx, toNat_natCast->BK, lt_trichotomy->BE, mul_zero->Uc, mul_assoc->Xz, toNat_of_nonneg->ah_, fmod_lt_of_pos->aie, fdiv_eq_ediv_of_nonneg->aim, mul_neg_of_pos_of_neg->ain, natAbs_neg->ai6, gcd_zero_right->ajn, fmod_def->aju, gcd_mul_left->ajM, gcd_pos_iff->ajX, dvd_coe_gcd->aj4
open List renaming getElem?_eq_some_iff->be, length_map->ir, getElem?_map->Wp, mem_of_getElem?->DW, mem_map->AY, map_cons->DV, getElem?_eq_none->FJ, mem_cons_of_mem->F', getElem?_of_mem->FZ, length_append->EM, mem_cons_self->GG, mem_singleton->GQ, length_take->FU, map_congr_left->LD, getD_eq_getElem?_getD->LW, mem_append->FR, getElem?_append_left->LR, map_map->EB, getElem?_append_right->Lg, replicate->GH, map_append->GV, sum_cons->GN, range->FG, size_toArray->LV, flatMap_cons->LU, length_range->Li, mem_cons->LN, take_length->Lq, mem_append_right->OL, map_nil->LP, getElem?_range->Np, mem_append_left->ON, length_cons->Lw, take_of_length_le->PZ, ext_getElem?->OC, length_replicate->QC, nodup_cons->M9, getElem?_replicate->S6, take_add_one->Ot, getElem?_take_of_lt->SQ, getElem?_set->Pp, mem_range->OW, sum_nil->Nc, zipWith->O0, mem_filter->QO, length_eq_zero_iff->Uh, mem_flatMap->Qy, flatMap_append->TY, length_drop->SN, getElem_mem->SK, length->Oq, mem_iff_getElem->Ug, getElem?_inj->Ta, length_set->Sv, replicate_succ->WX, lookup->Pw, getElem?_zipWith->Yc, length_eraseIdx->YI, mem_of_mem_take->YH, mem_of_mem_eraseIdx->IQ, filter_cons->WS, getElem?_eraseIdx->IE, length_eq_one_iff->ID, append_nil->WL, find?_cons->WJ, take_append_drop->IX, cons_append->Yi, getElem?_zip_eq_some->ag9, filterMap_cons->IC, any_cons->WZ, sum_append->Xw, flatten_cons->BI, append_assoc->BH, getElem_take->AW, pairwise_map->AR, length_singleton->ahB, length_filter_le->ahE, any_eq_true->BP, all_cons->YF, forIn_cons->BO, range_succ->BM, dropLast_concat_getLast->ah3, mem_filterMap->aic, lookup_append->aih, forIn_nil->zW, filter_append->aij, getElem_range->ail, pairwise_iff_getElem->aip, nodup_range->aiI, length_eraseIdx_le->aiJ, getElem?_set_self->aiK, range_succ_eq_map->aiN, zipWith_cons_cons->aiQ, getElem_cons_drop->aiU, of_mem_zip->aiV, nil_append->aiW, length_nil->aiX, eq_nil_or_concat->ai1, concat_eq_append->ai3, getElem?_set_ne->ai4, nodup_nil->ai9, sum->Tw, mem_of_mem_drop->ajc, length_dropLast->ajd, take_succ_cons->aje, Nodup->yU, forIn_toArray->ajm, mem_replicate->ajo, all_map->ajv, foldl_append->ajA, nodup_append->ajE, getElem_inj->ajJ, lookup_cons->ajN, zipIdx_cons->ajO, cons_ne_nil->ajP, flatMap_nil->ajQ, length_zip->ajY, filter_nil->aj2, zipIdx_nil->aj3, foldl->aj', take_zero->akl
open List.Pairwise renaming map->Yj, imp_of_mem->aiC
open Nat renaming le_trans->BJ, le_refl->D', lt_of_le_of_lt->FX, lt_of_lt_of_le->Lf, mul_le_mul_right->Lu, pow_le_pow_right->Na, ne_of_lt->LO, zero_le->LS, mul_le_mul->M8, lt_succ_self->Of, lt_succ_iff_lt_or_eq->W7, lt_irrefl->Pm, add_mul->OP, le_of_lt->Pk, not_lt_zero->Sn, add_sub_cancel_left->IP, ne_of_gt->SY, lt_succ_of_lt->Yn, pow_lt_pow_right->IV, pow_succ->Tb, one_le_two_pow->BL, zero_mul->Ue, pow_add->Ud, min_eq_left->IA, pow_le_pow_left->ah9, add_comm->YG, mul_comm->Xs, le_succ_of_le->ais, le_of_not_lt->aiH, le_of_eq->AE, min_self->AD, lt_trans->zq, two_pow_pos->aiY, le_succ->AQ, one_mul->z_, eq_zero_or_pos->ajr, succ_le_succ->ajR
open Ne renaming symm->FT
open Option renaming map_eq_some_iff->LA, map_some->WK, isSome_map->air, isSome_iff_exists->aiv, getD_none->ajK, none->ap4
open Option.some renaming inj->GU
open Or renaming inl->Pj, inr->TM
open Prod renaming ext->yb, fst->ap7, snd->ap8
open Rat renaming intCast_mul->QL, intCast_inj->S_, intCast_lt_intCast->Yd, add_zero->Ua, mul_nonneg->Xv, lt_irrefl->AH, mul_eq_zero->ai0, div_def->yX, num_divInt_den->ajg, mul_inv_cancel->ajp, sub_eq_add_neg->ajs, divInt_eq_div->ajw, le_of_lt->ajF, intCast_add->aj0, intCast_sub->aj1
open Std.Legacy.Range renaming forIn_eq_forIn_range'->ai7, size->apX
open Sum renaming inr->EX, inl->Qh
open Sum.inl renaming inj->ajS
open Sum.inr renaming inj->Lr
open PySem.W (Frag nsIn codeIn keepIn fnOf mg_of mg_none_of)
open PySem renaming wpAny_bind->AO, Addr->AF, wpAny_pure->DY, sizeLine->AZ, wpAny->AS, Shared->BN, model->AX, mainGlobals->EW, starEach->EC, Program->FE, Around->LF, eval->D_, bootBuiltins->Lm, intBits_mul_le->M_, wpAny_mono->Lj, sysModules->Ls, compareOp->Lo, wpAny_field->Ly, wpAny_holding->OK, IsPair->LK, wpAny_truthy_bool->S5, foldedSetIterable->S4, wpAny_call_entry->S2, backTo->Le, rawInt->Ld, wpAny_newObj_type->T9, wpAny_seqItems->S1, wpAny_typeNameOfWhole_valiter->JD, binaryOp->O8, codeAny->Lz, wpAny_Call_Name_kw->X7, wpAny_setField_rec->X6, wpAny_passesOwn->Te, wpAny_dictEntries->X8, cLine->Lp, intBits_le_of_natAbs->α7, wpAny_typeNameOf_valiter->JH, mem_of_lookup->α4, wpAny_getItem_str_slice->JG, attributeBase->Tj, pyNext->Nn, IsZip->Lv, tupleKind_room_in1->α0, wpAny_nextOf_list_item->JA, wpAny_isOneOf_valiter->I_, swapsWith->S0, assignEach->T1, wpAny_pyIter_zip->Yq, behindInMarks->X1, intBits_le_64->X0, sliceBounds->Tc, intBits_le_iff->Xr, wpAny_pyIter_list->zB, wpAny_isInstance->xV, wpAny_execs_nil->xM, letOwnedTupleGo->xH, wpAny_typeOf->Xj, post_val_or_str->w_, call_meetsIn->Xi, wpAny_updateSeq->wY, wpAny_dictEpoch->vw, recursionLimit->xf, wpAny_fieldsOf->xZ, keywordEach->Xn
open PySem.Heap renaming get?_push_of_some->FK, lt_size->EF, get?_push_size->LL, get?_update_other->S7, size_push->QQ, SameBut->Px, get?_update_self->α8
open PySem.PassesOwn renaming never->FF
open PySem.Paired renaming length->GJ, snoc->Tx
open PySem.W renaming findIn->Lb, emptyDict->OF, instObj->OE, kitOne->Om, kia_one->P0, plainGet->T6, makesIn->T3, hasDictIn->Tf, plainOver->XE, callWith_K->yV, isFn->Xm, lookIn->xq
open PySem.Builtin.SmallTypes renaming ownedTupleIsFree->TC, nextOf->QF
open PySem.Str renaming ofString->N7
open PyProof.Rows renaming callWith_type1->To, envOfC->Nf, kindOf->O5, AllBare->QH
open PySem.F renaming plainAttrs_list->TF, slot_list_append->Ti, type_list_append->Th, slot_zip_next->T2, slot_dict_valueiterator_next->JF, slot_dict_values->zE, args_zip_next_1->yf, entry_zip_next->xT
open PySem.Builtin.List renaming listTooLong->α3, listExtendWith->JC
open PySem.Calls renaming callWith_builtin->α1, spliced_cons->ZS
open PySem.Builtin.Slice renaming slicePlaces->JO
open PySem.Obj renaming mapSeq->QR
open PySem.Builtin.Tuple renaming tupleExact->JI
def ni.{u}{c:Prop}[Decidable c](a:¬c){Z:Sort u}{t e:Z}:ite c t e=e:=if_neg a
def ox.{u}{c:Prop}[Decidable c](a:c){Z:Sort u}{t e:Z}:ite c t e=t:=if_pos a
def DZ{a b:Prop}(h:a)(n:¬a):b:=absurd h n
def Lc{p:Prop}[Decidable p](h:decide p=true):p:=of_decide_eq_true h
def pj.{u,v}{Z:Sort u}{β:Sort v}{a b:Z}(f:Z->β)(h:a=b):f a=f b:=congrArg f h
def La{p:Prop}[Decidable p](h:p):decide p=true:=decide_eq_true h
def PH{p:Prop}[Decidable p](h:¬p):decide p=false:=decide_eq_false h
local macro_rules|`(tactic|show ⟨$xs,*⟩)=>`(tactic|refine ⟨$xs,*⟩)
theorem ce {p:Prop}(h:p:=by omega):p:=h
theorem dL {p:Prop}[Decidable p](h:decide p=true:=by rfl):p:=of_decide_eq_true h
theorem ga {p:Prop}(h:p:=by simp):p:=h
local macro_rules|`(tactic|erw [$r,*] at $h:ident)=>`(tactic|(rw [$r,*] at $h:ident;cases $h:ident))
local macro_rules|`(tactic|let $d:letDecl)=>`(tactic|have $d:letDecl)
namespace L2
open PySem PySem.Spec PyProof.Rows
abbrev _root_.δ:=Value->BN->Prop
abbrev _root_.ε:=List (AF×Obj)
abbrev _root_.ζ:=List (List Int)
abbrev _root_.θ:=Str->Option (Rat×Rat)
abbrev _root_.ι:=Str->Option Value
abbrev _root_.ξ:=List Int
abbrev _root_.ο:=List (Int×Int)
abbrev _root_.π:=List (Nat×List Int)
abbrev _root_.ρ:=List Value
abbrev _root_.ς:=List Str
abbrev _root_.υ:=Str->Rat×Rat
abbrev _root_.χ:=List AF
abbrev _root_.ω:=Str->Option (Int×Int)
abbrev _root_.Α:=List (Str×Str×Str)
abbrev _root_.Β:=List (List (Int×Int))
abbrev _root_.Δ:=Str->List Rat
abbrev _root_.Ε:=List Expr
abbrev _root_.Η:=Str->Option Rat
abbrev _root_.Ι:=List Rat
abbrev _root_.Κ:=Option AF
abbrev _root_.Λ:=Array Value
abbrev _root_.Μ:=Str->Rat
abbrev _root_.Ν:=Array (Option Value)
abbrev _root_.Ξ:=Option Value->BN->Prop
abbrev _root_.Ο:=List (Rat×Rat)
abbrev _root_.Τ:=List (Str×List (Rat×Rat))
abbrev _root_.Υ:=Option Int
abbrev _root_.Φ:=Result->BN->Prop
abbrev _root_.Ω:=List (Str×Value)
abbrev Key:=Sum Int Str
abbrev _root_.Χ:=List (List Key×AF×Value)
def vH:Key->Value->Bool
 | .inl k,v=>Value.isInt k v
 | .inr x,v=>Value.isStrOf x v
def ahh (w:World):Key->Int
 | .inl k=>hashInt k
 | .inr x=>hashStr w x
def cJ:∀{k:Key} {v:Value},vH k v=true->(∃i t,k=Qh i/\v=Value.int i t)\/(∃x t,k=EX x/\v=Value.str x t)
 | .inl i,v,h=>by
  obtain ⟨t,e⟩:=Value.isInt_shape (k:=i) (v:=v) h;exact .inl ⟨i,t,rfl,e⟩
 | .inr x,v,h=>by
  obtain ⟨t,e⟩:=Value.isStrOf_shape (x:=x) (v:=v) h;exact .inr ⟨x,t,rfl,e⟩
def adP (i:Int)(t:Tok):vH (.inl i) (.int i t)=true:=by simp [vH,Value.isInt]
def adO (x:Str)(t:Tok):vH (.inr x) (.str x t)=true:=by simp [vH,Value.isStrOf]
def agZ (a b:Int):decide ((Qh a:Key)=Qh b)=(a==b):=by
 by_cases e:a=b
 ·subst e;simp
 ·let h:¬ (Qh a:Key)=Qh b:=fun q=>e (ajS q)
  rw [PH h];exact (beq_eq_false_iff_ne.mpr e).symm
def agY (a b:Str):decide ((EX a:Key)=EX b)=decide (a=b):=by
 by_cases e:a=b
 ·subst e;simp
 ·let h:¬ (EX a:Key)=EX b:=fun q=>e (Lr q)
  rw [PH h,PH e]
def agX (a:Int)(b:Str):decide ((Qh a:Key)=EX b)=false:=PH (fun q=>nomatch q)
def agW (a:Str)(b:Int):decide ((EX a:Key)=Qh b)=false:=PH (fun q=>nomatch q)
def bx (prog:FE)(w:World):PySem.KeyKind prog w Key where
 is:=vH
 hash:=ahh w
 inj:=fun v a b ha hb=>by
  rcases cJ ha with ⟨i,t,rfl,rfl⟩|⟨x,t,rfl,rfl⟩
  ·rcases cJ hb with ⟨j,u,rfl,e⟩|⟨y,u,rfl,e⟩
   ·injection e with e1 _;rw [e1]
   ·exact nomatch e
  ·rcases cJ hb with ⟨j,u,rfl,e⟩|⟨y,u,rfl,e⟩
   ·exact nomatch e
   ·injection e with e1 _;rw [e1]
 byValue:=fun k v h=>by
  rcases cJ h with ⟨i,t,rfl,rfl⟩|⟨x,t,rfl,rfl⟩<;>rfl
 pyHash:=fun hv h=>by
  rcases cJ hv with ⟨i,t,rfl,rfl⟩|⟨x,t,rfl,rfl⟩
  ·exact wpAny_pyHash_int h
  ·exact wpAny_pyHash_str h
 eqBool:=fun hu hv h=>by
  rcases cJ hu with ⟨i,t,rfl,rfl⟩|⟨x,t,rfl,rfl⟩
  ·rcases cJ hv with ⟨j,u,rfl,rfl⟩|⟨y,u,rfl,rfl⟩
   ·rw [agZ] at h;exact wpAny_eqBool_int h
   ·rw [agX] at h;exact SeqAt.EqAt.int_str i t y u _ _ _ _ h
  ·rcases cJ hv with ⟨j,u,rfl,rfl⟩|⟨y,u,rfl,rfl⟩
   ·rw [agW] at h;exact SeqAt.EqAt.str_int x t j u _ _ _ _ h
   ·rw [agY] at h;exact wpAny_eqBool_str h
 «strs»:=fun k x t v h=>by
  rcases cJ h with ⟨i,u,rfl,e⟩|⟨y,u,rfl,e⟩
  ·exact nomatch e
  ·injection e with e1 _
   subst e1;cases v<;>rfl
def ajk (prog:FE)(w:World)(i:Int)(t:Tok):(bx prog w).is (.inl i) (.int i t)=true:=adP i t
def ajf (prog:FE)(w:World)(x:Str)(t:Tok):(bx prog w).is (.inr x) (.str x t)=true:=adO x t
inductive V where
 | dc|bl (b:Bool)|int (i:Int)|str (x:Str)|uR (b:Array UInt8)|WN (b:UInt64)|ref (a:AF)|ty (n:String)
 deriving DecidableEq
abbrev _root_.γ:=List (Key×V)
abbrev _root_.η:=List V
abbrev _root_.ψ:=Option V
abbrev _root_.Ζ:=List (List V)
abbrev _root_.Ρ:=List (List Key×V)
def RelV:V->Value->Prop
 | .dc,u=>u=Value.none
 | .bl b,u=>u=Value.bool b
 | .int i,u=>∃t,u=Value.int i t
 | .str x,u=>∃t,u=Value.str x t
 | .uR b,u=>∃t,u=Value.bytes b t
 | .WN b,u=>∃t,u=Value.float b t
 | .ref a,u=>u=Value.ref a
 | .ty n,u=>u=Value.type n
abbrev Vals:List V->List Value->Prop:=Paired RelV
theorem Vals.length {xs:η}{us:ρ}(r:Vals xs us):xs.length=us.length:=GJ r
theorem Vals.get:∀{xs:η} {us:ρ} {i:Nat} {x:V},Vals xs us->xs[i]?=some x->∃u,us[i]?=some u/\RelV x u
 | _,_,_,_,.nil,e=>by simp at e
 | _,_,0,_,.cons r _,e=>by simp at e;subst e;show ⟨_,rfl,r⟩
 | _,_,i+1,x,.cons _ t,e=>by
  obtain ⟨u,h1,h2⟩:=Vals.get (i:=i) (x:=x) t (by simpa using e);show ⟨u,by simpa using h1,h2⟩
theorem Vals.set (r:RelV x u):∀{xs:η} {us:ρ} (i:Nat),Vals xs us->Vals (xs.set i x) (us.set i u)
 | _,_,_,.nil=>.nil
 | _,_,0,.cons _ t=>.cons r t
 | _,_,i+1,.cons q t=>.cons q (Vals.set r i t)
theorem Vals.append:∀{xs ys:η} {us ws:ρ},Vals xs us->Vals ys ws->Vals (xs++ys) (us++ws)
 | _,_,_,_,.nil,s=>s
 | _,_,_,_,.cons r t,s=>.cons r (Vals.append t s)
theorem Vals.take:∀{xs:η} {us:ρ} (n:Nat),Vals xs us->Vals (xs.take n) (us.take n)
 | _,_,0,_=>.nil
 | _,_,_+1,.nil=>.nil
 | _,_,n+1,.cons r t=>.cons r (Vals.take n t)
theorem Vals.drop:∀{xs:η} {us:ρ} (n:Nat),Vals xs us->Vals (xs.drop n) (us.drop n)
 | _,_,0,r=>r
 | _,_,_+1,.nil=>.nil
 | _,_,n+1,.cons _ t=>Vals.drop n t
def jT:Option V->Option Value->Prop
 | some v,some u=>RelV v u
 | none,none=>True
 | _,_=>False
def KV {κ:Type}:List (κ×V)->List (κ×Value)->Prop:=Paired fun (p:κ×V) (q:κ×Value)=>p.1=q.1/\RelV p.2 q.2
def kV:Key->V
 | .inl i=>.int i
 | .inr x=>.str x
inductive HO where
 | lst (xs:η)
 | tup (xs:η)
 | dK (AA:γ)|dT (AA:Ρ)
 | set (S:Int->Bool) (n:Nat)
 | ins (C dx:AF) (fs:List (Str×V))
 | own (x:AF)
 | xd (fs:List (Str×V))
 | met (f x:AF)
 | rng (lo hi:Int)
 | eQ (o:Obj) (u:HO)
 | WO (ps:Λ)
 | ext (φ:Heap->Prop)
abbrev Hp:=AF->Option HO
abbrev _root_.Ψ:=Nat->V->Hp->Prop
def upd (H:Hp)(a:AF)(o:HO):Hp:=fun b=>if b=a then some o else H b
def ah :upd H a o a=some o:=by unfold upd;rw [ox rfl]
def aj (h:b≠a):upd H a o b=H b:=by unfold upd;rw [ni h]
def ae8 {H:Hp}(h:H a=some o)(h':H b=some u)(d:o≠u):a≠b:=by
 intro e;subst e;rw [h] at h';exact d (GU h')
def ak {H:Hp}(h:H a=some o)(h':H b=none):a≠b:=by
 intro e;subst e;erw [h] at h'
section
variable (P:FE)(w:World)
def dk (H:Hp)(h:Heap)(a:AF):HO->Prop
 | .lst xs=>xs.length<=AZ/\∃(AP:ρ)(n:Nat),Vals xs AP/\h.get? a=some {cls:=.type "list",data:=.seq AP.toArray n}
 | .tup xs=>xs.length<=AZ/\∃AP:List Value,Vals xs AP/\IsTup h a AP.toArray
 | .dK AA=>AA.length<=AZ/\(a==Ls)=false/\∃vs,KV AA vs/\h.DictOf (bx P w) a vs
 | .dT AA=>AA.length<=AZ/\(a==Ls)=false/\∃xs:List (List Key×AF×Value),
   Paired (fun (p:List Key×V) (q:List Key×AF×Value)=>p.1=q.1/\H q.2.1=some (.tup (p.1.map kV))/\RelV p.2 q.2.2) AA xs/\
   ∃o es ep,h.get? a=some o/\o.ExactDict/\o.data=.dict es ep/\es.toList=xs.map (entryOfKey (tupleKind (bx P w)))/\(xs.map (·.1)).Nodup
 | .set S n=>h.SetOf (intKind P w) a S n
 | .ins C dx fs=>H dx=some (.own a)/\fs.length<=1000/\dx≠a/\h.get? a=some (OE C dx)/\
   ∃mA,h.Ns1 dx mA/\(∀f,jT (fs.lookup f) (mA f))/\PySem.Within mA (fs.map (·.1))
 | .own _=>∃o,h.get? a=some o
 | .xd fs=>∃mA,h.Ns1 a mA/\∀f,jT (fs.lookup f) (mA f)
 | .rng lo hi=>∃t u v,h.get? a=some {cls:=.type "range",data:=.fields #[.int lo t,.int hi u,.int 1 v]}
 | .eQ o u=>h.get? a=some o/\dk H h a u
 | .WO ps=>h.get? a=some {cls:=.none,data:=.fields ps}
 | .met f x=>h.get? a=some (PySem.W.methodObj (.ref f) (.ref x))
 | .ext φ=>φ h/\(∃o,h.get? a=some o)/\∀h1 h2:Heap,φ h1->(∀o,h1.get? a=some o->h2.get? a=some o)->φ h2
def me (H:Hp)(h:Heap):Prop:=∀a o,H a=some o->dk P w H h a o
end
section
variable {P:FE}{w:World}{H H':Hp}{h h':Heap}{a:AF}{o:HO}
theorem dk.lt (x:dk P w H h a o):a<h.objs.size:=by
 cases o with
 | lst xs=>obtain ⟨_,_,_,_,e⟩:=x;exact EF e
 | tup xs=>obtain ⟨_,_,_,p⟩:=x;exact p.lt
 | dK AA=>obtain ⟨_,_,_,_,o,_,_,e,_⟩:=x;exact EF e
 | dT AA=>obtain ⟨_,_,_,_,o,_,_,e,_⟩:=x;exact EF e
 | set S n=>obtain ⟨o,_,_,_,e,_⟩:=x;exact EF e
 | ins C dx fs=>obtain ⟨_,_,_,e,_⟩:=x;exact EF e
 | own y=>obtain ⟨_,e⟩:=x;exact EF e
 | xd fs=>obtain ⟨_,⟨_,_,_,e,_⟩,_⟩:=x;exact EF e
 | rng lo hi=>obtain ⟨_,_,_,e⟩:=x;exact EF e
 | eQ ob u=>obtain ⟨e,_⟩:=x;exact EF e
 | WO ps=>exact EF (show h.get? a=some _ from x)
 | met f y=>exact EF (show h.get? a=some _ from x)
 | ext φ=>obtain ⟨_,⟨_,e⟩,_⟩:=x;exact EF e
theorem Paired.cV :∀{qT:List Z} {qS:List β},Paired F qT qS->(∀a b,F a b->G a b)->Paired G qT qS
 | _,_,.nil,_=>.nil
 | _,_,.cons r t,f=>.cons (f _ _ r) (Paired.cV t f)
def dk.wK (x:dk P w H h a o)(k:∀b u,(b=a\/H b=some (.own a))->h.get? b=some u->h'.get? b=some u)
  (ho:∀b,H b=some (.own a)->H' b=some (.own a)) (ht:∀b xs,H b=some (.tup xs)->H' b=some (.tup xs)):dk P w H' h' a o:=by
 induction o with
 | lst xs=>obtain ⟨z,AP,n,r,e⟩:=x;show ⟨z,AP,n,r,k _ _ (.inl rfl) e⟩
 | tup xs=>obtain ⟨z,AP,r,ob,e,c⟩:=x;show ⟨z,AP,r,ob,k _ _ (.inl rfl) e,c⟩
 | dK AA=>obtain ⟨z,y,vs,r,ob,es,ep,e,c⟩:=x;show ⟨z,y,vs,r,ob,es,ep,k _ _ (.inl rfl) e,c⟩
 | dT AA=>
  obtain ⟨z,y,xs,r,ob,es,ep,e,c⟩:=x;show ⟨z,y,xs,Paired.cV r fun p q z=>⟨z.1,ht _ _ z.2.1,z.2.2⟩,ob,es,ep,k _ _ (.inl rfl) e,c⟩
 | set S n=>obtain ⟨ob,es,ep,t,e,c⟩:=x;show ⟨ob,es,ep,t,k _ _ (.inl rfl) e,c⟩
 | ins C dx fs=>
  obtain ⟨d,z,ne,e,mA,⟨od,es,ep,e2,c⟩,r⟩:=x;show ⟨ho _ d,z,ne,k _ _ (.inl rfl) e,mA,⟨od,es,ep,k _ _ (.inr d) e2,c⟩,r⟩
 | own y=>obtain ⟨ob,e⟩:=x;show ⟨ob,k _ _ (.inl rfl) e⟩
 | xd fs=>obtain ⟨mA,⟨od,es,ep,e,c⟩,r⟩:=x;show ⟨mA,⟨od,es,ep,k _ _ (.inl rfl) e,c⟩,r⟩
 | rng lo hi=>obtain ⟨t,u,v,e⟩:=x;show ⟨t,u,v,k _ _ (.inl rfl) e⟩
 | eQ ob u ih=>obtain ⟨e,q⟩:=x;show ⟨k _ _ (.inl rfl) e,ih q⟩
 | WO ps=>
  let e:h.get? a=some {cls:=.none,data:=.fields ps}:=x;show h'.get? a=some {cls:=.none,data:=.fields ps};exact k a _ (.inl rfl) e
 | met f y=>
  let e:h.get? a=some (PySem.W.methodObj (.ref f) (.ref y)):=x;show h'.get? a=some (PySem.W.methodObj (.ref f) (.ref y));exact k a _ (.inl rfl) e
 | ext φ=>obtain ⟨p,⟨o,e⟩,st⟩:=x;show ⟨st _ _ p fun o q=>k _ _ (.inl rfl) q,⟨o,k _ _ (.inl rfl) e⟩,st⟩
theorem me.lt (x:me P w H h)(e:H a=some o):a<h.objs.size:=(x a o e).lt
def me.fresh (x:me P w H h)(e:h.objs.size<=a):H a=none:=by
 cases q:H a with
 | none=>rfl
 | some u=>exact DZ (Lf (x.lt q) e) (Pm _)
def me.kept (x:me P w H h)(k:∀b u,h.get? b=some u->h'.get? b=some u):me P w H h':=fun a o e=>
 (x a o e).wK (fun b u _ q=>k b u q) (fun _ q=>q) fun _ _ q=>q
def me.laid (x:me P w H h)(k:∀b u,h.get? b=some u->h'.get? b=some u)(hp:h.objs.size<=a)(new:dk P w (upd H a o) h' a o):me P w (upd H a o) h':=fun b u e=>by
 let hn:=x.fresh hp;by_cases hb:b=a
 ·subst hb;erw [ah] at e;exact new
 ·rw [aj hb] at e
  exact (x b u e).wK (fun c v _ q=>k c v q) (fun c q=>by rwa [aj (ak q hn)]) fun c xs q=>by rwa [aj (ak q hn)]
end
def Rd (H:Hp)(a:AF)(u:HO):Prop:=H a=some u\/∃o,H a=some (.eQ o u)
def Rd.of (h:H a=some u):Rd H a u:=.inl h
def Rd.ok (r:Rd H a u)(x:me P w H h):dk P w H h a u:=by
 rcases r with r|⟨o,r⟩
 ·exact x a u r
 ·obtain ⟨_,q⟩:=x a _ r
  exact q
def ZT:Option HO->Prop
 | some (.lst _)=>True
 | some (.dK _)=>True
 | some (.dT _)=>True
 | some (.set _ _)=>True
 | some (.ins _ _ _)=>True
 | some (.ext _)=>True
 | _=>False
section
variable {P:FE}{w:World}{H:Hp}{h h':Heap}{x e:AF}{o':HO}
def me.write (ok:me P w H h)(mu:ZT (H x))(he:e=x\/H e=some (.own x))(k:∀b u,b≠e->h.get? b=some u->h'.get? b=some u)(Zh:∃u,h'.get? e=some u)
  (new:dk P w (upd H x o') h' x o'):me P w (upd H x o') h':=fun b u q=>by
 let ZU:∀c y,H c=some (.own y)->c≠x:=fun c y r z=>by subst z;rwa [r] at mu
 let ahj:∀c xs,H c=some (.tup xs)->c≠x:=fun c xs r z=>by subst z;rwa [r] at mu
 by_cases hb:b=x
 ·subst hb;erw [ah] at q;exact new
 ·rw [aj hb] at q
  by_cases WQ:b=e
  ·let q':H b=some (.own x):=by
    rcases he with z|z
    ·exact DZ (WQ.trans z) hb
    ·rwa [WQ]
   erw [q] at q';obtain ⟨v,hv⟩:=Zh;show ⟨v,by rwa [WQ]⟩
  ·refine (ok b u q).wK (fun c v hc r=>k c v ?_ r) (fun c r=>by rwa [aj (ZU c b r)]) fun c xs r=>by rwa [aj (ahj c xs r)]
   rcases hc with rfl|hc
   ·exact WQ
   ·rintro rfl
    rcases he with z|z
    ·exact ZU c b hc z
    ·erw [hc] at z;exact hb rfl
end
structure Un (fs ex:χ)(H H':Hp)(h h':Heap):Prop where
 keep:∀b o,h.get? b=some o->H b=none->b∉fs->b∉ex->h'.get? b=some o
 slot:∀b o,h.get? b=some o->H b=none->b∈fs->b∉ex->∃sl,h'.get? b=some {o with slots:=sl}
 free:∀b o,h.get? b=some o->H b=none->b∉ex->H' b=none
 there:∀b o,h.get? b=some o->b∉ex->∃o',h'.get? b=some o'
 wL:∀b xs,H b=some (.tup xs)->H' b=some (.tup xs)
 u5:∀b o u,H b=some (.eQ o u)->H' b=some (.eQ o u)
 wM:∀b ps,H b=some (.WO ps)->∃more,H' b=some (.WO (ps++more))
section
variable {fs fs' ex DI :χ}{H H1 H2:Hp}{h h1 h2 h':Heap}{a x e:AF}{o:HO}
def Un.any (u:Un fs ex H H1 h h1)(q:h.get? b=some ob)(n:H b=none)(hx:b∉ex):∃sl,h1.get? b=some {ob with slots:=sl}:=by
 by_cases hb:b∈fs
 ·exact u.slot b ob q n hb hx
 ·show ⟨ob.slots,u.keep b ob q n hb hx⟩
def Un.kept (k:∀b u,h.get? b=some u->h'.get? b=some u):Un fs ex H H h h':=
 ⟨fun b ob q _ _ _=>k b ob q,fun b ob q _ _ _=>⟨ob.slots,k b ob q⟩,fun _ _ _ n _=>n,fun b ob q _=>⟨ob,k b ob q⟩,fun _ _ q=>q,fun _ _ _ q=>q,fun _ ps q=>⟨#[],by rw [q];simp⟩⟩
def Un.refl:Un fs ex H H h h:=Un.kept fun _ _ q=>q
def Un.laid (k:∀b u,h.get? b=some u->h'.get? b=some u)(hp:h.objs.size<=a)(hn:H a=none):Un fs ex H (upd H a o) h h' where
 keep:=fun b u q _ _ _=>k b u q
 slot:=fun b u q _ _ _=>⟨u.slots,k b u q⟩
 free:=fun b u q n _=>by rwa [aj (LO (Lf (EF q) hp))]
 there:=fun b u q _=>⟨u,k b u q⟩
 wL:=fun b xs q=>by rwa [aj (ak q hn)]
 u5:=fun b u xs q=>by rwa [aj (ak q hn)]
 wM:=fun b ps q=>⟨#[],by rw [aj (ak q hn),q];simp⟩
def Un.write (mu:ZT (H x))(he:e=x\/H e=some (.own x))(k:∀b u,b≠e->h.get? b=some u->h'.get? b=some u)(Zh:∃u,h'.get? e=some u):Un fs ex H (upd H x o) h h':=by
 let hx:∀b,H b=none->b≠x:=fun b n z=>by subst z;rwa [n] at mu
 let hb:∀b,H b=none->b≠e:=fun b n z=>by
  subst z
  rcases he with r|r
  ·exact hx b n r
  ·erw [n] at r
 let hm:∀b u,H b=some u->¬ ZT (some u)->b≠x:=fun b u q nm z=>by subst z;rw [q] at mu;exact nm mu
 show ⟨fun b u q n _ _=>k b u (hb b n) q,fun b u q n _ _=>⟨u.slots,k b u (hb b n) q⟩,fun b u q n _=>by rwa [aj (hx b n)],fun b u q _=>?_,
  fun b xs q=>by rwa [aj (hm b _ q fun z=>z)],fun b u xs q=>by rwa [aj (hm b _ q fun z=>z)],fun b ps q=>⟨#[],by rw [aj (hm b _ q fun z=>z),q];simp⟩⟩
 by_cases WQ:b=e
 ·subst WQ;exact Zh
 ·show ⟨u,k b u WQ q⟩
end
def trk (h:Heap)(H:Hp):List AF:=(FG h.objs.size).filter fun a=>(H a).isSome
def wN (h:Heap)(H:Hp):Heap:=PySem.W.hideAll h (trk h H)
def adL (h:Heap)(H:Hp):(wN h H).objs.size=h.objs.size:=PySem.W.hideAll_size _ _
def ad0 (e:h.get? b=some o)(n:H b=none):(wN h H).get? b=some o:=
 PySem.W.hideAll_get _ e fun hm=>by
  let q:(H b).isSome=true:=(QO.mp hm).2;rw [n] at q;simp at q
def agD (e:(wN h H).get? b=some o):h.get? b=some o/\H b=none:=by
 let e':h.get? b=some o:=PySem.W.of_hideAll (trk h H) e;show ⟨e',?_⟩;cases q:H b with
 | none=>rfl
 | some x=>
  let hm:b∈trk h H:=QO.mpr ⟨OW.mpr (EF e'),by simp [q]⟩;let z:(wN h H).get? b=none:=PySem.W.hideAll_none (trk h H) hm;erw [z] at e
def agC (g h:Heap)(L:AF):List (AF×Obj):=(FG h.objs.size).filterMap fun a=>if a=L\/(g.get? a).isSome=true then none else (h.get? a).map fun o=>(a,o)
def rest (g h:Heap)(L d:AF):List (AF×Obj):=(agC g h L).filter fun p=>decide (p.1≠d)
structure Mod (K:Frag)(mg:ι)(iT:Heap):Prop where
 Zi:K.In iT
 glob:iT.Ns EW mg
 blt:∃mb,iT.Ns builtinsNs mb/\∀x:Str,x≠ "__name__"->mb x=Lm x
 nolimit:iT.NoLimit
 seer:iT.NoSeer
structure Cx where
 prog:FE
 w:World
 K:Frag
 mg:Str->Option Value
 iT:Heap
 A:LF
 N:List Str
 qP:BN
 H₀:Hp
 env:Env
 mB:List Env
 stack:List Env
 ex:List AF
 fn:Str->Bool
 calm:Bool
 pn:List (AF×Obj)
 xe:Value->BN->Prop
def HY (l:List Env):List AF:=l.filterMap (·.frame)
abbrev Cx.fs (X:Cx):List AF:=HY X.mB
def Vis (sc:Scope)(x:Str):Prop:=sc.names.lookup x=some .local\/sc.names.lookup x=some .cell\/sc.names.lookup x=some .free
def Loc (sc:Scope)(x:Str):Prop:=sc.names.lookup x=some .local\/sc.names.lookup x=some .cell
def Look (env:Env)(h:Heap)(m:ι)(x:Str)(u:Value):Prop:=
 (env.kindOf x=some .local/\m x=some u)\/((env.kindOf x=some .cell\/env.kindOf x=some .free)/\∃c,env.cells.lookup x=some c/\h.IsCell c (some u))
structure Cx.Ok (X:Cx):Prop where
 mod:Mod X.K X.mg X.iT
 kind:X.env.scope.kind=.function
 glob:X.env.globals=EW
 blt:X.env.builtins=builtinsNs
 above:X.qP.heap.objs.size<=X.env.locals
 inj:∀x y c,X.env.cells.lookup x=some c->X.env.cells.lookup y=some c->x=y
 has:∀x,(X.env.kindOf x=some .cell\/X.env.kindOf x=some .free)->∃c,X.env.cells.lookup x=some c
 ZV:∀x c,X.fn x=true->X.env.cells.lookup x=some c->X.qP.heap.objs.size<=c
 hd:X.calm=true->X.A.handled=none
 frames:X.A.frames=some X.stack
 stk:X.stack=X.mB\/(X.stack=X.env::X.mB/\X.env.frame=some X.env.locals)
 exf:∀b∈X.ex,b≠X.env.locals/\∀x c,X.env.cells.lookup x=some c->c≠b
 bs:∀b o,X.iT.get? b=some o->X.qP.heap.get? b=some o/\X.H₀ b=none
 So:X.iT.objs.size<=X.qP.heap.objs.size
 N8:∀b o,X.iT.get? b=some o->b∉X.ex
 Sq:∀b∈X.ex,b∉X.fs
 qW:X.qP.heap.FunFrames X.iT X.mB
 WR:∀b∈X.fs,X.H₀ b=none
structure Inv (X:Cx)(pX:ε)(Y:List (Option V))(H:Hp)(s:BN):Prop where
 ok:X.Ok
 os:s.os=X.qP.os
 bare:QH s.gens
 iT:Un X.fs X.ex X.H₀ H X.qP.heap s.heap
 loc:∃m,s.heap.Ns X.env.locals m/\∀(i:Nat)(x:Str)(v:V),X.N[i]?=some x->Y[i]?=some (some v)->Vis X.env.scope x->∃u,RelV v u/\Look X.env s.heap m x u
 cell:∀x c,X.env.cells.lookup x=some c->∃v,s.heap.IsCell c v
 free:H X.env.locals=none
 i9:∀x c,X.env.cells.lookup x=some c->H c=none
 pin:∀p∈X.pn++pX,s.heap.get? p.1=some p.2/\H p.1=none/\p.1≠X.env.locals/\p.1∉X.fs/\∀v,p.2.data≠.cell v
 bJ:me X.prog X.w H s.heap
 len:Y.length=X.N.length
section
variable {X:Cx}{pX:ε}{Y:List (Option V)}{H H':Hp}{s:BN}{h':Heap}
def Cx.Ok.ahl (ok:X.Ok)(e:X.iT.get? b=some o):b∉X.fs:=fun hb=>by
 have:=(ok.qW.mem hb).1;erw [e] at this
theorem Inv.bs (I:Inv X pX Y H s):∀b o,X.iT.get? b=some o->s.heap.get? b=some o/\H b=none:=fun b o e=>
 ⟨I.iT.keep b o (I.ok.bs b o e).1 (I.ok.bs b o e).2 (I.ok.ahl e) (I.ok.N8 b o e),I.iT.free b o (I.ok.bs b o e).1 (I.ok.bs b o e).2 (I.ok.N8 b o e)⟩
def Inv.bk (I:Inv X pX Y H s):∀b o,X.iT.get? b=some o->s.heap.get? b=some o:=fun b o e=>(I.bs b o e).1
theorem Inv.mod (I:Inv X pX Y H s):Mod X.K X.mg X.iT:=I.ok.mod
def Inv.mC (I:Inv X pX Y H s):X.K.In s.heap:=I.ok.mod.Zi.keeps I.bk
theorem Inv.nolimit (I:Inv X pX Y H s):s.heap.NoLimit:=I.ok.mod.nolimit.keeps I.bk
theorem Inv.lt (I:Inv X pX Y H s):X.env.locals<s.heap.objs.size:=let ⟨_,hn,_⟩:=I.loc;hn.lt
def Inv.sz (I:Inv X pX Y H s):X.qP.heap.objs.size<=s.heap.objs.size:=BJ I.ok.above (Pk I.lt)
def Inv.ahm (I:Inv X pX Y H s){a:AF}(h:s.heap.objs.size<=a):a∉X.fs:=fun hb=>by
 obtain ⟨_,o,ho,_⟩:=I.ok.qW.mem hb;exact DZ (Lf (EF ho) (BJ I.sz h)) (Pm _)
def Inv.Sr (I:Inv X pX Y H s):∀x c,X.env.cells.lookup x=some c->c≠X.env.locals:=fun x c e z=>by
 obtain ⟨v,o,ho,hd⟩:=I.cell x c e;obtain ⟨m,⟨o',es,ep,Ss,Rj,_⟩,_⟩:=I.loc;erw [z,Ss] at ho;erw [Rj] at hd
theorem Inv.qW (I:Inv X pX Y H s):s.heap.FunFrames X.iT X.mB:=by
 let all:∀(l:List Env),(∀b∈HY l,b∈X.fs)->X.qP.heap.FunFrames X.iT l->s.heap.FunFrames X.iT l:=by
  intro l
  induction l with
  | nil=>intro _ _;trivial
  | cons env r ih=>
   intro hs hl;obtain ⟨hk,⟨L,o,hf,hn,ho,hd⟩,hr⟩:=hl;let hL:L∈X.fs:=hs L (by unfold HY;rw [IC,hf];exact GG);obtain ⟨sl,e⟩:=I.iT.slot L o ho (I.ok.WR L hL) hL fun z=>I.ok.Sq L z hL;show ⟨hk,⟨L,_,hf,hn,e,hd⟩,ih (fun b hb=>hs b (by unfold HY;rw [IC,hf];exact F' _ hb)) hr⟩
 exact all X.mB (fun _ hb=>hb) I.ok.qW
theorem Inv.stack (I:Inv X pX Y H s):s.heap.FunFrames X.iT X.stack:=by
 rcases I.ok.stk with e|⟨e,hf⟩
 ·rw [e];exact I.qW
 ·rw [e]
  obtain ⟨m,hn,_⟩:=I.loc;refine .cons (by rw [I.ok.kind];decide) hf hn ?_ I.qW;exact Heap.get?_none_of_le (BJ I.ok.So I.ok.above)
def Inv.DR (I:Inv X pX Y H s):∀b∈HY X.stack,b∈X.env.locals::X.fs:=fun b hb=>by
 rcases I.ok.stk with e|⟨e,hf⟩
 ·rw [e] at hb;exact F' _ hb
 ·rw [e] at hb
  unfold HY at hb;rwa [IC,hf] at hb
def Inv.HZ (I:Inv X pX Y H s):∀b∈HY X.stack,H b=none:=fun b hb=>by
 rcases LN.mp (I.DR b hb) with e|hb
 ·rw [e];exact I.free
 ·obtain ⟨_,o,ho,_⟩:=I.ok.qW.mem hb
  exact I.iT.free b o ho (I.ok.WR b hb) fun z=>I.ok.Sq b z hb
def Inv.step {ch:χ}(I:Inv X pX Y H s)
  (Rk:∀b∈ch,(b∈X.ex\/X.qP.heap.objs.size<=b)/\b≠X.env.locals/\(∀x c,X.env.cells.lookup x=some c->c≠b)/\∀p∈X.pn++pX,p.1≠b)
  (keep:∀b o,b≠X.env.locals->b∉X.fs->b∉ch->s.heap.get? b=some o->H b=none->h'.get? b=some o)
  (slot:∀b o,b≠X.env.locals->b∈X.fs->b∉ch->s.heap.get? b=some o->H b=none->∃sl,h'.get? b=some {o with slots:=sl}) (free:∀b o,b∉ch->s.heap.get? b=some o->H b=none->H' b=none)
  (there:∀b o,b∉ch->s.heap.get? b=some o->∃o',h'.get? b=some o')
  (wL:∀b xs,H b=some (.tup xs)->H' b=some (.tup xs)) (u5:∀b o u,H b=some (.eQ o u)->H' b=some (.eQ o u)) (wM:∀b ps,H b=some (.WO ps)->∃more,H' b=some (.WO (ps++more)))
  (ns:∀m,s.heap.Ns X.env.locals m->h'.Ns X.env.locals m) (bJ:me X.prog X.w H' h') (hg:QH g'):
  Inv X pX Y H' {s with heap:=h',gens:=g',drawn:=d',toks:=t'}:=by
 let neL:∀b o,X.qP.heap.get? b=some o->b≠X.env.locals:=fun b o e=>LO (Lf (EF e) I.ok.above)
 let neC:∀b o,X.qP.heap.get? b=some o->b∉X.ex->b∉ch:=fun b o e hx hb=>by
  rcases (Rk b hb).1 with z|z
  ·exact hx z
  ·exact DZ (Lf (EF e) z) (Pm _)
 let cellK:∀x c,X.env.cells.lookup x=some c->∀v,s.heap.IsCell c v->h'.IsCell c v:=fun x c e v ⟨o,ho,hd⟩=>by
  let ZW:c∉ch:=fun z=>(Rk c z).2.2.1 x c e rfl;by_cases hc:c∈X.fs
  ·obtain ⟨sl,q⟩:=slot c o (I.Sr x c e) hc ZW ho (I.i9 x c e)
   show ⟨_,q,hd⟩
  ·show ⟨o,keep c o (I.Sr x c e) hc ZW ho (I.i9 x c e),hd⟩
 show ⟨I.ok,I.os,hg,⟨fun b o e n hb hx=>?_,fun b o e n hb hx=>?_,fun b o e n hx=>?_,fun b o e hx=>?_,fun b xs e=>wL b xs (I.iT.wL b xs e),fun b o xs e=>u5 b o xs (I.iT.u5 b o xs e),fun b ps e=>?_⟩,?_,fun x c e=>?_,?_,fun x c e=>?_,fun p hp=>?_,bJ,I.len⟩
 ·exact keep b o (neL b o e) hb (neC b o e hx) (I.iT.keep b o e n hb hx) (I.iT.free b o e n hx)
 ·obtain ⟨sl,e1⟩:=I.iT.slot b o e n hb hx
  obtain ⟨sl',e2⟩:=slot b _ (neL b o e) hb (neC b o e hx) e1 (I.iT.free b o e n hx);show ⟨sl',e2⟩
 ·obtain ⟨o',e1⟩:=I.iT.there b o e hx
  exact free b o' (neC b o e hx) e1 (I.iT.free b o e n hx)
 ·obtain ⟨o',e1⟩:=I.iT.there b o e hx
  exact there b o' (neC b o e hx) e1
 ·obtain ⟨m1,e1⟩:=I.iT.wM b ps e
  obtain ⟨m2,e2⟩:=wM b _ e1;show ⟨m1++m2,by rw [e2,Array.append_assoc]⟩
 ·obtain ⟨m,hn,hl⟩:=I.loc
  show ⟨m,ns m hn,fun i x v e1 e2 e3=>?_⟩;obtain ⟨u,r,l⟩:=hl i x v e1 e2 e3;show ⟨u,r,?_⟩
  rcases l with l|⟨k,c,e,z⟩
  ·exact .inl l
  ·exact .inr ⟨k,c,e,cellK x c e _ z⟩
 ·obtain ⟨v,z⟩:=I.cell x c e
  show ⟨v,cellK x c e v z⟩
 ·obtain ⟨m,⟨o,_,_,ho,_⟩,_⟩:=I.loc
  exact free _ o (fun z=>(Rk _ z).2.1 rfl) ho I.free
 ·obtain ⟨v,o,ho,hd⟩:=I.cell x c e
  exact free c o (fun z=>(Rk c z).2.2.1 x c e rfl) ho (I.i9 x c e)
 ·obtain ⟨e,n,ne,nf,d⟩:=I.pin p hp
  let ZW:p.1∉ch:=fun z=>(Rk p.1 z).2.2.2 p hp rfl;show ⟨keep p.1 p.2 ne nf ZW e n,free p.1 p.2 ZW e n,ne,nf,d⟩
def Inv.un (I:Inv X pX Y H s)(u:Un X.fs [] H H' s.heap h')(bJ:me X.prog X.w H' h'):Inv X pX Y H' {s with heap:=h',toks:=t'}:=by
 obtain ⟨m,⟨o,es,ep,ho,r⟩,_⟩:=id I.loc;obtain ⟨sl,hL⟩:=u.any ho I.free ga
 exact I.step (g':=s.gens) (d':=s.drawn) (ch:=[]) (fun _ z=>nomatch z) (fun b o _ hb _ e n=>u.keep b o e n hb ga) (fun b o _ hb _ e n=>u.slot b o e n hb ga) (fun b o _ e n=>u.free b o e n ga) (fun b o _ e=>u.there b o e ga) u.wL u.u5 u.wM (fun m' hm=>by
  obtain ⟨o',es',Zj,Ss,r'⟩:=hm;erw [ho] at Ss
  show ⟨_,es',Zj,hL,r'⟩) bJ I.bare
def Inv.call (I:Inv X pX Y H s)(u:Un (HY X.stack) ch H H' s.heap h')(bJ:me X.prog X.w H' h')(hg:QH g')
  (Rk:∀b∈ch,(b∈X.ex\/X.qP.heap.objs.size<=b)/\b≠X.env.locals/\(∀x c,X.env.cells.lookup x=some c->c≠b)/\∀p∈X.pn++pX,p.1≠b):
  Inv X pX Y H' {s with heap:=h',gens:=g',drawn:=d',toks:=t'}:=by
 obtain ⟨m,⟨o,es,ep,ho,r⟩,_⟩:=id I.loc;obtain ⟨sl,hL⟩:=u.any ho I.free fun z=>(Rk _ z).2.1 rfl
 exact I.step (ch:=ch) Rk (fun b o hL hb hc e n=>u.keep b o e n (fun z=>(LN.mp (I.DR b z)).elim hL hb) hc) (fun b o _ _ hc e n=>u.any e n hc) (fun b o hc e n=>u.free b o e n hc) (fun b o hc e=>u.there b o e hc) u.wL u.u5 u.wM (fun m' hm=>by
  obtain ⟨o',es',Zj,Ss,r'⟩:=hm;erw [ho] at Ss
  show ⟨_,es',Zj,hL,r'⟩) bJ hg
def Inv.turned (I:Inv X pX Y H s)(k:∀b o,b≠it->s.heap.get? b=some o->h'.get? b=some o)(hn:H it=none)(hL:it≠X.env.locals)
  (h1:it∈X.ex\/X.qP.heap.objs.size<=it) (h2:∀x c,X.env.cells.lookup x=some c->c≠it) (h3:∀p∈X.pn++pX,p.1≠it):Inv X pX Y H {s with heap:=h',toks:=t'}:=by
 let Vv:∀b u,H b=some u->b≠it:=fun b u e z=>by erw [z,hn] at e
 refine I.step (g':=s.gens) (d':=s.drawn) (ch:=[it]) (fun b hb=>?_) (fun b o _ _ hc e _=>k b o (fun z=>hc (by simp [z])) e) (fun b o _ _ hc e _=>⟨o.slots,k b o (fun z=>hc (by simp [z])) e⟩) (fun _ _ _ _ n=>n)
  (fun b o hc e=>⟨o,k b o (fun z=>hc (by simp [z])) e⟩) (fun _ _ e=>e) (fun _ _ _ e=>e) (fun b ps e=>⟨#[],by rw [e];simp⟩) (fun m hm=>?_) (fun b u e=>?_) I.bare
 ·let e:b=it:=by simpa using hb
  subst e;show ⟨h1,hL,h2,h3⟩
 ·obtain ⟨o,es,ep,ho,r⟩:=hm
  show ⟨o,es,ep,k _ o (FT hL) ho,r⟩
 ·refine (I.bJ b u e).wK (fun c v hc q=>k c v ?_ q) (fun _ q=>q) fun _ _ q=>q
  rcases hc with z|z
  ·rw [z];exact Vv b u e
  ·exact Vv c _ z
def Inv.tok (I:Inv X pX Y H s)(t:Nat):Inv X pX Y H {s with toks:=t}:=I.un (h':=s.heap) (t':=t) Un.refl I.bJ
theorem Inv.kept (I:Inv X pX Y H s)(k:∀b u,s.heap.get? b=some u->h'.get? b=some u):Inv X pX Y H {s with heap:=h',toks:=t'}:=I.un (Un.kept k) (I.bJ.kept k)
theorem Inv.laid {a:AF}(I:Inv X pX Y H s)(k:∀b u,s.heap.get? b=some u->h'.get? b=some u)(hp:s.heap.objs.size<=a)(new:dk X.prog X.w (upd H a o) h' a o):
  Inv X pX Y (upd H a o) {s with heap:=h',toks:=t'}:=I.un (Un.laid k hp (I.bJ.fresh hp)) (I.bJ.laid k hp new)
theorem Inv.write (I:Inv X pX Y H s)(mu:ZT (H x))(he:e=x\/H e=some (.own x))(k:∀b u,b≠e->s.heap.get? b=some u->h'.get? b=some u)(Zh:∃u,h'.get? e=some u)
  (new:dk X.prog X.w (upd H x o) h' x o):Inv X pX Y (upd H x o) {s with heap:=h',toks:=t'}:=I.un (Un.write mu he k Zh) (I.bJ.write mu he k Zh new)
def Inv.H_ (I:Inv X pX Y H s)(h:∀p∈Vw,s.heap.get? p.1=some p.2/\H p.1=none/\p.1≠X.env.locals/\p.1∉X.fs/\∀v,p.2.data≠.cell v):Inv X Vw Y H s:=
 ⟨I.ok,I.os,I.bare,I.iT,I.loc,I.cell,I.free,I.i9,fun p hp=>(FR.mp hp).elim (fun z=>I.pin p (ON _ z)) (h p),I.bJ,I.len⟩
def dS {N:ς}(hN:N.Nodup){i j:Nat}(a:N[i]?=some x)(b:N[j]?=some x):i=j:=by
 obtain ⟨h1,e1⟩:=be.mp a;obtain ⟨h2,e2⟩:=be.mp b;exact (ajJ hN).mp (e1.trans e2.symm)
def vI {E:δ}(I:Inv X pX Y H s)(hN:X.N.Nodup)(hi:X.N[i]?=some x)(hx:Loc X.env.scope x)(r:RelV v u)
  (h:∀s',Inv X pX (Y.set i (some v)) H s' ->(∃a,Px a s.heap s'.heap/\(a=X.env.locals\/X.env.cells.lookup x=some a))->Q () s') (hf:X.fn x=true\/X.env.scope.names.lookup x=some .local:=by first|exact .inl rfl|exact .inr rfl|assumption):AS M A (storeName X.env x u) Q E s:=by
 obtain ⟨m,hn,hl⟩:=id I.loc;let aho:(X.env.scope.kind==.class || (X.env.scope.kind==.module && X.env.locals !=X.env.globals))=false:=by rw [I.ok.kind];rfl
 let hiσ:i < Y.length:=by rw [I.len];exact (be.mp hi).1
 let Sr:=I.Sr
 let tracked:∀{a:AF} {h':Heap},(∃o,s.heap.get? a=some o/\H a=none)->Px a s.heap h' ->me X.prog X.w H h':=fun {a h'} ha hs b ob e=>by
  obtain ⟨_,_,Vx⟩:=ha;refine (I.bJ b ob e).wK (fun c w' hc q=>(hs.2 c ?_).trans q) (fun _ q=>q) fun _ _ q=>q;rintro rfl
  rcases hc with rfl|hc
  ·erw [Vx] at e
  ·erw [Vx] at hc
 rcases hx with hk|hk
 ·refine wpAny_storeName_local hk hn (fun h' hn' hs=>?_) aho
  obtain ⟨oL,_,_,hoL,_⟩:=id hn;refine h _ ⟨I.ok,I.os,I.bare,⟨fun b o e n hb hx=>?_,fun b o e n hb hx=>?_,I.iT.free,fun b o e hx=>?_,I.iT.wL,I.iT.u5,I.iT.wM⟩,⟨_,hn',fun j y v' e1 e2 e3=>?_⟩,fun y c e=>?_,I.free,I.i9,fun p hp=>?_,tracked ⟨oL,hoL,I.free⟩ hs,by simpa using I.len⟩ ⟨_,hs,.inl rfl⟩
  ·exact (hs.2 b (LO (Lf (EF e) I.ok.above))).trans (I.iT.keep b o e n hb hx)
  ·obtain ⟨sl,e1⟩:=I.iT.slot b o e n hb hx
   show ⟨sl,(hs.2 b (LO (Lf (EF e) I.ok.above))).trans e1⟩
  ·obtain ⟨o',e1⟩:=I.iT.there b o e hx
   show ⟨o',(hs.2 b (LO (Lf (EF e) I.ok.above))).trans e1⟩
  ·by_cases hj:j=i
   ·subst hj
    erw [hi] at e1;erw [aiK hiσ] at e2;show ⟨u,r,.inl ⟨hk,by simp⟩⟩
   ·rw [ai4 (FT hj)] at e2
    obtain ⟨u',r',q⟩:=hl j y v' e1 e2 e3;show ⟨u',r',?_⟩
    rcases q with ⟨k,e⟩|⟨k,c,e,z⟩
    ·refine .inl ⟨k,?_⟩
     have:y≠x:=fun e=>hj (dS hN e1 (e▸hi));simp [this,e]
    ·exact .inr ⟨k,c,e,z.sameBut hs (Sr y c e)⟩
  ·obtain ⟨w',z⟩:=I.cell y c e
   show ⟨w',z.sameBut hs (Sr y c e)⟩
  ·obtain ⟨e,n,ne,nf,d⟩:=I.pin p hp
   show ⟨(hs.2 p.1 ne).trans e,n,ne,nf,d⟩
 ·let hfn:X.fn x=true:=by
   rcases hf with z|z
   ·exact z
   ·erw [z] at hk
  obtain ⟨c,hc⟩:=I.ok.has x (.inl hk);obtain ⟨w',z⟩:=I.cell x c hc;refine wpAny_storeName_cell I.ok.kind hk hc z (fun h' qX hs=>?_);obtain ⟨oc,hoc,ahr⟩:=id z;refine h {s with heap:=h'} ⟨I.ok,I.os,I.bare,⟨fun b o e n hb hx=>?_,fun b o e n hb hx=>?_,I.iT.free,fun b o e hx=>?_,I.iT.wL,I.iT.u5,I.iT.wM⟩,⟨m,hn.sameBut hs (FT (Sr x c hc)),fun j y v' e1 e2 e3=>?_⟩,fun y c' e=>?_,I.free,I.i9,fun p hp=>?_,tracked ⟨oc,hoc,I.i9 x c hc⟩ hs,by simpa using I.len⟩ ⟨c,hs,.inr hc⟩
  ·exact (hs.2 b (LO (Lf (EF e) (I.ok.ZV x c hfn hc)))).trans (I.iT.keep b o e n hb hx)
  ·obtain ⟨sl,e1⟩:=I.iT.slot b o e n hb hx
   show ⟨sl,(hs.2 b (LO (Lf (EF e) (I.ok.ZV x c hfn hc)))).trans e1⟩
  ·obtain ⟨o',e1⟩:=I.iT.there b o e hx
   show ⟨o',(hs.2 b (LO (Lf (EF e) (I.ok.ZV x c hfn hc)))).trans e1⟩
  ·by_cases hj:j=i
   ·subst hj
    erw [hi] at e1;erw [aiK hiσ] at e2;show ⟨u,r,.inr ⟨.inl hk,c,hc,qX⟩⟩
   ·rw [ai4 (FT hj)] at e2
    obtain ⟨u',r',q⟩:=hl j y v' e1 e2 e3;show ⟨u',r',?_⟩
    rcases q with q|⟨k,c',e,z'⟩
    ·exact .inl q
    ·refine .inr ⟨k,c',e,z'.sameBut hs ?_⟩
     rintro rfl;exact hj (dS hN e1 (I.ok.inj _ _ _ e hc▸hi))
  ·by_cases hcc:c'=c
   ·subst hcc;show ⟨_,qX⟩
   ·obtain ⟨w2,z2⟩:=I.cell y c' e
    show ⟨w2,z2.sameBut hs hcc⟩
  ·obtain ⟨e,n,ne,nf,d⟩:=I.pin p hp
   show ⟨(hs.2 p.1 ?_).trans e,n,ne,nf,d⟩;intro q;rw [q,hoc] at e;let q':oc=p.2:=GU e;exact d w' (by rwa [<-q'])
def nj {E:δ}(I:Inv X pX Y H s)(hN:X.N.Nodup)(hi:X.N[i]?=some x)(hx:Loc X.env.scope x)(r:RelV v u)
  (h:∀s',Inv X pX (Y.set i (some v)) H s' ->Q () s') (hf:X.fn x=true\/X.env.scope.names.lookup x=some .local:=by first|exact .inl rfl|exact .inr rfl|assumption):AS M A (storeName X.env x u) Q E s:=
 vI I hN hi hx r (fun s' I' _=>h s' I') hf
def Inv.ZX (I:Inv X pX Y H s)(ho:s'.os=s.os)(u:Un (HY X.stack) ch H H' s.heap s'.heap)(bJ:me X.prog X.w H' s'.heap)(hg:QH s'.gens)
  (Rk:∀b∈ch,(b∈X.ex\/X.qP.heap.objs.size<=b)/\b≠X.env.locals/\(∀x c,X.env.cells.lookup x=some c->c≠b)/\∀p∈X.pn++pX,p.1≠b):Inv X pX Y H' s':=by
 obtain ⟨h',g',d',t',o'⟩:=s';let e:o'=s.os:=ho;subst e;exact I.call (g':=g') (t':=t') (d':=d') u bJ hg Rk
end
abbrev XK:=Value->Option AF->Hp->Prop
abbrev St:=List (Option V)
abbrev VK:=V->Hp->Prop
abbrev TE:=St->Hp->VK->Prop
abbrev TT:=St->Hp->(Bool->Hp->Prop)->Prop
abbrev TA:=St->Hp->(List V->Hp->Prop)->Prop
structure Ends where
 nx:St->Hp->Prop
 rt:VK
 bk:St->Hp->Prop:=fun _ _=>False
 ct:St->Hp->Prop:=fun _ _=>False
abbrev TS:=Ends->St->Hp->Prop
def EP (X:Cx)(pX:ε)(Y:St)(Q:VK)(u:Value)(s':BN):Prop:=∃v H',Inv X pX Y H' s'/\RelV v u/\Q v H'
def TP (X:Cx)(pX:ε)(Y:St)(Q:Bool->Hp->Prop)(b:Bool)(s':BN):Prop:=∃H',Inv X pX Y H' s'/\Q b H'
def its (X:Cx)(pX:ε)(Y:St)(Q:List V->Hp->Prop)(us:ρ)(s':BN):Prop:=∃vs H',Inv X pX Y H' s'/\Vals vs us/\Q vs H'
def SP (X:Cx)(pX:ε)(D:Ends)(f:Flow)(s':BN):Prop:=
 match f with
 | .next=>∃Y' H',Inv X pX Y' H' s'/\D.nx Y' H'
 | .brk=>∃Y' H',Inv X pX Y' H' s'/\D.bk Y' H'
 | .cont=>∃Y' H',Inv X pX Y' H' s'/\D.ct Y' H'
 | .ret u=>∃v Y' H',Inv X pX Y' H' s'/\RelV v u/\D.rt v H'
def PE (X:Cx)(e:Expr)(t:TE):Prop:=
 ∀(pX:ε)(s:BN)(Y:St)(H:Hp)(Q:VK),Inv X pX Y H s->t Y H Q->AS (AX X.prog X.w) X.A (D_ e X.env) (EP X pX Y Q) X.xe s
def PT (X:Cx)(e:Expr)(t:TT):Prop:=
 ∀(pX:ε)(s:BN)(Y:St)(H:Hp)(Q:Bool->Hp->Prop),Inv X pX Y H s->t Y H Q->AS (AX X.prog X.w) X.A (isTrue e X.env (D_ e X.env)) (TP X pX Y Q) X.xe s
def PW (X:Cx)(e:Expr)(t:TT):Prop:=
 ∀(whole:Sem Value)(pX:ε)(s:BN)(Y:St)(H:Hp)(Q:Bool->Hp->Prop),Inv X pX Y H s->t Y H Q->AS (AX X.prog X.w) X.A (isTrue e X.env whole) (TP X pX Y Q) X.xe s
def PW.pt (h:PW X e t):PT X e t:=h _
def PA (X:Cx)(es:Ε)(t:TA):Prop:=
 ∀(pos:Pos)(pX:ε)(s:BN)(Y:St)(H:Hp)(Q:List V->Hp->Prop),Inv X pX Y H s->t Y H Q->AS (AX X.prog X.w) X.A (spliced (Le pos (EC es X.env))) (its X pX Y Q) X.xe s
def PS (X:Cx)(st:Stmt)(t:TS):Prop:=
 ∀(pX:ε)(s:BN)(Y:St)(H:Hp)(D:Ends),Inv X pX Y H s->t D Y H->AS (AX X.prog X.w) X.A (exec st X.env) (SP X pX D) X.xe s
def rj (X:Cx)(st:List Stmt)(t:TS):Prop:=
 ∀(pX:ε)(s:BN)(Y:St)(H:Hp)(D:Ends),Inv X pX Y H s->t D Y H->AS (AX X.prog X.w) X.A (execs st X.env) (SP X pX D) X.xe s
def cK {Q Q':Z->BN->Prop}{E:δ}(h:AS M A t Q E s)(hQ:∀a s,Q a s->Q' a s):AS M A t Q' E s:=Lj h hQ fun _ _ x=>x
section
variable {X:Cx}
inductive Su (i:Nat)(Y:St)(H:Hp)(Q:VK):Prop
|mk (v:_)(_:Y[i]?=some (some v))(_:Q v H)
def tC (v:V):TE:=fun _ H Q=>Q v H
def agR {pos:Pos}(hN:X.N[i]?=some x)(hv:Vis X.env.scope x)(hd:(x==("__debug__":Str))=false:=by decide)(u6:(x==("__classdict__":Str))=false:=by decide):PE X (.Name x pos) (Su i):=by
 intro pX s Y H Q I h;obtain ⟨v,e,h⟩:=h;obtain ⟨m,hn,hl⟩:=I.loc;obtain ⟨u,r,l⟩:=hl i x v hN e hv;let fin:EP X pX Y Q u s:=⟨v,H,I,r,h⟩
 rcases l with ⟨hk,hm⟩|⟨hk,c,hc,hcell⟩
 ·exact wpAny_Name (wpAny_loadName_local I.ok.kind hk hn hm fin) hd
 ·rcases hk with hk|hk
  ·exact wpAny_Name (wpAny_loadName_cell I.ok.kind hk hc hcell fin) hd
  ·exact wpAny_Name (wpAny_loadName_free I.ok.kind hk hc hcell fin u6) hd
def af :PE X (.Constant (.int i) j pos) (tC (.int i)):=fun _ _ _ H _ I h=>wpAny_Constant_int ⟨.int i,H,I.tok _,⟨_,rfl⟩,h⟩
def mf :PE X (.Constant (.bool b) j pos) (tC (.bl b)):=fun _ _ _ H _ I h=>Constant_bool ⟨.bl b,H,I,rfl,h⟩
def rW :PE X (.Constant .none j pos) (tC .dc):=fun _ _ _ H _ I h=>Constant_none ⟨.dc,H,I,rfl,h⟩
def h_ :PE X (.Constant (.str x) j pos) (tC (.str x)):=fun _ _ _ H _ I h=>Calls.Constant_str ⟨.str x,H,I.tok _,⟨_,rfl⟩,h⟩
def Gl (X:Cx)(x:Str):Prop:=X.env.kindOf x=some .globalImplicit
def nq {E:δ}{Y:St}{Q:δ}(I:Inv X pX Y H s)(hg:Gl X x)(hm:X.mg x=some u)(h:Q u s)
  (hd:(x==("__debug__":Str))=false:=by decide):AS (AX X.prog X.w) X.A (D_ (.Name x pos) X.env) Q E s:=
 Calls.Name_function_global I.ok.kind hg (Calls.loadGlobal_global (by rw [I.ok.glob];exact I.mod.glob.keeps I.bk) hm h) hd
def jt {E:δ}{Y:St}{pos:Pos}{Q:δ}(I:Inv X pX Y H s)(hg:Gl X x)(hm:X.mg x=none)(hv:Lm x=some u)(h:Q u s)
  (hn:x≠ "__name__":=by decide) (hd:(x==("__debug__":Str))=false:=by decide):AS (AX X.prog X.w) X.A (D_ (.Name x pos) X.env) Q E s:=by
 obtain ⟨mb,h1,h2⟩:=I.mod.blt;exact Calls.Name_function_global I.ok.kind hg (Calls.loadGlobal_builtin (by rw [I.ok.glob];exact I.mod.glob.keeps I.bk) hm (by rw [I.ok.blt];exact h1.keeps I.bk) ((h2 x hn).trans hv) h) hd
def d5 (hg:Gl X x)(hm:X.mg x=some u)(r:RelV v u)(hd:(x==("__debug__":Str))=false:=by decide):PE X (.Name x pos) (tC v):=
 fun _ _ _ H _ I h=>nq I hg hm ⟨v,H,I,r,h⟩ hd
def agB {pos:Pos}(hg:Gl X x)(hm:X.mg x=none)(hv:Lm x=some u)(r:RelV v u)(hn:x≠ "__name__":=by decide)(hd:(x==("__debug__":Str))=false:=by decide):PE X (.Name x pos) (tC v):=
 fun _ _ _ H _ I h=>jt I hg hm hv ⟨v,H,I,r,h⟩ hn hd
variable {a b:Expr}{ta tb:TE}{pos:Pos}
def PC (X:Cx)(op:CmpOp)(a b:Expr)(t:TE):Prop:=
 ∀(pX:ε)(s:BN)(Y:St)(H:Hp)(Q:VK),Inv X pX Y H s->t Y H Q->
  AS (AX X.prog X.w) X.A (D_ a X.env) (fun v oW=>AS (AX X.prog X.w) X.A (D_ b X.env) (fun u qV=>AS (AX X.prog X.w) X.A (Lo op v u) (EP X pX Y Q) X.xe qV) X.xe oW) X.xe s
inductive tB_ (Q:(Bool->Hp->Prop))(x:V)(H1:Hp):Prop
|mk (c:_)(_:x=.bl c)(_:Q c H1)
def tB (t:TE):TT:=fun Y H Q=>t Y H fun x H1=>tB_ Q x H1
def wO (h:PC X op a b t)(h1:X1 op b=false:=by first|exact nobehind _ dL dL|rfl):PT X (.Compare a [op] [b] pos) (tB t):=by
 intro pX s Y H Q I hw;refine wpAny_isTrue_Compare1 (cK (h pX s Y H _ I hw) fun v s1 h1=>cK h1 fun u s2 h2=>cK h2 fun c s3 ⟨x,H1,I1,r1,q1⟩=>?_) h1;obtain ⟨d,rfl,q⟩:=q1;cases r1;exact S5 ⟨H1,I1,q⟩
def fg (h:PE X e t)(he:∀whole,isTrue e X.env whole=(do let v <- whole;standAt e.pos;holding [v] (truthy v)):=by intro _;rfl):PT X e (tB t):=by
 intro pX s Y H Q I hw;refine isTrue_plain (cK (h pX s Y H _ I hw) fun v s1 ⟨x,H1,I1,r1,q1⟩=>?_) (he _);obtain ⟨d,rfl,q⟩:=q1;cases r1;exact S5 ⟨H1,I1,q⟩
variable {tA tB':TT}{rest:Ε}
def ahs (t u:TT):TT:=fun Y H Q=>t Y H fun c H1=>if c=true then u Y H1 Q else Q false H1
def tOr (t u:TT):TT:=fun Y H Q=>t Y H fun c H1=>if c=true then Q true H1 else u Y H1 Q
def aht (t:TT):TT:=fun Y H Q=>t Y H fun c H1=>Q (!c) H1
def ah0 (ha:PT X a tA):PW X (.BoolOp .And [a] pos) tA:=by
 intro wh pX s Y H Q I h;refine isTrue_and (cK (ha pX s Y H Q I h) fun c s1 e=>?_);cases c with
 | true=>exact isTrue_and_nil e
 | false=>exact e
def jZ (ha:PT X a tA):PW X (.BoolOp .Or [a] pos) tA:=by
 intro wh pX s Y H Q I h;refine isTrue_or (cK (ha pX s Y H Q I h) fun c s1 e=>?_);cases c with
 | false=>exact isTrue_or_nil e
 | true=>exact e
def N9 (ha:PT X a tA)(hb:PW X (.BoolOp .And (b::rest) pos) tB'):PW X (.BoolOp .And (a::b::rest) pos) (ahs tA tB'):=by
 intro wh pX s Y H Q I h;refine isTrue_and (cK (ha pX s Y H _ I h) fun c s1 ⟨H1,I1,q1⟩=>?_);cases c with
 | true=>exact hb wh pX s1 Y H1 Q I1 q1
 | false=>show ⟨H1,I1,q1⟩
def j0 (ha:PT X a tA)(hb:PW X (.BoolOp .Or (b::rest) pos) tB'):PW X (.BoolOp .Or (a::b::rest) pos) (tOr tA tB'):=by
 intro wh pX s Y H Q I h;refine isTrue_or (cK (ha pX s Y H _ I h) fun c s1 ⟨H1,I1,q1⟩=>?_);cases c with
 | true=>show ⟨H1,I1,q1⟩
 | false=>exact hb wh pX s1 Y H1 Q I1 q1
def iU (ha:PT X a tA):PT X (.UnaryOp .Not a pos) (aht tA):=by
 intro pX s Y H Q I h;exact isTrue_not (ha pX s Y H (fun c H1=>Q (!c) H1) I h)
def zv4 (ta tb:TE):TE:=fun Y H Q=>ta Y H fun x H1=>∃c,x=.bl c/\if c=true then tb Y H1 Q else Q (.bl false) H1
def ahu (ta tb:TE):TE:=fun Y H Q=>ta Y H fun x H1=>∃c,x=.bl c/\if c=true then Q (.bl true) H1 else tb Y H1 Q
inductive N_ (Q:VK)(x:V)(H1:Hp):Prop
|mk (c:_)(_:x=.bl c)(_:Q (.bl (!c)) H1)
def zv3 (ta:TE):TE:=fun Y H Q=>ta Y H fun x H1=>N_ Q x H1
def DS (h:PE X a t):PE X (.BoolOp op [a] pos) t:=fun pX s Y H Q I hw=>BoolOp_one (h pX s Y H Q I hw)
def N' (ha:PE X a ta)(hb:PE X (.BoolOp .And (b::rest) pos) tb):PE X (.BoolOp .And (a::b::rest) pos) (zv4 ta tb):=by
 intro pX s Y H Q I h;refine BoolOp_and (cK (ha pX s Y H _ I h) fun v s1 ⟨x,H1,I1,r1,q1⟩=>?_);obtain ⟨c,rfl,q1⟩:=q1;cases r1;refine S5 ?_;cases c with
 | true=>exact hb pX s1 Y H1 Q I1 q1
 | false=>show ⟨.bl false,H1,I1,rfl,q1⟩
def aff (ha:PE X a ta)(hb:PE X (.BoolOp .Or (b::rest) pos) tb):PE X (.BoolOp .Or (a::b::rest) pos) (ahu ta tb):=by
 intro pX s Y H Q I h;refine BoolOp_or (cK (ha pX s Y H _ I h) fun v s1 ⟨x,H1,I1,r1,q1⟩=>?_);obtain ⟨c,rfl,q1⟩:=q1;cases r1;refine S5 ?_;cases c with
 | false=>exact hb pX s1 Y H1 Q I1 q1
 | true=>show ⟨.bl true,H1,I1,rfl,q1⟩
def Oa (ha:PE X a ta):PE X (.UnaryOp .Not a pos) (zv3 ta):=by
 intro pX s Y H Q I h;refine UnaryOp_ (cK (ha pX s Y H _ I h) fun v s1 ⟨x,H1,I1,r1,q1⟩=>?_);obtain ⟨c,rfl,q1⟩:=q1;cases r1;exact not_of (S5 ⟨.bl (!c),H1,I1,rfl,q1⟩)
def tIf (t:TT)(ta tb:TE):TE:=fun Y H Q=>t Y H fun c H1=>if c=true then ta Y H1 Q else tb Y H1 Q
def yW (hc:PT X c tA)(ha:PE X a ta)(hb:PE X b tb):PE X (.IfExp c a b pos) (tIf tA ta tb):=by
 intro pX s Y H Q I h;refine wpAny_IfExp (cK (hc pX s Y H _ I h) fun d s1 ⟨H1,I1,q1⟩=>?_);cases d with
 | true=>exact ha pX s1 Y H1 Q I1 q1
 | false=>exact hb pX s1 Y H1 Q I1 q1
end
def aR (K:Frag)(H:Hp)(a:AF)(xs:η):Prop:=
 Rd H a (.lst xs)\/
  ∃(o:Obj)(AP:Λ)(n:Nat),K.lookup a=some o/\o.cls=.type "list"/\o.dict=none/\o.data=.seq AP n/\AP.size<=AZ/\Vals xs AP.toList
def bE (K:Frag)(H:Hp)(a:AF)(xs:η):Prop:=
 Rd H a (.tup xs)\/
  ∃(o:Obj)(AP:Λ)(n:Nat),K.lookup a=some o/\o.cls=.type "tuple"/\o.data=.seq AP n/\AP.size<=AZ/\Vals xs AP.toList
def ahv:Value->Option V
 | .none=>some .dc
 | .bool b=>some (.bl b)
 | .int i _=>some (.int i)
 | .str x _=>some (.str x)
 | .bytes b _=>some (.uR b)
 | .float b _=>some (.WN b)
 | .ref a=>some (.ref a)
 | .type n=>some (.ty n)
 | _=>none
def RelV.abs (r:RelV x u):ahv u=some x:=by
 cases x with
 | dc=>cases r;rfl
 | bl _=>cases r;rfl
 | int _=>obtain ⟨t,rfl⟩:=r;rfl
 | str _=>obtain ⟨t,rfl⟩:=r;rfl
 | uR _=>obtain ⟨t,rfl⟩:=r;rfl
 | WN _=>obtain ⟨t,rfl⟩:=r;rfl
 | ref _=>cases r;rfl
 | ty _=>cases r;rfl
def RelV.inj (r:RelV x u)(q:RelV y u):x=y:=GU (r.abs.symm.trans q.abs)
theorem Vals.inj:∀{xs ys:η} {us:ρ},Vals xs us->Vals ys us->xs=ys
 | _,_,_,.nil,.nil=>rfl
 | _,_,_,.cons r t,.cons r' t'=>by rw [r.inj r',Vals.inj t t']
section
variable {X:Cx}{pX:ε}{Y:St}{H:Hp}{s:BN}{a:AF}{xs ys:η}
def aR.of {K:Frag}(h:H a=some (.lst xs)):aR K H a xs:=.inl (.inl h)
def bE.of {K:Frag}(h:H a=some (.tup xs)):bE K H a xs:=.inl (.inl h)
def Inv.list (I:Inv X pX Y H s)(h:aR X.K H a xs):∃AP:List Value,Vals xs AP/\PlainL s.heap a AP.toArray/\xs.length<=AZ:=by
 rcases h with h|⟨o,AP,n,hk,hc,hd,hs,hz,r⟩
 ·obtain ⟨z,AP,n,r,e⟩:=h.ok I.bJ
  show ⟨AP,r,⟨_,n,e,rfl,rfl,rfl⟩,z⟩
 ·show ⟨AP.toList,r,⟨o,n,I.mC a o hk,hc,hd,by simpa using hs⟩,?_⟩
  let e:=r.length;simp only [ah5] at e;omega
def Inv.tuple (I:Inv X pX Y H s)(h:bE X.K H a xs):∃AP:List Value,Vals xs AP/\IsTup s.heap a AP.toArray/\xs.length<=AZ:=by
 rcases h with h|⟨o,AP,n,hk,hc,hs,hz,r⟩
 ·obtain ⟨z,AP,r,p⟩:=h.ok I.bJ
  show ⟨AP,r,p,z⟩
 ·show ⟨AP.toList,r,⟨o,I.mC a o hk,hc,n,by simpa using hs⟩,?_⟩
  let e:=r.length;simp only [ah5] at e;omega
def Inv.i_ (I:Inv X pX Y H s)(h:aR X.K H a xs)(h':aR X.K H a ys):xs=ys:=by
 obtain ⟨AP,r,⟨o,n,e,_,_,d⟩,_⟩:=I.list h;obtain ⟨qR,r',⟨o',n',e',_,_,d'⟩,_⟩:=I.list h';erw [e] at e';rw [d] at d';injection d' with d1 _
 have:AP=qR:=by simpa using pj ao_ d1
 subst this;exact r.inj r'
def Inv.vJ (I:Inv X pX Y H s)(h:bE X.K H a xs)(h':bE X.K H a ys):xs=ys:=by
 obtain ⟨AP,r,⟨o,e,_,n,d⟩,_⟩:=I.tuple h;obtain ⟨qR,r',⟨o',e',_,n',d'⟩,_⟩:=I.tuple h';erw [e] at e';rw [d] at d';injection d' with d1 _
 have:AP=qR:=by simpa using pj ao_ d1
 subst this;exact r.inj r'
end
abbrev Cx.u9 (X:Cx)(E:δ):Cx:={X with xe:=E}
abbrev Cx.yO (X:Cx):Cx:=X.u9 fun _ _=>False
theorem Cx.Ok.u9 {X:Cx}(ok:X.Ok)(E:δ):(X.u9 E).Ok:=
 ⟨ok.mod,ok.kind,ok.glob,ok.blt,ok.above,ok.inj,ok.has,ok.ZV,ok.hd,ok.frames,ok.stk,ok.exf,ok.bs,ok.So,ok.N8,ok.Sq,ok.qW,ok.WR⟩
def Cx.Ok.j6 {X:Cx}(ok:(X.u9 E).Ok):X.Ok:=
 ⟨ok.mod,ok.kind,ok.glob,ok.blt,ok.above,ok.inj,ok.has,ok.ZV,ok.hd,ok.frames,ok.stk,ok.exf,ok.bs,ok.So,ok.N8,ok.Sq,ok.qW,ok.WR⟩
section
variable {X:Cx}{pX:ε}{Y:St}{H:Hp}{s:BN}{E:δ}
theorem Inv.u9 (I:Inv X pX Y H s)(E:δ):Inv (X.u9 E) pX Y H s:=⟨I.ok.u9 E,I.os,I.bare,I.iT,I.loc,I.cell,I.free,I.i9,I.pin,I.bJ,I.len⟩
theorem Inv.j6 (I:Inv (X.u9 E) pX Y H s):Inv X pX Y H s:=⟨I.ok.j6,I.os,I.bare,I.iT,I.loc,I.cell,I.free,I.i9,I.pin,I.bJ,I.len⟩
theorem SP.j6 (h:SP (X.u9 E) pX D f s'):SP X pX D f s':=by
 cases f with
 | next=>obtain ⟨Y',H',I,q⟩:=h;show ⟨Y',H',I.j6,q⟩
 | brk=>obtain ⟨Y',H',I,q⟩:=h;show ⟨Y',H',I.j6,q⟩
 | cont=>obtain ⟨Y',H',I,q⟩:=h;show ⟨Y',H',I.j6,q⟩
 | ret u=>obtain ⟨v,Y',H',I,r,q⟩:=h;show ⟨v,Y',H',I.j6,r,q⟩
theorem rj.yO {st:List Stmt}(h:rj X.yO st t):rj X st t:=fun pX s Y H D I hw=>
 Lj (h pX s Y H D (I.u9 _) hw) (fun _ _ q=>q.j6) fun _ _ z=>False.elim z
end
section
variable {X:Cx}{st:Stmt}{rest:List Stmt}{t u:TS}{e:Expr}{te:TE}{pos:Pos}
def aev:TS:=fun D Y H=>D.nx Y H
def oX (t u:TS):TS:=fun D Y H=>t {D with nx:=u D} Y H
def aX:rj X [] aev:=fun _ _ Y H _ I h=>xM ⟨Y,H,I,h⟩
def aa (h1:PS X st t)(h2:rj X rest u):rj X (st::rest) (oX t u):=by
 intro pX s Y H D I h;refine wpAny_execs_cons (cK (h1 pX s Y H {D with nx:=u D} I h) fun f s1 q=>?_);cases f with
 | next=>
  obtain ⟨Y',H',I',q⟩:=q;exact h2 pX s1 Y' H' D I' q
 | ret v=>exact q
 | brk=>exact q
 | cont=>exact q
def ag (h1:PS X st t):rj X [st] t:=by
 intro pX s Y H D I h;refine wpAny_execs_cons (cK (h1 pX s Y H D I h) fun f s1 q=>?_);cases f with
 | next=>exact xM q
 | ret v=>exact q
 | brk=>exact q
 | cont=>exact q
def aeo:TS:=fun D Y H=>D.ct Y H
def ajb:PS X (.Continue pos) aeo:=fun _ _ Y H _ I h=>wpAny_Continue ⟨Y,H,I,h⟩
def Inv.quiet {Y:St}(I:Inv X pX Y H s):interactive X.env=false:=by simp [interactive,I.ok.kind]
def aeJ (te:TE):TS:=fun D Y H=>te Y H fun _ H1=>D.nx Y H1
def b_ (he:PE X e te)(hs:S0 e none pos.line X.env=pure false:=by rfl):PS X (.Expr e pos) (aeJ te):=by
 intro pX s Y H D I h;exact wpAny_Expr_any (cK (he pX s Y H _ I h) fun v s1 ⟨x,H1,I1,r1,q1⟩=>⟨Y,H1,I1,q1⟩) I.quiet hs
def ahw (te:TE):TS:=fun D Y H=>te Y H D.rt
def aF (he:PE X e te):PS X (.Return (some e) pos) (ahw te):=by
 intro pX s Y H D I h;exact wpAny_Return_some (cK (he pX s Y H _ I h) fun v s1 ⟨x,H1,I1,r1,q1⟩=>⟨x,Y,H1,I1,r1,q1⟩)
def ahx (c:TT)(t u:TS):TS:=fun D Y H=>c Y H fun b H1=>if b=true then t D Y H1 else u D Y H1
def bF (hc:PT X c tc)(ha:rj X a t)(hb:rj X b u):PS X (.If c a b pos) (ahx tc t u):=by
 intro pX s Y H D I h;refine wpAny_If (cK (hc pX s Y H _ I h) fun d s1 ⟨H1,I1,q1⟩=>?_);cases d with
 | true=>exact ha pX s1 Y H1 D I1 q1
 | false=>exact hb pX s1 Y H1 D I1 q1
def agP:TS:=fun _ _ _=>False
def dm:PS X st agP:=fun _ _ _ _ _ _ h=>h.elim
end
abbrev TG:=V->St->Hp->(St->Hp->Prop)->Prop
abbrev Vy:=List V->St->Hp->(St->Hp->Prop)->Prop
def PG (X:Cx)(target:Expr)(t:TG):Prop:=
 ∀(pX:ε)(s:BN)(Y:St)(H:Hp)(v:V)(u:Value)(Q:St->Hp->Prop),Inv X pX Y H s->RelV v u->t v Y H Q->
  AS (AX X.prog X.w) X.A (assign target X.env u) (fun _ s'=>∃Y' H',Inv X pX Y' H' s'/\Q Y' H') X.xe s
def α5 (X:Cx)(ts:Ε)(t:Vy):Prop:=
 ∀(pX:ε)(s:BN)(Y:St)(H:Hp)(vs:η)(us:ρ)(Q:St->Hp->Prop),Inv X pX Y H s->Vals vs us->t vs Y H Q->
  AS (AX X.prog X.w) X.A (assignInOrder ((T1 ts X.env).map (·.2)) us) (fun _ s'=>∃Y' H',Inv X pX Y' H' s'/\Q Y' H') X.xe s
abbrev WU:=V->V->V->Hp->(Hp->Prop)->Prop
def α6 (X:Cx)(t:WU):Prop:=
 ∀(pX:ε)(s:BN)(Y:St)(H:Hp)(o i v:V)(ov iv u:Value)(Q:Hp->Prop),Inv X pX Y H s->RelV o ov->RelV i iv->RelV v u->t o i v H Q->
  AS (AX X.prog X.w) X.A (setItem ov iv u) (fun _ s'=>∃H',Inv X pX Y H' s'/\Q H') X.xe s
section
variable {X:Cx}{pos:Pos}
def cy (i:Nat):TG:=fun v Y H Q=>Q (Y.set i (some v)) H
def gN (hN:X.N.Nodup)(hi:X.N[i]?=some x)(hx:Loc X.env.scope x)(hf:X.fn x=true\/X.env.scope.names.lookup x=some .local:=by first|exact .inl rfl|exact .inr rfl|assumption):PG X (.Name x pos) (cy i):=by
 intro pX s Y H v u Q I r h;exact wpAny_assign_Name (nj I hN hi hx r (fun s' I'=>⟨_,H,I',h⟩) hf)
def WV:Vy:=fun vs Y H Q=>vs=[]/\Q Y H
def yY (t:TG)(u:Vy):Vy:=fun vs Y H Q=>∃v r,vs=v::r/\t v Y H fun Y' H'=>u r Y' H' Q
def df:α5 X [] WV:=by
 intro pX s Y H vs us Q I r h;obtain ⟨e,h⟩:=h;subst e;cases r;exact assignInOrder_nil ⟨Y,H,I,h⟩
def aY (h1:PG X e t)(h2:α5 X es u)
  (hs:(T1 (e::es) X.env).map (·.2)=assign e X.env::(T1 es X.env).map (·.2):=by rfl):α5 X (e::es) (yY t u):=by
 intro pX s Y H vs us Q I r h;obtain ⟨v,vr,e1,h⟩:=h;subst e1;cases r with
 | cons r rr=>
  rw [hs];refine assignInOrder_cons (cK (h1 pX s Y H _ _ _ I r h) fun _ s1 ⟨Y1,H1,I1,q1⟩=>?_);exact h2 pX s1 Y1 H1 _ _ Q I1 rr q1
inductive Ob (K:Frag)(n:Nat)(t:Vy)(v:V)(Y:St)(H:Hp)(Q:(St->Hp->Prop)):Prop
|mk (a xs:_)(_:v=.ref a)(_:bE K H a xs)(_:xs.length=n)(_:t xs Y H Q)
def fL {k:Nat}(hc:X.calm=true)(h:α5 X es t)
  (hn:(T1 es X.env).length=n:=by rfl) (Sw:(T1 es X.env).findIdx? (·.1)=none:=by rfl):PG X (.Tuple es k pos) (Ob X.K n t):=by
 intro pX s Y H v u Q I r hw;obtain ⟨a,xs,e1,hq,hl,hw⟩:=hw;subst e1;cases r;obtain ⟨AP,rv,ht,hz⟩:=I.tuple hq;refine assign_Tuple_tuple (I.ok.hd hc) ht (by simp [hn,<-hl,rv.length]) Sw fun h' hx=>?_;let I1:Inv X pX Y H {s with heap:=h'}:=I.kept (t':=s.toks) fun b o e=>hx b o (LO (EF e)) e;exact h pX _ Y H xs _ Q I1 (by simpa using rv) hw
def ahy (to ti:TE)(t:WU):TG:=fun v Y H Q=>to Y H fun o H1=>ti Y H1 fun i H2=>t o i v H2 fun H3=>Q Y H3
def rX (ho:PE X o to)(hi:PE X i ti)(hs:α6 X t)
  (ha:∀v,assign (.Subscript o i pos) X.env v=(do
   let ov <- holding [v] (D_ o X.env);let iv <- holding [v,ov] (D_ i X.env)
   standAt pos
   holding [v,ov,iv] (setItem ov iv v)
   release [v,ov,iv] []):=by intro _;rfl):PG X (.Subscript o i pos) (ahy to ti t):=by
 intro pX s Y H v u Q I r h;rw [ha];refine AO (OK (cK (ho pX s Y H _ I h) fun ov s1 ⟨x,H1,I1,r1,q1⟩=>?_));refine AO (OK (cK (hi pX s1 Y H1 _ I1 q1) fun iv s2 ⟨y,H2,I2,r2,q2⟩=>?_));refine AO (wpAny_standAt (AO (OK (cK (hs pX s2 Y H2 x y v ov iv u _ I2 r1 r2 r q2) fun _ s3 ⟨H3,I3,q3⟩=>?_))));exact wpAny_release ⟨Y,H3,I3,q3⟩
def DT (te:TE)(g:TG):TS:=fun D Y H=>te Y H fun x H1=>g x Y H1 D.nx
def mD (he:PE X e te)(hg:PG X tg g)(hs:swapsWithSole [tg] e pos.line X.env=pure false:=by rfl)(hw:swappedStores [tg] e X.env=pure none:=by rfl)
  (h1:(T1 [tg] X.env).map (·.2)=[assign tg X.env]:=by rfl):PS X (.Assign [tg] e pos) (DT te g):=by
 intro pX s Y H D I h;refine wpAny_Assign_stores (cK (he pX s Y H _ I h) fun v s1 ⟨x,H1,I1,r1,q1⟩=>?_) hs hw;rw [h1];exact cK (hg pX s1 Y H1 x v _ I1 r1 q1) fun _ s2 q=>q
def agK (hN:X.N.Nodup)(hi:X.N[i]?=some x)(hx:Loc X.env.scope x)(he:PE X e te)(hs:S0 e (some (.Name x pos')) pos.line X.env=pure false:=by rfl)(hf:X.fn x=true\/X.env.scope.names.lookup x=some .local:=by first|exact .inl rfl|exact .inr rfl|assumption):
  PS X (.Assign [.Name x pos'] e pos) (DT te (cy i)):=by
 intro pX s Y H D I h;refine wpAny_Assign_Name (cK (he pX s Y H _ I h) fun v s1 ⟨y,H1,I1,r1,q1⟩=>?_) hs;exact nj I1 hN hi hx r1 (fun s2 I2=>⟨_,H1,I2,q1⟩) hf
inductive Vz (i:Nat)(j:Nat)(D:Ends)(Y:St)(vs:η)(H1:Hp):Prop
|mk (v w:_)(_:vs=[v,w])(_:D.nx ((Y.set i (some v)).set j (some w)) H1)
def ahz (i j:Nat)(ta:TA):TS:=fun D Y H=>ta Y H fun vs H1=>Vz i j D Y vs H1
def agF (hc:X.calm=true)(hN:X.N.Nodup)(hi:X.N[i]?=some x)(hj:X.N[j]?=some y)(hij:i≠j)
  (hx:X.env.scope.names.lookup x=some .local) (hy:X.env.scope.names.lookup y=some .local) (ha:PA X [a,b] ta)
  (hw:swappedStores [.Tuple [.Name x px,.Name y py] kt pt] (.Tuple [a,b] k2 pt2) X.env=pure (some [x,y]))
  (hs:swapsWithSole [.Tuple [.Name x px,.Name y py] kt pt] (.Tuple [a,b] k2 pt2) pos.line X.env=pure false:=by rfl):
  PS X (.Assign [.Tuple [.Name x px,.Name y py] kt pt] (.Tuple [a,b] k2 pt2) pos) (ahz i j ta):=by
 intro pX s Y H D I h;rw [exec_Assign_arm];refine AO (wpAny_standAt ?_);rw [hs];refine AO (DY ?_);rw [ni dL];refine AO (Tuple_ (cK (ha _ pX s Y H _ I h) fun us s1 ⟨vs,H1,I1,r1,q1⟩=>?_));obtain ⟨v,w,e1,q1⟩:=q1;subst e1
 obtain ⟨u1,u2,rfl,rv,u_⟩:∃u1 u2,us=[u1,u2]/\RelV v u1/\RelV w u2:=by
  cases r1 with
  | cons p q=>
   cases q with
   | cons p' q'=>
    cases q';show ⟨_,_,rfl,p,p'⟩
 refine T9 ?_ (by show 2<=AZ;decide);let I2:Inv X pX Y H1 {s1 with heap:=s1.heap.push {cls:=.type "tuple",data:=.seq [u1,u2].toArray}}:=I1.kept (t':=s1.toks) fun b o e=>FK _ e;rw [hw];refine AO (DY ?_);show AS (AX X.prog X.w) X.A (do rule "assign.swapped-stores";let items <- unpackItems (.ref s1.heap.objs.size) 2 none;assignInOrder [fun v=>bindName X.env y v,fun v=>bindName X.env x v] items.reverse;pure Flow.next) _ _ _;refine AO (wpAny_rule (AO (unpackItems_tuple (items:= #[u1,u2]) (I.ok.hd hc) (IsTup.new s1.heap _) fun h' Rl =>?_)));let I3:=I2.kept (h':=h') (t':=s1.toks) fun b o e=>Rl b o (LO (EF e)) e;show AS _ _ (assignInOrder [fun v=>bindName X.env y v,fun v=>bindName X.env x v] [u2,u1] >>=fun _=>pure Flow.next) _ _ _;refine AO (assignInOrder_cons (wpAny_bindName (nj I3 hN hj (.inl hy) u_ (fun s2 I4=>?_) (.inr hy))));refine assignInOrder_cons (wpAny_bindName (nj I4 hN hi (.inl hx) rv (fun s3 I5=>assignInOrder_nil (DY ?_)) (.inr hx)));rw [List.set_comm _ _ (FT hij)] at I5;show ⟨_,H1,I5,q1⟩
def Oc (c:TT)(tb:TS):TS:=fun D Y H=>∃W:Nat->St->Hp->Prop,(∃m,W m Y H)/\∀m Y H,W m Y H->
 c Y H fun b H1=>if b=true then ∃N:St->Hp->Prop,(∀Y' H',N Y' H' ->∃m',m'<m/\W m' Y' H')/\tb {D with nx:=N,ct:=N,bk:=D.nx} Y H1 else D.nx Y H1
def yZ (hp:PassesOwn (AX X.prog X.w) X.A X.env X.xe)(hc:PT X c tc)(hb:rj X body tb):PS X (.While c body [] pos) (Oc tc tb):=by
 intro pX s Y H D I h;obtain ⟨W,⟨m0,w0⟩,turn⟩:=h;refine wpAny_While (codeAny_whileLoop (fun n s'=>∃Y' H',Inv X pX Y' H' s'/\W n Y' H') ?_ m0 ⟨Y,H,I,w0⟩);rintro n s1 ⟨Y1,H1,I1,w1⟩;refine Te hp (cK (hc pX s1 Y1 H1 _ I1 (turn n Y1 H1 w1)) fun b s2 ⟨H2,I2,q2⟩=>?_);cases b with
 | true=>
  obtain ⟨N,hN,q2⟩:=q2;rw [ox rfl];refine Te hp (cK (hb pX s2 Y1 H2 _ I2 q2) fun f s3 q3=>?_);cases f with
  | next=>
   obtain ⟨Y3,H3,I3,n3⟩:=q3;obtain ⟨m',hm,w3⟩:=hN Y3 H3 n3;show ⟨m',hm,Y3,H3,I3,w3⟩
  | cont=>
   obtain ⟨Y3,H3,I3,n3⟩:=q3;obtain ⟨m',hm,w3⟩:=hN Y3 H3 n3;show ⟨m',hm,Y3,H3,I3,w3⟩
  | brk=>exact q3
  | ret v=>exact q3
 | false=>
  rw [ni LM];exact xM ⟨Y1,H2,I2,q2⟩
end
structure It where
 go:Nat->Hp->Prop
 DU:Nat->Hp->V->Hp->Prop
 stop:Nat->Hp->Prop
def pC (X:Cx)(pX:ε)(H:Hp)(b:AF):Prop:=
 H b=none/\b≠X.env.locals/\b∉X.fs/\(b∈X.ex\/X.qP.heap.objs.size<=b)/\(∀x c,X.env.cells.lookup x=some c->c≠b)/\∀p∈X.pn++pX,p.1≠b
def Inv.nA {Y:St}{b:AF}(I:Inv X pX Y H s)(hb:s.heap.objs.size<=b)(hn:H' b=none):pC X pX H' b:=by
 show ⟨hn,SY (Lf I.lt hb),I.ahm hb,.inr (BJ I.sz hb),fun x c e z=>?_,fun p hp z=>?_⟩
 ·obtain ⟨v,q⟩:=I.cell x c e
  exact DZ (Lf q.lt (by rwa [z])) (Pm _)
 ·exact DZ (Lf (EF (I.pin p hp).1) (by rwa [z])) (Pm _)
structure Turn (P:FE)(w:World)(K:Frag)(tg:Expr)(J:It)(fp:χ)(it:AF)(tn:Nat->Heap->Prop):Prop where
 mem:it∈fp
 obj:∀i h,tn i h->∀b∈fp,∃o,h.get? b=some o/\∀v,o.data≠.cell v
 keep:∀i h h',tn i h->(∀b∈fp,∀o,h.get? b=some o->h'.get? b=some o)->tn i h'
 item:∀(X:Cx),X.prog=P->X.w=w->X.K=K->X.calm=true->∀(i:Nat)(pX:ε)(s:BN)(Y:St)(H:Hp)(E:δ),Inv X pX Y H s->(∀b∈fp,pC X pX H b)->tn i s.heap->J.go i H->
  AS (AX P w) X.A (Nn (.ref it)) (fun r s1=>∃u,r=some u/\
   AS (AX P w) X.A (xH tg (.ref it) u) (fun _ s2=>∃x H',Inv X pX Y H' s2/\RelV x u/\J.DU i H x H'/\tn (i+1) s2.heap/\∀b∈fp,H' b=none) E s1) E s
 done:∀(X:Cx),X.prog=P->X.w=w->X.K=K->X.calm=true->∀(i:Nat)(pX:ε)(s:BN)(Y:St)(H:Hp)(E:δ),Inv X pX Y H s->(∀b∈fp,pC X pX H b)->tn i s.heap->J.stop i H->
  AS (AX P w) X.A (Nn (.ref it)) (fun r s1=>r=none/\Inv X pX Y H s1) E s
 self:∀(A:LF)(i:Nat)(s:BN)(Q:δ)(E:δ),tn i s.heap->Q (.ref it) s->AS (AX P w) A (pyIter (.ref it)) Q E s
abbrev TI:=St->Hp->(It->Hp->Prop)->Prop
def PIE (X:Cx)(pX:ε)(Y:St)(tg:Expr)(R:It->Hp->Prop)(itv:Value)(s2:BN):Prop:=
 ∃(it:AF)(fp:χ)(tn:Nat->Heap->Prop)(J:It)(H':Hp),itv=.ref it/\Inv X pX Y H' s2/\Turn X.prog X.w X.K tg J fp it tn/\tn 0 s2.heap/\(∀b∈fp,pC X pX H' b)/\R J H'
def PI (X:Cx)(tg iter:Expr)(wi:TI):Prop:=
 ∀(pX:ε)(s:BN)(Y:St)(H:Hp)(R:It->Hp->Prop),Inv X pX Y H s->wi Y H R->
  AS (AX X.prog X.w) X.A (D_ iter X.env) (fun v s1=>AS (AX X.prog X.w) X.A (pyIter v) (PIE X pX Y tg R) X.xe s1) X.xe s
def y4            (ho : s.heap.get? it = some o) (hc : o.cls = .type n) (hd : o.data = .fields vs)
    (hn : ["enumerate", "zip", "dict_itemiterator", "dict_reverseitemiterator", "odict_iterator", "itertools.zip_longest", "itertools.pairwise"].contains n = false) (hQ : Q () s) : AS M A (xH tg (.ref it) u) Q E s := by
  unfold xH
  cases tg<;>first
    | exact DY hQ
    | (cases u<;>first
        | exact DY hQ
        | (refine AO (wpAny_load ho ?_)
           rw [hc, hd];show AS M A (if (["enumerate", "zip", "dict_itemiterator", "dict_reverseitemiterator", "odict_iterator", "itertools.zip_longest", "itertools.pairwise"].contains n && vs[0]? == some (Ld _)) = true then _ else _) Q E s;rw [ni (by intro h; rw [hn, Bool.false_and] at h; cases h)]
           exact DY hQ))
def Sx (K:Frag)(a:AF):It:=
 ⟨fun i H=>∃xs x,aR K H a xs/\xs[i]?=some x,fun i H x H'=>H'=H/\∀xs,aR K H a xs->xs[i]?=some x,fun i H=>∃xs,aR K H a xs/\xs.length<=i⟩
def Zk (K:Frag)(a:AF):It:=
 ⟨fun i H=>∃xs x,bE K H a xs/\xs[i]?=some x,fun i H x H'=>H'=H/\∀xs,bE K H a xs->xs[i]?=some x,fun i H=>∃xs,bE K H a xs/\xs.length<=i⟩
def Sy (lo:Int)(n:Nat):It:=⟨fun i _=>i<n,fun i H x H'=>H'=H/\x=.int (lo+i),fun i _=>n<=i⟩
def aei {K:Frag}(a it:AF):Turn P w K tg (Sx K a) [it] it (fun i h=>h.IsListIter it a i) where
 mem:=by simp
 obj:=fun i h st b hb=>by
  let e:b=it:=by simpa using hb
  subst e;obtain ⟨o,e,c,d⟩:=st;show ⟨o,e,fun v z=>by erw [d] at z⟩
 keep:=fun i h h' st k=>st.at fun o e=>k it ga o e
 item:=by
  intro X hP hw hK hc i pX s Y H E I hf st hg;subst hP hw hK;obtain ⟨xs,x,hq,hx⟩:=hg;obtain ⟨AP,rv,p,hz⟩:=I.list hq;obtain ⟨u,hu,ru⟩:=rv.get hx;obtain ⟨f0,f1,f2,f3,f4,f5⟩:=hf it ga;refine wpAny_pyNext_list_item st p.isList (x:=u) (by simpa using hu) fun h' yP sb=>?_;let I1:Inv X pX Y H {s with heap:=h'}:=I.turned (t':=s.toks) (fun b o hb e=>(sb.2 b hb).trans e) f0 f1 f3 f4 f5;obtain ⟨o,e,c,d⟩:=id yP;show ⟨u,rfl,y4 (s:={s with heap:=h'}) e c d dL ⟨x,H,I1,ru,⟨rfl,fun ys hy=>by rwa [I.i_ hy hq]⟩,yP,fun b hb=>(hf b hb).1⟩⟩
 done:=by
  intro X hP hw hK hc i pX s Y H E I hf st hg;subst hP hw hK;obtain ⟨xs,hq,hx⟩:=hg;obtain ⟨AP,rv,p,hz⟩:=I.list hq;obtain ⟨f0,f1,f2,f3,f4,f5⟩:=hf it ga;let hl:=rv.length;exact wpAny_pyNext_list_end (I.ok.hd hc) st p.isList (by simp;omega) fun h' eb=>⟨rfl,I.turned (t':=s.toks) (fun b o hb e=>eb b o hb e) f0 f1 f3 f4 f5⟩
 self:=fun _ _ _ _ _ st h=>wpAny_pyIter_listiter st h
def aaf {K:Frag}(a it:AF):Turn P w K tg (Zk K a) [it] it (fun i h=>h.IsTupleIter it a i) where
 mem:=by simp
 obj:=fun i h st b hb=>by
  let e:b=it:=by simpa using hb
  subst e;obtain ⟨o,e,c,d⟩:=st;show ⟨o,e,fun v z=>by erw [d] at z⟩
 keep:=fun i h h' st k=>st.at fun o e=>k it ga o e
 item:=by
  intro X hP hw hK hc i pX s Y H E I hf st hg;subst hP hw hK;obtain ⟨xs,x,hq,hx⟩:=hg;obtain ⟨AP,rv,p,hz⟩:=I.tuple hq;obtain ⟨u,hu,ru⟩:=rv.get hx;obtain ⟨f0,f1,f2,f3,f4,f5⟩:=hf it ga;refine wpAny_pyNext_tuple_item st (show s.heap.IsTuple a AP.toArray from p) (x:=u) (by simpa using hu) fun h' yP sb=>?_;let I1:Inv X pX Y H {s with heap:=h'}:=I.turned (t':=s.toks) (fun b o hb e=>(sb.2 b hb).trans e) f0 f1 f3 f4 f5;obtain ⟨o,e,c,d⟩:=id yP;show ⟨u,rfl,y4 (s:={s with heap:=h'}) e c d dL ⟨x,H,I1,ru,⟨rfl,fun ys hy=>by rwa [I.vJ hy hq]⟩,yP,fun b hb=>(hf b hb).1⟩⟩
 done:=by
  intro X hP hw hK hc i pX s Y H E I hf st hg;subst hP hw hK;obtain ⟨xs,hq,hx⟩:=hg;obtain ⟨AP,rv,p,hz⟩:=I.tuple hq;obtain ⟨f0,f1,f2,f3,f4,f5⟩:=hf it ga;let hl:=rv.length;exact wpAny_pyNext_tuple_end (I.ok.hd hc) st (show s.heap.IsTuple a AP.toArray from p) (by simp;omega) fun h' eb=>⟨rfl,I.turned (t':=s.toks) (fun b o hb e=>eb b o hb e) f0 f1 f3 f4 f5⟩
 self:=fun _ _ _ _ _ st h=>wpAny_pyIter_tupleiter st h
def aac {K:Frag}(it:AF)(lo:Int)(n:Nat):Turn P w K tg (Sy lo n) [it] it (fun i h=>IsRangeIter h it (lo+(i:Nat)*1) ((n:Int)-(i:Nat)) 1) where
 mem:=by simp
 obj:=fun i h st b hb=>by
  let e:b=it:=by simpa using hb
  subst e
  show ⟨_,st,fun v z=>by
   let z':Data.fields _=Data.cell v:=z
   cases z'⟩
 keep:=fun i h h' st k=>k it ga _ st
 item:=by
  intro X hP hw hK hc i pX s Y H E I hf st hg;subst hP hw hK;obtain ⟨f0,f1,f2,f3,f4,f5⟩:=hf it ga;let W:=Walks.range (prog:=X.prog) (w:=X.w) (I.ok.hd hc) it lo 1 n;refine W.item i s _ _ hg st fun v h' tk hv yP kk=>?_;obtain ⟨t,rfl⟩:=hv;let I1:Inv X pX Y H {s with heap:=h',toks:=tk}:=I.turned (fun b o hb e=>kk b o (by simpa using hb) e) f0 f1 f3 f4 f5;show ⟨_,rfl,y4 (s:={s with heap:=h',toks:=tk}) (n:="range_iterator") yP rfl rfl dL ⟨.int (lo+i),H,I1,⟨t,?_⟩,⟨rfl,rfl⟩,yP,fun b hb=>(hf b hb).1⟩⟩;rw [Int.mul_one]
 done:=by
  intro X hP hw hK hc i pX s Y H E I hf st hg;subst hP hw hK;obtain ⟨f0,f1,f2,f3,f4,f5⟩:=hf it ga;exact wpAny_pyNext_range_end (I.ok.hd hc) st (by have:n<=i:=hg;omega) fun h' eb=>⟨rfl,I.turned (t':=s.toks) (fun b o hb e=>eb b o hb e) f0 f1 f3 f4 f5⟩
 self:=fun _ _ _ _ _ st h=>wpAny_pyIter_rangeiter st h
section
variable {X:Cx}{tg:Expr}
inductive Od (K:Frag)(R:(It->Hp->Prop))(x:V)(H1:Hp):Prop
|mk (a:_)(_:x=.ref a)(_:(∃xs,aR K H1 a xs))(_:R (Sx K a) H1)
def aeG (K:Frag)(tl:TE):TI:=fun Y H R=>tl Y H fun x H1=>Od K R x H1
inductive VA (K:Frag)(R:(It->Hp->Prop))(x:V)(H1:Hp):Prop
|mk (a:_)(_:x=.ref a)(_:(∃xs,bE K H1 a xs))(_:R (Zk K a) H1)
def ahC (K:Frag)(tl:TE):TI:=fun Y H R=>tl Y H fun x H1=>VA K R x H1
def bh (hl:PE X l tl):PI X tg l (aeG X.K tl):=by
 intro pX s Y H R I h;refine cK (hl pX s Y H _ I h) fun v s1 ⟨x,H1,I1,r1,q1⟩=>?_;obtain ⟨a,e,⟨xs,hq⟩,q⟩:=q1;subst e;cases r1;obtain ⟨AP,rv,p,hz⟩:=I1.list hq;refine zB p.isList ?_;show ⟨s1.heap.objs.size,[s1.heap.objs.size],_,_,H1,rfl,I1.kept (t':=s1.toks) fun b o e=>FK _ e,aei a _,⟨_,LL _ rfl,rfl,rfl⟩,fun b hb=>?_,q⟩;let e:b=s1.heap.objs.size:=by simpa using hb
 subst e;exact I1.nA (D' _) (I1.bJ.fresh (D' _))
def Oe (hl:PE X l tl):PI X tg l (ahC X.K tl):=by
 intro pX s Y H R I h;refine cK (hl pX s Y H _ I h) fun v s1 ⟨x,H1,I1,r1,q1⟩=>?_;obtain ⟨a,e,⟨xs,hq⟩,q⟩:=q1;subst e;cases r1;obtain ⟨AP,rv,p,hz⟩:=I1.tuple hq;refine wpAny_pyIter_tuple (show s1.heap.IsTuple a AP.toArray from p) ?_;show ⟨s1.heap.objs.size,[s1.heap.objs.size],_,_,H1,rfl,I1.kept (t':=s1.toks) fun b o e=>FK _ e,aaf a _,⟨_,LL _ rfl,rfl,rfl⟩,fun b hb=>?_,q⟩;let e:b=s1.heap.objs.size:=by simpa using hb
 subst e;exact I1.nA (D' _) (I1.bJ.fresh (D' _))
def ae_ {Y:St}{E:δ}{lo hi:Int}(I:Inv X pX Y H s)(h1: -(2^62)<=lo)(h2:lo<2^62)(h3: -(2^62)<=hi)(h4:hi<2^62)
  (q:R (Sy lo (hi-lo).toNat) H):AS (AX X.prog X.w) X.A (pyIter (.ref s.heap.objs.size)) (PIE X pX Y tg R) E {s with heap:=s.heap.push {cls:=.type "range",data:=.fields #[.int lo t,.int hi u,.int 1 v]},toks:=tk}:=by
 refine wpAny_pyIter_range (IsRange.new ..) (small_one h1 h2 h3 h4) ?_;let I1:Inv X pX Y H {s with heap:=s.heap.push {cls:=.type "range",data:=.fields #[.int lo t,.int hi u,.int 1 v]},toks:=tk}:=I.kept fun b o e=>FK _ e
 show ⟨(s.heap.push {cls:=.type "range",data:=.fields #[.int lo t,.int hi u,.int 1 v]}).objs.size,[(s.heap.push {cls:=.type "range",data:=.fields #[.int lo t,.int hi u,.int 1 v]}).objs.size],_,_,H,rfl,
  I1.kept (t':=tk) fun b o e=>FK _ e,aac _ lo (hi-lo).toNat,?_,fun b hb=>?_,q⟩
 ·let e1:lo+((0:Nat):Int)*1=lo:=by simp
  let e2:(((hi-lo).toNat:Nat):Int)-((0:Nat):Int)=Builtin.Range.rangeSize lo hi 1:=by rw [rangeSize_one];split<;>omega
  show IsRangeIter _ _ (lo+((0:Nat):Int)*1) ((((hi-lo).toNat:Nat):Int)-((0:Nat):Int)) 1;rw [e1,e2];exact LL _ rfl
 ·let e:b=(s.heap.push {cls:=.type "range",data:=.fields #[.int lo t,.int hi u,.int 1 v]}).objs.size:=by simpa using hb
  subst e;exact I1.nA (D' _) (I1.bJ.fresh (D' _))
inductive Og (R:(It->Hp->Prop))(vs:η)(H1:Hp):Prop
|mk (j:Int)(_:vs=[.int j])(_: -(2^62)<=j)(_:j<2^62)(_:R (Sy 0 j.toNat) H1)
def aeA (ta:TA):TI:=fun Y H R=>ta Y H fun vs H1=>Og R vs H1
def bB (hg:Gl X "range")(hm:X.mg "range"=none)(ha:PA X [a] ta)(hs:EC [a] X.env=[(false,D_ a X.env)]:=by rfl):PI X tg (.Call (.Name "range" p) [a] [] pos) (aeA ta):=by
 intro pX s Y H R I h;refine Call_ (jt I hg hm boot_range (To (cK (ha pos pX s Y H _ I h) fun us s1 ⟨vs,H1,I1,r1,q1⟩=>?_) hs rfl));obtain ⟨j,e,q1,q2,q⟩:=q1;subst e;cases r1 with
 | cons r rr=>
  cases rr;obtain ⟨t,rfl⟩:=r;exact call_range_1 (ae_ I1 ce ce q1 q2 (by simpa using q))
def ahD (wi:TI)(g:TG)(tb:TS):TS:=fun D Y H=>wi Y H fun J H1=>∃W:Nat->Nat->St->Hp->Prop,(∃m,W 0 m Y H1)/\∀i m Y H,W i m Y H->
 (J.stop i H/\D.nx Y H)\/(J.go i H/\∃N:St->Hp->Prop,(∀Y' H',N Y' H' ->∃m',m'<m/\W (i+1) m' Y' H')/\∀x H',J.DU i H x H' ->g x Y H' fun Y2 H2=>tb {D with nx:=N,ct:=N,bk:=D.nx} Y2 H2)
def rY (fp:χ)(h:Heap):List (AF×Obj):=fp.filterMap fun b=>(h.get? b).map fun o=>(b,o)
def ju (hb:b∈fp)(e:h.get? b=some o):(b,o)∈rY fp h:=aic.mpr ⟨b,hb,by rw [e];rfl⟩
def aeh (hp:p∈rY fp h):p.1∈fp/\h.get? p.1=some p.2:=by
 obtain ⟨b,hb,e⟩:=aic.mp hp;cases q:h.get? b with
 | none=>erw [q] at e
 | some o=>
  rw [q] at e;let e':(b,o)=p:=GU e;subst e';show ⟨hb,q⟩
def Inv.pinned {Y:St}(I:Inv X pX Y H s)(hf:∀b∈fp,pC X pX H b)(ho:∀b∈fp,∃o,s.heap.get? b=some o/\∀v,o.data≠.cell v):Inv X (pX++rY fp s.heap) Y H s:=
 I.H_ fun p hp=>(FR.mp hp).elim (fun z=>I.pin p (OL _ z)) fun z=>by
  obtain ⟨hb,e⟩:=aeh z;obtain ⟨f0,f1,f2,_⟩:=hf p.1 hb;obtain ⟨o,e',d⟩:=ho p.1 hb;erw [e] at e';show ⟨e,f0,f1,f2,d⟩
def Inv.j7 {Y:St}(I:Inv X (pX++pl) Y H s):Inv X pX Y H s:=I.H_ fun p hp=>I.pin p (OL _ (ON _ hp))
def ba (hp:PassesOwn (AX X.prog X.w) X.A X.env X.xe)(hc:X.calm=true)(hi:PI X tg iter wi)(hg:PG X tg g)(hb:rj X body tb)
  (hs:∀x,S4 iter X.env x=pure x:=by intro _;rfl):PS X (.For tg iter body [] pos) (ahD wi g tb):=by
 intro pX s Y H D I h;refine wpAny_For (cK (hi pX s Y H _ I h) fun v s1 h1=>cK h1 fun itv s2 h2=>?_) hs;obtain ⟨it,fp,tn,J,H2,e,I2,T,VB,f2,W,⟨m0,w0⟩,turn⟩:=h2;subst e;let stat:∀{H':Hp},(∀b∈fp,H' b=none)->∀b∈fp,pC X pX H' b:=fun hn b hb=>⟨hn b hb,(f2 b hb).2⟩;refine codeAny_forLoop_any (fun n s'=>∃i Y' H',Inv X pX Y' H' s'/\tn i s'.heap/\(∀b∈fp,H' b=none)/\W i n Y' H') ?_ m0 ⟨0,Y,H2,I2,VB,fun b hb=>(f2 b hb).1,w0⟩;rintro n s3 ⟨i,Y3,H3,I3,Zl,fr3,w3⟩
 rcases turn i n Y3 H3 w3 with ⟨stop,qn⟩|⟨go,N,hN,step⟩
 ·refine Te hp (cK (T.done X rfl rfl rfl hc i pX s3 Y3 H3 X.xe I3 (stat fr3) Zl stop) fun r s4 ⟨hr,I4⟩=>?_)
  subst hr;exact xM ⟨Y3,H3,I4,qn⟩
 ·refine Te hp (cK (T.item X rfl rfl rfl hc i pX s3 Y3 H3 X.xe I3 (stat fr3) Zl go) fun r s4 ⟨u,hr,h4⟩=>?_)
  subst hr;refine Te hp (cK h4 fun _ s5 ⟨x,H5,I5,r5,y5,Zm,VC⟩=>?_);let I5':=I5.pinned (stat VC) (T.obj _ _ Zm);refine Te hp (cK (hg _ s5 Y3 H5 x u _ I5' r5 (step x H5 y5)) fun _ s6 ⟨Y6,H6,I6,q6⟩=>?_);refine Te hp (cK (hb _ s6 Y6 H6 _ I6 q6) fun f s7 q7=>?_)
  let again:∀{Y7:St} {H7:Hp},Inv X (pX++rY fp s5.heap) Y7 H7 s7->N Y7 H7->∃m,m<n/\∃i Y' H',Inv X pX Y' H' s7/\tn i s7.heap/\(∀b∈fp,H' b=none)/\W i m Y' H':=fun {Y7 H7} I7 n7=>by
   obtain ⟨m',hm,w7⟩:=hN Y7 H7 n7;show ⟨m',hm,i+1,Y7,H7,I7.j7,T.keep _ _ _ Zm fun b hb o e=>(I7.pin (b,o) (OL _ (OL _ (ju hb e)))).1,fun b hb=>?_,w7⟩;obtain ⟨o,e,d⟩:=T.obj _ _ Zm b hb;exact (I7.pin (b,o) (OL _ (OL _ (ju hb e)))).2.1
  cases f with
  | next=>obtain ⟨Y7,H7,I7,n7⟩:=q7;exact again I7 n7
  | cont=>obtain ⟨Y7,H7,I7,n7⟩:=q7;exact again I7 n7
  | brk=>obtain ⟨Y7,H7,I7,q7⟩:=q7;show ⟨Y7,H7,I7.j7,q7⟩
  | ret v=>obtain ⟨x7,Y7,H7,I7,r7,q7⟩:=q7;show ⟨x7,Y7,H7,I7.j7,r7,q7⟩
end
def bP {K:Frag}{g:TG}{tb:TS}{D:Ends}(Pv:Nat->St->Hp->Prop)(h0:Pv 0 Y H)(hl:∀i Y H,i<=xs.length->Pv i Y H->aR K H a xs)
  (hs:∀i x Y H,xs[i]?=some x->Pv i Y H->g x Y H fun Y2 H2=>tb {D with nx:=Pv (i+1),ct:=Pv (i+1),bk:=D.nx} Y2 H2) (hd:∀Y H,Pv xs.length Y H->D.nx Y H):
  ∃W:Nat->Nat->St->Hp->Prop,(∃m,W 0 m Y H)/\∀i m Y H,W i m Y H->
   ((Sx K a).stop i H/\D.nx Y H)\/((Sx K a).go i H/\∃N:St->Hp->Prop,(∀Y' H',N Y' H' ->∃m',m'<m/\W (i+1) m' Y' H')/\∀x H',(Sx K a).DU i H x H' ->g x Y H' fun Y2 H2=>tb {D with nx:=N,ct:=N,bk:=D.nx} Y2 H2):=by
 show ⟨fun i m Y H=>m=xs.length-i/\i<=xs.length/\Pv i Y H,⟨xs.length,by simp,LS _,h0⟩,?_⟩;rintro i m Y H ⟨rfl,hi,p⟩;let q:=hl i Y H hi p;by_cases jU:i<xs.length
 ·refine .inr ⟨⟨xs,xs[i],q,by simp [jU]⟩,Pv (i+1),fun Y' H' p'=>⟨xs.length-(i+1),ce,rfl,jU,p'⟩,fun x H' y=>?_⟩
  obtain ⟨e,y⟩:=y;subst e;exact hs i x Y _ (y xs q) p
 ·let e:i=xs.length:=ce
  subst e;exact .inl ⟨⟨xs,q,D' _⟩,hd Y H p⟩
def zaj {K:Frag}{g:TG}{tb:TS}{D:Ends}(Pv:Nat->St->Hp->Prop)(h0:Pv 0 Y H)(hl:∀i Y H,i<=xs.length->Pv i Y H->bE K H a xs)
  (hs:∀i x Y H,xs[i]?=some x->Pv i Y H->g x Y H fun Y2 H2=>tb {D with nx:=Pv (i+1),ct:=Pv (i+1),bk:=D.nx} Y2 H2) (hd:∀Y H,Pv xs.length Y H->D.nx Y H):
  ∃W:Nat->Nat->St->Hp->Prop,(∃m,W 0 m Y H)/\∀i m Y H,W i m Y H->
   ((Zk K a).stop i H/\D.nx Y H)\/((Zk K a).go i H/\∃N:St->Hp->Prop,(∀Y' H',N Y' H' ->∃m',m'<m/\W (i+1) m' Y' H')/\∀x H',(Zk K a).DU i H x H' ->g x Y H' fun Y2 H2=>tb {D with nx:=N,ct:=N,bk:=D.nx} Y2 H2):=by
 show ⟨fun i m Y H=>m=xs.length-i/\i<=xs.length/\Pv i Y H,⟨xs.length,by simp,LS _,h0⟩,?_⟩;rintro i m Y H ⟨rfl,hi,p⟩;let q:=hl i Y H hi p;by_cases jU:i<xs.length
 ·refine .inr ⟨⟨xs,xs[i],q,by simp [jU]⟩,Pv (i+1),fun Y' H' p'=>⟨xs.length-(i+1),ce,rfl,jU,p'⟩,fun x H' y=>?_⟩
  obtain ⟨e,y⟩:=y;subst e;exact hs i x Y _ (y xs q) p
 ·let e:i=xs.length:=ce
  subst e;exact .inl ⟨⟨xs,q,D' _⟩,hd Y H p⟩
def cL {lo:Int}{g:TG}{tb:TS}{D:Ends}(Pv:Nat->St->Hp->Prop)(h0:Pv 0 Y H)
  (hs:∀i Y H,i<n->Pv i Y H->g (.int (lo+i)) Y H fun Y2 H2=>tb {D with nx:=Pv (i+1),ct:=Pv (i+1),bk:=D.nx} Y2 H2) (hd:∀Y H,Pv n Y H->D.nx Y H):
  ∃W:Nat->Nat->St->Hp->Prop,(∃m,W 0 m Y H)/\∀i m Y H,W i m Y H->
   ((Sy lo n).stop i H/\D.nx Y H)\/((Sy lo n).go i H/\∃N:St->Hp->Prop,(∀Y' H',N Y' H' ->∃m',m'<m/\W (i+1) m' Y' H')/\∀x H',(Sy lo n).DU i H x H' ->g x Y H' fun Y2 H2=>tb {D with nx:=N,ct:=N,bk:=D.nx} Y2 H2):=by
 show ⟨fun i m Y H=>m=n-i/\i<=n/\Pv i Y H,⟨n,by simp,LS _,h0⟩,?_⟩;rintro i m Y H ⟨rfl,hi,p⟩;by_cases jU:i<n
 ·refine .inr ⟨jU,Pv (i+1),fun Y' H' p'=>⟨n-(i+1),ce,rfl,jU,p'⟩,fun x H' y=>?_⟩
  obtain ⟨e,y⟩:=y;subst e y;exact hs i Y _ jU p
 ·let e:i=n:=ce
  subst e;exact .inl ⟨D' _,hd Y H p⟩
def y6 (Pv:St->Hp->Prop)(μ:St->Hp->Nat)(h0:Pv Y H)
  (hs:∀Y H,Pv Y H->c Y H fun b H1=>if b=true then tb {D with nx:=fun Y' H'=>Pv Y' H'/\μ Y' H' < μ Y H,ct:=fun Y' H'=>Pv Y' H'/\μ Y' H' < μ Y H,bk:=D.nx} Y H1 else D.nx Y H1)
  (mono:∀Y H Q Q',(∀b H1,Q b H1->Q' b H1)->c Y H Q->c Y H Q'):Oc c tb D Y H:=by
 show ⟨fun m Y H=>m=μ Y H/\Pv Y H,⟨_,rfl,h0⟩,?_⟩;rintro m Y H ⟨rfl,p⟩;refine mono Y H _ _ (fun b H1 q=>?_) (hs Y H p);cases b with
 | true=>show ⟨_,fun Y' H' ⟨p',l⟩=>⟨_,l,rfl,p'⟩,q⟩
 | false=>exact q
abbrev R2:=V->V->Hp->VK->Prop
def j8 (X:Cx)(f:Value->Value->Sem Value)(r:R2):Prop:=
 ∀(pX:ε)(s:BN)(Y:St)(H:Hp)(x y:V)(v u:Value)(Q:VK),Inv X pX Y H s->RelV x v->RelV y u->r x y H Q->
  AS (AX X.prog X.w) X.A (f v u) (EP X pX Y Q) X.xe s
def UnR (X:Cx)(f:Value->Sem Value)(r:V->Hp->VK->Prop):Prop:=
 ∀(pX:ε)(s:BN)(Y:St)(H:Hp)(x:V)(v:Value)(Q:VK),Inv X pX Y H s->RelV x v->r x H Q->
  AS (AX X.prog X.w) X.A (f v) (EP X pX Y Q) X.xe s
def ja (X:Cx)(f:Value)(r:List V->Hp->VK->Prop):Prop:=
 ∀(pX:ε)(s:BN)(Y:St)(H:Hp)(xs:η)(us:ρ)(Q:VK),Inv X pX Y H s->Vals xs us->r xs H Q->
  AS (AX X.prog X.w) X.A (call f us) (EP X pX Y Q) X.xe s
def SD (r:R2)(ta tb:TE):TE:=fun Y H Q=>ta Y H fun x H1=>tb Y H1 fun y H2=>r x y H2 Q
def tUn (r:V->Hp->VK->Prop)(ta:TE):TE:=fun Y H Q=>ta Y H fun x H1=>r x H1 Q
inductive rI (C:Int->Int->Prop)(g:Int->Int->V)(x:V)(y:V)(H:Hp)(Q:VK):Prop
|mk (i j:_)(_:x=.int i)(_:y=.int j)(_:C i j)(_:Q (g i j) H)
inductive SE (g:Int->Int->V)(x:V)(y:V)(H:Hp)(Q:VK):Prop
|mk (i j:_)(_:x=.int i)(_:y=.int j)(_:Q (g i j) H)
inductive rU (g:Int->V)(x:V)(H:Hp)(Q:VK):Prop
|mk (i:_)(_:x=.int i)(_:Q (g i) H)
section
variable {X:Cx}{a b c:Expr}{ta tb tc:TE}{pos:Pos}
def WY (ha:PE X a ta)(hb:PE X b tb){Y:St}{R:V->V->Hp->Prop}(I:Inv X pX Y H s)
  (h:ta Y H fun x H1=>tb Y H1 fun y H2=>R x y H2) {Q:δ} {f:Value->Value->Sem Value}
  (hf:∀v u s2 x y H2,Inv X pX Y H2 s2->RelV x v->RelV y u->R x y H2->AS (AX X.prog X.w) X.A (f v u) Q X.xe s2):
  AS (AX X.prog X.w) X.A (D_ a X.env) (fun v oW=>AS (AX X.prog X.w) X.A (D_ b X.env) (fun u qV=>AS (AX X.prog X.w) X.A (f v u) Q X.xe qV) X.xe oW) X.xe s:=by
 refine cK (ha pX s Y H _ I h) fun v s1 ⟨x,H1,I1,r1,q1⟩=>?_;refine cK (hb pX s1 Y H1 _ I1 q1) fun u s2 ⟨y,H2,I2,r2,q2⟩=>?_;exact hf v u s2 x y H2 I2 r1 r2 q2
def aw (ho:j8 X (O8 op) r)(ha:PE X a ta)(hb:PE X b tb):PE X (.BinOp a op b pos) (SD r ta tb):=by
 intro pX s Y H Q I h;exact wpAny_BinOp (WY ha hb I h fun v u s2 x y H2 I2 rx ry q=>ho pX s2 Y H2 x y v u Q I2 rx ry q)
def mh (ho:UnR X (unaryOp op) r)(ha:PE X a ta):PE X (.UnaryOp op a pos) (tUn r ta):=by
 intro pX s Y H Q I h;exact UnaryOp_ (cK (ha pX s Y H _ I h) fun v s1 ⟨x,H1,I1,r1,q1⟩=>ho pX s1 Y H1 x v Q I1 r1 q1)
def α9 {g:Int->Int->Int}
  (rule:∀(i j:Int)(t u:Tok)(s:BN)(Q:δ)(E:δ),C i j->Q (.int (g i j) s.toks) {s with toks:=s.toks+1}->AS (AX X.prog X.w) X.A (f (.int i t) (.int j u)) Q E s):
  j8 X f (rI C fun i j=>.int (g i j)):=by
 intro pX s Y H x y v u Q I rx ry h;obtain ⟨i,j,rfl,rfl,hc,q⟩:=h;obtain ⟨t,rfl⟩:=rx;obtain ⟨t',rfl⟩:=ry;exact rule i j t t' s _ _ hc ⟨.int (g i j),H,I.tok _,⟨_,rfl⟩,q⟩
def Z_ {g:Int->Int->Int}
  (rule:∀(i j:Int)(t u:Tok)(s:BN)(Q:δ)(E:δ),Q (.int (g i j) s.toks) {s with toks:=s.toks+1}->AS (AX X.prog X.w) X.A (f (.int i t) (.int j u)) Q E s):
  j8 X f (SE fun i j=>.int (g i j)):=by
 intro pX s Y H x y v u Q I rx ry h;obtain ⟨i,j,rfl,rfl,q⟩:=h;obtain ⟨t,rfl⟩:=rx;obtain ⟨t',rfl⟩:=ry;exact rule i j t t' s _ _ ⟨.int (g i j),H,I.tok _,⟨_,rfl⟩,q⟩
def SF {g:Int->Int->Bool}
  (rule:∀(i j:Int)(t u:Tok)(s:BN)(Q:δ)(E:δ),Q (.bool (g i j)) s->AS (AX X.prog X.w) X.A (f (.int i t) (.int j u)) Q E s):
  j8 X f (SE fun i j=>.bl (g i j)):=by
 intro pX s Y H x y v u Q I rx ry h;obtain ⟨i,j,rfl,rfl,q⟩:=h;obtain ⟨t,rfl⟩:=rx;obtain ⟨t',rfl⟩:=ry;exact rule i j t t' s _ _ ⟨.bl (g i j),H,I,rfl,q⟩
def SG (i j:Int):Prop:=0<=j/\j<=1000000/\i.natAbs<2^64
def bT:j8 X (O8 .Add) (SE fun i j=>.int (i+j)):=Z_ fun _ _ _ _ _ _ _ q=>add_int q
def fh:j8 X (O8 .Sub) (SE fun i j=>.int (i-j)):=Z_ fun _ _ _ _ _ _ _ q=>sub_int q
def zaf:j8 X (O8 .Mod) (rI (fun _ j=>j≠0) fun i j=>.int (i.fmod j)):=α9 fun _ _ _ _ _ _ _ hc q=>mod_int' hc q
def rZ:j8 X (O8 .Pow) (rI SG fun i j=>.int (i^j.toNat)):=α9 fun _ _ _ _ _ _ _ hc q=>pow_int_small hc.1 hc.2.1 hc.2.2 q
def unI {g:Int->Int}
  (rule:∀(i:Int)(t:Tok)(s:BN)(Q:δ)(E:δ),Q (.int (g i) s.toks) {s with toks:=s.toks+1}->AS (AX X.prog X.w) X.A (f (.int i t)) Q E s):
  UnR X f (rU fun i=>.int (g i)):=by
 intro pX s Y H x v Q I rx h;obtain ⟨i,rfl,q⟩:=h;obtain ⟨t,rfl⟩:=rx;exact rule i t s _ _ ⟨.int (g i),H,I.tok _,⟨_,rfl⟩,q⟩
def iV:UnR X (unaryOp .USub) (rU fun i=>.int (-i)):=unI fun _ _ _ _ _ q=>neg_int q
end
def α':V->V->Bool
 | .dc,.dc=>true | .dc,.int _=>true | .int _,.dc=>true | .dc,.bl _=>true | .bl _,.dc=>true | .dc,.str _=>true | .str _,.dc=>true
 | .int _,.int _=>true | .bl _,.bl _=>true | .str _,.str _=>true | .uR _,.uR _=>true
 | .int _,.str _=>true | .str _,.int _=>true | .bl _,.str _=>true | .str _,.bl _=>true
 | _,_=>false
def rEq:R2:=fun x y H Q=>α' x y=true/\Q (.bl (decide (x=y))) H
def rNe:R2:=fun x y H Q=>α' x y=true/\Q (.bl (!decide (x=y))) H
def ag_ :decide (V.int i=V.int j)=(i==j):=by
 rw [WM];simp
def Oh :decide (V.bl i=V.bl j)=(i==j):=by
 rw [WM];simp
def agV :decide (V.str i=V.str j)=(i==j):=by
 rw [WM];simp
def agU :decide (V.uR i=V.uR j)=(i.toList==j.toList):=by
 rw [WM];cases i;cases j;simp
section
variable {X:Cx}{a b c:Expr}{ta tb tc:TE}{pos:Pos}
def bK {Y:St}(I:Inv X pX Y H s)(q:Q (.bl k) H)(e:k=k'):EP X pX Y Q (.bool k') s:=by
 subst e;show ⟨.bl k,H,I,rfl,q⟩
def fk:j8 X (Lo .Eq) rEq:=by
 intro pX s Y H x y v u Q I rx ry h;obtain ⟨hs,q⟩:=h;cases x with
 | dc=>
  cases rx;cases y with
  | dc=>cases ry;exact PySem.EqNone.eq_none_none (bK I q ga)
  | bl j=>cases ry;exact PySem.EqNone.eq_none_bool (bK I q ga)
  | int j=>obtain ⟨t',rfl⟩:=ry;exact PySem.EqNone.eq_none_int (bK I q ga)
  | str j=>obtain ⟨t',rfl⟩:=ry;exact PySem.EqNone.eq_none_str (bK I q ga)
  | _=>exact DZ (show false=true from hs) LM
 | bl i=>
  cases rx;cases y with
  | dc=>cases ry;exact PySem.EqNone.eq_bool_none (bK I q ga)
  | bl j=>cases ry;exact eq_bool (bK I q Oh)
  | str j=>obtain ⟨t',rfl⟩:=ry;exact PySem.EqMixed.eq_bool_str (bK I q ga)
  | _=>exact DZ (show false=true from hs) LM
 | int i=>
  obtain ⟨t,rfl⟩:=rx;cases y with
  | dc=>cases ry;exact PySem.EqNone.eq_int_none (bK I q ga)
  | int j=>obtain ⟨t',rfl⟩:=ry;exact eq_int (bK I q ag_)
  | str j=>obtain ⟨t',rfl⟩:=ry;exact PySem.EqMixed.eq_int_str (bK I q ga)
  | _=>exact DZ (show false=true from hs) LM
 | str i=>
  obtain ⟨t,rfl⟩:=rx;cases y with
  | dc=>cases ry;exact PySem.EqNone.eq_str_none (bK I q ga)
  | bl j=>cases ry;exact PySem.EqMixed.eq_str_bool (bK I q ga)
  | int j=>obtain ⟨t',rfl⟩:=ry;exact PySem.EqMixed.eq_str_int (bK I q ga)
  | str j=>obtain ⟨t',rfl⟩:=ry;exact eq_str (bK I q agV)
  | _=>exact DZ (show false=true from hs) LM
 | uR i=>
  obtain ⟨t,rfl⟩:=rx;cases y with
  | uR j=>obtain ⟨t',rfl⟩:=ry;exact PySem.W.eq_bytes (bK I q agU)
  | _=>exact DZ (show false=true from hs) LM
 | _=>cases y<;>exact DZ (show false=true from hs) LM
def nE:j8 X (Lo .NotEq) rNe:=by
 intro pX s Y H x y v u Q I rx ry h;obtain ⟨hs,q⟩:=h;cases x with
 | dc=>
  cases rx;cases y with
  | dc=>cases ry;exact PySem.EqNone.ne_none_none (bK I q ga)
  | bl j=>cases ry;exact PySem.EqNone.ne_none_bool (bK I q ga)
  | int j=>obtain ⟨t',rfl⟩:=ry;exact PySem.EqNone.ne_none_int (bK I q ga)
  | str j=>obtain ⟨t',rfl⟩:=ry;exact PySem.EqNone.ne_none_str (bK I q ga)
  | _=>exact DZ (show false=true from hs) LM
 | bl i=>
  cases rx;cases y with
  | dc=>cases ry;exact PySem.EqNone.ne_bool_none (bK I q ga)
  | bl j=>cases ry;exact ne_bool (bK I q (pj not Oh))
  | str j=>obtain ⟨t',rfl⟩:=ry;exact PySem.EqMixed.ne_bool_str (bK I q ga)
  | _=>exact DZ (show false=true from hs) LM
 | int i=>
  obtain ⟨t,rfl⟩:=rx;cases y with
  | dc=>cases ry;exact PySem.EqNone.ne_int_none (bK I q ga)
  | int j=>obtain ⟨t',rfl⟩:=ry;exact ne_int (bK I q (pj not ag_))
  | str j=>obtain ⟨t',rfl⟩:=ry;exact PySem.EqMixed.ne_int_str (bK I q ga)
  | _=>exact DZ (show false=true from hs) LM
 | str i=>
  obtain ⟨t,rfl⟩:=rx;cases y with
  | dc=>cases ry;exact PySem.EqNone.ne_str_none (bK I q ga)
  | bl j=>cases ry;exact PySem.EqMixed.ne_str_bool (bK I q ga)
  | int j=>obtain ⟨t',rfl⟩:=ry;exact PySem.EqMixed.ne_str_int (bK I q ga)
  | str j=>obtain ⟨t',rfl⟩:=ry;exact ne_str (bK I q (pj not agV))
  | _=>exact DZ (show false=true from hs) LM
 | uR i=>
  obtain ⟨t,rfl⟩:=rx;cases y with
  | uR j=>obtain ⟨t',rfl⟩:=ry;exact PySem.W.ne_bytes (bK I q (pj not agU))
  | _=>exact DZ (show false=true from hs) LM
 | _=>cases y<;>exact DZ (show false=true from hs) LM
def IF:j8 X (Lo .Lt) (SE fun i j=>.bl (decide (i<j))):=SF fun _ _ _ _ _ _ _ q=>lt_int q
def Oi:j8 X (Lo .LtE) (SE fun i j=>.bl (decide (i<=j))):=SF fun _ _ _ _ _ _ _ q=>le_int q
def IG:j8 X (Lo .Gt) (SE fun i j=>.bl (decide (j<i))):=SF fun _ _ _ _ _ _ _ q=>gt_int q
def VD:j8 X (Lo .GtE) (SE fun i j=>.bl (decide (j<=i))):=SF fun _ _ _ _ _ _ _ q=>ge_int q
def Oj:j8 X (Lo .Is) (fun x y H Q=>y=.dc/\Q (.bl (decide (x=.dc))) H):=by
 intro pX s Y H x y v u Q I rx ry h;obtain ⟨rfl,q⟩:=h;cases ry;refine is_none_gen (bK I q ?_)
 cases x<;>first
  | (cases rx;rfl)
  | (obtain ⟨t,rfl⟩:=rx;rfl)
def zac:j8 X (Lo .IsNot) (fun x y H Q=>y=.dc/\Q (.bl (!decide (x=.dc))) H):=by
 intro pX s Y H x y v u Q I rx ry h;obtain ⟨rfl,q⟩:=h;cases ry;refine isnot_none_gen (bK I q ?_)
 cases x<;>first
  | (cases rx;rfl)
  | (obtain ⟨t,rfl⟩:=rx;rfl)
def j9 (b:Expr)(h:op≠.In:=by decide)(h2:op≠.NotIn:=by decide):X1 op b=false:=by
 let e1:(op==CmpOp.In)=false:=by cases op<;>first|rfl|exact DZ rfl h
 let e2:(op==CmpOp.NotIn)=false:=by cases op<;>first|rfl|exact DZ rfl h2
 cases b<;>simp [X1,e1,e2]
def jw (ho:j8 X (Lo op) r)(ha:PE X a ta)(hb:PE X b tb)(hm:X1 op b=false):PE X (.Compare a [op] [b] pos) (SD r ta tb):=by
 intro pX s Y H Q I h;exact wpAny_Compare1 (WY ha hb I h fun v u s2 x y H2 I2 rx ry q=>ho pX s2 Y H2 x y v u Q I2 rx ry q) hm
inductive Ol (Q:(Bool->Hp->Prop))(x:V)(H':Hp):Prop
|mk (k:_)(_:x=.bl k)(_:Q k H')
def VE (t:TE):TT:=fun Y H Q=>t Y H fun x H'=>Ol Q x H'
def wQ (ho:j8 X (Lo op) r)(ha:PE X a ta)(hb:PE X b tb)(hm:X1 op b=false):PT X (.Compare a [op] [b] pos) (VE (SD r ta tb)):=by
 intro pX s Y H Q I h
 refine wpAny_isTrue_Compare1 (cK (ha pX s Y H _ I h) fun v s1 ⟨x,H1,I1,r1,q1⟩=>cK (hb pX s1 Y H1 _ I1 q1) fun u s2 ⟨y,H2,I2,r2,q2⟩=>
  cK (ho pX s2 Y H2 x y v u _ I2 r1 r2 q2) fun c s3 ⟨z,H3,I3,r3,k,e,q3⟩=>?_) hm
 subst e;cases r3;exact S5 ⟨H3,I3,q3⟩
def ag' (r r':R2)(ta tb tc:TE):TE:=fun Y H Q=>ta Y H fun x H1=>tb Y H1 fun y H2=>r x y H2 fun z H3=>∃k,z=.bl k/\
 (if k=true then tc Y H3 fun w' H4=>r' y w' H4 Q else Q (.bl false) H3)
def y8 (ho:j8 X (Lo op) r)(Ss :j8 X (Lo op') r')(ha:PE X a ta)(hb:PE X b tb)(hc:PE X c tc)
  (hm:lastMarks [op,op'] [b,c]=false:=by with_unfolding_all rfl):PE X (.Compare a [op,op'] [b,c] pos) (ag' r r' ta tb tc):=by
 intro pX s Y H Q I h
 refine Compare_chain (cK (ha pX s Y H _ I h) fun v s1 ⟨x,H1,I1,r1,q1⟩=>chain_link (cK (hb pX s1 Y H1 _ I1 q1) fun u s2 ⟨y,H2,I2,r2,q2⟩=>
  cK (ho pX s2 Y H2 x y v u _ I2 r1 r2 q2) fun d s3 ⟨z,H3,I3,r3,k,e,q3⟩=>?_)) hm
 subst e;cases r3;refine S5 ?_;cases k with
 | false=>exact ite_ff ⟨.bl false,H3,I3,rfl,q3⟩
 | true=>exact ite_tt (chain_last (cK (hc pX s3 Y H3 _ I3 q3) fun w' s4 ⟨z',H4,I4,r4,q4⟩=>Ss pX s4 Y H4 y z' u w' Q I4 r2 r4 q4))
def wU:(AZ:Nat)<2^63:=by rw [sizeLine_eq];decide
def mF:j8 X (O8 .Add) (fun x y H Q=>∃i j,x=.str i/\y=.str j/\i.length+j.length<=AZ/\Q (.str (i++j)) H):=by
 intro pX s Y H x y v u Q I rx ry h;obtain ⟨i,j,rfl,rfl,hz,q⟩:=h;obtain ⟨t,rfl⟩:=rx;obtain ⟨t',rfl⟩:=ry;exact add_str (fun t' tk=>⟨.str (i++j),H,I.tok _,⟨_,rfl⟩,q⟩) hz
def vals1 {us:ρ}(r:Vals [x] us):∃u,us=[u]/\RelV x u:=by
 cases r with
 | cons r1 r2=>cases r2;show ⟨_,rfl,r1⟩
def vals2 {us:ρ}(r:Vals [x,y] us):∃u w',us=[u,w']/\RelV x u/\RelV y w':=by
 cases r with
 | cons r1 r2=>
  cases r2 with
  | cons r3 r4=>cases r4;show ⟨_,_,rfl,r1,r3⟩
def y_:ja X (.builtin "abs") (fun xs H Q=>∃i,xs=[.int i]/\Q (.int (if i<0 then -i else i)) H):=by
 intro pX s Y H xs us Q I r h;obtain ⟨i,rfl,q⟩:=h;obtain ⟨u,rfl,t,rfl⟩:=vals1 r;exact call_abs_int fun u tk=>⟨.int (if i<0 then -i else i),H,I.tok _,⟨_,rfl⟩,q⟩
def vK:ja X (.type "int") (fun xs H Q=>(∃i,xs=[.int i]/\Q (.int i) H)\/∃k,xs=[.bl k]/\Q (.int (if k then 1 else 0)) H):=by
 intro pX s Y H xs us Q I r h
 rcases h with ⟨i,rfl,q⟩|⟨k,rfl,q⟩
 ·obtain ⟨u,rfl,t,rfl⟩:=vals1 r
  exact call_int_int ⟨.int i,H,I,⟨_,rfl⟩,q⟩
 ·obtain ⟨u,rfl,r1⟩:=vals1 r
  cases r1;exact call_int_bool ⟨.int (if k then 1 else 0),H,I.tok _,⟨_,rfl⟩,q⟩
def nH:ja X (.type "str") (fun xs H Q=>∃i,xs=[.int i]/\i.natAbs.log2<1920/\Q (.str (toString i)) H):=by
 intro pX s Y H xs us Q I r h;obtain ⟨i,rfl,hz,q⟩:=h;obtain ⟨u,rfl,t,rfl⟩:=vals1 r;exact PySem.P.str_of_int hz ⟨.str _,H,I.tok _,⟨_,rfl⟩,q⟩
end
structure DX (h:Heap)(x dx C:AF)(mA:ι):Prop where
 obj:h.get? x=some (OE C dx)
 ns:h.Ns1 dx mA
 ne:dx≠x
def abF {h:Heap}{mA:ι}(n:h.Ns1 dx mA):∃od,h.get? dx=some od/\∀name,xq name od=some (mA name):=by
 obtain ⟨o,es,ep,ho,hd,hk,_,hm⟩:=n;show ⟨o,ho,fun name=>?_⟩;let e:=hm name;unfold nsFind findBy at e;rw [<-Array.find?_toList] at e;unfold xq;rw [hd];dsimp only;split
 ·rename_i y q
  rw [q] at e;exact pj some e
 ·rename_i q
  rw [q] at e
  let a:es.toList.any (·.refKey)=false:=by
   rw [List.any_eq_false];intro y hy;obtain ⟨z,t,ze⟩:=hk y (Array.mem_toList_iff.mp hy);simp [DictEntry.refKey,ze]
  let a':¬ es.toList.any (·.refKey)=true:=by rw [a];exact LM
  rw [ni a'];exact pj some e
def DX.look (I:DX h x dx C mA):∃od,PySem.W.InstAt h x (OE C dx) C (some od)/\∀name,xq name od=some (mA name):=
 let ⟨od,ho,hl⟩:=abF I.ns
 ⟨od,⟨I.obj,rfl,rfl,ho⟩,hl⟩
section
variable {prog:FE}{w:World}{A:LF}{E:δ}{s:BN}{K:Frag}{x dx C f:AF}{mA:ι}{name:Str}{v:Value}
def get_map {Q:δ}(X:K.In s.heap)(I:DX s.heap x dx C mA)(hg:T6 K C name=true)(hh:Tf K C=true)
  (ha:Lb K (.ref C) name=some none) (hv:mA name=some v) (W0 :PySem.W.handedIn v=true) (h:Q v {s with toks:=s.toks+1}):
  AS (AX prog w) A (getAttr (.ref x) name expr) Q E s:=by
 obtain ⟨od,J,hl⟩:=I.look;exact PySem.W.get_value X J (PySem.W.plainGet_of hg).1 (PySem.W.findObj_own hh ha rfl (by rw [hl,hv])) W0 h
def ad7 (X:K.In s.heap)(I:DX s.heap x dx C mA)(hg:T6 K C name=true)
  (hf:Lb K (.ref C) name=some (some (.ref f))) (ht:Xm K (.ref f)=true) (hv:mA name=none) (h:Q (.ref f,[.ref x]) s):
  AS (AX prog w) A (getMethod (.ref x) name pl) Q E s:=by
 obtain ⟨od,J,hl⟩:=I.look;exact PySem.W.method_fn X J (PySem.W.plainGet_of hg).1 (PySem.W.plainGet_of hg).2 hf (beq_iff_eq.mp ht) (by show (xq name od).map (·.isSome)=some false;rw [hl,hv];rfl) h
def zaA {ns:ς}(X:K.In s.heap)(I:DX s.heap x dx C mA)
  (hs:Lb K (.ref C) "__setattr__"=some (some (.builtin "object.__setattr__"))) (hp:XE K C=true) (ht:PySem.W.takerIn K C name=some none) (hh:Tf K C=true)
  (hw:PySem.Within mA ns) (hsz:ns.length<=AZ)
  (h:∀h',DX h' x dx C (fun y=>if y=name then some v else mA y)->Px dx s.heap h' ->Q () {s with heap:=h',toks:=s.toks+2}):
  AS (AX prog w) A (setAttr (.ref x) name v) Q E s:=by
 obtain ⟨od,J,hl⟩:=I.look;refine PySem.W.set_plain X J hs (PySem.W.osa_open (s:={s with toks:=s.toks+1}) (r:=none) X J hp ht fun b=>?_);obtain ⟨cd,hc,Rj⟩:=PySem.W.any_some hh;let hx:s.heap.get? x=some ⟨.ref C,some dx,.plain, #[]⟩:=I.obj;refine AO (DY (AO (AO (wpAny_loadPart hx (AO (PySem.W.Looks.here (s:={s with toks:=s.toks+1}) (PySem.W.looks_clsIn X hc) ?_))))));rw [Rj];refine DY (a:=some dx) (AO (DY (AO ?_)));refine wpAny_nsSet1 (s:={s with toks:=s.toks+1}) I.ns fun h' hn2 IH=>?_;obtain ⟨oD,esD,epD,hoD,hdD,hcD⟩:=hn2.count (PySem.Within.cons name v hw);refine AO (wpAny_lookBehind hoD (by rw [hdD];exact pastItsLine_dict (BJ hcD (by rw [Lw];omega))) ?_);exact DY (h _ ⟨(IH.2 _ (FT I.ne)).trans I.obj,hn2,I.ne⟩ IH)
def agx {R:Φ}{vs:ρ}{kw:Ω}(X:K.In s.heap)(hm:T3 K C=true)
  (hi:Lb K (.ref C) "__init__"=some (some (.ref f))) (hf:PySem.W.typeIn K (.ref f)=some (.type "function"))
  (h:Lz (AX prog w) (A.under (.builtin "type.__call__" ⟨.ref C::vs,kw⟩)) (.call (.ref f) ⟨.ref (s.heap.objs.size+1)::vs,kw⟩) (PySem.W.InitBack (s.heap.objs.size+1) R)
   {s with heap:=(s.heap.push OF).push (OE C s.heap.objs.size)}):
  Lz (AX prog w) A (.call (.ref C) ⟨vs,kw⟩) R s:=by
 obtain ⟨hh,g,d,t,os⟩:=s;exact PySem.W.make_core (PySem.W.makes_of X hm) (PySem.W.looks_findIn X hi) (fun self=>PySem.W.bind_fn X self hf) (.inl rfl) h
def aa_ {R:Φ}(X:K.In s.heap)(hm:T3 K C=true)
  (hi:Lb K (.ref C) "__init__"=some (some (.builtin "object.__init__")))
  (hb:∀self,PySem.W.Looks (AX prog w) s.heap (bindSpecial (.builtin "object.__init__") self) (.builtin "object.__init__",[self]))
  (h:Lz (AX prog w) (A.under (.builtin "type.__call__" ⟨[.ref C],[]⟩)) (.call (.builtin "object.__init__") ⟨[.ref (s.heap.objs.size+1)],[]⟩) (PySem.W.InitBack (s.heap.objs.size+1) R)
   {s with heap:=(s.heap.push OF).push (OE C s.heap.objs.size)}):
  Lz (AX prog w) A (.call (.ref C) ⟨[],[]⟩) R s:=by
 obtain ⟨hh,g,d,t,os⟩:=s;exact PySem.W.make_core (PySem.W.makes_of X hm) (PySem.W.looks_findIn X hi) hb (.inr ⟨rfl,rfl⟩) h
end
def fM (f:Str)(v:V):List (Str×V)->List (Str×V)
 | []=>[(f,v)]
 | (g,x)::r=>if g=f then (g,v)::r else (g,x)::fM f v r
theorem qp (f g:Str)(v:V):∀fs:List (Str×V),(fM f v fs).lookup g=if g=f then some v else fs.lookup g
 | []=>by
  show Pw g [(f,v)]=_;by_cases h:g=f
  ·let hb:(g==f)=true:=beq_iff_eq.mpr h
   simp only [Pw,hb,ox h]
  ·let hb:(g==f)=false:=beq_eq_false_iff_ne.mpr h
   simp only [Pw,hb,ni h]
 | (k,x)::r=>by
  let ih:=qp f g v r;rw [show fM f v ((k,x)::r)=(if k=f then (k,v)::r else (k,x)::fM f v r) from rfl];by_cases hk:k=f
  ·rw [ox hk]
   by_cases h:g=k
   ·let hb:(g==k)=true:=beq_iff_eq.mpr h
    simp only [Pw,hb,ox (h.trans hk)]
   ·let hb:(g==k)=false:=beq_eq_false_iff_ne.mpr h
    simp only [Pw,hb,ni (fun e:g=f=>h (e.trans hk.symm))]
  ·rw [ni hk]
   by_cases h:g=k
   ·let hb:(g==k)=true:=beq_iff_eq.mpr h
    simp only [Pw,hb,ni (fun e:g=f=>hk (h.symm.trans e))]
   ·let hb:(g==k)=false:=beq_eq_false_iff_ne.mpr h
    simp only [Pw,hb];exact ih
theorem pE (f:Str)(v:V):∀fs:List (Str×V),f∈(fM f v fs).map (·.1)/\∀g,g∈fs.map (·.1)->g∈(fM f v fs).map (·.1)
 | []=>⟨by simp [fM],fun g h=>by simp at h⟩
 | (k,x)::r=>by
  obtain ⟨i1,i2⟩:=pE f v r;rw [show fM f v ((k,x)::r)=(if k=f then (k,v)::r else (k,x)::fM f v r) from rfl];by_cases hk:k=f
  ·rw [ox hk]
   subst hk;show ⟨by simp,fun g h=>by simpa using h⟩
  ·rw [ni hk]
   show ⟨?_,fun g h=>?_⟩
   ·rw [DV]
    exact F' _ i1
   ·rw [DV] at h ⊢
    rcases LN.mp h with e|e
    ·exact LN.mpr (.inl e)
    ·exact F' _ (i2 g e)
theorem qt (f:Str)(v:V):∀fs:List (Str×V),(fM f v fs).length<=fs.length+1
 | []=>by simp [fM]
 | (k,x)::r=>by
  let ih:=qt f v r;rw [show fM f v ((k,x)::r)=(if k=f then (k,v)::r else (k,x)::fM f v r) from rfl];by_cases hk:k=f
  ·rw [ox hk,Lw,Lw];omega
  ·rw [ni hk,Lw,Lw];omega
def jT.some_of (r:jT (some v) o):∃u,o=some u/\RelV v u:=by
 cases o with
 | none=>exact (show False from r).elim
 | some u=>show ⟨u,rfl,r⟩
def jT.none_of (r:jT none o):o=none:=by
 cases o with
 | none=>rfl
 | some u=>exact (show False from r).elim
def adl (r:RelV v u):PySem.W.handedIn u=true:=by
 cases v with
 | dc=>cases (show u=Value.none from r);rfl
 | bl b=>cases (show u=Value.bool b from r);rfl
 | int i=>obtain ⟨t,e⟩:=(show ∃t,u=Value.int i t from r);cases e;rfl
 | str x=>obtain ⟨t,e⟩:=(show ∃t,u=Value.str x t from r);cases e;rfl
 | uR b=>obtain ⟨t,e⟩:=(show ∃t,u=Value.bytes b t from r);cases e;rfl
 | WN b=>obtain ⟨t,e⟩:=(show ∃t,u=Value.float b t from r);cases e;rfl
 | ref a=>cases (show u=Value.ref a from r);rfl
 | ty n=>cases (show u=Value.type n from r);rfl
section
variable {P:FE}{w:World}{H H':Hp}{h h':Heap}{a C dx:AF}{fs fs':List (Str×V)}
def rn (bJ:me P w H h)(e:H a=some (.ins C dx fs)):∃mA,DX h a dx C mA/\(∀f,jT (fs.lookup f) (mA f))/\PySem.Within mA (fs.map (·.1))/\fs.length<=1000/\H dx=some (.own a):=by
 obtain ⟨d,z,ne,ob,mA,n,r,q⟩:=(show dk P w H h a (.ins C dx fs) from bJ a _ e);show ⟨mA,⟨ob,n,ne⟩,r,q,z,d⟩
end
structure zf (K:Frag)(C:AF):Prop where
 pg:T6 K C Str.empty=true
 hd:Tf K C=true
 po:XE K C=true
 sa:Lb K (.ref C) "__setattr__"=some (some (.builtin "object.__setattr__"))
def zf.get {K:Frag}(c:zf K C)(f:Str):T6 K C f=true:=c.pg
def ia (K:Frag)(C:AF)(f:Str):Prop:=Lb K (.ref C) f=some none
def ia.aaa {K:Frag}(n:ia K C f):PySem.W.takerIn K C f=some none:=by
 unfold PySem.W.takerIn;rw [show Lb K (.ref C) f=some none from n];rfl
structure Meth (K:Frag)(C:AF)(m:Str)(f:AF):Prop where
 at_:Lb K (.ref C) m=some (some (.ref f))
 fn:Xm K (.ref f)=true
 kp:keepIn K (.ref f)=true
section
variable {X:Cx}{pX:ε}{Y:St}{H:Hp}{s:BN}{a C dx:AF}{fs:List (Str×V)}{f:Str}{v:V}{A:LF}{E:δ}
def adz {Q:δ}(I:Inv X pX Y H s)(e:H a=some (.ins C dx fs))(c:zf X.K C)(n:ia X.K C f)(l:fs.lookup f=some v)
  (h:∀u s',Inv X pX Y H s' ->RelV v u->Q u s'):AS (AX X.prog X.w) A (getAttr (.ref a) f b) Q E s:=by
 obtain ⟨mA,O,r,_,_,_⟩:=rn I.bJ e;obtain ⟨u,hu,ru⟩:=jT.some_of (v:=v) (o:=mA f) (by rw [<-l];exact r f);exact get_map I.mC O (c.get f) c.hd n hu (adl ru) (h u _ (I.tok _) ru)
def mG (I:Inv X pX Y H s)(e:H a=some (.ins C dx fs))(c:zf X.K C)(k:Meth X.K C m g)(l:fs.lookup m=none)
  (h:Q (.ref g,[.ref a]) s):AS (AX X.prog X.w) A (getMethod (.ref a) m pl) Q E s:=by
 obtain ⟨mA,O,r,_,_,_⟩:=rn I.bJ e;let hn:mA m=none:=jT.none_of (by rw [<-l];exact r m);exact ad7 I.mC O (c.get m) k.at_ k.fn hn h
def adG (I:Inv X pX Y H s)(e:H a=some (.ins C dx fs))(c:zf X.K C)(n:ia X.K C f)(hl:fs.length<1000)(ry:RelV y u)
  (h:∀s',Inv X pX Y (upd H a (.ins C dx (fM f y fs))) s' ->Q () s'):AS (AX X.prog X.w) A (setAttr (.ref a) f u) Q E s:=by
 obtain ⟨mA,O,r,wi,_,ho⟩:=rn I.bJ e;let hz:(fs.map (·.1)).length<=AZ:=by rw [ir,sizeLine_eq];omega
 refine zaA I.mC O c.sa c.po n.aaa c.hd wi hz fun h' O' sb=>h _ ?_;let hd:∃o,h'.get? dx=some o:=let ⟨o,_,_,e',_⟩:=O'.ns;⟨o,e'⟩;refine I.write (x:=a) (e:=dx) (by rw [e];exact True.intro) (.inr ho) (fun b q hb z=>(sb.2 b hb).trans z) hd ?_;show ⟨by rwa [aj O.ne],?_,O.ne,O'.obj,_,O'.ns,fun g=>?_,fun g hg=>?_⟩
 ·have:=qt f y fs;omega
 ·show jT ((fM f y fs).lookup g) (if g=f then some u else mA g)
  rw [qp];by_cases q:g=f
  ·rwa [ox q,ox q]
  ·rw [ni q,ni q];exact r g
 ·by_cases q:g=f
  ·rw [q];exact (pE f y fs).1
  ·refine (pE f y fs).2 g (wi g fun z=>hg ?_)
   show (if g=f then some u else mA g)=none;rwa [ni q]
def Inv.made (I:Inv X pX Y H s):Inv X pX Y (upd (upd H s.heap.objs.size (.own (s.heap.objs.size+1))) (s.heap.objs.size+1) (.ins C s.heap.objs.size []))
  {s with heap:=(s.heap.push OF).push (OE C s.heap.objs.size)}:=by
 let e1:(s.heap.push OF).get? s.heap.objs.size=some OF:=LL s.heap rfl
 let e2:((s.heap.push OF).push (OE C s.heap.objs.size)).get? (s.heap.objs.size+1)=some (OE C s.heap.objs.size):=by
  have:=LL (s.heap.push OF) (o:=OE C s.heap.objs.size) rfl
  rwa [QQ] at this
 let e3:(s.heap.push OF).Ns s.heap.objs.size (fun _=>none):=⟨OF, #[],_,e1,rfl,(fun e he=>DZ he ga),fun _=>rfl⟩;let I1:=I.laid (a:=s.heap.objs.size) (o:=.own (s.heap.objs.size+1)) (h':=s.heap.push OF) (t':=s.toks) (fun b u q=>FK _ q) (D' _) ⟨_,e1⟩;refine I1.laid (a:=s.heap.objs.size+1) (o:=.ins C s.heap.objs.size []) (t':=s.toks) (fun b u q=>FK _ q) (AE (QQ _ _)) ?_;let ne:s.heap.objs.size≠s.heap.objs.size+1:=LO (Of _);show ⟨by rw [aj ne,ah],LS _,ne,e2,fun _=>none,(Heap.Ns1.of_empty e3).at fun o q=>FK _ q,fun _=>True.intro,fun y hy=>DZ rfl hy⟩
def agu {Q:δ}(hb:Tj e f env (D_ e env)=D_ e env)
  (h:AS (AX prog w) A (D_ e env) (fun o oW=>AS (AX prog w) A (getAttr o f true) Q E oW) E s):AS (AX prog w) A (D_ (.Attribute e f pos) env) Q E s:=
 Attribute_any_ h (by rw [arm_eval_Attribute,hb])
end
inductive VF (K:Frag)(f:Str)(Q:VK)(x:V)(H1:Hp):Prop
|mk (a C dx fs v:_)(_:x=.ref a)(_:H1 a=some (.ins C dx fs))(_:zf K C)(_:ia K C f)(_:fs.lookup f=some v)(_:Q v H1)
def ahG (K:Frag)(ta:TE)(f:Str):TE:=fun Y H Q=>ta Y H fun x H1=>VF K f Q x H1
inductive VG (K:Frag)(f:Str)(D:Ends)(Y:St)(y:V)(x:V)(H2:Hp):Prop
|mk (a C dx fs:_)(_:x=.ref a)(_:H2 a=some (.ins C dx fs))(_:zf K C)(_:ia K C f)(_:fs.length<1000)(_:D.nx Y (upd H2 a (.ins C dx (fM f y fs))))
def ahH (K:Frag)(ta tv:TE)(f:Str):TS:=fun D Y H=>tv Y H fun y H1=>ta Y H1 fun x H2=>VG K f D Y y x H2
section
variable {X:Cx}{o e value:Expr}{f:Str}{pos pos' wV:Pos}{ta tv:TE}
def eV (he:PE X e ta)(hb:Tj e f X.env (D_ e X.env)=D_ e X.env):PE X (.Attribute e f pos) (ahG X.K ta f):=by
 intro pX s Y H Q I h;refine agu hb (cK (he pX s Y H _ I h) fun u s1 ⟨x,H1,I1,rx,a,C,dx,fs,v,ex,ea,c,n,l,q⟩=>?_);subst ex;obtain rfl:u=Value.ref a:=rx;exact adz I1 ea c n l fun u' s2 I2 ru=>⟨v,H1,I2,ru,q⟩
def wW (ha:PE X o ta)(hv:PE X value tv)(hs:S0 value (some (.Attribute o f pos')) pos.line X.env=pure false):PS X (.Assign [.Attribute o f pos'] value pos) (ahH X.K ta tv f):=by
 intro pX s Y H D I h;refine plainObj_wpAny_Assign_Attribute (cK (hv pX s Y H _ I h) fun u s1 ⟨y,H1,I1,ry,q⟩=>cK (ha pX s1 Y H1 _ I1 q) fun ov s2 ⟨x,H2,I2,rx,a,C,dx,fs,ex,ea,c,n,l,q2⟩=>?_) hs;subst ex;obtain rfl:ov=Value.ref a:=rx;exact adG I2 ea c n l ry fun s3 I3=>⟨Y,_,I3,q2⟩
end
section
variable {X:Cx}{pX:ε}{Y:St}{H:Hp}{s:BN}{A:LF}{E:δ}{Q:δ}{c:Value}{b:Bool}
inductive pF (K:Frag)(H:Hp):V->Value->Prop where
 | dc:pF K H .dc (.type "NoneType")
 | bl (x:Bool):pF K H (.bl x) (.type "bool")
 | int (i:Int):pF K H (.int i) (.type "int")
 | str (x:Str):pF K H (.str x) (.type "str")
 | WN (x:UInt64):pF K H (.WN x) (.type "float")
 | lst {a:AF} {xs:η} (e:H a=some (.lst xs)):pF K H (.ref a) (.type "list")
 | eQ {a:AF} {o:Obj} {xs:η} (e:H a=some (.eQ o (.lst xs))):pF K H (.ref a) (.type "list")
 | tup {a:AF} {xs:η} (e:H a=some (.tup xs)):pF K H (.ref a) (.type "tuple")
 | dK {a:AF} {AA:γ} (e:H a=some (.dK AA)):pF K H (.ref a) (.type "dict")
 | dT {a:AF} {AA:Ρ} (e:H a=some (.dT AA)):pF K H (.ref a) (.type "dict")
 | ins {a C dx:AF} {fs:List (Str×V)} (e:H a=some (.ins C dx fs)) (cl:zf K C) (ha:Lb K (.ref C) "__class__"=some (some (.builtin "object.__class__")))
   (hn:PySem.W.specialIn K (.builtin "object.__class__") "__get__"=some (some (.builtin "getset_descriptor.__get__"))) (htk:PySem.W.takesIn K (.builtin "object.__class__")=some true)
   (hm:PySem.W.mroIn K C (.type "object")=some true):pF K H (.ref a) (.ref C)
def ab_ (I:Inv X pX Y H s)(rx:RelV x u)(ty:pF X.K H x t)(e:Om X.K t c=some b)(h:∀tk,Q (.bool b) {s with toks:=tk}):
  AS (AX X.prog X.w) A (call (.builtin "isinstance") [u,c]) Q E s:=by
 cases ty with
 | dc=>cases (show u=Value.none from rx);exact P0 PySem.W.kitx_none I.mC True.intro e (fun z=>nomatch z) h
 | bl y=>cases (show u=Value.bool y from rx);exact P0 PySem.W.kitx_bool I.mC True.intro e (fun z=>nomatch z) h
 | int i=>obtain ⟨t,q⟩:=(show ∃t,u=Value.int i t from rx);cases q;exact P0 PySem.W.kitx_int I.mC True.intro e (fun z=>nomatch z) h
 | str y=>obtain ⟨t,q⟩:=(show ∃t,u=Value.str y t from rx);cases q;exact P0 PySem.W.kitx_str I.mC True.intro e (fun z=>nomatch z) h
 | WN y=>obtain ⟨t,q⟩:=(show ∃t,u=Value.float y t from rx);cases q;exact P0 PySem.W.kitx_float I.mC True.intro e (fun z=>nomatch z) h
 | @lst a xs ea=>
  cases (show u=Value.ref a from rx);obtain ⟨_,_,n,_,h1⟩:=(show dk X.prog X.w H s.heap a (.lst xs) from I.bJ a _ ea);exact P0 PySem.W.kitx_list I.mC ⟨_,h1,rfl⟩ e (fun z=>nomatch z) h
 | @eQ a ob xs ea=>
  cases (show u=Value.ref a from rx);obtain ⟨_,_,_,n,_,h1⟩:=(show dk X.prog X.w H s.heap a (.eQ ob (.lst xs)) from I.bJ a _ ea);exact P0 PySem.W.kitx_list I.mC ⟨_,h1,rfl⟩ e (fun z=>nomatch z) h
 | @tup a xs ea=>
  cases (show u=Value.ref a from rx);obtain ⟨_,_,_,p⟩:=(show dk X.prog X.w H s.heap a (.tup xs) from I.bJ a _ ea);obtain ⟨o,h1,h2,_⟩:=p;exact P0 PySem.W.kitx_tuple I.mC ⟨o,h1,h2⟩ e (fun z=>nomatch z) h
 | @dK a AA ea=>
  cases (show u=Value.ref a from rx);obtain ⟨_,_,vs,_,p⟩:=(show dk X.prog X.w H s.heap a (.dK AA) from I.bJ a _ ea);obtain ⟨o,es,ep,h1,h2,_⟩:=p;exact P0 PySem.W.kitx_dict I.mC ⟨o,h1,h2.1⟩ e (fun z=>nomatch z) h
 | @dT a AA ea=>
  cases (show u=Value.ref a from rx);obtain ⟨_,_,xs,_,o,es,ep,h1,h2,_⟩:=(show dk X.prog X.w H s.heap a (.dT AA) from I.bJ a _ ea);exact P0 PySem.W.kitx_dict I.mC ⟨o,h1,h2.1⟩ e (fun z=>nomatch z) h
 | @ins a C dx fs ea cl ha hn htk hm=>
  cases (show u=Value.ref a from rx);obtain ⟨mA,O,_⟩:=rn I.bJ ea;obtain ⟨od,J,_⟩:=O.look;exact P0 (PySem.W.kitx_own (cl.get _) cl.hd ha hn htk hm) I.mC J e (fun z=>nomatch z) h
end
structure cM (k:Nat)(A:LF):Prop where
 hd:A.handled=none
 dp:A.depth+3*k+5<xf
 un:A.units+16*k+200<Lp
def cM.mono (r:cM k A)(h:j<=k):cM j A:=⟨r.hd,by have:=r.dp;omega,by have:=r.un;omega⟩
theorem cM.deeper (r:cM (k+1) A)(env:Env):cM k (A.deeper env):=
 ⟨r.hd,by have:=r.dp;show A.depth+1+3*k+5<_;omega,by have:=r.un;show A.units+3+16*k+200<_;omega⟩
def adR {A:LF}{us:ρ}{kw:Ω}:(A.under (.builtin "type.__call__" ⟨.ref C::us,kw⟩)).depth=A.depth+1:=by
 first|rfl|simp [Around.under,Code.weight,Code.isCreation,Code.isGuard,Code.isCaller,Code.frames,Code.isFrame,guardIds]
def aas {A:LF}{us:ρ}{kw:Ω}:(A.under (.builtin "type.__call__" ⟨.ref C::us,kw⟩)).units=A.units+1:=by
 first|rfl|simp [Around.under,Code.cUnits,Code.frames,Code.isFrame]
def cM.make (r:cM (k+1) A)(C:AF)(us:ρ)(kw:Ω):cM k (A.under (.builtin "type.__call__" ⟨.ref C::us,kw⟩)):=
 ⟨r.hd,by have:=r.dp;rw [adR];omega,by have:=r.un;rw [aas];omega⟩
theorem cM.depth (r:cM k A):A.depth<xf:=by have:=r.dp;omega
theorem cM.units (r:cM k A):A.units+64<Lp:=by have:=r.un;omega
def gI:TA:=fun _ H Q=>Q [] H
def qu (ta:TE)(tr:TA):TA:=fun Y H Q=>ta Y H fun x H1=>tr Y H1 fun xs H2=>Q (x::xs) H2
section
variable {X:Cx}{e:Expr}{es:Ε}{te:TE}{t:TA}{pos:Pos}
def jx:PA X [] gI:=fun _ _ _ _ H Q I h=>Calls.spliced_nil ⟨[],H,I,.nil,h⟩
def ags (ha:PE X e te)(hr:PA X es t)(hs:EC (e::es) X.env=(false,D_ e X.env)::EC es X.env:=by rfl):PA X (e::es) (qu te t):=by
 intro pos pX s Y H Q I h;rw [hs];show AS _ _ (spliced ((false,D_ e X.env)::Le pos (EC es X.env))) _ _ s;refine ZS (cK (ha pX s Y H _ I h) fun u s1 ⟨x,H1,I1,r1,q1⟩=>?_);exact cK (hr pos pX s1 Y H1 _ I1 q1) fun us s2 ⟨xs,H2,I2,r2,q2⟩=>⟨x::xs,H2,I2,.cons r1 r2,q2⟩
def ahI (t:TA):TE:=fun Y H Q=>t Y H fun xs H1=>xs.length<=AZ/\∀p,H1 p=none->Q (.ref p) (upd H1 p (.tup xs))
def ahJ (t:TA):TE:=fun Y H Q=>t Y H fun xs H1=>xs.length<=AZ/\∀p,H1 p=none->Q (.ref p) (upd H1 p (.lst xs))
def aK (h:PA X es t):PE X (.Tuple es x1 pos) (ahI t):=by
 intro pX s Y H Q I hq;refine wpAny_Tuple_spliced (cK (h pos pX s Y H _ I hq) fun us s1 ⟨xs,H1,I1,r,z,q⟩=>⟨by rwa [<-r.length],?_⟩);let hf:H1 s1.heap.objs.size=none:=I1.bJ.fresh (D' _);show ⟨.ref s1.heap.objs.size,upd H1 s1.heap.objs.size (.tup xs),I1.laid (t':=s1.toks) (fun b u e=>FK _ e) (D' _) ?_,rfl,q _ hf⟩;show ⟨z,us,r,⟨_,LL _ rfl,rfl,_,rfl⟩⟩
def b9 (h:PA X es t):PE X (.List es pos) (ahJ t):=by
 intro pX s Y H Q I hq;refine wpAny_List_spliced (cK (h pos pX s Y H _ I hq) fun us s1 ⟨xs,H1,I1,r,z,q⟩=>⟨by rwa [<-r.length],?_⟩);let hf:H1 s1.heap.objs.size=none:=I1.bJ.fresh (D' _);show ⟨.ref s1.heap.objs.size,upd H1 s1.heap.objs.size (.lst xs),I1.laid (t':=s1.toks) (fun b u e=>FK _ e) (D' _) ?_,rfl,q _ hf⟩;show ⟨z,us,0,r,LL _ rfl⟩
end
abbrev Sp:=List V->Hp->VK->XK->Prop
abbrev nI:=List Env->Hp->BN->XK->Value->BN->Prop
structure EA (P:FE)(w:World)(K:Frag)(mg:ι)(iT:Heap)(A:LF)(mB:List Env)(s:BN)(H:Hp):Prop where
 frames:A.frames=some mB
 mod:Mod K mg iT
 bs:∀b o,iT.get? b=some o->s.heap.get? b=some o/\H b=none
 So:iT.objs.size<=s.heap.objs.size
 qW:s.heap.FunFrames iT mB
 WR:∀b∈HY mB,H b=none
 bJ:me P w H s.heap
 bare:QH s.gens
def CE (mB:List Env)(P:FE)(w:World)(H:Hp)(s:BN)(Q:VK)(u:Value)(s':BN):Prop:=
 ∃v H',s'.os=s.os/\QH s'.gens/\Un (HY mB) [] H H' s.heap s'.heap/\me P w H' s'.heap/\RelV v u/\Q v H'
def CR (CX:nI)(mB:List Env)(P:FE)(w:World)(H:Hp)(s:BN)(Q:VK)(E:XK)(r:Result)(s':BN):Prop:=
 match r with
 | .ok (.ret u)=>CE mB P w H s Q u s'
 | .ok _=>False
 | .error e=>CX mB H s E e s'
structure dH (P:FE)(w:World)(K:Frag)(mg:ι)(iT:Heap)(CX:nI)(k:Nat)(f:AF)(fd:FuncData)(ps:ς)(sp:Sp):Prop where
 len:∀vs H Q E,sp vs H Q E->vs.length=ps.length
 run:∀(A:LF)(mB:List Env)(s:BN)(H:Hp)(args:Args)(us:ρ)(vs:η)(Q:VK)(E:XK),cM k A->EA P w K mg iT A mB s H->BindsTo s fd args (ps.zip us)->Vals vs us->sp vs H Q E->
  Lz (AX P w) A (.call (.ref f) args) (CR CX mB P w H s Q E) s
theorem dH.mono {K:Frag}(F:dH P w K mg iT CX j f fd ps sp)(h:j<=k):
  dH P w K mg iT CX k f fd ps sp:=⟨F.len,fun A mB s H args us vs Q E hr=>F.run A mB s H args us vs Q E (hr.mono h)⟩
def dH.imp {K:Frag}(F:dH P w K mg iT CX k f fd ps sp)
  (h:∀vs H Q E,sp' vs H Q E->sp vs H Q E):dH P w K mg iT CX k f fd ps sp':=
 ⟨fun vs H Q E q=>F.len vs H Q E (h _ _ _ _ q),fun A mB s H args us vs Q E hr he hb hv hs=>F.run A mB s H args us vs Q E hr he hb hv (h _ _ _ _ hs)⟩
def EA.make {K:Frag}(e:EA P w K mg iT A mB s H)(C:AF)(us:ρ)(kw:Ω):
  EA P w K mg iT (A.under (.builtin "type.__call__" ⟨.ref C::us,kw⟩)) mB s H:=⟨by first|exact e.frames|(simpa [Around.under,Code.envs,Code.isFrame,pushEnvs] using e.frames),e.mod,e.bs,e.So,e.qW,e.WR,e.bJ,e.bare⟩
section
variable {X:Cx}{pX:ε}{Y:St}{H:Hp}{s s':BN}
def Inv.aab (I:Inv X pX Y H s):EA X.prog X.w X.K X.mg X.iT X.A X.stack s H:=
 ⟨I.ok.frames,I.ok.mod,I.bs,BJ I.ok.So I.sz,I.stack,I.HZ,I.bJ,I.bare⟩
def Inv.after (I:Inv X pX Y H s)(h:CE X.stack X.prog X.w H s Q u s'):EP X pX Y Q u s':=by
 obtain ⟨v,H',os,bare,un,bJ,r,q⟩:=h;obtain ⟨hh,g,d,t,os'⟩:=s';obtain rfl:os'=s.os:=os;show ⟨v,H',I.call (h':=hh) (g':=g) (d':=d) (t':=t) (ch:=[]) un bJ bare (fun b z=>DZ z ga),r,q⟩
end
def II (sp:Sp)(rl:η)(E:XK)(t:TA):TE:=fun Y H Q=>t Y H fun vs H1=>sp (vs++rl) H1 Q E
def VH (C:AF)(sp:Sp)(rl:η)(E:XK)(t:TA):TE:=fun Y H Q=>t Y H fun vs H1=>∀x dx,H1 x=none->H1 dx=none->dx≠x->
 sp (.ref x::(vs++rl)) (upd (upd H1 dx (.own x)) x (.ins C dx [])) (fun v H2=>v=.dc/\Q (.ref x) H2) E
def Binds (K:Frag)(fd:FuncData)(ps:ς)(ds:ρ):Prop:=
 ∀(s:BN)(us:ρ),K.In s.heap->(us++ds).length=ps.length->BindsTo s fd ⟨us,[]⟩ (ps.zip (us++ds))
def Binds.all {K:Frag}(h:∀us:List Value,us.length=ps.length->bindArgs fd ⟨us,[]⟩=pure (ps.zip us)):Binds K fd ps []:=fun s us _ hl=>by
 rw [WL] at hl ⊢;exact .of_eq (h us hl)
def Passes (CX:nI)(X:Cx)(E:XK):Prop:=∀(pX:ε)(Y:St)(H:Hp)(s:BN)(e:Value)(s':BN),Inv X pX Y H s->CX X.stack H s E e s' ->X.xe e s'
section
variable {X:Cx}{CX:nI}{k:Nat}{f C:AF}{fd:FuncData}{ps:ς}{sp:Sp}{rl:η}{ds:ρ}{E:XK}{x m:Str}{p pos apos:Pos}{e o:Expr}{es:Ε}{ta:TE}{t:TA}
def wX {Y:St}{us:ρ}{vs:η}(F:dH X.prog X.w X.K X.mg X.iT CX k f fd ps sp)(hr:cM k X.A)(hb:Binds X.K fd ps ds)(hd:Vals rl ds)(hx:Passes CX X E)
  (I:Inv X pX Y H s) (r:Vals vs us) (h:sp (vs++rl) H Q E):AS (AX X.prog X.w) X.A (call (.ref f) us) (EP X pX Y Q) X.xe s:=by
 let r2:Vals (vs++rl) (us++ds):=r.append hd;let hl:(us++ds).length=ps.length:=by rw [<-r2.length];exact F.len _ _ _ _ h
 refine wpAny_call (codeAny_mono (F.run X.A X.stack s H ⟨us,[]⟩ (us++ds) (vs++rl) Q E hr I.aab (hb s us I.mC hl) r2 h) fun r s' hq=>?_);cases r with
 | error e=>exact hx pX Y H s e s' I hq
 | ok fl=>
  cases fl with
  | ret u=>exact I.after hq
  | next=>exact False.elim hq
  | brk=>exact False.elim hq
  | cont=>exact False.elim hq
def agr (F:dH X.prog X.w X.K X.mg X.iT CX k f fd ps sp)(hr:cM k X.A)(hg:Gl X x)(hm:X.mg x=some (.ref f))(hk:keepIn X.K (.ref f)=true)(hb:Binds X.K fd ps ds)(hd:Vals rl ds)(hx:Passes CX X E)
  (ha:PA X (e::es) t) (va:(x==("__debug__":Str))=false:=by decide) (he:EC (e::es) X.env=(false,D_ e X.env)::EC es X.env:=by rfl) (qY:(Le pos (EC es X.env)).any (·.1)=false:=by rfl):
  PE X (.Call (.Name x p) (e::es) [] pos) (II sp rl E t):=by
 intro pX s Y H Q I h;refine X7 (nq I hg hm ?_ va);refine yV (h₀:=X.iT) I.ok.mod.Zi hk (cK (ha pos pX s Y H _ I h) fun us s1 ⟨vs,H1,I1,r,q⟩=>⟨I1.mC,?_⟩) he qY;exact wX F hr hb hd hx I1 r q
structure Mk (K:Frag)(C f:AF):Prop where
 makes:T3 K C=true
 init:Lb K (.ref C) "__init__"=some (some (.ref f))
 fn:Xm K (.ref f)=true
 kp:keepIn K (.ref C)=true
def zh {Y:St}{us:ρ}{vs:η}(M:Mk X.K C f)(F:dH X.prog X.w X.K X.mg X.iT CX k f fd ps sp)(hr:cM (k+1) X.A)(hb:Binds X.K fd ps ds)(hd:Vals rl ds)
  (hx:Passes CX X E) (I:Inv X pX Y H s) (r:Vals vs us)
  (h:∀x dx,H x=none->H dx=none->dx≠x->sp (.ref x::(vs++rl)) (upd (upd H dx (.own x)) x (.ins C dx [])) (fun v H2=>v=.dc/\Q (.ref x) H2) E):
  AS (AX X.prog X.w) X.A (call (.ref C) us) (EP X pX Y Q) X.xe s:=by
 let hq:=h (s.heap.objs.size+1) s.heap.objs.size (I.bJ.fresh (AQ _)) (I.bJ.fresh (D' _)) (LO (Of _));let I2:=Inv.made (C:=C) I;let r2:Vals (V.ref (s.heap.objs.size+1)::(vs++rl)) (Value.ref (s.heap.objs.size+1)::(us++ds)):=.cons rfl (r.append hd)
 let hl:(Value.ref (s.heap.objs.size+1)::us++ds).length=ps.length:=by
  let e:=r2.length;rw [F.len _ _ _ _ hq] at e;exact e.symm
 refine wpAny_call (agx (f:=f) I.mC M.makes M.init (beq_iff_eq.mp M.fn) (codeAny_mono (F.run _ X.stack _ _ ⟨Value.ref (s.heap.objs.size+1)::us,[]⟩ (Value.ref (s.heap.objs.size+1)::(us++ds)) _ _ E (hr.make C us [])
  (I2.aab.make C us []) (hb _ (Value.ref (s.heap.objs.size+1)::us) I2.mC hl) r2 hq) fun r s' vM =>?_))
 cases r with
 | error e=>exact hx pX Y _ _ e s' I2 vM
 | ok fl=>
  cases fl with
  | ret u=>
   obtain ⟨v,H',I3,rv,ev,q3⟩:=I2.after vM;subst ev;show ⟨rv,⟨V.ref (s.heap.objs.size+1),H',I3,rfl,q3⟩⟩
  | next=>exact False.elim vM
  | brk=>exact False.elim vM
  | cont=>exact False.elim vM
def ago (M:Mk X.K C f)(F:dH X.prog X.w X.K X.mg X.iT CX k f fd ps sp)(hr:cM (k+1) X.A)(hg:Gl X x)(hm:X.mg x=some (.ref C))(hb:Binds X.K fd ps ds)(hd:Vals rl ds)(hx:Passes CX X E)
  (ha:PA X (e::es) t) (va:(x==("__debug__":Str))=false:=by decide) (he:EC (e::es) X.env=(false,D_ e X.env)::EC es X.env:=by rfl) (qY:(Le pos (EC es X.env)).any (·.1)=false:=by rfl):
  PE X (.Call (.Name x p) (e::es) [] pos) (VH C sp rl E t):=by
 intro pX s Y H Q I h;refine X7 (nq I hg hm ?_ va);refine yV (h₀:=X.iT) I.ok.mod.Zi M.kp (cK (ha pos pX s Y H _ I h) fun us s1 ⟨vs,H1,I1,r,q⟩=>⟨I1.mC,?_⟩) he qY;exact zh M F hr hb hd hx I1 r q
def agw (M:Mk X.K C f)(F:dH X.prog X.w X.K X.mg X.iT CX k f fd ps sp)(hr:cM (k+1) X.A)(hg:Gl X x)(hm:X.mg x=some (.ref C))(hb:Binds X.K fd ps ds)(hd:Vals rl ds)(hx:Passes CX X E)
  (va:(x==("__debug__":Str))=false:=by decide):PE X (.Call (.Name x p) [] [] pos) (VH C sp rl E gI):=by
 intro pX s Y H Q I h;refine X7 (nq I hg hm ?_ va);exact PySem.W.callWith_K0 I.mC M.kp (zh (us:=[]) M F hr hb hd hx I .nil h)
end
structure av (N P:ς)(sc:Scope):Prop where
 kind:sc.kind=.function
 co:sc.isCoroutine=false
 gen:sc.isGenerator=false
 nd:N.Nodup
 pre:N.take P.length=P
 par:∀x∈P,sc.names.lookup x=some .local\/sc.names.lookup x=some .cell
 W5:∀y∈sc.names,y.2≠.free
theorem vN {O5:Str->Option NameKind}:∀{binds:Ω} {m:ι},(∀v,(x,v)∉binds)->bindL O5 binds m x=m x
 | [],_,_=>rfl
 | (n,v)::r,m,h=>by
  unfold bindL;rw [vN fun w hw=>h w (F' _ hw)];split
  ·have:x≠n:=by rintro rfl;exact h v GG
   simp [this]
  ·rfl
theorem vO {O5:Str->Option NameKind}:∀{binds:Ω} {m:ι},(∀v,(x,v)∉binds)->bindC O5 binds m x=m x
 | [],_,_=>rfl
 | (n,v)::r,m,h=>by
  unfold bindC;rw [vO fun w hw=>h w (F' _ hw)];split
  ·rfl
  ·have:x≠n:=by rintro rfl;exact h v GG
   simp [this]
theorem vP {O5:Str->Option NameKind}:∀{P:ς} {vs:ρ} {i:Nat} {m:ι},P.Nodup->P[i]?=some x->vs[i]?=some v->O5 x=some .local->
  bindL O5 (P.zip vs) m x=some v
 | [],_,_,_,_,h,_,_=>by simp at h
 | _::_,[],_,_,_,_,h,_=>by simp at h
 | p::P,w::vs,0,m,nd,h1,h2,hk=>by
  simp at h1 h2;subst h1;subst h2;show bindL O5 ((p,w)::P.zip vs) m p=_;unfold bindL;rw [vN fun v hv=>(M9.mp nd).1 (aiV hv).1,ox hk];simp
 | p::P,w::vs,i+1,m,nd,h1,h2,hk=>by
  show bindL O5 ((p,w)::P.zip vs) m x=_;unfold bindL;exact vP (i:=i) (M9.mp nd).2 (by simpa using h1) (by simpa using h2) hk
theorem vQ {O5:Str->Option NameKind}:∀{P:ς} {vs:ρ} {i:Nat} {m:ι},P.Nodup->P[i]?=some x->vs[i]?=some v->O5 x≠some .local->
  bindC O5 (P.zip vs) m x=some v
 | [],_,_,_,_,h,_,_=>by simp at h
 | _::_,[],_,_,_,_,h,_=>by simp at h
 | p::P,w::vs,0,m,nd,h1,h2,hk=>by
  simp at h1 h2;subst h1;subst h2;show bindC O5 ((p,w)::P.zip vs) m p=_;unfold bindC;rw [vO fun v hv=>(M9.mp nd).1 (aiV hv).1,ni hk];simp
 | p::P,w::vs,i+1,m,nd,h1,h2,hk=>by
  show bindC O5 ((p,w)::P.zip vs) m x=_;unfold bindC;exact vQ (i:=i) (M9.mp nd).2 (by simpa using h1) (by simpa using h2) hk
def start (N:ς)(vs:η):St:=vs.map some++GH (N.length-vs.length) none
def j_ (CX:nI)(P:FE)(w:World)(K:Frag)(mg:ι)(iT:Heap)(N:ς)(qual:Str)(scope:Scope)(f:AF)(cd:Value)(A:LF)(mB:List Env)(s:BN)(H:Hp)(E:XK):Cx where
 prog:=P
 w:=w
 K:=K
 mg:=mg
 iT:=iT
 A:=A.deeper (Nf qual scope s.heap.objs.size f cd)
 N:=N
 qP:=s
 H₀:=H
 env:=Nf qual scope s.heap.objs.size f cd
 mB:=mB
 stack:=Nf qual scope s.heap.objs.size f cd::mB
 ex:=[]
 calm:=true
 fn:=fun _=>true
 pn:=[]
 xe:=fun e s'=>AS (AX P w) (A.deeper (Nf qual scope s.heap.objs.size f cd)) (leaving (Nf qual scope s.heap.objs.size f cd) e) (fun _ s''=>CX mB H s E e s'') (fun e' s''=>CX mB H s E e' s'') s'
def zi {sc:Scope}(h:sc.names.lookup x=some .cell):∃c,(cellsFrom n sc.names []).lookup x=some c:=by
 let q:=PySem.W.cellsFrom_some sc.names n [] (.inl h);exact aiv.mp q
def adY {K:Frag}{us:ρ}{vs:η}
  (S:av N ps scope) (hd:A.handled=none) (e0:EA P w K mg iT A mB s H) (hl:vs.length=ps.length) (r:Vals vs us)
  (x:InCallC s s.heap.objs.size (bindL (Nf qual scope s.heap.objs.size f cd).kindOf (ps.zip us) fun _=>none) (cellsFrom (s.heap.objs.size+1) scope.names []) (bindC (Nf qual scope s.heap.objs.size f cd).kindOf (ps.zip us) fun _=>none) s1):
  Inv (j_ CX P w K mg iT N qual scope f cd A mB s H E) [] (start N vs) H s1:=by
 let qY:ps.length<=N.length:=by have:=pj Oq S.pre;rw [FU] at this;omega
 obtain ⟨h1,tk,rfl,hk⟩:=x.done;let noA:∀b:AF,b∉(j_ CX P w K mg iT N qual scope f cd A mB s H E).ex:=fun b z=>DZ (show b∈([]:List AF) from z) ga
 show ⟨⟨e0.mod,S.kind,rfl,rfl,D' _,fun y z c h1 h2=>?_,fun y hy=>?_,fun y c _ h=>?_,fun _=>hd,Around.frames_deeper e0.frames,.inr ⟨rfl,rfl⟩,fun b z=>DZ z (noA b),e0.bs,e0.So,fun b _ _=>noA b,fun b z=>DZ z (noA b),e0.qW,e0.WR⟩,
  rfl,e0.bare,Un.kept hk,⟨_,x.toInCall.ns,fun i y v h1 h2 h3=>?_⟩,fun y c h=>⟨_,x.cell y c h⟩,e0.bJ.fresh (D' _),fun y c h=>?_,fun p hp=>DZ (show p∈([]:List (AF×Obj)) from hp) ga,e0.bJ.kept hk,?_⟩
 ·exact name_of_addr x.apart (α4 h1) (α4 h2)
 ·let hy:scope.names.lookup y=some .cell\/scope.names.lookup y=some .free:=hy
  rcases hy with hy|hy
  ·exact zi hy
  ·exact DZ rfl (S.W5 _ (α4 hy))
 ·exact Pk (x.above y c (α4 h))
 ·let hi:i<vs.length:=by
   unfold start at h2;by_cases hi:i<vs.length
   ·exact hi
   ·rw [Lg (by simpa using hi)] at h2
    rw [S6] at h2;split at h2<;>cases h2
  let ha:vs[i]?=some v:=by
   unfold start at h2;rw [LR (by simpa using hi),Wp] at h2;cases e:vs[i]? with
   | none=>erw [e] at h2
   | some a=>erw [e] at h2;rfl
  obtain ⟨u,hu,rv⟩:=r.get ha
  let hp:ps[i]?=some y:=by
   rwa [<-S.pre,SQ ce]
  let ndP:ps.Nodup:=by rw [<-S.pre];exact S.nd.sublist (List.take_sublist _ _)
  show ⟨u,rv,?_⟩
  rcases S.par y (DW hp) with k|k
  ·exact .inl ⟨k,vP ndP hp hu k⟩
  ·obtain ⟨c,e⟩:=zi (n:=s.heap.objs.size+1) k
   refine .inr ⟨.inl k,c,e,?_⟩;let q:=x.cell y c e;rw [vQ ndP hp hu (by show scope.names.lookup y≠_;rw [k];decide)] at q;exact q
 ·exact e0.bJ.fresh (Pk (x.above y c (α4 h)))
 ·unfold start
  show _=N.length;rw [EM,ir,QC];omega
def IJ {K:Frag}{dV kV doc pm cF ct oc:Value}{an od:Κ}
  {uZ:Ν}   (lk:K.lookup f=some ⟨oc,od,.func (fnOf name qual params body scope dV kV doc pm an cF ct),uZ⟩) (u6:codeIn K cF qual=true) (S:av N ps scope)
  (len:∀vs H Q E,sp vs H Q E->vs.length=ps.length)
  (ib:∀(A:LF)(mB:List Env)(s:BN)(H:Hp)(vs:η)(Q:VK)(E:XK),cM k (A.deeper (Nf qual scope s.heap.objs.size f cF))->sp vs H Q E->
   ∃t,rj (j_ CX P w K mg iT N qual scope f cF A mB s H E) body t/\t {nx:=fun _ H'=>Q .dc H',rt:=Q} (start N vs) H):
  dH P w K mg iT CX (k+1) f (fnOf name qual params body scope dV kV doc pm an cF ct) ps sp:=by
 show ⟨len,fun A mB s H args us vs Q E hr e0 hb r IK=>?_⟩;let hl:=len _ _ _ _ IK;let KX:K.In s.heap:=e0.mod.Zi.keeps fun b o e=>(e0.bs b o e).1;let lim:s.heap.NoLimit:=e0.mod.nolimit.keeps fun b o e=>(e0.bs b o e).1
 let aae:∀y∈ps.zip us,scope.names.lookup y.1=some .local\/(scope.names.lookup y.1=some .cell/\((cellsFrom (s.heap.objs.size+1) scope.names []).lookup y.1).isSome=true):=fun ⟨n,v⟩ hy=>by
  rcases S.par n (aiV hy).1 with q|q
  ·exact .inl q
  ·exact .inr ⟨q,PySem.W.cellsFrom_some _ _ _ (.inl q)⟩
 refine codeAny_call_function hr.depth (KX _ _ lk) rfl S.co S.gen rfl (PySem.W.codeRec_of KX u6) (hb _ _ _ _ ?_);refine wpAny_newFunctionEnv_cells S.kind aae fun env he s1 x=>?_;subst he;show ⟨lim.keeps x.toInCall.keep,codeAny_func ?_⟩;obtain ⟨t,ht,hq⟩:=ib A mB s H vs Q E (hr.deeper _) IK;let I:Inv (j_ CX P w K mg iT N qual scope f cF A mB s H E) [] (start N vs) H s1:=adY S hr.hd e0 hl r x;refine Lj (ht [] s1 (start N vs) H _ I hq) (fun fl s' hs=>?_) fun e s' hs=>hs
 let fin:∀{Y' :St} {H':Hp} {v:V} {u:Value},Inv (j_ CX P w K mg iT N qual scope f cF A mB s H E) [] Y' H' s' ->RelV v u->Q v H' ->CE mB P w H s Q u s':=
  fun {Y' H' v u} J rv q=>⟨v,H',J.os,J.bare,J.iT,J.bJ,rv,q⟩
 cases fl with
 | ret u=>
  obtain ⟨v,Y',H',J,rv,q⟩:=hs;exact fin J rv q
 | next=>
  obtain ⟨Y',H',J,q⟩:=hs;exact fin (v:=V.dc) (u:=Value.none) J rfl q
 | brk=>
  obtain ⟨_,_,_,q⟩:=hs;exact False.elim q
 | cont=>
  obtain ⟨_,_,_,q⟩:=hs;exact False.elim q
section
variable {X:Cx}{x:Str}{p pos:Pos}{e:Expr}{es:Ε}{t:TA}{id T:String}{r:List V->Hp->VK->Prop}
def tCB (r:List V->Hp->VK->Prop)(t:TA):TE:=fun Y H Q=>t Y H fun vs H1=>r vs H1 Q
def aU (hc:ja X (.builtin id) r)(hg:Gl X x)(hm:X.mg x=none)(hv:Lm x=some (.builtin id))(ha:PA X (e::es) t)(hn:x≠ "__name__":=by decide)(va:(x==("__debug__":Str))=false:=by decide)
  (he:EC (e::es) X.env=(false,D_ e X.env)::EC es X.env:=by rfl) (qY:(Le pos (EC es X.env)).any (·.1)=false:=by rfl):PE X (.Call (.Name x p) (e::es) [] pos) (tCB r t):=by
 intro pX s Y H Q I h;refine X7 (jt I hg hm hv ?_ hn va);exact PyProof.Rows.callWith_builtin1 (cK (ha pos pX s Y H _ I h) fun us s1 ⟨vs,H1,I1,r1,q1⟩=>hc pX s1 Y H1 vs us Q I1 r1 q1) he qY
def dq (hc:ja X (.type T) r)(hg:Gl X x)(hm:X.mg x=none)(hv:Lm x=some (.type T))(ha:PA X (e::es) t)(hn:x≠ "__name__":=by decide)(va:(x==("__debug__":Str))=false:=by decide)
  (he:EC (e::es) X.env=(false,D_ e X.env)::EC es X.env:=by rfl) (qY:(Le pos (EC es X.env)).any (·.1)=false:=by rfl):PE X (.Call (.Name x p) (e::es) [] pos) (tCB r t):=by
 intro pX s Y H Q I h;refine X7 (jt I hg hm hv ?_ hn va);exact To (cK (ha pos pX s Y H _ I h) fun us s1 ⟨vs,H1,I1,r1,q1⟩=>hc pX s1 Y H1 vs us Q I1 r1 q1) he qY
end
end L2
namespace HT
open PySem PyProof.Rows
section
variable {prog:FE}{w:World}{A:LF}{E:δ}{s:BN}
def fX (n d:Nat):Option Int->Nat
 | none=>d
 | some v=>if v<0 then (v+(n:Int)).toNat else min v.toNat n
def zj (n d:Nat):fX n d none=d:=rfl
def rq (n d k:Nat):fX n d (some (k:Int))=min k n:=by
 show (if (k:Int)<0 then ((k:Int)+(n:Int)).toNat else min (k:Int).toNat n)=min k n;rw [ni ce,BK]
def agi (n d:Nat)(hd:d<=n)(o:Υ):fX n d o<=n:=by
 cases o with
 | none=>exact hd
 | some v=>
  show (if v<0 then (v+(n:Int)).toNat else min v.toNat n)<=n;by_cases hv:v<0
  ·rw [ox hv];omega
  ·rw [ni hv];exact Nat.min_le_right _ _
def agT (v:Int)(n d:Nat):(if v<0 then max (v+(n:Int)) 0 else min v (n:Int))=((fX n d (some v):Nat):Int):=by
 show (if v<0 then max (v+(n:Int)) 0 else min v (n:Int))=(((if v<0 then (v+(n:Int)).toNat else min v.toNat n):Nat):Int);by_cases hv:v<0
 ·simp only [ox hv];omega
 ·simp only [ni hv];omega
def aa9 (lo hi:Υ)(n:Nat):Builtin.Slice.sliceAdjust lo hi 1 (n:Int)=(((fX n 0 lo:Nat):Int),((fX n n hi:Nat):Int)):=by
 let h1:¬ ((1:Int)<0):=ce
 unfold Builtin.Slice.sliceAdjust;simp only [h1,if_false];refine yb ?_ ?_
 ·cases lo with
  | none=>rfl
  | some v=>exact agT v n 0
 ·cases hi with
  | none=>rfl
  | some v=>exact agT v n n
def adK (i j:Nat):JO (i:Int) (j:Int) 1=j-i:=by
 unfold JO;let h1:(1:Int) > 0:=ce
 simp only [h1,if_true,Int.ediv_one];split<;>omega
def r6 {o:Υ}(p:IsPart v o)(h:Q o s):AS (AX prog w) A (Builtin.Slice.slicePartIndex v) Q E s:=by
 cases p with
 | none=>exact slicePart_none h
 | int i t=>exact slicePart_int h
def zv1 {lo hi:Υ}{Q:Int×Int×Nat->BN->Prop}(hs:s.heap.IsSliceOf sl vl vu .none)(pl:IsPart vl lo)(pu:IsPart vu hi)
  (h:Q (((fX n 0 lo:Nat):Int),1,fX n n hi-fX n 0 lo) s):AS (AX prog w) A (Builtin.Slice.sliceApplied (.ref sl) (pure (n:Int))) Q E s:=by
 obtain ⟨os,hos,hcs,hds⟩:=id hs;unfold Builtin.Slice.sliceApplied Builtin.Slice.sliceFields;refine AO (AO (Ly hos hds (x:=vl) rfl (AO (Ly hos hds (x:=vu) rfl (AO (Ly hos hds (x:=.none) rfl (DY ?_)))))));refine AO (slicePart_none ?_);show AS _ _ (if ((1:Int)==0)=true then _ else _) _ _ s;rw [ni dL];refine AO (r6 pl (AO (r6 pu (AO (DY ?_)))));show AS _ _ (match Builtin.Slice.sliceAdjust lo hi 1 (n:Int) with|(lo,hi)=>pure (lo,(1:Int),JO lo hi 1)) _ _ s;rw [aa9 lo hi n];show AS _ _ (pure (((fX n 0 lo:Nat):Int),(1:Int),JO ((fX n 0 lo:Nat):Int) ((fX n n hi:Nat):Int) 1)) _ _ s;rw [adK];exact DY h
def af' (xs:Λ)(i k:Nat):((FG k).filterMap fun (m:Nat)=>xs[((i:Int)+(m:Int)*1).toNat]?).toArray=((xs.toList.drop i).take k).toArray:=by
 let e:(fun (m:Nat)=>xs[((i:Int)+(m:Int)*1).toNat]?)=fun m=>xs[i+m]? :=by
  funext m;have:((i:Int)+(m:Int)*1).toNat=i+m:=ce
  rw [this]
 rw [e];have:=pick_run xs i k;rw [List.filterMap_map] at this;let e2:((fun x=>xs[x]?) ∘ fun x=>i+x)=fun m=>xs[i+m]? :=rfl;rw [e2] at this;rw [this]
def nJ {items:Λ}{lo hi:Υ}{Q:δ}(ht:IsTup s.heap t items)(hs:s.heap.IsSliceOf sl vl vu .none)(pl:IsPart vl lo)(pu:IsPart vu hi)
  (hw:¬ (fX items.size 0 lo=0/\fX items.size items.size hi=items.size))
  (h:Q (.ref s.heap.objs.size) {s with heap:=s.heap.push {cls:=.type "tuple",data:=.seq ((items.toList.drop (fX items.size 0 lo)).take (fX items.size items.size hi-fX items.size 0 lo)).toArray}})
  (hsz:items.size<=AZ):AS (AX prog w) A (getItem (.ref t) (.ref sl)) Q E s:=by
 let IM:sizeOk (.seq ((items.toList.drop (fX items.size 0 lo)).take (fX items.size items.size hi-fX items.size 0 lo)).toArray):=by
  show ((items.toList.drop (fX items.size 0 lo)).take (fX items.size items.size hi-fX items.size 0 lo)).toArray.size<=AZ;rw [LV,FU,SN,ah5];omega
 let hj:fX items.size items.size hi<=items.size:=agi _ _ (D' _) hi;obtain ⟨os,hos,hcs,hds⟩:=id hs;let hTs:s.TypeIs (.ref sl) "slice":=⟨os,hos,hcs⟩;unfold getItem;try with_reducible refine OK ?_
 first|refine AO (DY ?_)|skip
 refine AO (wpAny_sequenceKey ht.typeIs dL ?_)
 refine AO (wpAny_callSpecial?_slot (name:=N7 "__getitem__") ht.typeIs PyProof.Rows.slot_tuple_getitem
  (S2 PyProof.Rows.slot_tuple_getitem ht.typeIs entry_tuple_getitem ?_ (args_tuple_getitem _ _)))
 show AS _ _ (Builtin.Tuple.tupleItemsOf (.ref t) >>=_) _ _ s;refine AO (tupleItemsOf_ ht ?_);refine AO (Xj hTs ?_);rw [ox dL];refine AO (zv1 hs pl pu ?_)
 let hno:¬ ((((fX items.size 0 lo:Nat):Int)==0 && (1:Int)==1 && (fX items.size items.size hi-fX items.size 0 lo)==items.size)=true):=by
  intro q;rw [SM,SM] at q;let q1:((fX items.size 0 lo:Nat):Int)=0:=eq_of_beq q.1.1;let q2:fX items.size items.size hi-fX items.size 0 lo=items.size:=eq_of_beq q.2;exact hw ⟨ce,ce⟩
 show AS _ _ (if (((fX items.size 0 lo:Nat):Int)==0 && (1:Int)==1 && (fX items.size items.size hi-fX items.size 0 lo)==items.size)=true then _ else _) _ _ s;rw [ni hno,af']
 first
  | exact AO (m:=JI _) (T9 (DY ⟨_,rfl,DY h⟩) IM)
  | exact AO (m:=JI _) (T9 (AO (DY (DY ⟨_,rfl,DY h⟩))) IM)
  | exact AO (AO (m:=JI _) (T9 (DY (DY ⟨_,rfl,DY h⟩)) IM))
  | exact AO (AO (m:=JI _) (T9 (DY ⟨_,rfl,DY h⟩) IM))
end
end HT
namespace L2
open PySem PySem.Spec PyProof.Rows
abbrev TO:=St->Hp->(Option Int->Hp->Prop)->Prop
def PO (X:Cx)(e:Option Expr)(t:TO):Prop:=
 ∀(pX:ε)(s:BN)(Y:St)(H:Hp)(Q:Option Int->Hp->Prop),Inv X pX Y H s->t Y H Q->
  AS (AX X.prog X.w) X.A (evalPart e X.env) (fun u s'=>∃o H',Inv X pX Y H' s'/\IsPart u o/\Q o H') X.xe s
def aga:TO:=fun _ H Q=>Q none H
inductive Ou (Q:(Option Int->Hp->Prop))(x:V)(H1:Hp):Prop
|mk (i:_)(_:x=.int i)(_:Q (some i) H1)
def aah (t:TE):TO:=fun Y H Q=>t Y H fun x H1=>Ou Q x H1
section
variable {X:Cx}{e:Expr}{te:TE}{lo hi:Option Expr}{tl th:TO}{pos p2:Pos}
def cQ:PO X none aga:=by
 intro pX s Y H Q I h;rw [evalPart_none];exact DY ⟨none,H,I,.none,h⟩
def cH (h:PE X e te):PO X (some e) (aah te):=by
 intro pX s Y H Q I hw;rw [evalPart_some];refine cK (h pX s Y H _ I hw) fun u s1 ⟨x,H1,I1,r1,q1⟩=>?_;obtain ⟨i,rfl,q⟩:=q1;obtain ⟨t,rfl⟩:=r1;show ⟨some i,H1,I1,.int i t,q⟩
def SlR (X:Cx)(r:V->Option Int->Option Int->Hp->VK->Prop):Prop:=
 ∀(pX:ε)(s:BN)(Y:St)(H:Hp)(x:V)(v vl vu:Value)(lo hi:Υ)(sl:AF)(Q:VK),Inv X pX Y H s->RelV x v->s.heap.IsSliceOf sl vl vu .none->IsPart vl lo->IsPart vu hi->r x lo hi H Q->
  ∃T id,typeLookup (.type T) "__getitem__"=pure (some (.builtin id))/\s.TypeIs v T/\AS (AX X.prog X.w) X.A (getItem v (.ref sl)) (EP X pX Y Q) X.xe s
def tSl (r:V->Option Int->Option Int->Hp->VK->Prop)(te:TE)(tl th:TO):TE:=fun Y H Q=>te Y H fun x H1=>tl Y H1 fun l H2=>th Y H2 fun u H3=>r x l u H3 Q
def bX (hr:SlR X r)(he:PE X e te)(hl:PO X lo tl)(hu:PO X hi th):PE X (.Subscript e (.Slice lo hi none p2) pos) (tSl r te tl th):=by
 intro pX s Y H Q I h;refine Subscript_ (cK (he pX s Y H _ I h) fun v s1 ⟨x,H1,I1,r1,q1⟩=>?_);refine wpAny_Slice (cK (hl pX s1 Y H1 _ I1 q1) fun vl s2 ⟨l,H2,I2,pl,q2⟩=>cK (hu pX s2 Y H2 _ I2 q2) fun vu s3 ⟨u,H3,I3,pu,q3⟩=>?_);rw [evalPart_none];refine DY ?_;let I4:Inv X pX Y H3 {s3 with heap:=s3.heap.push {cls:=.type "slice",data:=.fields #[vl,vu,.none]}}:=I3.kept (t':=s3.toks) fun b ob q=>FK _ q;obtain ⟨T,id,hT,ht,hg⟩:=hr pX {s3 with heap:=s3.heap.push {cls:=.type "slice",data:=.fields #[vl,vu,.none]}} Y H3 x v vl vu l u s3.heap.objs.size Q I4 r1 (Heap.IsSliceOf.new ..) pl pu q3;show AS (AX X.prog X.w) X.A (subscriptTail e (.Slice lo hi none p2) v (.ref s3.heap.objs.size)) (EP X pX Y Q) X.xe {s3 with heap:=s3.heap.push {cls:=.type "slice",data:=.fields #[vl,vu,.none]}};exact tail_any (ops:=[.ref s3.heap.objs.size,v]) ht hT hg (by with_unfolding_all rfl)
def gO (xs:η)(lo hi:Υ):List V:=(xs.drop (HT.fX xs.length 0 lo)).take (HT.fX xs.length xs.length hi-HT.fX xs.length 0 lo)
def qv (xs:η)(lo hi:Υ):(gO xs lo hi).length<=xs.length:=by
 unfold gO;rw [FU,SN];omega
inductive aai (K:Frag)(x:V)(lo:Υ)(hi:Υ)(H:Hp)(Q:VK):Prop
|mk (a xs:_)(_:x=.ref a)(_:bE K H a xs)(_:¬ (HT.fX xs.length 0 lo=0/\HT.fX xs.length xs.length hi=xs.length))(_:∀p,H p=none->Q (.ref p) (upd H p (.tup (gO xs lo hi))))
def ED:SlR X (aai X.K):=by
 intro pX s Y H x v vl vu lo hi sl Q I rx hs pl pu h;obtain ⟨a,xs,rfl,hx,hw,q⟩:=h;cases rx;obtain ⟨AP,r,ht,hz⟩:=I.tuple hx;let hlen:AP.toArray.size=xs.length:=by rw [LV];exact r.length.symm
 show ⟨"tuple",_,PyProof.Rows.slot_tuple_getitem.lookup,ht.typeIs,HT.nJ ht hs pl pu (by rwa [hlen]) ?_ (by rwa [hlen])⟩;rw [hlen];show ⟨.ref s.heap.objs.size,_,I.laid (t':=s.toks) (o:=.tup (gO xs lo hi)) (fun b ob q=>FK _ q) (D' _) ?_,rfl,q _ (I.bJ.fresh (D' _))⟩;show ⟨BJ (qv xs lo hi) hz,_,(r.drop (HT.fX xs.length 0 lo)).take (HT.fX xs.length xs.length hi-HT.fX xs.length 0 lo),IsTup.new _ _⟩
end
def EE (n:Nat)(i:Int):Option Nat:=if 0<=i then (if i<n then some i.toNat else none) else if -(n:Int)<=i then some (i+n).toNat else none
def i7 {Z:Type}(xs:List Z)(i:Int):Option Z:=(EE xs.length i).bind fun j=>xs[j]?
def agQ (h:EE n i=some j):seqIndex? i n=some j/\j<n/\ -(n:Int)<=i/\i<n:=by
 unfold EE at h;by_cases h0:0<=i
 ·rw [ox h0] at h
  by_cases h1:i<n
  ·rw [ox h1] at h
   let e:i.toNat=j:=GU h;show ⟨by rw [seqIndex_of h0 h1,e],ce,ce,h1⟩
  ·erw [ni h1] at h
 ·rw [ni h0] at h
  by_cases h1: -(n:Int)<=i
  ·rw [ox h1] at h
   let e:(i+n).toNat=j:=GU h;show ⟨by rw [seqIndex_neg ce h1,e],ce,h1,ce⟩
  ·erw [ni h1] at h
def agO {v:Z}(h:i7 xs i=some v):∃j,seqIndex? i xs.length=some j/\xs[j]?=some v/\j<xs.length/\ -(xs.length:Int)<=i/\i<xs.length:=by
 unfold i7 at h;cases e:EE xs.length i with
 | none=>erw [e] at h
 | some j=>
  rw [e] at h;obtain ⟨h1,h2,h3,h4⟩:=agQ e;show ⟨j,h1,h,h2,h3,h4⟩
def bq {j:Nat}{v:Z}(h:xs[j]?=some v):i7 xs (j:Int)=some v:=by
 let hj:j<xs.length:=(be.mp h).1
 let e:EE xs.length (j:Int)=some j:=by
  unfold EE;rw [ox ce,ox ce];simp
 unfold i7;rwa [e]
def agI (b:Expr):Prop:=∀o i,subscripted b false o i=operate [o,i] (getItem o i)
def W8 (X:Cx)(r:R2):Prop:=
 ∀(value slice:Expr)(pX:ε)(s:BN)(Y:St)(H:Hp)(x y:V)(v u:Value)(Q:VK),Inv X pX Y H s->RelV x v->RelV y u->r x y H Q->
  subscripted slice false v u=operate [v,u] (getItem v u)->AS (AX X.prog X.w) X.A (subscriptTail value slice v u) (EP X pX Y Q) X.xe s
def MtR (X:Cx)(id:String)(r:V->List V->Hp->VK->Prop):Prop:=
 ∀(pX:ε)(s:BN)(Y:St)(H:Hp)(x:V)(xs:η)(v:Value)(us:ρ)(Q:VK),Inv X pX Y H s->RelV x v->Vals xs us->r x xs H Q->
  AS (AX X.prog X.w) X.A (call (.builtin id) (v::us)) (EP X pX Y Q) X.xe s
section
variable {X:Cx}{a b:Expr}{ta tb:TE}{pos:Pos}
def Ov (hr:W8 X r)(ha:PE X a ta)(hb:PE X b tb)(hs:agI b):PE X (.Subscript a b pos) (SD r ta tb):=by
 intro pX s Y H Q I h;exact Subscript_ (WY ha hb I h fun v u s2 x y H2 I2 rx ry q=>hr a b pX s2 Y H2 x y v u Q I2 rx ry q (hs _ _))
inductive SR (K:Frag)(x:V)(y:V)(H:Hp)(Q:VK):Prop
|mk (p xs i v:_)(_:x=.ref p)(_:y=.int i)(_:aR K H p xs)(_:i7 xs i=some v)(_:Q v H)
inductive Ow (K:Frag)(x:V)(y:V)(H:Hp)(Q:VK):Prop
|mk (p xs i v:_)(_:x=.ref p)(_:y=.int i)(_:bE K H p xs)(_:i7 xs i=some v)(_:Q v H)
def aI:W8 X (SR X.K):=by
 intro value slice pX s Y H x y v u Q I rx ry h hs;obtain ⟨p,xs,i,z,rfl,rfl,hq,he,q⟩:=h;cases rx;obtain ⟨t,rfl⟩:=ry;obtain ⟨AP,r,pl,hz⟩:=I.list hq;obtain ⟨j,h1,h2,h3,h4,h5⟩:=agO he;obtain ⟨w,ew,u_⟩:=r.get h2;let hl:=r.length;let hn:=wU;let fin:EP X pX Y Q w s:=⟨z,H,I,u_,q⟩;by_cases h0:0<=i
 ·let hj:i.toNat=j:=by
   rw [seqIndex_of h0 h5] at h1;exact GU h1
  exact item_listR pl.isList h0 ce (by rw [hj];simpa using ew) fin hs
 ·let hj:(i+(AP.toArray.size:Int)).toNat=j:=by
   rw [seqIndex_neg ce h4] at h1;rw [LV,<-hl];exact GU h1
  exact subscriptTail_builtinR (x:=w) pl.isList.typeIs slot_list_getitem.lookup
   (wpAny_getItem_list_neg (Q:=fun r s'=>r=w/\EP X pX Y Q r s') pl.isList ce (by rw [LV]<;>omega) ce (by rw [hj];simpa using ew) ⟨rfl,fin⟩) hs
def pH:W8 X (Ow X.K):=by
 intro value slice pX s Y H x y v u Q I rx ry h hs;obtain ⟨p,xs,i,z,rfl,rfl,hq,he,q⟩:=h;cases rx;obtain ⟨t,rfl⟩:=ry;obtain ⟨AP,r,pl,hz⟩:=I.tuple hq;obtain ⟨j,h1,h2,h3,h4,h5⟩:=agO he;obtain ⟨w,ew,u_⟩:=r.get h2;let hl:=r.length;let hn:=wU;let fin:EP X pX Y Q w s:=⟨z,H,I,u_,q⟩
 exact subscriptTail_builtinR (x:=w) pl.typeIs slot_tuple_getitem.lookup
  (getItem_tuple (j:=j) (Q:=fun r s'=>r=w/\EP X pX Y Q r s') pl ce ce (by rwa [LV,<-hl]) (by simpa using ew) ⟨rfl,fin⟩) hs
def adF (AP:ρ)(n j:Nat)(u:Value):QR (·.setIfInBounds j u) {cls:=.type "list",data:=.seq AP.toArray n}={cls:=.type "list",data:=.seq (AP.set j u).toArray n}:=by
 simp [QR]
theorem Inv.lst {pX:ε}{Y:St}{H:Hp}{s:BN}{p:AF}{xs:η}(I:Inv X pX Y H s)(h:H p=some (.lst xs)):
  ∃(AP:ρ)(n:Nat),Vals xs AP/\s.heap.get? p=some {cls:=.type "list",data:=.seq AP.toArray n}/\xs.length<=AZ:=by
 obtain ⟨z,AP,n,r,e⟩:=I.bJ p _ h;show ⟨AP,n,r,e,z⟩
def Inv.W9 {Y:St}{xs ys:η}{AP qR:ρ}(I:Inv X pX Y H s)(h:H p=some (.lst xs))
  (ho:s.heap.get? p=some {cls:=.type "list",data:=.seq AP.toArray n}) (hf:f {cls:=.type "list",data:=.seq AP.toArray n}={cls:=.type "list",data:=.seq qR.toArray n'}) (r:Vals ys qR) (hz:ys.length<=AZ) (t:Nat):
  Inv X pX Y (upd H p (.lst ys)) {s with heap:=s.heap.update p f,toks:=t}:=by
 let e:(s.heap.update p f).get? p=some {cls:=.type "list",data:=.seq qR.toArray n'}:=by
  rw [α8 f ho (by rw [hf]<;>rfl),hf]
 refine I.write (x:=p) (e:=p) (by rw [h];trivial) (.inl rfl) (fun b u hb q=>(S7 _ _ (FT hb)).trans q) ⟨_,e⟩ ?_;show ⟨hz,qR,n',r,e⟩
inductive VI (o:V)(i:V)(v:V)(H:Hp)(Q:(Hp->Prop)):Prop
|mk (p xs k j:_)(_:o=.ref p)(_:i=.int k)(_:H p=some (.lst xs))(_:EE xs.length k=some j)(_:Q (upd H p (.lst (xs.set j v))))
def set_list:α6 X VI:=by
 intro pX s Y H o i v ov iv u Q I ro ri rv h;obtain ⟨p,xs,k,j,rfl,rfl,hp,hj,q⟩:=h;cases ro;obtain ⟨t,rfl⟩:=ri;obtain ⟨AP,n,r,ho,hz⟩:=I.lst hp;obtain ⟨h1,h2,h3,h4⟩:=agQ hj;let hl:=r.length;let hn:=wU
 let I':Inv X pX Y (upd H p (.lst (xs.set j v))) {s with heap:=s.heap.update p (QR (·.setIfInBounds j u))}:=
  I.W9 hp ho (adF AP n j u) (r.set rv j) (by rwa [Sv]) s.toks
 by_cases h0:0<=k
 ·let hk:k.toNat=j:=by
   rw [seqIndex_of h0 h4] at h1;exact GU h1
  exact PySem.W.ki_setAt ho h0 ce (by rwa [LV,<-hl]) (by rw [hk];show ⟨_,I',q⟩)
 ·let hk:(k+(AP.toArray.size:Int)).toNat=j:=by
   rw [seqIndex_neg ce h3] at h1;rw [LV,<-hl];exact GU h1
  exact PySem.W.ki_setBack ho ce (by rwa [LV,<-hl]) ce (by rw [hk];show ⟨_,I',q⟩)
def akx (lo hi:Υ)(n:Nat):(Tc lo hi none n).1=((HT.fX n 0 lo:Nat):Int)/\(Tc lo hi none n).2.1=((HT.fX n n hi:Nat):Int)/\(Tc lo hi none n).2.2=1:=by
 show ⟨?_,?_,rfl⟩
 ·cases lo with
  | none=>simp [Tc,HT.fX]
  | some i=>
   simp only [Tc,HT.fX,ajK,show (1:Int) > 0 by decide,if_true];by_cases h:i<0
   ·simp only [h,if_true]<;>omega
   ·simp only [h,if_false]<;>omega
 ·cases hi with
  | none=>simp [Tc,HT.fX]
  | some i=>
   simp only [Tc,HT.fX,ajK,show (1:Int) > 0 by decide,if_true];by_cases h:i<0
   ·simp only [h,if_true]<;>omega
   ·simp only [h,if_false]<;>omega
def zaL (AP:ρ)(lo hi:Υ):slicePick AP.toArray lo hi none=((AP.drop (HT.fX AP.length 0 lo)).take (HT.fX AP.length AP.length hi-HT.fX AP.length 0 lo)).toArray:=by
 obtain ⟨h1,h2,h3⟩:=akx lo hi AP.toArray.size;unfold slicePick;rw [h1,h2,h3];simp only [sliceRange_one,pick_run,LV]<;>rfl
inductive aaj (K:Frag)(x:V)(lo:Υ)(hi:Υ)(H:Hp)(Q:VK):Prop
|mk (a xs:_)(_:x=.ref a)(_:aR K H a xs)(_:∀p,H p=none->Q (.ref p) (upd H p (.lst (gO xs lo hi))))
def dP:SlR X (aaj X.K):=by
 intro pX s Y H x v vl vu lo hi sl Q I rx hs pl pu h;obtain ⟨a,xs,rfl,hx,q⟩:=h;cases rx;obtain ⟨AP,r,ht,hz⟩:=I.list hx;let hlen:=r.length;show ⟨"list",_,slot_list_getitem.lookup,ht.isList.typeIs,wpAny_getItem_list_slice ht.isList hs pl pu .none ga ?_ (by rw [LV]<;>omega)⟩;rw [zaL,<-hlen];show ⟨.ref s.heap.objs.size,_,I.laid (t':=s.toks) (o:=.lst (gO xs lo hi)) (fun b ob q=>FK _ q) (D' _) ?_,rfl,q _ (I.bJ.fresh (D' _))⟩;show ⟨BJ (qv xs lo hi) hz,_,0,(r.drop (HT.fX xs.length 0 lo)).take (HT.fX xs.length xs.length hi-HT.fX xs.length 0 lo),LL _ rfl⟩
def kc:V->Bool
 | .dc=>true
 | .bl _=>true
 | .int _=>true
 | .str _=>true
 | _=>false
def nK:V->V->Bool
 | .dc,.dc=>true
 | .bl a,.bl b=>a==b
 | .bl a,.int b=>(if a then 1 else 0)==b
 | .int a,.bl b=>a==(if b then 1 else 0)
 | .int a,.int b=>a==b
 | .str a,.str b=>a==b
 | _,_=>false
def Ox (ry:RelV y u)(rx:RelV x v)(fy:kc y=true)(fx:kc x=true):SeqAt.EqAt A s u v (nK y x):=by
 cases y with
 | dc=>
  cases ry;cases x with
  | dc=>cases rx;exact SeqAt.EqAt.same _
  | bl b=>cases rx;exact SeqAt.EqAt.none_bool b
  | int b=>obtain ⟨t,rfl⟩:=rx;exact SeqAt.EqAt.none_int b t
  | str b=>obtain ⟨t,rfl⟩:=rx;exact SeqAt.EqAt.none_str b t
  | _=>exact DZ (show false=true from fx) LM
 | bl a=>
  cases ry;cases x with
  | dc=>cases rx;exact SeqAt.EqAt.bool_none a
  | bl b=>cases rx;exact SeqAt.EqAt.bool_bool a b
  | int b=>obtain ⟨t,rfl⟩:=rx;exact SeqAt.EqAt.bool_int a b t
  | str b=>obtain ⟨t,rfl⟩:=rx;exact SeqAt.EqAt.bool_str a b t
  | _=>exact DZ (show false=true from fx) LM
 | int a=>
  obtain ⟨t',rfl⟩:=ry;cases x with
  | dc=>cases rx;exact SeqAt.EqAt.int_none a t'
  | bl b=>cases rx;exact SeqAt.EqAt.int_bool a t' b
  | int b=>obtain ⟨t,rfl⟩:=rx;exact SeqAt.EqAt.int_int a t' b t
  | str b=>obtain ⟨t,rfl⟩:=rx;exact SeqAt.EqAt.int_str a t' b t
  | _=>exact DZ (show false=true from fx) LM
 | str a=>
  obtain ⟨t',rfl⟩:=ry;cases x with
  | dc=>cases rx;exact SeqAt.EqAt.str_none a t'
  | bl b=>cases rx;exact SeqAt.EqAt.str_bool a t' b
  | int b=>obtain ⟨t,rfl⟩:=rx;exact SeqAt.EqAt.str_int a t' b t
  | str b=>obtain ⟨t,rfl⟩:=rx;exact SeqAt.EqAt.str_str a t' b t
  | _=>exact DZ (show false=true from fx) LM
 | _=>exact DZ (show false=true from fy) LM
def SS (x:V)(u:Value):Bool:=match u with
 | .none=>nK .dc x
 | .bool b=>nK (.bl b) x
 | .int i _=>nK (.int i) x
 | .str z _=>nK (.str z) x
 | _=>false
def Oy (r:RelV y u)(f:kc y=true):SS x u=nK y x:=by
 cases y with
 | dc=>cases r;rfl
 | bl b=>cases r;rfl
 | int i=>obtain ⟨t,rfl⟩:=r;rfl
 | str z=>obtain ⟨t,rfl⟩:=r;rfl
 | _=>exact DZ (show false=true from f) LM
theorem wZ :∀{xs:η} {us:ρ},Vals xs us->xs.all kc=true->us.any (SS x)=xs.any fun y=>nK y x
 | _,_,.nil,_=>rfl
 | y::xs,u::us,.cons r t,f=>by
  rw [YF,SM] at f;rw [WZ,WZ,Oy r f.1,wZ t f.2]
theorem r8 (rx:RelV x v)(fx:kc x=true):∀{xs:η} {us:ρ},Vals xs us->xs.all kc=true->∀u∈us,SeqAt.EqAt A s u v (SS x u)
 | _,_,.nil,_=>fun u hu=>by cases hu
 | y::xs,u::us,.cons r t,f=>fun u' hu=>by
  rw [YF,SM] at f
  rcases LN.mp hu with rfl|hu
  ·rw [Oy r f.1];exact Ox r rx f.1 fx
  ·exact r8 rx fx t f.2 u' hu
def Zn (x:V)(xs:η):Bool:=xs.any fun y=>nK y x
inductive rIn (K:Frag)(neg:Bool)(x:V)(y:V)(H:Hp)(Q:VK):Prop
|mk (p xs:_)(_:y=.ref p)(_:(aR K H p xs\/bE K H p xs))(_:kc x=true)(_:xs.all kc=true)(_:Q (.bl (if neg then !Zn x xs else Zn x xs)) H)
def nO:j8 X (Lo .NotIn) (rIn X.K true):=by
 intro pX s Y H x y v u Q I rx ry h;obtain ⟨p,xs,rfl,hq,fx,fs,q⟩:=h;cases ry
 rcases hq with hq|hq
 ·obtain ⟨AP,r,pl,hz⟩:=I.list hq
  refine SeqAt.notIn_listAt (SS x) pl.isList (fun w hw=>r8 rx fx r fs w (by simpa using hw)) ⟨.bl _,H,I,rfl,?_⟩;rwa [show AP.toArray.any (SS x)=AP.any (SS x) by simp,wZ r fs]
 ·obtain ⟨AP,r,pl,hz⟩:=I.tuple hq
  refine SeqAt.notIn_tupleAt (SS x) pl (fun w hw=>r8 rx fx r fs w (by simpa using hw)) ⟨.bl _,H,I,rfl,?_⟩;rwa [show AP.toArray.any (SS x)=AP.any (SS x) by simp,wZ r fs]
def aQ:ja X (.builtin "len") (fun xs H Q=>∃p ys,xs=[.ref p]/\(aR X.K H p ys\/bE X.K H p ys)/\Q (.int ys.length) H):=by
 intro pX s Y H xs us Q I r h;obtain ⟨p,ys,rfl,hq,q⟩:=h;obtain ⟨u,rfl,rx⟩:=vals1 r;cases rx;let hn:=wU
 rcases hq with hq|hq
 ·obtain ⟨AP,r',pl,hz⟩:=I.list hq
  let hlen:=r'.length;exact Calls.call_len_list pl.isList (by simp only [LV]<;>omega) ⟨.int ys.length,H,I.tok _,⟨s.toks+1,by rw [LV,hlen]⟩,q⟩
 ·obtain ⟨AP,r',pl,hz⟩:=I.tuple hq
  let hlen:=r'.length;exact len_tuple pl (by simp only [LV]<;>omega) ⟨.int ys.length,H,I.tok _,⟨s.toks+1,by rw [LV,hlen]⟩,q⟩
def tyV (K:Frag)(T:String)(x:V)(H:Hp):Prop:=match x with
 | .str _=>T="str"
 | .int _=>T="int"
 | .ref p=>(T="list"/\∃xs,aR K H p xs)\/(T="tuple"/\∃o,K.lookup p=some o/\o.cls=.type "tuple"/\o.dict=none)\/
   (T="dict"/\((∃AA,H p=some (.dK AA))\/∃AA,H p=some (.dT AA)))\/(T="set"/\∃S n,H p=some (.set S n))
 | _=>False
def Oz {Y:St}(I:Inv X pX Y H s)(r:RelV x v)(ty:tyV X.K T x H):
  s.TypeIs v T/\∀a,v=.ref a->∃ob,s.heap.get? a=some ob/\ob.dict=none:=by
 cases x with
 | str z=>
  obtain ⟨t,rfl⟩:=r;cases (show T="str" from ty);show ⟨typeIs_str s z t,fun _ e=>nomatch e⟩
 | int i=>
  obtain ⟨t,rfl⟩:=r;cases (show T="int" from ty);show ⟨typeIs_int s i t,fun _ e=>nomatch e⟩
 | ref p=>
  cases r
  rcases ty with ⟨rfl,xs,hq⟩|⟨rfl,o,hk,hc,hd⟩|⟨rfl,hk⟩|⟨rfl,S,n,hk⟩
  ·obtain ⟨AP,_,pl,_⟩:=I.list hq
   show ⟨pl.isList.typeIs,fun a e=>?_⟩;cases e;obtain ⟨o,n,e,c,hd,_⟩:=pl;show ⟨o,e,hd⟩
  ·show ⟨⟨o,I.mC p o hk,hc⟩,fun a e=>?_⟩
   cases e;show ⟨o,I.mC _ o hk,hd⟩
  ·let z:∃o,s.heap.get? p=some o/\o.ExactDict:=by
    rcases hk with ⟨AA,hk⟩|⟨AA,hk⟩
    ·obtain ⟨_,_,_,_,o,_,_,e,ex,_⟩:=I.bJ p _ hk
     show ⟨o,e,ex⟩
    ·obtain ⟨_,_,_,_,o,_,_,e,ex,_⟩:=I.bJ p _ hk
     show ⟨o,e,ex⟩
   obtain ⟨o,e,ex⟩:=z;show ⟨⟨o,e,ex.1⟩,fun a e2=>?_⟩;cases e2;show ⟨o,e,ex.2.1⟩
  ·obtain ⟨o,_,_,_,e,ex,_⟩:=I.bJ p _ hk
   show ⟨⟨o,e,ex.1⟩,fun a e2=>?_⟩;cases e2;show ⟨o,e,ex.2.1⟩
 | _=>exact False.elim ty
def tBM (K:Frag)(T:String)(r:V->List V->Hp->VK->Prop)(to:TE)(t:TA):TE:=fun Y H Q=>to Y H fun x H1=>tyV K T x H1/\t Y H1 fun xs H2=>r x xs H2 Q
variable {o e:Expr}{es:Ε}{to:TE}{t:TA}{name:Str}{apos fU:Pos}{T id:String}{r:V->List V->Hp->VK->Prop}
def qw (pa:PlainAttrs T)(slot:Slot T name id)(hty:typeOf (.builtin id)=pure (.type "method_descriptor"))(hm:MtR X id r)(ho:PE X o to)(ha:PA X (e::es) t)
  (r9:Tj o name X.env (D_ o X.env)=D_ o X.env:=by rfl)
  (ahL:((Le fU (EC (e::es) X.env)).all (fun x=> !x.1) && (backToKw fU (Xn [] X.env)).all (fun x=>x.1.isSome)
   && decide ((e::es).length+([]:List Keyword).length+(if ([]:List Keyword).isEmpty then 0 else 1)<30))=true:=by rfl)
  (r_:(apos.endLine==fU.line)=true:=by rfl) (hs:EC (e::es) X.env=(false,D_ e X.env)::EC es X.env:=by rfl) (W_:(Le fU (EC es X.env)).any (·.1)=false:=by rfl):
  PE X (.Call (.Attribute o name apos) (e::es) [] fU) (tBM X.K T r to t):=by
 intro pX s Y H Q I h;refine wpAny_Call_method_late r9 ahL r_ rfl (cK (ho pX s Y H _ I h) fun v s1 ⟨x,H1,I1,r1,ty,q1⟩=>?_);obtain ⟨h1,h2⟩:=Oz I1 r1 ty;show ⟨T,id,pa,slot,hty,h1,h2,?_⟩;let hA:=ha fU pX s1 Y H1 _ I1 q1;rw [hs] at hA ⊢;refine α1 (by show (false || (Le fU (EC es X.env)).any (·.1))=false;rw [W_]<;>rfl) (Calls.evalArgs_plain ?_);exact cK hA fun us s2 ⟨vs,H2,I2,r2,q2⟩=>hm pX s2 Y H2 x vs v us Q I2 r1 r2 q2
end
def MtM (X:Cx)(id:String)(r:V->List V->Hp->VK->Prop):Prop:=
 ∀(pX:ε)(s:BN)(Y:St)(H:Hp)(x:V)(xs:η)(v:Value)(us:ρ)(Q:VK),Inv X pX Y H s->RelV x v->Vals xs us->r x xs H Q->
  AS (AX X.prog X.w) X.A (call (.builtin id) (v::us)) (EP X pX Y Q) X.xe s
def Vals.one:∀{x:V} {us:ρ},Vals [x] us->∃u,us=[u]/\RelV x u
 | _,_,.cons r .nil=>⟨_,rfl,r⟩
theorem Vals.rep {xs:η}{us:ρ}(h:Vals xs us):∀k:Nat,Vals (GH k xs).flatten (GH k us).flatten
 | 0=>.nil
 | k+1=>by
  rw [WX,WX,BI,BI];exact Vals.append h (Vals.rep h k)
theorem foldl_rep (AP:ρ):∀(k:Nat)(acc:ρ),
  aj' (fun x1 x2=>x1++x2) acc.toArray (GH k AP.toArray)=(acc++(GH k AP).flatten).toArray
 | 0,acc=>by simp
 | k+1,acc=>by
  let e:acc.toArray++AP.toArray=(acc++AP).toArray:=by simp
  let e2:(acc++AP)++(GH k AP).flatten=acc++(GH (k+1) AP).flatten:=by
   rw [WX,BI,BH]
  rw [<-e2,<-foldl_rep AP k (acc++AP),<-e,WX,List.foldl_cons]
section
variable {X:Cx}{pX:ε}{Y:St}{H:Hp}{s:BN}{l b:AF}{xs ys zs:η}
def Inv.aak {AP qR:ρ}(I:Inv X pX Y H s)(hH:H l=some (.lst xs))
  (e:s.heap.get? l=some {cls:=.type "list",data:=.seq AP.toArray n}) (hf:f AP.toArray=qR.toArray) (hv:Vals ys qR) (hz:ys.length<=AZ):
  Inv X pX Y (upd H l (.lst ys)) {s with heap:=s.heap.update l (QR f),toks:=t'}:=by
 let q:=PySem.IsL.update e f;rw [hf] at q;refine I.write (x:=l) (e:=l) (by rw [hH];exact trivial) (.inl rfl) (fun b' u hb hu=>(S7 s.heap (QR f) (FT hb)).trans hu) ⟨_,q⟩ ?_;show ⟨hz,qR,_,hv,q⟩
def Inv.Xa {AP:ρ}(I:Inv X pX Y H s)(hv:Vals ys AP)(hz:ys.length<=AZ):
  Inv X pX Y (upd H s.heap.objs.size (.lst ys)) {s with heap:=s.heap.push {cls:=.type "list",data:=.seq AP.toArray},toks:=t'}:=
 I.laid (fun _ _ q=>FK _ q) (D' _) ⟨hz,AP,0,hv,LL _ rfl⟩
theorem Inv.fresh (I:Inv X pX Y H s):H s.heap.objs.size=none:=I.bJ.fresh (D' _)
def Inv.so (I:Inv X pX Y H s)(hH:H l=some (.lst xs)):xs.length<=AZ/\∃(AP:ρ)(n:Nat),Vals xs AP/\xs.length=AP.length/\s.heap.get? l=some {cls:=.type "list",data:=.seq AP.toArray n}:=by
 obtain ⟨z,AP,n,r,e⟩:=I.bJ l _ hH;show ⟨z,AP,n,r,r.length,e⟩
def zk (h:n<=AZ):α3 n=false:=by
 unfold α3;exact PH ce
end
section
variable {X:Cx}
inductive IT (x:V)(vs:η)(H:Hp)(Q:VK):Prop
|mk (l xs y:_)(_:x=.ref l)(_:vs=[y])(_:H l=some (.lst xs))(_:xs.length<AZ)(_:Q .dc (upd H l (.lst (xs++[y]))))
def ft:MtM X "list.append" IT:=by
 intro pX s Y H x vs v us Q I rx rv h;obtain ⟨l,xs,y,rfl,rfl,hH,hz,q⟩:=h;cases rx;obtain ⟨u,rfl,ru⟩:=rv.one;obtain ⟨z,AP,n,r,hl,e⟩:=I.so hH;refine call_meets F.slot_list_append ⟨_,e,rfl⟩ F.entry_list_append (F.args_list_append_2 _ _) (PySem.list_append l AP.toArray n u (by rw [LV];omega)) ⟨e,?_⟩;show ⟨.dc,_,I.aak (qR:=AP++[u]) hH e ga (r.append (.cons ru .nil)) ?_,rfl,q⟩;rw [EM,ahB];omega
inductive aal (x:V)(y:V)(H:Hp)(Q:VK):Prop
|mk (l b xs zs:_)(_:x=.ref l)(_:y=.ref b)(_:H l=some (.lst xs))(_:H b=some (.lst zs))(_:xs.length+zs.length<=AZ)(_:∀p,H p=none->Q (.ref p) (upd H p (.lst (xs++zs))))
def ie:j8 X (O8 .Add) aal:=by
 intro pX s Y H x y v u Q I rx ry h;obtain ⟨l,b,xs,zs,rfl,rfl,hH,hB,hz,q⟩:=h;cases rx;cases ry;obtain ⟨z,AP,n,r,hl,e⟩:=I.so hH;obtain ⟨z2,fV,n2,r2,EG,e2⟩:=I.so hB;refine PySem.P.add_list e e2 ?_ (by rw [LV,LV];omega);let ea:AP.toArray++fV.toArray=(AP++fV).toArray:=by simp
 rw [ea];show ⟨.ref _,_,I.Xa (t':=s.toks) (r.append r2) (by rw [EM];omega),rfl,q _ I.fresh⟩
inductive aam (x:V)(y:V)(H:Hp)(Q:VK):Prop
|mk (l k xs:_)(_:x=.ref l)(_:y=.int k)(_:H l=some (.lst xs))(_: -(2^63)<=k)(_:k<2^63)(_:xs.length*k.toNat<=AZ)(_:∀p,H p=none->Q (.ref p) (upd H p (.lst (GH k.toNat xs).flatten)))
def len_rep {Z:Type}(xs:List Z)(k:Nat):(GH k xs).flatten.length=k*xs.length:=by
 induction k with
 | zero=>simp
 | succ k ih=>rw [WX,BI,EM,ih,Nat.succ_mul,YG]
def w4:j8 X (O8 .Mult) aam:=by
 intro pX s Y H x y v u Q I rx ry h;obtain ⟨l,k,xs,rfl,rfl,hH,h1,h2,hz,q⟩:=h;cases rx;obtain ⟨t,rfl⟩:=ry;obtain ⟨z,AP,n,r,hl,e⟩:=I.so hH;let hlen:AP.toArray.size*k.toNat<=AZ:=by rwa [LV,<-hl]
 let ahM:¬ AP.toArray.size*k.toNat > (2^63-1) / 8:=by
  have:(AZ:Nat)<=(2^63-1) / 8:=dL
  omega
 let ahN:¬ (!Builtin.List.listFitsIndex k)=true:=by
  rw [fitsIndex_both h1 h2];exact LM
 let OA:¬ α3 (AP.toArray.size*k.toNat)=true:=by
  rw [zk hlen];exact LM
 let ahO:aj' (fun x1 x2=>x1++x2) #[] (GH (if AP.toArray.isEmpty=true then 0 else k.toNat) AP.toArray)=(GH k.toNat AP).flatten.toArray:=by
  let f0:∀m:Nat,aj' (fun x1 x2=>x1++x2) #[] (GH m AP.toArray)=(GH m AP).flatten.toArray:=fun m=>by
   have:=foldl_rep AP m [];rwa [aiW] at this
  rw [f0];cases AP with
  | nil=>simp
  | cons a r'=>rw [ni ga]
 refine wpAny_binaryOp_repeat_ref (T:="list") (U:="int") dL ⟨_,e,rfl⟩ (fun s'=>typeIs_int s' k t) noFill_list_mul F.fills_int_mul F.slot_int_rmul repeat_list F.slot_int_index.lookup
  (call_meets F.slot_int_rmul (typeIs_int s k t) F.entry_int_rmul (F.args_int_rmul_2 _ _) (int___rmul___int_list k t l AP.toArray n)
   ⟨e,rfl,⟨_,e,rfl⟩,call_meets F.slot_list_mul ⟨_,e,rfl⟩ F.entry_list_mul (F.args_list_mul_2 _ _) (AutoListH.list___mul___list_int_3 l AP.toArray n k t ahN ahM OA) ⟨e,?_⟩⟩)
 rw [ahO];show ⟨.ref _,_,I.Xa (t':=s.toks) (r.rep k.toNat) (by rwa [len_rep,Xs]),rfl,q _ I.fresh⟩
end
end L2
namespace Att
open PySem PySem.W PySem.Calls PyProof.Rows
def zav :∀(ns:ξ)(vs:ρ),WellAll P h vs (ns.map WData.int)->IntsAre vs ns:=by
 intro ns
 induction ns with
 | nil=>
  intro vs w;erw [LP] at w;exact .nil
 | cons n ns ih=>
  intro vs w;rw [DV] at w;cases w with
  | cons a b=>
   cases a;exact .cons _ _ (ih _ b)
def Lk {l:OpenLaw}(hn:l.most=some n){vals:ρ}
  (SU:l.row.toRowW.claim.pre args=true) (hwl:WellAll P h vals args):
  ∃a vs ns,vals=[Value.ref a]/\args=[WData.list (ns.map WData.int)]/\h.get? a=some {cls:=.type "list",data:=.seq vs.toArray}/\IntsAre vs ns/\ns.length<=n:=by
 let hsh:WShape.hasAll [] args [.list .int]=true:=(pre_splitW SU).1;let hc:l.pre.holds [] {args:=args}=true:=(pre_splitW SU).2;obtain ⟨d,r,rfl,h1,h2⟩:=hasAllW_cons hsh;obtain rfl:=hasAllW_nil h2;obtain ⟨xs,rfl,h3⟩:=hasW_list h1;obtain ⟨ns,rfl⟩:=items_int h3
 let hlen:ns.length<=n:=by
  unfold OpenLaw.pre at hc
  let h4:(WTm.not (.lt (.lit (.int (n:Int))) (.len (.arg 0)))).holds [] {args:=[.list (ns.map .int)]}=true:=by
   let h4:=(holds_andW hc).1;rwa [hn] at h4
  let h5:=condW_of h4 (w_not (w_lt w_lit (w_len_list (w_arg rfl))));rw [ir] at h5;refine aiH fun q=>?_;let q':(n:Int)<((ns.length:Nat):Int):=ce
  first
   | (rw [La q'] at h5;exact DZ h5 dL)
   | (simp at h5;omega)
 cases hwl with
 | cons w1 w2=>
  cases w2;cases w1 with
  | list ho OB=>show ⟨_,_,ns,rfl,rfl,ho,zav ns _ OB,hlen⟩
def Ll (l:OpenLaw)(args:List WData):l.row.toRowW.claim.post args (.bool true) args=true:=
 postW_of (r:=l.row.toRowW) (X:=(true==true))
  (show WShape.has [] (.bool true) .bool=true by first|rfl|decide|simp [WShape.has,WShape.arms,WShape.armsAll])
  (show (WTm.eq .res (.lit (.bool true))).value [] {args:=args,res:=some (.bool true),after:=args}=some (.bool (true==true)) from w_eq_bool (w_res rfl) w_lit) rfl
end Att
namespace L2
open PySem PySem.Spec PyProof.Rows
theorem vR:∀{vs:ρ} {ns:ξ},IntsAre vs ns->Vals (ns.map V.int) vs
 | _,_,.nil=>.nil
 | _,_,.cons n t h=>.cons ⟨t,rfl⟩ (vR h)
def aan (H:Hp):Prop:=∀b,H b=none\/∃o xs,H b=some (.eQ o (.lst xs))
def adm {K:Frag}{mg mb:ι}{vs:ρ}{ns:ξ}
  (KX:K.In oW.heap) (hns:oW.heap.Ns EW mg) (hb:oW.heap.Ns builtinsNs mb) (hbb:∀x:Str,x≠ "__name__"->mb x=Lm x) (ahQ:oW.heap.NoLimit) (SV:oW.heap.NoSeer) (hg:oW.gens= #[])
  (ha:oW.heap.get? a=some {cls:=.type "list",data:=.seq vs.toArray}) (hi:IntsAre vs ns) (hl:ns.length<=AZ) (hr:cM k callerA)
  (F:∀iT:Heap,K.In iT->iT.Ns EW mg->dH P w K mg iT CX k fa fd [x] sp) (aao:∀(s:BN)(u:Value),BindsTo s fd ⟨[u],[]⟩ [(x,u)])
  (IK:∀H:Hp,aan H->aR K H a (ns.map V.int)->sp [.ref a] H (fun v _=>v=.bl true) fun _ _ _=>False)
  (hCX:∀H e s',CX [] H oW (fun _ _ _=>False) e s' ->False):
  Lz (AX P w) callerA (.call (.ref fa) ⟨[.ref a],[]⟩) (fun r s'=>r=.ok (.ret (.bool true))/\OldK oW.heap s'.heap/\s'.os=oW.os/\QH s'.gens) oW:=by
 let rv:=vR hi;let ahR:=hi.length
 let core:∀H:Hp,aan H->aR K H a (ns.map V.int)->me P w H oW.heap->(∀b,H b≠none->b=a)->(H a≠none->K.lookup a=none)->
   Lz (AX P w) callerA (.call (.ref fa) ⟨[.ref a],[]⟩) (fun r s'=>r=.ok (.ret (.bool true))/\OldK oW.heap s'.heap/\s'.os=oW.os/\QH s'.gens) oW:=by
  intro H hO hS bJ hA hK;let w6:∀{b:AF} {o:Obj},oW.heap.get? b=some o->H b=none->(wN oW.heap H).get? b=some o:=fun e n=>ad0 e n
  let noA:∀{b:AF} {o:Obj} {es:Array DictEntry} {ep:Nat},oW.heap.get? b=some o->o.data=.dict es ep->H b=none:=fun {b o es ep} e d=>by
   cases q:H b with
   | none=>rfl
   | some u=>
    let e':b=a:=hA b (by rw [q];simp);subst e';erw [ha] at e;let d':Data.seq vs.toArray _=Data.dict es ep:=d;cases d'
  let VJ:∀{b:AF} {m:ι},oW.heap.Ns b m->(wN oW.heap H).Ns b m:=fun {b m} ⟨o,es,ep,e,d,r⟩=>⟨o,es,ep,w6 e (noA e d),d,r⟩
  let hKb:K.In (wN oW.heap H):=fun b o e=>w6 (KX b o e) (by
   cases q:H b with
   | none=>rfl
   | some u=>
    let e':b=a:=hA b (by rw [q];simp);subst e'
    rw [hK (by rw [q];simp)] at e;cases e)
  let hM:Mod K mg (wN oW.heap H):=⟨hKb,VJ hns,⟨mb,VJ hb,hbb⟩,let ⟨mc,h1,h2⟩:=ahQ;⟨mc,VJ h1,h2⟩,
   ⟨let ⟨mc,h1,h2⟩:=SV.statics;⟨mc,VJ h1,h2⟩,let ⟨mc,h1,h2⟩:=SV.mods;⟨mc,VJ h1,h2⟩,let ⟨mc,h1,h2⟩:=SV.imp;⟨mc,VJ h1,h2⟩,
    let ⟨mg',bm,ob,h1,h2,h3,h4,h5⟩:=SV.main;⟨mg',bm,ob,VJ h1,h2,w6 h3 (by
     cases q:H bm with
     | none=>rfl
     | some u=>
      let e':bm=a:=hA bm (by rw [q];simp);subst e';erw [ha] at h3;let h4':Value.type "list"=Value.type "module":=h4;injection h4' with e9
      exact DZ e9 dL),h4,h5⟩⟩⟩
  let e0:EA P w K mg (wN oW.heap H) callerA [] oW H:=⟨rfl,hM,fun b o e=>agD e,AE (adL _ _),trivial,fun b hb=>DZ (show b∈([]:List AF) from hb) ga,bJ,.of_eq hg⟩;refine codeAny_mono ((F _ hKb (VJ hns)).run callerA [] oW H ⟨[.ref a],[]⟩ [.ref a] [.ref a] _ _ hr e0 (aao oW (.ref a)) (.cons rfl .nil) (IK H hO hS)) fun r s' h=>?_;cases r with
  | error e=>exact (hCX H e s' h).elim
  | ok fl=>
   cases fl with
   | next=>exact False.elim h
   | brk=>exact False.elim h
   | cont=>exact False.elim h
   | ret u=>
    obtain ⟨v,H',os,bare,un,ahS,r',q⟩:=h;let q':v=.bl true:=q;subst q';obtain rfl:u=Value.bool true:=r';show ⟨rfl,OldK.of_keep fun b o e=>?_,os,bare⟩;cases q:H b with
    | none=>exact un.keep b o e q (by intro z;exact DZ (show b∈([]:List AF) from z) ga) ga
    | some u=>
     rcases hO b with z|⟨ob,xs,z⟩
     ·erw [q] at z
     ·let z2:=un.u5 b ob _ z
      obtain ⟨e1,_⟩:=bJ b _ z;obtain ⟨e2,_⟩:=ahS b _ z2;erw [e] at e1;exact e2
 cases hk:K.lookup a with
 | some o=>
  let e:=KX a o hk;erw [ha] at e;refine core (fun _=>none) (fun _=>.inl rfl) (.inr ⟨_,vs.toArray,_,hk,rfl,rfl,rfl,by rwa [LV,ahR],by simpa using rv⟩) (fun b u z=>by have z':(none:Option HO)=some u:=z;cases z') (fun b z=>DZ rfl z) fun z=>DZ rfl z
 | none=>
  refine core (fun b=>if b=a then some (.eQ {cls:=.type "list",data:=.seq vs.toArray} (.lst (ns.map V.int))) else none) (fun b=>?_) (.inl (.inr ⟨{cls:=.type "list",data:=.seq vs.toArray},ox rfl⟩)) (fun b u z=>?_) (fun b z=>?_) fun _=>hk
  ·by_cases hb:b=a
   ·exact .inr ⟨_,_,ox hb⟩
   ·exact .inl (ni hb)
  ·by_cases hb:b=a
   ·let z':=(ox hb).symm.trans z
    cases z';subst hb;show ⟨ha,by rwa [ir],vs,_,rv,ha⟩
   ·let z':=(ni hb).symm.trans z
    cases z'
  ·by_cases hb:b=a
   ·exact hb
   ·exact DZ (ni hb) z
abbrev KOf {K:Frag}{h:Heap}(_:K.In h):Frag:=K
def inClass (s:Stmt)(j:Nat):Stmt:=match s with
 | .ClassDef _ _ _ body _ _ _ _ _ _ _=>body.getD j (.Pass ⟨0,0,0,0⟩)
 | _=>.Pass ⟨0,0,0,0⟩
def au (s:Stmt):Arguments:=match s with
 | .FunctionDef _ a _ _ _ _ _ _ _ _=>a
 | _=>{posonlyargs:=[],args:=[],vararg:=none,kwonlyargs:=[],kw_defaults:=[],kwarg:=none,defaults:=[]}
def aq (s:Stmt):List Stmt:=match s with
 | .FunctionDef _ _ b _ _ _ _ _ _ _=>b
 | _=>[]
def ae (s:Stmt):Scope:=match s with
 | .FunctionDef _ _ _ _ _ _ sc _ _ _=>sc
 | _=>{kind:=.function,names:=[],isGenerator:=false,isCoroutine:=false}
abbrev E0:XK:=fun _ _ _=>False
structure sr (K:Frag)(x qual:Str)(st:Stmt)(f:AF)(fd:FuncData):Prop where
 ex:∃(oc:Value)(od:Κ)(kV doc pm:Value)(an:Κ)(cF ct:Value)(uZ:Ν),
  fd=fnOf x qual (au st) (aq st) (ae st) .none kV doc pm an cF ct/\K.lookup f=some ⟨oc,od,.func fd,uZ⟩/\codeIn K cF qual=true
 kp:keepIn K (.ref f)=true
section
variable {P:FE}{w:World}{K:Frag}{mg:ι}{iT:Heap}
def sr.binds {st:Stmt}(F:sr K x qual st f fd)
  (h:∀(kV doc pm:Value)(an:Κ)(cF ct:Value)(us:ρ),us.length=ps.length->bindArgs (fnOf x qual (au st) (aq st) (ae st) .none kV doc pm an cF ct) ⟨us,[]⟩=pure (ps.zip us)):Binds K fd ps []:=by
 obtain ⟨oc,od,kV,doc,pm,an,cF,ct,uZ,rfl,lk,u6⟩:=F.ex;exact .all (h kV doc pm an cF ct)
def eY {st:Stmt}{od an:Κ}{uZ:Ν}{kV doc pm cF ct:Value}(l:K.lookup f=some ⟨oc,od,.func (fnOf x qual (au st) (aq st) (ae st) .none kV doc pm an cF ct),uZ⟩)
  (c:codeIn K cF qual=true) (k:keepIn K (.ref f)=true):sr K x qual st f (fnOf x qual (au st) (aq st) (ae st) .none kV doc pm an cF ct):=⟨⟨oc,od,kV,doc,pm,an,cF,ct,uZ,rfl,l,c⟩,k⟩
end
def bQ (hr:cM k A):A.units+1<Lp:=FX (Nat.add_le_add_left (by decide:1<=64) _) hr.units
section
variable {X:Cx}
def pv (i:Nat){pos:Pos}(hN:X.N[i]?=some x:=by rfl)(hv:Vis X.env.scope x:=by first|exact Pj rfl|exact TM (Pj rfl)|exact TM (TM rfl))(hd:(x==("__debug__":Str))=false:=by decide)
  (u6:(x==("__classdict__":Str))=false:=by decide):PE X (.Name x pos) (Su i):=agR hN hv hd u6
end
def Xb {A B:Prop}(h:B):if false=true then A else B:=by
 rwa [ni LM]
def ahT {A B:Prop}(h:A):if true=true then A else B:=by
 rwa [ox rfl]
def bG {c A B:Prop}[Decidable c](h1:c->A)(h2:¬ c->B):if c then A else B:=by
 by_cases h:c
 ·rw [ox h]
  exact h1 h
 ·rw [ni h]
  exact h2 h
def IU {c A B:Prop}[Decidable c](hc:c)(h:B):if (!decide c)=true then A else B:=by
 rw [La hc];exact Xb h
def ao (H H':Hp):Prop:=∀b o,H b=some o->H' b=some o
def ao.refl (H:Hp):ao H H:=fun _ _ h=>h
def ao.trans (a:ao H H1)(b:ao H1 H2):ao H H2:=fun c o h=>b c o (a c o h)
def ao.free (e:ao H H')(h:H' l=ap4):H l=ap4:=by
 cases q:H l with
 | none=>rfl
 | some o=>
  erw [e l o q] at h
def ao.seq {K:Frag}(e:ao H H')(h:aR K H a xs):aR K H' a xs:=by
 rcases h with (h|⟨o,h⟩)|h
 ·exact .inl (.inl (e _ _ h))
 ·exact .inl (.inr ⟨o,e _ _ h⟩)
 ·exact .inr h
end L2
namespace Ty
def gz (t b:Int):Int:=(LI t b:Nat)
def sg (t b:Int):Int:=if b<0 then -gz t b else gz t b
def low (t b:Int):Int×Int:=(t.fdiv (sg t b),b.fdiv (sg t b))
def zo (a b:Int):LI b (a.fmod b)=LI a b:=by
 rw [aju,Int.gcd_sub_mul_left_right,Int.gcd_comm]
def vT {a b:Int}(h:b≠0):(a.fmod b).natAbs<b.natAbs:=by
 rcases BE b 0 with q|q|q
 ·let h1:(-a).fmod (-b)= -(a.fmod b):=by
   rw [aju,aju,Int.neg_fdiv_neg,Int.neg_mul];omega
  let h2:=IL (-a) (show 0 < -b by omega);let h3:=aie (-a) (show 0 < -b by omega);omega
 ·exact DZ q h
 ·let h2:=IL a q
  let h3:=aie a q;omega
def w8 (h:b≠0):0<gz t b:=by
 have:=ajX.mpr (TM h:t≠0\/b≠0);show (0:Int)<((LI t b:Nat):Int);omega
def aap (h:b≠0):(gz t b).natAbs<=b.natAbs:=by
 let h1:LI t b ∣ b.natAbs:=IY.mpr (WW t b);let h2:=Nat.le_of_dvd ce h1;show ((LI t b:Nat):Int).natAbs<=_;omega
def sy (h:b≠0):sg t b≠0:=by
 have:=w8 (t:=t) h;unfold sg;split<;>omega
def zaM :(sg t b).natAbs=(gz t b).natAbs:=by
 unfold sg;split
 ·exact ai6 _
 ·rfl
def aiP (t b:Int):sg t b ∣ t:=by
 unfold sg gz;split
 ·exact Int.neg_dvd.mpr (WT t b)
 ·exact WT t b
def akt (t b:Int):sg t b ∣ b:=by
 unfold sg gz;split
 ·exact Int.neg_dvd.mpr (WW t b)
 ·exact WW t b
def cR {a g:Int}(h:g≠0)(d:g ∣ a):a=g*a.fdiv g:=by
 obtain ⟨c,hc⟩:=d;have:=ag2 h hc;rwa [this]
def rA (h:b≠0):t=sg t b*(low t b).1:=cR (sy h) (aiP t b)
def nQ (h:b≠0):b=sg t b*(low t b).2:=cR (sy h) (akt t b)
def lD (h:b≠0):0<(low t b).2:=by
 let e:=nQ (t:=t) h;let g:=w8 (t:=t) h
 rcases BE (low t b).2 0 with q|q|q
 ·exfalso
  by_cases c:b<0
  ·let s:sg t b= -gz t b:=by unfold sg;rw [ox c]
   rw [s] at e;have:=Int.mul_pos_of_neg_of_neg (show -gz t b<0 by omega) q;omega
  ·let s:sg t b=gz t b:=by unfold sg;rw [ni c]
   rw [s] at e;have:=ain g q;omega
 ·exfalso
  rw [q,Uc] at e;exact h e
 ·exact q
def adU (h:b≠0):(low t b).1*b=t*(low t b).2:=by
 let e1:=rA (t:=t) h;let e2:=nQ (t:=t) h
 calc (low t b).1*b=(low t b).1*(sg t b*(low t b).2):=by rw [<-e2]
  _=sg t b*(low t b).1*(low t b).2:=by rw [<-Xz,S' (low t b).1]
  _=t*(low t b).2:=by rw [<-e1]
def rC (h:b≠0):LI (low t b).1 (low t b).2=1:=by
 let e1:=rA (t:=t) h;let e2:=nQ (t:=t) h
 let k:LI t b=(sg t b).natAbs*LI (low t b).1 (low t b).2:=by
  let q:=ajM (sg t b) (low t b).1 (low t b).2;rwa [<-e1,<-e2] at q
 let g:(sg t b).natAbs=LI t b:=by
  rw [zaM];rfl
 let p:=ajX.mpr (TM h:t≠0\/b≠0);rw [g] at k;let k':LI t b*1=LI t b*LI (low t b).1 (low t b).2:=by rwa [Nat.mul_one]
 exact (Nat.eq_of_mul_eq_mul_left p k').symm
def eZ {g a:Int}(h:g≠0):a.natAbs<=(g*a).natAbs:=by
 rw [Nj];have:1<=g.natAbs:=ce
 have:=Lu a.natAbs this;omega
def mH (h:b≠0):(low t b).1.natAbs<=t.natAbs:=by
 let e:=rA (t:=t) h;have:=eZ (g:=sg t b) (a:=(low t b).1) (sy h);rwa [<-e] at this
def mI (h:b≠0):(low t b).2.natAbs<=b.natAbs:=by
 let e:=nQ (t:=t) h;have:=eZ (g:=sg t b) (a:=(low t b).2) (sy h);rwa [<-e] at this
def OD (hg:g≠0)(ht:t=g*x)(hb:b=g*y)(hy:0<y)(h1:LI x y=1):low t b=(x,y):=by
 let hbn:b≠0:=by
  rw [hb];exact Xx hg ce
 let gg:LI t b=g.natAbs:=by
  rw [ht,hb,ajM,h1,Nat.mul_one]
 let s:sg t b=g:=by
  unfold sg gz;rw [gg];by_cases c:g<0
  ·have:b<0:=by rw [hb];exact Int.mul_neg_of_neg_of_pos c hy
   rw [ox this];omega
  ·have:¬ b<0:=by
    have:=Int.mul_nonneg (show 0<=g by omega) (show 0<=y by omega);omega
   rw [ni this];omega
 unfold low;rw [s];rw [ag2 hg ht,ag2 hg hb]
def nR (hy:0<y)(h:LI x y=1):low x y=(x,y):=OD (g:=1) dL ce ce hy h
def vU (hk:k≠0)(h:b≠0):low (k*t) (k*b)=low t b:=by
 refine OD (g:=k*sg t b) (Xx hk (sy h)) ?_ ?_ (lD h) (rC h)
 ·rw [Xz]
  exact pj (k*·) (rA h)
 ·rw [Xz]
  exact pj (k*·) (nQ h)
def zaI (hb:b≠0)(hc:c≠0)(h:t*c=u*b):low t b=low u c:=by
 rw [<-vU (t:=t) (b:=b) hc hb,<-vU (t:=u) (b:=c) hb hc];rw [S' c t,h,S' u b,S' c b]
end Ty
set_option maxHeartbeats 4000000
namespace Ty
open PySem PySem.Spec PyProof.Rows L2
open Builtin.Int (intBits)
section
variable {X:Cx}
def nX (i j:Int):Prop:=intBits i<=33554432/\intBits j<=33554432
def bu:j8 X (O8 .Mult) (rI nX fun i j=>.int (i*j)):=
 α9 fun _ _ _ _ _ _ _ hc q=>mul_int q (IntMulOk.of_le hc.1 hc.2 dL)
def VL (i j:Int):Prop:=j≠0/\intBits j<=9000
def ahU (h:intBits j<=9000):Builtin.divisionGoesByPylong i j=false:=by
 refine PyProof.noPylong_of_log2 ?_;let h1:=intBits_le_iff.mp h;by_cases h0:j.natAbs=0
 ·rw [h0]
  decide+kernel
 ·exact (Nat.log2_lt h0).mpr h1
def kg:j8 X (O8 .FloorDiv) (rI VL fun i j=>.int (i.fdiv j)):=
 α9 fun _ _ _ _ _ _ _ hc q=>floordiv_int hc.1 q (.inl (ahU hc.2))
end
inductive Da where
 | v (x:V)
 | t (ds:List Da)
 | l (ds:List Da)
mutual
def Is (K:Frag)(H:Hp):Da->V->Prop
 | .v x,u=>u=x/\kc x=true
 | .t ds,u=>∃p xs,u=.ref p/\bE K H p xs/\js K H ds xs
 | .l ds,u=>∃p xs,u=.ref p/\aR K H p xs/\js K H ds xs
def js (K:Frag)(H:Hp):List Da->List V->Prop
 | [],[]=>True
 | d::ds,x::xs=>Is K H d x/\js K H ds xs
 | _,_=>False
end
mutual
def iH:Da->Da->Bool
 | .v x,.v y=>nK x y
 | .t ds,.t es=>cO ds es
 | .l ds,.l es=>cO ds es
 | _,_=>false
def cO:List Da->List Da->Bool
 | [],[]=>true
 | d::ds,e::es=>iH d e && cO ds es
 | _,_=>false
end
mutual
def alike:Da->Da->Bool
 | .v _,.v _=>true
 | .t ds,.t es=>dW ds es
 | .l ds,.l es=>dW ds es
 | _,_=>false
def dW:List Da->List Da->Bool
 | d::ds,e::es=>alike d e && dW ds es
 | _,_=>true
end
mutual
def dep:Da->Nat
 | .v _=>0
 | .t ds=>jy ds+1
 | .l ds=>jy ds+1
def jy:List Da->Nat
 | []=>0
 | d::ds=>max (dep d) (jy ds)
end
theorem js.length {K:Frag}:∀{ds:List Da} {xs:η},js K H ds xs->ds.length=xs.length
 | [],[],_=>rfl
 | _::_,_::_,h=>pj (·+1) (js.length (by unfold js at h;exact h.2))
 | [],_::_,h=>by unfold js at h;exact h.elim
 | _::_,[],h=>by unfold js at h;exact h.elim
def ki (ds es:List Da)(j:Nat):Bool:=match ds[j]?,es[j]? with
 | some d,some e=>iH d e
 | _,_=>true
theorem dX:∀ds es:List Da,cO ds es=((FG (min ds.length es.length)).all (ki ds es) && ds.length==es.length)
 | [],[]=>rfl
 | [],_::_=>by simp [cO]
 | _::_,[]=>by simp [cO]
 | d::ds,e::es=>by
  let ih:=dX ds es;let r:min (d::ds).length (e::es).length=min ds.length es.length+1:=by simp [Nat.succ_min_succ]
  rw [r,aiN,YF,ajv];let b0:ki (d::ds) (e::es) 0=iH d e:=rfl
  let b1:(ki (d::ds) (e::es) ∘ Nat.succ)=ki ds es:=by
   funext j;rfl
  let l1:((d::ds).length==(e::es).length)=(ds.length==es.length):=by simp
  rw [b0,b1,l1,Bool.and_assoc,<-ih];rfl
section
variable {X:Cx}{pX:ε}{Y:L2.St}{H:Hp}{s:BN}
def adX (h:kc x=true):nK x x=true:=by
 cases x<;>first|rfl|(simp [nK];done)|(cases h;done)
mutual
theorem xa (I:Inv X pX Y H s):∀(d e:Da)(x:V),Is X.K H d x->Is X.K H e x->alike d e=true->iH d e=true
 | .v a,.v b,x,h1,h2,_=>by
  unfold Is at h1 h2;obtain ⟨rfl,f⟩:=h1;obtain ⟨rfl,_⟩:=h2;unfold iH;exact adX f
 | .t ds,.t es,x,h1,h2,a=>by
  unfold Is at h1 h2;obtain ⟨p,xs,rfl,q1,k1⟩:=h1;obtain ⟨p',ys,e',q2,k2⟩:=h2;cases e';cases I.vJ q1 q2;unfold iH;unfold alike at a;exact sG I ds es xs k1 k2 a
 | .l ds,.l es,x,h1,h2,a=>by
  unfold Is at h1 h2;obtain ⟨p,xs,rfl,q1,k1⟩:=h1;obtain ⟨p',ys,e',q2,k2⟩:=h2;cases e';cases I.i_ q1 q2;unfold iH;unfold alike at a;exact sG I ds es xs k1 k2 a
 | .v _,.t _,_,_,_,a=>by unfold alike at a;cases a
 | .v _,.l _,_,_,_,a=>by unfold alike at a;cases a
 | .t _,.v _,_,_,_,a=>by unfold alike at a;cases a
 | .t _,.l _,_,_,_,a=>by unfold alike at a;cases a
 | .l _,.v _,_,_,_,a=>by unfold alike at a;cases a
 | .l _,.t _,_,_,_,a=>by unfold alike at a;cases a
theorem sG (I:Inv X pX Y H s):∀(ds es:List Da)(xs:η),js X.K H ds xs->js X.K H es xs->dW ds es=true->cO ds es=true
 | [],[],_,_,_,_=>by unfold cO;rfl
 | d::ds,e::es,x::xs,h1,h2,a=>by
  unfold js at h1 h2;unfold dW at a;rw [SM] at a;unfold cO;rw [xa I d e x h1.1 h2.1 a.1,sG I ds es xs h1.2 h2.2 a.2];rfl
 | [],_::_,[],_,h2,_=>by unfold js at h2;exact h2.elim
 | [],_::_,_::_,h1,_,_=>by unfold js at h1;exact h1.elim
 | _::_,[],[],h1,_,_=>by unfold js at h1;exact h1.elim
 | _::_,[],_::_,_,h2,_=>by unfold js at h2;exact h2.elim
 | _::_,_::_,[],h1,_,_=>by unfold js at h1;exact h1.elim
end
def in1_units (A:LF):A.in1.units=A.units+1:=rfl
mutual
theorem ag5 (I:Inv X pX Y H s):∀(d e:Da)(x y:V)(u w:Value)(A:LF),Is X.K H d x->Is X.K H e y->alike d e=true->RelV x u->RelV y w->A.units+dep d<Lp->SeqAt.EqAt A s u w (iH d e)
 | .v a,.v b,x,y,u,w,A,h1,h2,_,r1,r2,_=>by
  unfold Is at h1 h2;obtain ⟨rfl,f1⟩:=h1;obtain ⟨rfl,f2⟩:=h2;unfold iH;exact Ox r1 r2 f1 f2
 | .t ds,.t es,x,y,u,w,A,h1,h2,a,r1,r2,hu=>by
  have lX :=h1;let h2':=h2;unfold Is at h1 h2;obtain ⟨p,xs,rfl,q1,k1⟩:=h1;obtain ⟨p',ys,rfl,q2,k2⟩:=h2;cases r1;cases r2;by_cases e:p=p'
  ·subst e
   rw [xa I _ _ _ lX h2' a];exact .same _
  ·refine .of_refs e ?_
   obtain ⟨AP,v1,t1,_⟩:=I.tuple q1;obtain ⟨fV,v2,t2,_⟩:=I.tuple q2;unfold iH;rw [dX,k1.length,k2.length,v1.length,v2.length]
   let z:=SeqAt.RcAt.tuples (A:=A) (e:=ki ds es) t1 t2 (by unfold dep at hu;omega) fun j g1 g2=>by
    unfold dep at hu;unfold alike at a;exact ig I ds es xs ys AP fV A.in1 k1 k2 a v1 v2 (by rw [in1_units];omega) j (by simpa using g1) (by simpa using g2)
   simpa using z
 | .l ds,.l es,x,y,u,w,A,h1,h2,a,r1,r2,hu=>by
  have lX :=h1;let h2':=h2;unfold Is at h1 h2;obtain ⟨p,xs,rfl,q1,k1⟩:=h1;obtain ⟨p',ys,rfl,q2,k2⟩:=h2;cases r1;cases r2;by_cases e:p=p'
  ·subst e
   rw [xa I _ _ _ lX h2' a];exact .same _
  ·refine .of_refs e ?_
   obtain ⟨AP,v1,t1,_⟩:=I.list q1;obtain ⟨fV,v2,t2,_⟩:=I.list q2;unfold iH;unfold dep at hu;unfold alike at a;by_cases el:AP.length=fV.length
   ·rw [dX,k1.length,k2.length,v1.length,v2.length]
    let z:=SeqAt.RcAt.lists (A:=A) (e:=ki ds es) t1.isList t2.isList (by simpa using el) ce fun j g1 g2=>
     ig I ds es xs ys AP fV A.in1 k1 k2 a v1 v2 (by rw [in1_units];omega) j (by simpa using g1) (by simpa using g2)
    rw [el,AD,beq_self_eq_true,zI];rwa [LV,el] at z
   ·let ne:cO ds es=false:=by
     rw [dX,k1.length,k2.length,v1.length,v2.length,beq_eq_false_iff_ne.mpr el,zZ]
    rw [ne];exact SeqAt.RcAt.lists_lengths t1.isList t2.isList (by simpa using el) ce
 | .v _,.t _,_,_,_,_,_,_,_,a,_,_,_=>by unfold alike at a;cases a
 | .v _,.l _,_,_,_,_,_,_,_,a,_,_,_=>by unfold alike at a;cases a
 | .t _,.v _,_,_,_,_,_,_,_,a,_,_,_=>by unfold alike at a;cases a
 | .t _,.l _,_,_,_,_,_,_,_,a,_,_,_=>by unfold alike at a;cases a
 | .l _,.v _,_,_,_,_,_,_,_,a,_,_,_=>by unfold alike at a;cases a
 | .l _,.t _,_,_,_,_,_,_,_,a,_,_,_=>by unfold alike at a;cases a
theorem ig (I:Inv X pX Y H s):∀(ds es:List Da)(xs ys:η)(us ws:ρ)(A:LF),js X.K H ds xs->js X.K H es ys->dW ds es=true->Vals xs us->Vals ys ws->A.units+jy ds<Lp->
  ∀(j:Nat)(h1:j<us.length)(h2:j<ws.length),SeqAt.EqAt A s us[j] ws[j] (ki ds es j)
 | d::ds,e::es,xs,ys,us,ws,A,k1,k2,a,v1,v2,hu,j,h1,h2=>by
  cases xs with
  | nil=>unfold js at k1;exact k1.elim
  | cons x xs=>
   cases ys with
   | nil=>unfold js at k2;exact k2.elim
   | cons y ys=>
    cases v1 with
    | cons r1 v1=>
     cases v2 with
     | cons r2 v2=>
      unfold js at k1 k2;unfold dW at a;rw [SM] at a;unfold jy at hu;cases j with
      | zero=>exact ag5 I d e x y _ _ A k1.1 k2.1 a.1 r1 r2 ce
      | succ j=>exact ig I ds es xs ys _ _ A k1.2 k2.2 a.2 v1 v2 ce j (by simpa using h1) (by simpa using h2)
 | [],_,xs,_,us,_,_,k1,_,_,v1,_,_,_,h1,_=>by
  cases xs with
  | nil=>
   cases v1;exact DZ h1 (Sn _)
  | cons x xs=>unfold js at k1;exact k1.elim
 | _::_,[],_,ys,_,ws,_,_,k2,_,_,v2,_,_,_,h2=>by
  cases ys with
  | nil=>
   cases v2;exact DZ h2 (Sn _)
  | cons y ys=>unfold js at k2;exact k2.elim
end
end
section
variable {X:Cx}
inductive VM (K:Frag)(x:V)(y:V)(H:Hp)(Q:VK):Prop
|mk (ds es:_)(_:((Is K H (.t ds) x/\Is K H (.t es) y)\/(Is K H (.l ds) x/\Is K H (.l es) y)))(_:dW ds es=true)(_:jy ds<=60)(_:Q (.bl (cO ds es)) H)
inductive IW (K:Frag)(x:V)(y:V)(H:Hp)(Q:VK):Prop
|mk (ds es:_)(_:((Is K H (.t ds) x/\Is K H (.t es) y)\/(Is K H (.l ds) x/\Is K H (.l es) y)))(_:dW ds es=true)(_:jy ds<=60)(_:Q (.bl (!cO ds es)) H)
def rE (hu:X.A.units+64<Lp):j8 X (Lo .Eq) (VM X.K):=by
 intro pX s Y H x y v u Q I rx ry h;obtain ⟨ds,es,h,a,hd,q⟩:=h
 rcases h with ⟨h1,h2⟩|⟨h1,h2⟩
 ·unfold Is at h1 h2
  obtain ⟨p,xs,rfl,q1,k1⟩:=h1;obtain ⟨p',ys,rfl,q2,k2⟩:=h2;cases rx;cases ry;obtain ⟨AP,v1,t1,_⟩:=I.tuple q1;obtain ⟨fV,v2,t2,_⟩:=I.tuple q2
  let z:=SeqAt.RcAt.tuples (A:=X.A) (e:=ki ds es) t1 t2 ce fun j g1 g2=>
   ig I ds es xs ys AP fV X.A.in1 k1 k2 a v1 v2 (by rw [in1_units];omega) j (by simpa using g1) (by simpa using g2)
  refine z X.prog X.w X.xe _ ⟨.bl _,H,I,rfl,?_⟩;let e:=dX ds es;rw [k1.length,k2.length,v1.length,v2.length] at e;simpa [e] using q
 ·unfold Is at h1 h2
  obtain ⟨p,xs,rfl,q1,k1⟩:=h1;obtain ⟨p',ys,rfl,q2,k2⟩:=h2;cases rx;cases ry;obtain ⟨AP,v1,t1,_⟩:=I.list q1;obtain ⟨fV,v2,t2,_⟩:=I.list q2;let e:=dX ds es;rw [k1.length,k2.length,v1.length,v2.length] at e;by_cases el:AP.length=fV.length
  ·let z:=SeqAt.RcAt.lists (A:=X.A) (e:=ki ds es) t1.isList t2.isList (by simpa using el) ce fun j g1 g2=>
    ig I ds es xs ys AP fV X.A.in1 k1 k2 a v1 v2 (by rw [in1_units];omega) j (by simpa using g1) (by simpa using g2)
   refine z X.prog X.w X.xe _ ⟨.bl _,H,I,rfl,?_⟩;rw [el,AD,beq_self_eq_true,zI] at e;simpa [e,el] using q
  ·let ne:cO ds es=false:=by rw [e,beq_eq_false_iff_ne.mpr el,zZ]
   rw [ne] at q;exact SeqAt.RcAt.lists_lengths t1.isList t2.isList (by simpa using el) ce X.prog X.w X.xe _ ⟨.bl _,H,I,rfl,q⟩
def xb (hu:X.A.units+64<Lp):j8 X (Lo .NotEq) (IW X.K):=by
 intro pX s Y H x y v u Q I rx ry h;obtain ⟨ds,es,h,a,hd,q⟩:=h
 rcases h with ⟨h1,h2⟩|⟨h1,h2⟩
 ·unfold Is at h1 h2
  obtain ⟨p,xs,rfl,q1,k1⟩:=h1;obtain ⟨p',ys,rfl,q2,k2⟩:=h2;cases rx;cases ry;obtain ⟨AP,v1,t1,_⟩:=I.tuple q1;obtain ⟨fV,v2,t2,_⟩:=I.tuple q2
  let z:=SeqAt.RcNeAt.tuples (A:=X.A) (e:=ki ds es) t1 t2 ce fun j g1 g2=>
   ig I ds es xs ys AP fV X.A.in1 k1 k2 a v1 v2 (by rw [in1_units];omega) j (by simpa using g1) (by simpa using g2)
  refine z X.prog X.w X.xe _ ⟨.bl _,H,I,rfl,?_⟩;let e:=dX ds es;rw [k1.length,k2.length,v1.length,v2.length] at e;simpa [e] using q
 ·unfold Is at h1 h2
  obtain ⟨p,xs,rfl,q1,k1⟩:=h1;obtain ⟨p',ys,rfl,q2,k2⟩:=h2;cases rx;cases ry;obtain ⟨AP,v1,t1,_⟩:=I.list q1;obtain ⟨fV,v2,t2,_⟩:=I.list q2;let e:=dX ds es;rw [k1.length,k2.length,v1.length,v2.length] at e;by_cases el:AP.length=fV.length
  ·let z:=SeqAt.RcNeAt.lists (A:=X.A) (e:=ki ds es) t1.isList t2.isList (by simpa using el) ce fun j g1 g2=>
    ig I ds es xs ys AP fV X.A.in1 k1 k2 a v1 v2 (by rw [in1_units];omega) j (by simpa using g1) (by simpa using g2)
   refine z X.prog X.w X.xe _ ⟨.bl _,H,I,rfl,?_⟩;rw [el,AD,beq_self_eq_true,zI] at e;simpa [e,el] using q
  ·let ne:cO ds es=false:=by rw [e,beq_eq_false_iff_ne.mpr el,zZ]
   rw [ne] at q;exact SeqAt.RcNeAt.lists_lengths t1.isList t2.isList (by simpa using el) ce X.prog X.w X.xe _ ⟨.bl _,H,I,rfl,q⟩
def Xd:V->Value
 | .ty n=>.type n
 | .ref a=>.ref a
 | _=>.none
def VN:V->Bool
 | .ty _=>true
 | .ref _=>true
 | _=>false
def ag1 (h:VN c=true)(r:RelV c u):u=Xd c:=by
 cases c<;>first|exact r|(cases h;done)
inductive aaq (K:Frag)(xs:η)(H:Hp)(Q:VK):Prop
|mk (x c t b:_)(_:xs=[x,c])(_:VN c=true)(_:pF K H x t)(_:Om K t (Xd c)=some b)(_:Q (.bl b) H)
def km:ja X (.builtin "isinstance") (aaq X.K):=by
 intro pX s Y H xs us Q I r h;obtain ⟨x,c,t,b,rfl,hc,ty,e,q⟩:=h;obtain ⟨u,w,rfl,r1,r2⟩:=vals2 r;obtain rfl:=ag1 hc r2;exact ab_ I r1 ty e fun tk=>⟨.bl b,H,I.tok tk,rfl,q⟩
end
section
variable {K:Frag}
def adV (h:((Value.type a==Value.type b)=true->v=true)/\((Value.type a==Value.type b)=false->PySem.W.kitMeta b=true/\(fastBuiltinMro a).map (·.contains (Value.type b))=some v)):Om K (.type a) (.type b)=some v:=by
 unfold Om;by_cases e:(Value.type a==Value.type b)=true
 ·rw [ox e,h.1 e]
 ·rw [ni e]
  obtain ⟨h1,h2⟩:=h.2 (by simpa using e);unfold PySem.W.kitCls;dsimp only;rwa [ox h1]
end
def cS:Lm "len"=some (.builtin "len"):=by decide+kernel
def VO:Lm "abs"=some (.builtin "abs"):=by decide+kernel
def d6:Lm "isinstance"=some (.builtin "isinstance"):=by decide+kernel
def aar:Lm "all"=some (.builtin "all"):=by decide+kernel
def OG:Lm "int"=some (.type "int"):=by decide+kernel
def zaK:Lm "bool"=some (.type "bool"):=by decide+kernel
def VP:Lm "str"=some (.type "str"):=by decide+kernel
def mJ:Lm "list"=some (.type "list"):=by decide+kernel
def xc:Lm "tuple"=some (.type "tuple"):=by decide+kernel
def zaH:Lm "dict"=some (.type "dict"):=by decide+kernel
def vV {pos:Pos}(hg:Gl X x)(hm:X.mg x=none)(hv:Lm x=some (.type n))(hn:x≠ "__name__":=by decide)(hd:(x==("__debug__":Str))=false:=by decide):PE X (.Name x pos) (tC (.ty n)):=agB (v:=.ty n) hg hm hv rfl hn hd
def Xg (_ j:Int):Prop:=j≠0
def nz (h:j≠0):Xg i j:=h
def fN :j8 X (O8 .Mod) (rI Xg fun i j=>.int (i.fmod j)):=zaf
def ag0 :jy [.v a,.v b]<=60:=by simp [jy,dep]
end Ty
namespace TyAtt
open PySem PySem.W PySem.Calls PyProof.Rows
open Builtin.Int (intBits)
def ad2 {ns:ξ}(h:(WData.list (ns.map WData.int)).layable=true)(hn:n∈ns):intBits n<=1048576:=by
 obtain ⟨_,_,hw⟩:=layableW_iff.mp h
 let a:∀(l:ξ),n∈l->intBits n<=WData.weightAll (l.map WData.int):=by
  intro l
  induction l with
  | nil=>intro q;cases q
  | cons y r ih=>
   intro q;rw [DV];unfold WData.weightAll
   rcases LN.mp q with z|z
   ·subst z
    have:intBits n<=WData.weight (.int n):=by
     unfold WData.weight;exact D' _
    omega
   ·have:=ih z
    omega
 let b:=a ns hn;unfold WData.weight at hw;omega
def zu {l:OpenLaw}{loose:ς}
  (hn:l.most=some n) (hdf:d.params.defaults=[])
  (call:∀(w:World)(qP oW:BN)(mg mb:ι)(fa:AF)(o:Obj)(pm cd doc:Value)(a:AF)(vs:ρ)(ns:ξ),
   Ground q loose [] XP w qP mg mb oW.heap->YP w oW.heap->
   oW.heap.get? fa=some o->o.data=.func (docDef d.name d.params d.body d.scope pm cd doc)->oW.heap.CodeRec cd d.name->mg d.name=some (.ref fa)->
   oW.heap.get? a=some {cls:=.type "list",data:=.seq vs.toArray}->IntsAre vs ns->ns.length<=n->(∀i∈ns,intBits i<=1048576)->oW.gens= #[]->
   Lz (AX l.prog w) callerA (.call (.ref fa) ⟨[.ref a],[]⟩) (fun r s'=>r=.ok (.ret (.bool true))/\OldK oW.heap s'.heap/\s'.os=oW.os/\QH s'.gens) oW):
  WalkO q loose XP YP l.row.toRowW d [] (fun f vs=>PySem.call f vs):=by
 intro w qP oW mg mb G σ fa o pm cd doc dV kV ho hd u6 hD hmg hg args vals as SU hlay hrd hwl hlo;obtain rfl:dV=.none:=Dflts.none hD hdf;obtain rfl:kV=.none:=Dflts.noKw hD;obtain ⟨a,vs,ns,rfl,rfl,Xh,hints,hlen⟩:=Att.Lk hn SU hwl;let hb:∀i∈ns,intBits i<=1048576:=fun i hi=>ad2 (layW_cons hlay).1 hi;refine enter_call (codeAny_mono (call w qP oW mg mb fa o pm cd doc a vs ns G σ ho (fd_plain hd) u6 hmg Xh hints hlen hb hg) fun r s' hq=>?_);obtain ⟨rfl,h2,h3,h4⟩:=hq;show ⟨.inl ⟨.bool true,.bool true,[],rfl,fun _=>rfl,.bool true,Att.Ll l _,fun _=>⟨List.Pairwise.nil,fun _ hm=>(nomatch hm)⟩⟩,h2,h3,h4⟩
end TyAtt
namespace Ty
open PySem PySem.Spec PyProof.Rows L2
open Builtin.Int (intBits)
structure Fn (P:FE)(w:World)(K:Frag)(mg:ι)(iT:Heap)(CX:nI)(k:Nat)(x:Str)(ps:ς)(sp:Sp):Prop where
 ex:∃(f:AF)(fd:FuncData),dH P w K mg iT CX k f fd ps sp/\Binds K fd ps []/\mg x=some (.ref f)/\keepIn K (.ref f)=true
structure Def (K:Frag)(mg:ι)(x:Str)(st:Stmt)(ps:ς):Prop where
 ex:∃(f:AF)(dV oc:Value)(od:Κ)(kV doc pm:Value)(an:Κ)(cF ct:Value)(uZ:Ν),
  K.lookup f=some ⟨oc,od,.func (fnOf x x (au st) (aq st) (ae st) dV kV doc pm an cF ct),uZ⟩/\codeIn K cF x=true/\keepIn K (.ref f)=true/\
  Binds K (fnOf x x (au st) (aq st) (ae st) dV kV doc pm an cF ct) ps []/\mg x=some (.ref f)
def Def.of {K:Frag}{st:Stmt}(F:sr K x x st f fd)(b:Binds K fd ps [])(m:mg x=some (.ref f)):Def K mg x st ps:=by
 obtain ⟨oc,od,kV,doc,pm,an,cF,ct,uZ,rfl,lk,u6⟩:=F.ex;show ⟨f,.none,oc,od,kV,doc,pm,an,cF,ct,uZ,lk,u6,F.kp,b,m⟩
section
variable {P:FE}{w:World}{K:Frag}{mg:ι}{iT:Heap}{CX:nI}
def Def.ok {st:Stmt}(D:Def K mg x st ps)(S:av N ps (ae st))(len:∀vs H Q E,sp vs H Q E->vs.length=ps.length)
  (ib:∀(f:AF)(cF:Value)(A:LF)(mB:List Env)(s:BN)(H:Hp)(vs:η)(Q:VK)(E:XK),cM k (A.deeper (Nf x (ae st) s.heap.objs.size f cF))->sp vs H Q E->
   ∃t,rj (j_ CX P w K mg iT N x (ae st) f cF A mB s H E).yO (aq st) t/\t {nx:=fun _ H'=>Q .dc H',rt:=Q} (start N vs) H):Fn P w K mg iT CX (k+1) x ps sp:=by
 obtain ⟨f,dV,oc,od,kV,doc,pm,an,cF,ct,uZ,lk,u6,kp,b,m⟩:=D.ex;show ⟨f,_,IJ lk u6 S len fun A mB s H vs Q E hr IK=>?_,b,m,kp⟩;obtain ⟨t,h,q⟩:=ib f cF A mB s H vs Q E hr IK;show ⟨t,h.yO,q⟩
def _root_.L2.sr.okG {st:Stmt}(F:sr K x x st f fd)(S:av N ps (ae st))(len:∀vs H Q E,sp vs H Q E->vs.length=ps.length)
  (ib:∀(cF:Value)(A:LF)(mB:List Env)(s:BN)(H:Hp)(vs:η)(Q:VK)(E:XK),cM k (A.deeper (Nf x (ae st) s.heap.objs.size f cF))->sp vs H Q E->
   ∃t,rj (j_ CX P w K mg iT N x (ae st) f cF A mB s H E).yO (aq st) t/\t {nx:=fun _ H'=>Q .dc H',rt:=Q} (start N vs) H):dH P w K mg iT CX (k+1) f fd ps sp:=by
 obtain ⟨oc,od,kV,doc,pm,an,cF,ct,uZ,rfl,lk,u6⟩:=F.ex;refine IJ lk u6 S len fun A mB s H vs Q E hr IK=>?_;obtain ⟨t,h,q⟩:=ib cF A mB s H vs Q E hr IK;show ⟨t,h.yO,q⟩
def sH (CX:nI):Prop:=∀mB H s e s',CX mB H s E0 e s' ->False
def mi {X:Cx}(h:sH CX):Passes CX X.yO E0:=fun _ _ _ _ _ _ _ q=>(h _ _ _ _ _ q).elim
section
variable {X:Cx}{k:Nat}{ps:ς}{sp:Sp}{E:XK}{x:Str}{p pos:Pos}{e:Expr}{es:Ε}{t:TA}
def kq (F:Fn X.prog X.w X.K X.mg X.iT CX k x ps sp)(hr:cM k X.A)(hx:Passes CX X E)(ha:PA X (e::es) t)(hg:Gl X x:=by rfl)(va:(x==("__debug__":Str))=false:=by decide)
  (he:EC (e::es) X.env=(false,D_ e X.env)::EC es X.env:=by rfl) (qY:(Le pos (EC es X.env)).any (·.1)=false:=by rfl):PE X (.Call (.Name x p) (e::es) [] pos) (II sp [] E t):=by
 obtain ⟨f,fd,G,b,m,kp⟩:=F.ex;exact agr G hr hg m kp b .nil hx ha va he qY
end
end
def OH (K:Frag):Sp:=fun vs H Q _=>∃(a:AF)(ns:ξ),vs=[.ref a]/\aR K H a (ns.map V.int)/\ns.length<=63/\(∀i∈ns,intBits i<=1048576)/\∀H',Q (.bl true) H'
def walk {l:PySem.W.OpenLaw}{loose:ς}{K:Params->Frag}{CX:World->nI}
  (hn:l.most=some 63) (hdf:d.params.defaults=[]) (hi:importsNone q=true) (hr:cM k callerA)
  (hY:∀(w:World)(h:Heap),YP w h->(K w.params).In h) (hm:∀w,sH (CX w))
  (F:∀(w:World)(mg:ι)(fa:AF)(h:Heap),(K w.params).In h->h.Ns EW mg->mg d.name=some (.ref fa)->
   ∃fd:FuncData,(∀(s:BN)(u:Value),BindsTo s fd ⟨[u],[]⟩ [(x,u)])/\
    ∀iT:Heap,(K w.params).In iT->iT.Ns EW mg->dH l.prog w (K w.params) mg iT (CX w) k fa fd [x] (OH (K w.params))):
  PySem.W.WalkO q loose XP YP l.row.toRowW d [] (fun f vs=>PySem.call f vs):=by
 refine TyAtt.zu hn hdf fun w qP oW mg mb fa o pm cd doc a vs ns G σ ho hd u6 hmg Xh hints hlen hb hg=>?_;let KX:=hY w _ σ;obtain ⟨fd,hbd,hF⟩:=F w mg fa _ KX G.T.g hmg;exact adm KX G.T.g G.T.b G.T.builtins G.T.nolimit (G.T.seer hi) hg Xh hints (BJ hlen dL) hr hF hbd (fun H hO hS=>⟨a,ns,rfl,hS,hlen,hb,fun _=>rfl⟩) fun H e s'=>hm w [] H oW e s'
end Ty
namespace Ty
open PySem PySem.Spec PyProof.Rows L2
def DictAt (h:Heap)(a:AF)(dx:Κ):Prop:=∃o,h.get? a=some o/\o.dict=dx
def aS (P:FE)(w:World):nI:=fun mB H s E e s'=>∃(a:AF)(cls a0:Value)(dx:Κ)(H':Hp)(B:Heap),
 e=.ref a/\Heap.FlyingW B mB a cls a0 s'.heap/\DictAt s'.heap a dx/\Un (HY mB) [] H H' s.heap s'.heap/\me P w H' s'.heap/\s'.os=s.os/\QH s'.gens/\
 (∀b o,s.heap.get? b=some o->b∉HY mB->∃o',B.get? b=some o')/\(∀b u,H' b=some u->∃o,B.get? b=some o)/\E cls dx H'
def aS.EH :sH (aS P w):=fun _ _ _ _ _ h=>by obtain ⟨_,_,_,_,_,_,_,_,_,_,_,_,_,_,_,z⟩:=h;exact z
section
variable {P:FE}{w:World}{K:Frag}{mg:ι}{iT:Heap}{N:ς}{qual:Str}{scope:Scope}{f:AF}{cF:Value}{A:LF}{mB:List Env}{s0:BN}{H0:Hp}{E:XK}
abbrev uP (P:FE)(w:World)(K:Frag)(mg:ι)(iT:Heap)(N:ς)(qual:Str)(scope:Scope)(f:AF)(cF:Value)(A:LF)(mB:List Env)(s0:BN)(H0:Hp)(E:XK):Cx:=j_ (aS P w) P w K mg iT N qual scope f cF A mB s0 H0 E
end
section
variable {X:Cx}{pX:ε}{Y:L2.St}{H H':Hp}{s:BN}
def XP (X:Cx)(pX:ε)(Y:L2.St)(E:XK)(e:Value)(s':BN):Prop:=∃H s,Inv X pX Y H s/\aS X.prog X.w X.stack H s E e s'
end
set_option maxHeartbeats 1000000
section
variable {prog:FE}{w:World}{A:LF}{R:Φ}{s:BN}
def akB {ifs:Ε}(I:Nat->BN->Prop)
  (turn:∀n s,I n s->AS (AX prog w) A (Nn it) (fun r oW=>match r with
   | none=>R (.ok .next) oW
   | some v=>AS (AX prog w) A (xH target it v) (fun _ s₁' =>AS (AX prog w) A (assign target env v) (fun _ qV=>
     AS (AX prog w) A (forIn ifs true fun c r=>if r=true then do let ok <- isTrue c env (D_ c env);pure (ForInStep.yield ok) else pure (ForInStep.yield r)) (fun ok s₃=>
      if ok=true then AS (AX prog w) A (D_ elt env) (fun x s₄=>
       AS (AX prog w) A (call (.builtin "list.append") [acc,x]) (fun _ s₅=>∃m,m<n/\I m s₅) (fun _ _=>False) s₄) (fun _ _=>False) s₃
      else ∃m,m<n/\I m s₃) (fun _ _=>False) qV) (fun _ _=>False) s₁') (fun _ _=>False) oW) (fun _ _=>False) s)
  (n:Nat) (h:I n s):
  Lz (AX prog w) A (.compLoop (.ListComp elt [⟨target,iter,ifs,0⟩] scope pos) 0 it acc env) R s:=by
 refine codeAny_loop rfl I (fun n s hI=>?_) n h;show AS _ A ((compTurn (.ListComp elt [⟨target,iter,ifs,0⟩] scope pos) 0 it acc env).onRaise (fun x=>do noteFrame x env;theTreesLotGoes x)) _ _ s;refine wpAny_noted ?_;rw [compTurn_list];refine AO (wpAny_standAt (AO (Lj (turn n s hI) (fun r oW qQ=>?_) fun _ _ h'=>h'.elim)));cases r with
 | none=>exact DY qQ
 | some v=>
  refine AO (Lj qQ (fun _ s₁' h₁' =>?_) fun _ _ h'=>h'.elim);refine AO (Lj h₁' (fun _ qV uN=>AO (Lj uN (fun ok s₃ h₃=>?_) fun _ _ h'=>h'.elim)) fun _ _ h'=>h'.elim);cases ok with
  | false=>exact DY ⟨rfl,h₃⟩
  | true=>
   exact AO (AO (Lj h₃ (fun x s₄ h₄=>AO (Lj h₄ (fun _ s₅ h₅=>DY (DY ⟨rfl,h₅⟩)) fun _ _ h'=>h'.elim)) fun _ _ h'=>h'.elim))
end
def bf (env:Env)(fr:ς):List (Str×AF):=fr.filterMap fun n=>(env.cells.lookup n).map fun c=>(n,c)
theorem lookup_mem {Z:Type}{c:Z}:∀{l:List (Str×Z)},l.lookup x=some c->(x,c)∈l
 | [],h=>by simp at h
 | (y,d)::r,h=>by
  rw [ajN] at h;cases e:x==y with
  | true=>
   rw [e] at h;let e1:x=y:=by simpa using e
   cases h;rw [e1];exact GG
  | false=>
   rw [e] at h;exact F' _ (lookup_mem h)
def aeD (h:(x,c)∈bf env fr):env.cells.lookup x=some c:=by
 obtain ⟨n,_,e⟩:=aic.mp h;cases q:env.cells.lookup n with
 | none=>erw [q] at e
 | some d=>
  rw [q] at e;let e':(n,d)=(x,c):=GU e;cases e';exact q
def gW (h:(bf env fr).lookup x=some c):env.cells.lookup x=some c:=aeD (lookup_mem h)
theorem pI (q:env.cells.lookup x=some c):∀{fr:ς},x∈fr->(bf env fr).lookup x=some c
 | [],h=>nomatch h
 | y::r,h=>by
  unfold bf;rw [IC];by_cases e:x=y
  ·subst e
   rw [q];simp
  ·let hr:x∈r:=by
    rcases LN.mp h with z|z
    ·exact DZ z e
    ·exact z
   let ih:=pI q hr;cases z:env.cells.lookup y with
   | none=>exact ih
   | some d=>
    show Pw x ((y,d)::_)=_;rw [ajN];let ne:(x==y)=false:=by simpa using e
    rwa [ne]
def iW (env:Env):List Str->Prop
 | []=>True
 | y::r=>(env.kindOf y=some .cell\/env.kindOf y=some .free)/\iW env r
theorem iW.at :∀{fr:ς},iW env fr->x∈fr->env.kindOf x=some .cell\/env.kindOf x=some .free
 | [],_,h=>nomatch h
 | y::r,a,h=>by
  rcases LN.mp h with z|z
  ·rw [z]
   exact a.1
  ·exact iW.at a.2 z
section
variable {X:Cx}
def yQ (X:Cx)(NB:ς)(scope:Scope)(fn:Str->Bool)(cl:List (Str×AF))(C:AF)(s:BN)(H:Hp)(fp:χ):Cx:=
 {prog:=X.prog,w:=X.w,K:=X.K,mg:=X.mg,iT:=X.iT,A:=X.A,N:=NB,qP:=s,H₀:=H,env:=compEnvC scope cl C X.env,mB:=X.stack,stack:=X.stack,ex:=fp,fn:=fn,calm:=X.calm,pn:=[],xe:=fun _ _=>False}
abbrev rF (X:Cx)(NB:ς)(scope:Scope)(cl:List (Str×AF))(C:AF)(s:BN)(H:Hp)(fp:χ):Cx:=yQ X NB scope (fun _=>false) cl C s H fp
structure SW (X:Cx)(scope:Scope)(ow:AF->List (Str×AF))(fn:Str->Bool)(fr:ς)(oV:List Nat):Prop where
 SX:closureFor scope X.env=pure (bf X.env fr)
 kind:scope.kind=.function
 names:∀y∈scope.names,y.2=.local->scope.names.lookup y.1=some .local
 free:∀y∈scope.names,y.2=.free->y.1∈fr
 oV:oV.map (fun i=>X.N[i]?)=fr.map some
 out:iW X.env fr
 inn:iW (compEnvC scope [] 0 X.env) fr
 new:∀{s:BN} {Q:Env->BN->Prop} {E:δ},(∀h',h'.Ns s.heap.objs.size (fun _=>none)->(∀b o,s.heap.get? b=some o->h'.get? b=some o)->(∀x c,(ow s.heap.objs.size).lookup x=some c->h'.IsCell c none)->
   Q (newEnv scope s.heap.objs.size X.env.globals (ow s.heap.objs.size++bf X.env fr) X.env.qual none .none (some X.env) builtinsNs) {s with heap:=h',toks:=s.toks+([]:List (Str×Value)).length})->
  AS (AX X.prog X.w) X.A (newFunctionEnv scope X.env.globals (bf X.env fr) [] X.env.qual none .none (some X.env)) Q E s
 ge:∀C x c,(ow C).lookup x=some c->C<c
 one:∀C x z c,(ow C).lookup x=some c->(ow C).lookup z=some c->x=z
 fn1:∀C x,fn x=true->(ow C).lookup x≠none
 only:∀z∈scope.names,z.2=.cell->fn z.1=true
 ny:∀C,∀x∈fr,(ow C).lookup x=none
def vW {o cl:List (Str×AF)}(h:(o++cl).lookup x=some c):o.lookup x=some c\/(o.lookup x=none/\cl.lookup x=some c):=by
 rw [aih] at h;cases e:o.lookup x with
 | none=>rw [e] at h;exact .inr ⟨rfl,h⟩
 | some d=>rw [e] at h;exact .inl h
structure xg (X:Cx)(scope:Scope)(fr:ς)(oV:List Nat):Prop where
 SX:closureFor scope X.env=pure (bf X.env fr)
 cell:∀y∈scope.names,y.2≠.cell
 kind:scope.kind=.function
 names:∀y∈scope.names,y.2=.local->scope.names.lookup y.1=some .local
 free:∀y∈scope.names,y.2=.free->y.1∈fr
 oV:oV.map (fun i=>X.N[i]?)=fr.map some
 out:iW X.env fr
 inn:iW (compEnvC scope [] 0 X.env) fr
def PF (X:Cx)(ifs:Ε)(t:TT):Prop:=
 ∀(pX:ε)(s:BN)(Y:L2.St)(H:Hp)(Q:Bool->Hp->Prop),Inv X pX Y H s->t Y H Q->
  AS (AX X.prog X.w) X.A (forIn ifs true fun c r=>if r=true then do let ok <- isTrue c X.env (D_ c X.env);pure (ForInStep.yield ok) else pure (ForInStep.yield r)) (TP X pX Y Q) X.xe s
def jV:TT:=fun _ H Q=>Q true H
def sI:PF X [] jV:=fun _ _ _ H _ I h=>wpAny_tests_nil ⟨H,I,h⟩
def akw (h:PT X c t):PF X [c] t:=fun pX s Y H Q I q=>wpAny_tests_one (h pX s Y H Q I q)
def sB (k:Nat)(oV:List Nat)(Y:L2.St):L2.St:=GH k none++oV.map fun i=>(Y[i]?).getD none
def mK (D:AF)(g:TG)(tt:TT)(te:TE)(J:It)(Y0:L2.St)(H1:Hp)(Q:VK):Prop:=∃W:Nat->Nat->L2.St->List V->Hp->Prop,
 (∃m,W 0 m Y0 [] (upd H1 D (.lst [])))/\∀i m Y2 ys H2,W i m Y2 ys H2->(J.stop i H2/\Q (.ref D) H2)\/(J.go i H2/\∀x H3,J.DU i H2 x H3->g x Y2 H3 fun Y4 H4=>tt Y4 H4 fun b H5=>
  if b=true then te Y4 H5 fun v H6=>H6 D=some (.lst ys)/\ys.length<AZ/\∃m',m'<m/\W (i+1) m' Y4 (ys++[v]) (upd H6 D (.lst (ys++[v]))) else ∃m',m'<m/\W (i+1) m' Y4 ys H5)
def qz (k:Nat)(oV:List Nat)(wi:TI)(g:TG)(tt:TT)(te:TE):TE:=fun Y H Q=>wi Y H fun J H1=>∀D,H1 D=none->mK D g tt te J (sB k oV Y) H1 Q
def akq (h:(sB k oV Y)[i]?=some (some v)):k<=i/\∃j,oV[i-k]?=some j/\Y[j]?=some (some v):=by
 unfold sB at h;by_cases c:i<k
 ·rw [LR (by simpa using c),S6,ox c] at h
  cases h
 ·rw [Lg (by simpa using aiH c),QC,Wp] at h
  show ⟨aiH c,?_⟩;cases e:oV[i-k]? with
  | none=>erw [e] at h
  | some j=>
   rw [e] at h;show ⟨j,rfl,?_⟩;let h':(Y[j]?).getD none=some v:=GU h;cases z:Y[j]? with
   | none=>erw [z] at h'
   | some o=>
    rw [z] at h';exact pj some h'
def sJ {Y:L2.St}
    {RR:Value->AF->Result->BN->Prop} {E:δ} (hc:X.calm=true) (B:SW X scope ow fn fr oV)
  (hg:∀C s H fp,PG (yQ X (tn++fr) scope fn (ow C++bf X.env fr) C s H fp) target g) (ht:∀C s H fp,PF (yQ X (tn++fr) scope fn (ow C++bf X.env fr) C s H fp) ifs tt) (he:∀C s H fp,PE (yQ X (tn++fr) scope fn (ow C++bf X.env fr) C s H fp) elt te)
  (I2:Inv X pX Y H2 s2) (T:Turn X.prog X.w X.K target J fp it VQ) (VB:VQ 0 s2.heap) (f2:∀b∈fp,pC X pX H2 b) (q:∀D,H2 D=none->mK D g tt te J (sB tn.length oV Y) H2 Q)
  (fin:∀D C H' s' m,Inv X pX Y H' s' ->s'.heap.Ns C m->pC X pX H' C->Q (.ref D) H' ->RR (.ref D) C (.ok .next) s'):
  AS (AX X.prog X.w) X.A (newList []) (fun acc s₃=>AS (AX X.prog X.w) X.A (newFunctionEnv scope X.env.globals (bf X.env fr) [] X.env.qual none .none (some X.env)) (fun aat s₄=>
   Lz (AX X.prog X.w) X.A (.compStart (.ListComp elt [⟨target,iter,ifs,0⟩] scope pos) 0 (.ref it) acc {aat with scope:=relabel scope X.env}) (RR acc aat.locals) s₄) E s₃) E s2:=by
 refine T9 (B.new (fun qQ Xk hk₁ hc₁=>?_));let I3:Inv X pX Y (upd H2 s2.heap.objs.size (.lst [])) {s2 with heap:=s2.heap.push {cls:=.type "list",data:=.seq ([]:List Value).toArray}}:=I2.Xa (t':=s2.toks) (AP:=[]) .nil (LS _);obtain ⟨W,⟨m0,w0⟩,turn⟩:=q s2.heap.objs.size (I2.bJ.fresh (D' _));generalize hH3:upd H2 s2.heap.objs.size (.lst [])=H3 at I3 w0
 let f3:∀b∈fp,pC X pX H3 b:=fun b hb=>by
  obtain ⟨a0,a1⟩:=f2 b hb;show ⟨?_,a1⟩;obtain ⟨o,e,_⟩:=T.obj _ _ VB b hb;rwa [<-hH3,aj (LO (EF e))]
 generalize hD:s2.heap.objs.size=D at*;generalize hs3:({s2 with heap:=s2.heap.push {cls:=.type "list",data:=.seq ([]:List Value).toArray}}:BN)=s3 at*;let e3:s3.heap=s2.heap.push {cls:=.type "list",data:=.seq ([]:List Value).toArray}:=by rw [<-hs3]
 let Zl:VQ 0 s3.heap:=T.keep _ _ _ VB fun b _ o e=>by rw [e3];exact FK _ e
 let kept:∀b o,s3.heap.get? b=some o->qQ.get? b=some o:=fun b o e=>hk₁ b o e;generalize hC:s3.heap.objs.size=C at*;let hCs:s3.heap.objs.size<=C:=AE hC;let I4:Inv X pX Y H3 {s3 with heap:=qQ,toks:=s3.toks+([]:List (Str×Value)).length}:=I3.kept kept
 let fpC:∀b∈fp,b≠C:=fun b hb z=>by
  obtain ⟨o,e,_⟩:=T.obj _ _ Zl b hb;exact DZ z (LO (Lf (EF e) hCs))
 let nst:∀b∈fp,b∉HY X.stack:=fun b hb z=>(LN.mp (I3.DR b z)).elim (f3 b hb).2.1 (f3 b hb).2.2.1
 let old:∀x c,(bf X.env fr).lookup x=some c->c<C:=fun x c e=>by
  obtain ⟨v,ic⟩:=I3.cell x c (gW e);rw [<-hC];exact ic.lt
 let ah1:∀x z c,(ow C++bf X.env fr).lookup x=some c->(ow C++bf X.env fr).lookup z=some c->x=z:=fun x z c e1 e2=>by
  rcases vW e1 with b1|⟨_,b1⟩<;>rcases vW e2 with b2|⟨_,b2⟩
  ·exact B.one _ _ _ _ b1 b2
  ·exact DZ (old z c b2) (Nat.lt_asymm (B.ge _ _ _ b1))
  ·exact DZ (old x c b1) (Nat.lt_asymm (B.ge _ _ _ b2))
  ·exact I3.ok.inj x z c (gW b1) (gW b2)
 let ah2:∀x c,fn x=true->(ow C++bf X.env fr).lookup x=some c->s3.heap.objs.size<=c:=fun x c hx e=>by
  rcases vW e with b1|⟨a1,b1⟩
  ·exact BJ (AE hC) (Pk (B.ge _ _ _ b1))
  ·exact DZ a1 (B.fn1 C x hx)
 let nfp:∀b∈fp,∀x c,(ow C++bf X.env fr).lookup x=some c->c≠b:=fun b hb x c e=>by
  rcases vW e with b1|⟨a1,b1⟩
  ·obtain ⟨o,eo,_⟩:=T.obj _ _ Zl b hb
   have:=EF eo;rw [hC] at this;exact FT (LO (zq this (B.ge _ _ _ b1)))
  ·exact (f3 b hb).2.2.2.2.1 x c (gW b1)
 let aav:∀{x:Str} {c:AF},x∈fr->(bf X.env fr).lookup x=some c->(ow C++bf X.env fr).lookup x=some c:=fun {x c} hx e=>by
  rwa [aih,B.ny C x hx]
 let okB:(yQ X (tn++fr) scope fn (ow C++bf X.env fr) C s3 H3 fp).Ok:=by
  show ⟨I3.ok.mod,B.kind,I3.ok.glob,I3.ok.blt,hCs,ah1,fun x hx=>?_,ah2,I3.ok.hd,I3.ok.frames,.inl rfl,
   fun b hb=>⟨fpC b hb,fun x c e=>nfp b hb x c e⟩,I3.bs,BJ I3.ok.So I3.sz,fun b o e hb=>?_,nst,I3.stack,I3.HZ⟩
  ·let hm:∃k,(x,k)∈scope.names/\k≠.local/\(k=.cell\/k=.free):=by
    have:∃k',(relabel scope X.env).names.lookup x=some k'/\(k'=.cell\/k'=.free):=by
     rcases hx with z|z
     ·show ⟨_,z,.inl rfl⟩
     ·show ⟨_,z,.inr rfl⟩
    obtain ⟨k',e',h'⟩:=this;obtain ⟨⟨n,k⟩,hn,en⟩:=AY.mp (lookup_mem e');dsimp only at en;by_cases cc:(k==NameKind.free && X.env.scope.kind==.function && X.env.kindOf n==some .cell)=true
    ·rw [ox cc] at en
     cases en
     let kf:k=.free:=by
      rw [SM,SM] at cc;simpa using cc.1.1
     show ⟨k,hn,(by intro z;erw [kf] at z),.inr kf⟩
    ·rw [ni cc] at en
     cases en;show ⟨k',hn,fun z'=>by rcases h' with y|y<;>(erw [y] at z'),h'⟩
   obtain ⟨k,hk,_,h2⟩:=hm
   rcases h2 with z|z
   ·cases e:(ow C).lookup x with
    | none=>exact DZ e (B.fn1 C x (B.only _ hk z))
    | some c=>show ⟨c,by show Pw x (ow C++_)=_;rw [aih,e];rfl⟩
   ·let hf:=B.free _ hk z
    obtain ⟨c,ec⟩:=I3.ok.has x (B.out.at hf);show ⟨c,aav hf (pI ec hf)⟩
  ·obtain ⟨_,_,_,h1,_⟩:=f3 b hb
   rcases h1 with z|z
   ·exact I3.ok.N8 b o e z
   ·exact Pm _ (Lf (Lf (EF e) I3.ok.So) z)
 let IB:Inv (yQ X (tn++fr) scope fn (ow C++bf X.env fr) C s3 H3 fp) [] (sB tn.length oV Y) H3 {s3 with heap:=qQ,toks:=s3.toks+([]:List (Str×Value)).length}:=by
  show ⟨okB,rfl,I3.bare,Un.kept kept,⟨_,Xk,fun i x v e1 e2 _=>?_⟩,fun x c e=>(vW e).elim (fun z=>⟨none,hc₁ x c z⟩) (fun z=>I4.cell x c (gW z.2)),?_,fun x c e=>(vW e).elim (fun z=>I3.bJ.fresh (BJ hCs (Pk (B.ge _ _ _ z)))) (fun z=>I3.i9 x c (gW z.2)),fun p hp=>(nomatch hp),I3.bJ.kept kept,?_⟩
  ·obtain ⟨hk,j,ej,es⟩:=akq e2
   have VR :fr[i-tn.length]?=some x:=by
    let z:(tn++fr)[i]?=some x:=e1;rwa [Lg hk] at z
   let hx:x∈fr:=DW VR
   let eN:X.N[j]?=some x:=by
    let z:=pj (fun l:List (Option Str)=>l[i-tn.length]?) B.oV;simp only [Wp,ej,VR,WK] at z;exact GU z
   let ko:=B.out.at hx;obtain ⟨m,hn,hl⟩:=I4.loc;obtain ⟨u,r,lk⟩:=hl j x v eN es (by rcases ko with z|z;exact .inr (.inl z);exact .inr (.inr z));show ⟨u,r,?_⟩
   rcases lk with ⟨k1,_⟩|⟨_,c,ec,ic⟩
   ·rcases ko with z|z<;>(erw [z] at k1)
   ·exact .inr ⟨B.inn.at hx,c,aav hx (pI ec hx),ic⟩
  ·exact I3.bJ.fresh hCs
  ·have:=pj Oq B.oV
   simp only [ir] at this;show (sB tn.length oV Y).length=(tn++fr).length;unfold sB;simp [this]
 let OI:∀{H':Hp},(∀b∈fp,H' b=none)->∀b∈fp,pC (yQ X (tn++fr) scope fn (ow C++bf X.env fr) C s3 H3 fp) [] H' b:=fun hn b hb=>
  ⟨hn b hb,fpC b hb,nst b hb,.inl hb,nfp b hb,fun p hp=>(nomatch hp)⟩
 let st4:VQ 0 qQ:=T.keep _ _ _ Zl fun b _ o e=>kept b o e
 let loop:Lz (AX X.prog X.w) X.A (.compLoop (.ListComp elt [⟨target,iter,ifs,0⟩] scope pos) 0 (.ref it) (.ref D) (compEnvC scope (ow C++bf X.env fr) C X.env)) (RR (.ref D) C) {s3 with heap:=qQ,toks:=s3.toks+([]:List (Str×Value)).length}:=by
  refine akB (fun n s'=>∃i Y' ys H',Inv (yQ X (tn++fr) scope fn (ow C++bf X.env fr) C s3 H3 fp) [] Y' H' s'/\VQ i s'.heap/\(∀b∈fp,H' b=none)/\W i n Y' ys H') ?_ m0 ⟨0,_,[],H3,IB,st4,fun b hb=>(f3 b hb).1,w0⟩;rintro n s5 ⟨i,Y5,ys,H5,I5,Zm,VC,w5⟩
  rcases turn i n Y5 ys H5 w5 with ⟨stop,qn⟩|⟨go,step⟩
  ·refine Lj (T.done (yQ X (tn++fr) scope fn (ow C++bf X.env fr) C s3 H3 fp) rfl rfl rfl hc i [] s5 Y5 H5 (fun _ _=>False) I5 (OI VC) Zm stop) (fun r s6 ⟨hr,I6⟩=>?_) fun _ _ z=>z
   subst hr;obtain ⟨m,hn,_⟩:=I6.loc;let J6:Inv X pX Y H5 s6:=I3.ZX (ch:=fp) I6.os I6.iT I6.bJ I6.bare fun b hb=>⟨(f3 b hb).2.2.2.1,(f3 b hb).2.1,(f3 b hb).2.2.2.2.1,(f3 b hb).2.2.2.2.2⟩;exact fin D C H5 s6 m J6 hn (I3.nA hCs I6.free) qn
  ·refine Lj (T.item (yQ X (tn++fr) scope fn (ow C++bf X.env fr) C s3 H3 fp) rfl rfl rfl hc i [] s5 Y5 H5 (fun _ _=>False) I5 (OI VC) Zm go) (fun r s6 ⟨u,hr,h6⟩=>?_) fun _ _ z=>z
   subst hr;refine Lj h6 (fun _ s7 ⟨x,H7,I7,r7,y7,st7,fr7⟩=>?_) fun _ _ z=>z;let I7':=I7.pinned (OI fr7) (T.obj _ _ st7)
   let held:∀{Y' :L2.St} {H':Hp} {s':BN},Inv (yQ X (tn++fr) scope fn (ow C++bf X.env fr) C s3 H3 fp) ([]++rY fp s7.heap) Y' H' s' ->VQ (i+1) s'.heap/\∀b∈fp,H' b=none:=fun {Y' H' s'} I'=>by
    show ⟨T.keep _ _ _ st7 fun b hb o e=>(I'.pin (b,o) (OL _ (OL _ (ju hb e)))).1,fun b hb=>?_⟩;obtain ⟨o,e,d⟩:=T.obj _ _ st7 b hb;exact (I'.pin (b,o) (OL _ (OL _ (ju hb e)))).2.1
   refine Lj (hg C s3 H3 fp _ s7 Y5 H7 x u _ I7' r7 (step x H7 y7)) (fun _ s8 ⟨Y8,H8,I8,q8⟩=>?_) fun _ _ z=>z;refine Lj (ht C s3 H3 fp _ s8 Y8 H8 _ I8 q8) (fun ok s9 ⟨H9,I9,q9⟩=>?_) fun _ _ z=>z;cases ok with
   | false=>
    rw [ni LM] at q9;obtain ⟨m',hm,w9⟩:=q9;rw [ni LM];obtain ⟨a,b⟩:=held I9;show ⟨m',hm,i+1,Y8,ys,H9,I9.j7,a,b,w9⟩
   | true=>
    rw [ox rfl] at q9;rw [ox rfl];refine Lj (he C s3 H3 fp _ s9 Y8 H9 _ I9 q9) (fun v EI ⟨y9,Rm,I10,r10,hDD,hl,m',hm,w10⟩=>?_) fun _ _ z=>z;refine Lj (ft (X:=yQ X (tn++fr) scope fn (ow C++bf X.env fr) C s3 H3 fp) _ EI Y8 Rm (.ref D) [y9] (.ref D) [v] (fun _ H'=>W (i+1) m' Y8 (ys++[y9]) H') I10 rfl (.cons r10 .nil) ⟨D,ys,y9,rfl,rfl,hDD,hl,w10⟩) (fun _ DJ ⟨z,OJ,I11,_,q11⟩=>?_) fun _ _ z=>z;obtain ⟨a,b⟩:=held I11;show ⟨m',hm,i+1,Y8,ys++[y9],OJ,I11.j7,a,b,q11⟩
 exact codeAny_compStart_list loop (T.self X.A 0 _ _ _ st4 loop)
def ad6 (hc:X.calm=true)(B:SW X scope ow fn fr oV)(hi:PI X target iter wi)
  (hg:∀C s H fp,PG (yQ X (tn++fr) scope fn (ow C++bf X.env fr) C s H fp) target g) (ht:∀C s H fp,PF (yQ X (tn++fr) scope fn (ow C++bf X.env fr) C s H fp) ifs tt) (he:∀C s H fp,PE (yQ X (tn++fr) scope fn (ow C++bf X.env fr) C s H fp) elt te)
  (hs:∀x,S4 iter X.env x=pure x:=by intro _;rfl):PE X (.ListComp elt [⟨target,iter,ifs,0⟩] scope pos) (qz tn.length oV wi g tt te):=by
 intro pX s Y H Q I h;rw [eval_ListComp];refine wpAny_comprehension_free (use:=none) rfl hs B.SX B.kind B.names (cK (hi pX s Y H _ I h) fun v s1 h1=>cK h1 fun itv s2 h2=>?_);obtain ⟨it,fp,VQ,J,H2,rfl,I2,T,VB,f2,q⟩:=h2;refine sJ (Q:=Q) (RR:=fun acc C=>compPost (AX X.prog X.w) X.A X.xe none (EP X pX Y Q) acc C) hc B hg ht he I2 T VB f2 q ?_;intro D C H' s' m I' hn fc qq;obtain ⟨g0,g1,g2,g3,g4,g5⟩:=fc;show ⟨m,hn,fun h' VS =>⟨.ref D,H',I'.turned (t':=s'.toks) (fun b o hb e=>(VS.2 b hb).trans e) g0 g1 g3 g4 g5,rfl,qq⟩⟩
def acu {vd:Pos}(hN:X.N.Nodup)(Xl:X.N[i]?=some y)(hx:Loc X.env.scope y)
  (hc:X.calm=true) (B:SW X scope ow fn fr oV) (hi:PI X target iter wi)
  (hg:∀C s H fp,PG (yQ X (tn++fr) scope fn (ow C++bf X.env fr) C s H fp) target g) (ht:∀C s H fp,PF (yQ X (tn++fr) scope fn (ow C++bf X.env fr) C s H fp) ifs tt) (he:∀C s H fp,PE (yQ X (tn++fr) scope fn (ow C++bf X.env fr) C s H fp) elt te)
  (IZ:S0 (.ListComp elt [⟨target,iter,ifs,0⟩] scope pos) (some (.Name y py)) vd.line X.env=pure true:=by rfl)
  (hs:∀x,S4 iter X.env x=pure x:=by intro _;rfl) (hf:X.fn y=true\/X.env.scope.names.lookup y=some .local:=by first|exact .inl rfl|exact .inr rfl|assumption):
  PS X (.Assign [.Name y py] (.ListComp elt [⟨target,iter,ifs,0⟩] scope pos) vd) (DT (qz tn.length oV wi g tt te) (cy i)):=by
 intro pX s Y H D I h;rw [exec_Assign_Name_used _ _ _ _ IZ];refine AO (wpAny_standAt (AO ?_));show AS _ X.A (do let _ <- comprehension (.ListComp elt [⟨target,iter,ifs,0⟩] scope pos) scope X.env _ (newList []) false (D_ iter X.env) (some (assign (.Name y py) X.env))) _ _ s
 refine AO (Lj (wpAny_comprehension_free (use:=some (assign (.Name y py) X.env)) (Q:=fun _ s'=>SP X pX D .next s') rfl hs B.SX B.kind B.names
  (cK (hi pX s Y H _ I h) fun v s1 h1=>cK h1 fun itv s2 h2=>?_)) (fun _ s' hq=>DY (DY hq)) fun _ _ e=>e)
 obtain ⟨it,fp,VQ,J,H2,rfl,I2,T,VB,f2,q⟩:=h2;refine sJ (Q:=fun v H1=>cy i v Y H1 D.nx) (RR:=fun acc C=>compPost (AX X.prog X.w) X.A X.xe (some (assign (.Name y py) X.env)) (fun _ s'=>SP X pX D .next s') acc C) hc B hg ht he I2 T VB f2 q ?_;intro DD C H' s' m I' hn fc qq;obtain ⟨g0,g1,g2,g3,g4,g5⟩:=fc;show AS _ X.A (assign (.Name y py) X.env (.ref DD)) _ _ _;refine wpAny_assign_Name (vI I' hN Xl hx (v:=.ref DD) (u:=.ref DD) rfl (fun s'' I'' ⟨a,sb,ha⟩=>?_) hf)
 let hCa:C≠a:=by
  rcases ha with z|z
  ·rw [z]
   exact g1
  ·exact fun e=>g4 y a z e.symm
 show ⟨m,hn.sameBut sb hCa,fun h' VS =>⟨_,H',I''.turned (t':=s''.toks) (fun b o hb e=>(VS.2 b hb).trans e) g0 g1 g3 g4 g5,qq⟩⟩
def xg.g {oV:List Nat}(B:xg X scope fr oV):SW X scope (fun _=>[]) (fun _=>false) fr oV:=
 ⟨B.SX,B.kind,B.names,B.free,B.oV,B.out,B.inn,fun hQ=>wpAny_newFunctionEnv B.cell (by intro y hy;simp at hy) (fun qQ Xk ah4=>hQ qQ Xk (fun b o e=>(ah4.2 b (LO (EF e))).trans (FK _ e)) fun _ _ z=>(nomatch z)) B.kind,
  fun _ _ _ z=>(nomatch z),fun _ _ _ _ z=>(nomatch z),fun _ _ z=>(nomatch z),fun z hz e=>DZ e (B.cell z hz),fun _ _ _=>rfl⟩
def afl (hc:X.calm=true)(B:xg X scope fr oV)(hi:PI X target iter wi)
  (hg:∀C s H fp,PG (rF X (tn++fr) scope (bf X.env fr) C s H fp) target g) (ht:∀C s H fp,PF (rF X (tn++fr) scope (bf X.env fr) C s H fp) ifs tt) (he:∀C s H fp,PE (rF X (tn++fr) scope (bf X.env fr) C s H fp) elt te)
  (hs:∀x,S4 iter X.env x=pure x:=by intro _;rfl):PE X (.ListComp elt [⟨target,iter,ifs,0⟩] scope pos) (qz tn.length oV wi g tt te):=
 ad6 hc B.g hi hg ht he hs
def afh {vd:Pos}(hN:X.N.Nodup)(Xl:X.N[i]?=some y)(hx:Loc X.env.scope y)
  (hc:X.calm=true) (B:xg X scope fr oV) (hi:PI X target iter wi)
  (hg:∀C s H fp,PG (rF X (tn++fr) scope (bf X.env fr) C s H fp) target g) (ht:∀C s H fp,PF (rF X (tn++fr) scope (bf X.env fr) C s H fp) ifs tt) (he:∀C s H fp,PE (rF X (tn++fr) scope (bf X.env fr) C s H fp) elt te)
  (IZ:S0 (.ListComp elt [⟨target,iter,ifs,0⟩] scope pos) (some (.Name y py)) vd.line X.env=pure true:=by rfl)
  (hs:∀x,S4 iter X.env x=pure x:=by intro _;rfl) (hf:X.fn y=true\/X.env.scope.names.lookup y=some .local:=by first|exact .inl rfl|exact .inr rfl|assumption):
  PS X (.Assign [.Name y py] (.ListComp elt [⟨target,iter,ifs,0⟩] scope pos) vd) (DT (qz tn.length oV wi g tt te) (cy i)):=
 acu hN Xl hx hc B.g hi hg ht he IZ hs hf
end
section
variable {D:AF}{te:TE}{ph:L2.St}{H1:Hp}{Q:VK}
def xh (n:Nat)(xs:Nat->V)(Pv:Nat->List V->Hp->Prop)(h0:Pv 0 [] (upd H1 D (.lst [])))
  (go:∀i ys H,i<n->Pv i ys H->J.go i H/\∀x H',J.DU i H x H' ->H'=H/\x=xs i) (stop:∀ys H,Pv n ys H->J.stop n H)
  (hs:∀i ys H (R:VK),i<n->Pv i ys H->H D=some (.lst ys)->(∀v H6,H6 D=some (.lst ys)->ys.length<AZ->Pv (i+1) (ys++[v]) (upd H6 D (.lst (ys++[v])))->R v H6)->te (some (xs i)::ph) H R)
  (hd:∀ys H,Pv n ys H->H D=some (.lst ys)->Q (.ref D) H):mK D (cy 0) jV te J (none::ph) H1 Q:=by
 show ⟨fun i m Y ys H=>m=n-i/\i<=n/\(∃o,Y=o::ph)/\Pv i ys H/\H D=some (.lst ys),⟨n,by simp,LS _,⟨none,rfl⟩,h0,ah⟩,?_⟩;rintro i m Y ys H ⟨rfl,hi,⟨o,rfl⟩,p,hD⟩;by_cases jU:i<n
 ·obtain ⟨g1,g2⟩:=go i ys H jU p
  refine .inr ⟨g1,fun x H' y=>?_⟩;obtain ⟨e1,e2⟩:=g2 x H' y;subst e1 e2;unfold cy jV;dsimp only;rw [ox rfl];exact hs i ys _ _ jU p hD fun v H6 a b c=>⟨a,b,n-(i+1),ce,rfl,ce,⟨_,rfl⟩,c,ah⟩
 ·let e:i=n:=ce
  subst e;exact .inl ⟨stop ys H p,hd ys H p hD⟩
end
structure Mk0 (K:Frag)(C:AF):Prop where
 makes:T3 K C=true
 init:Lb K (.ref C) "__init__"=some (some (.builtin "object.__init__"))
 kp:keepIn K (.ref C)=true
def aax (C:AF):TE:=fun _ H Q=>∀x dx,H x=none->H dx=none->dx≠x->Q (.ref x) (upd (upd H dx (.own x)) x (.ins C dx []))
section
variable {X:Cx}
def agS {Y:L2.St}(M:Mk0 X.K C)(I:Inv X pX Y H s)(h:aax C Y H Q):AS (AX X.prog X.w) X.A (call (.ref C) []) (EP X pX Y Q) X.xe s:=by
 let hq:=h (s.heap.objs.size+1) s.heap.objs.size (I.bJ.fresh (AQ _)) (I.bJ.fresh (D' _)) (LO (Of _));let I2:=Inv.made (C:=C) I;have σ:=PySem.W.makes_of (M:=AX X.prog X.w) I.mC M.makes;refine wpAny_call (aa_ I.mC M.makes M.init (fun self=>PySem.W.Looks.of_pure (PySem.W.oi_bind self)) ?_)
 let ho:((s.heap.push OF).push (OE C s.heap.objs.size)).get? (s.heap.objs.size+1)=some (OE C s.heap.objs.size):=by
  have:=LL (s.heap.push OF) (o:=OE C s.heap.objs.size) rfl
  rwa [QQ] at this
 let t1:PySem.W.Looks (AX X.prog X.w) ((s.heap.push OF).push (OE C s.heap.objs.size)) (typeOf (.ref (s.heap.objs.size+1))) (.ref C):=(PySem.W.Looks.ld ho).andThen .now
 let t2:PySem.W.Looks (AX X.prog X.w) ((s.heap.push OF).push (OE C s.heap.objs.size)) (isInstance (.ref (s.heap.objs.size+1)) (.type "object")) true:=
  t1.andThen (σ.top.keeps fun b o e=>FK _ (FK _ e))
 refine codeAny_call_builtin PySem.W.oi_plain PySem.W.entry_oi (@PySem.W.check_slot (AX X.prog X.w) _ _ _ "object.__init__" "object" "__init__" (.ref (s.heap.objs.size+1)) [] [] _ PySem.W.oi_kind PySem.W.oi_split t2 (PySem.W.oi_args (.ref (s.heap.objs.size+1))) ?_);rw [PySem.W.oi_run];exact DY (And.intro rfl ⟨V.ref (s.heap.objs.size+1),_,I2,rfl,hq⟩)
def akp (M:Mk0 X.K C)(hg:Gl X x)(hm:X.mg x=some (.ref C))(va:(x==("__debug__":Str))=false:=by decide):PE X (.Call (.Name x p) [] [] pos) (aax C):=by
 intro pX s Y H Q I h;refine X7 (nq I hg hm ?_ va);exact PySem.W.callWith_K0 I.mC M.kp (agS M I h)
end
structure bS (P:FE)(w:World)(K:Frag)(mg:ι)(iT:Heap)(CX:nI)(k:Nat)(C:AF)(m:Str)(ps:ς)(sp:Sp):Prop where
 ex:∃(f:AF)(fd:FuncData),zf K C/\Meth K C m f/\dH P w K mg iT CX k f fd ps sp/\Binds K fd ps []
theorem bS.mono {K:Frag}(M:bS P w K mg iT CX j C m ps sp)(h:j<=k):bS P w K mg iT CX k C m ps sp:=by
 obtain ⟨f,fd,a,b,c,d⟩:=M.ex;show ⟨f,fd,a,b,c.mono h,d⟩
section
variable {X:Cx}{CX:nI}{k:Nat}{E:XK}{m:Str}{pos apos:Pos}{e o:Expr}{es:Ε}{ta:TE}{t:TA}
inductive VT (P:FE)(w:World)(K:Frag)(mg:ι)(iT:Heap)(CX:nI)(k:Nat)(m:Str)(E:XK)(t:TA)(Y:L2.St)(Q:VK)(x:V)(H1:Hp):Prop
|mk (a C dx fs ps sp:_)(_:x=.ref a)(_:H1 a=some (.ins C dx fs))(_:fs.lookup m=none)(_:bS P w K mg iT CX k C m ps sp)(_:t Y H1 fun vs H2=>sp (x::vs) H2 Q E)
def aay (P:FE)(w:World)(K:Frag)(mg:ι)(iT:Heap)(CX:nI)(k:Nat)(m:Str)(E:XK)(ta:TE)(t:TA):TE:=fun Y H Q=>ta Y H fun x H1=>VT P w K mg iT CX k m E t Y Q x H1
def d9 (he:PE X o ta)(hr:cM k X.A)(hx:Passes CX X E)
  (ht:D_ (.Call (.Attribute o m apos) [] [] pos) X.env=(do
   let ov <- D_ o X.env
   standAt apos.atName
   let (f,first) <- holding [ov] (getMethod ov m pl)
   callWith pos f first (Le pos (EC [] X.env)) (backToKw pos (Xn [] X.env))):=by rfl):
  PE X (.Call (.Attribute o m apos) [] [] pos) (aay X.prog X.w X.K X.mg X.iT CX k m E ta gI):=by
 intro pX s Y H Q I h;refine PySem.W.methodCall_KW (pl:=pl) (cK (he pX s Y H _ I h) fun u s1 ⟨x,H1,I1,rx,a,C,dx,fs,ps,sp,ex,ea,l,M,q⟩=>?_) ht;subst ex;obtain rfl:u=Value.ref a:=rx;obtain ⟨f,fd,c,hm,F,hb⟩:=M.ex;refine mG I1 ea c hm l ?_;exact PySem.W.callWith_K0 (first:=[.ref a]) I1.mC hm.kp (wX (us:=[.ref a]) (vs:=[.ref a]) (rl:=[]) F hr hb .nil hx I1 (.cons rfl .nil) q)
def fO {pl:Sem Bool}(he:PE X o ta)(hr:cM k X.A)(hx:Passes CX X E)(ha:PA X (e::es) t)
  (Sw:EC (e::es) X.env=(false,D_ e X.env)::EC es X.env:=by rfl) (qY:(Le pos (EC es X.env)).any (·.1)=false:=by rfl)
  (ht:D_ (.Call (.Attribute o m apos) (e::es) [] pos) X.env=(do
   let ov <- D_ o X.env
   standAt apos.atName
   let (f,first) <- holding [ov] (getMethod ov m pl)
   callWith pos f first (Le pos (EC (e::es) X.env)) (backToKw pos (Xn [] X.env))):=by rfl):
  PE X (.Call (.Attribute o m apos) (e::es) [] pos) (aay X.prog X.w X.K X.mg X.iT CX k m E ta t):=by
 intro pX s Y H Q I h;refine PySem.W.methodCall_KW (pl:=pl) (cK (he pX s Y H _ I h) fun u s1 ⟨x,H1,I1,rx,a,C,dx,fs,ps,sp,ex,ea,l,M,q⟩=>?_) ht;subst ex;obtain rfl:u=Value.ref a:=rx;obtain ⟨f,fd,c,hm,F,hb⟩:=M.ex;refine mG I1 ea c hm l ?_;refine yV (first:=[.ref a]) (h₀:=X.iT) I.ok.mod.Zi hm.kp (cK (ha pos pX s1 Y H1 _ I1 q) fun us s2 ⟨vs,H2,I2,r,q2⟩=>⟨I2.mC,?_⟩) Sw qY;refine wX (us:=.ref a::us) (vs:=.ref a::vs) (rl:=[]) F hr hb .nil hx I2 (.cons rfl r) ?_;rwa [WL]
end
def aaz (h:sH CX)(e:X.xe=fun _ _=>False):Passes CX X E0:=fun _ _ _ _ _ _ _ q=>(h _ _ _ _ _ q).elim
section
variable {X:Cx}
inductive aaA (x:V)(lo:Υ)(hi:Υ)(H:Hp)(Q:VK):Prop
|mk (z:_)(_:x=.str z)(_:z.length<=AZ)(_:Q (.str (Txt.slice z lo hi)) H)
def akE:SlR X aaA:=by
 intro pX s Y H x v vl vu lo hi sl Q I rx hs pl pu h;obtain ⟨z,rfl,hz,q⟩:=h;obtain ⟨t,rfl⟩:=rx;show ⟨"str",_,F.slot_str_getitem.lookup,typeIs_str _ _ _,?_⟩;cases pl<;>cases pu
 ·exact JG (l:=none) (u:=none) (st:=none) hs rfl (w_ ⟨BJ (Txt.slice_le z _ _) hz,fun t' k=>⟨.str _,H,I.tok k,⟨t',rfl⟩,q⟩⟩)
 ·rename_i j uj
  exact JG (l:=none) (u:=some (j,uj)) (st:=none) hs rfl (w_ ⟨BJ (Txt.slice_le z _ _) hz,fun t' k=>⟨.str _,H,I.tok k,⟨t',rfl⟩,q⟩⟩)
 ·rename_i i ui
  exact JG (l:=some (i,ui)) (u:=none) (st:=none) hs rfl (w_ ⟨BJ (Txt.slice_le z _ _) hz,fun t' k=>⟨.str _,H,I.tok k,⟨t',rfl⟩,q⟩⟩)
 ·rename_i i ui j uj
  exact JG (l:=some (i,ui)) (u:=some (j,uj)) (st:=none) hs rfl (w_ ⟨BJ (Txt.slice_le z _ _) hz,fun t' k=>⟨.str _,H,I.tok k,⟨t',rfl⟩,q⟩⟩)
inductive VU (x:V)(y:V)(H:Hp)(Q:VK):Prop
|mk (z n:_)(_:x=.str z)(_:y=.int n)(_:MulOk z n)(_:Q (.str (Txt.mul z n)) H)
def rG:j8 X (O8 .Mult) VU:=by
 intro pX s Y H x y v u Q I rx ry h;obtain ⟨z,n,rfl,rfl,ok,q⟩:=h;obtain ⟨t,rfl⟩:=rx;obtain ⟨t',rfl⟩:=ry;exact SB.mul ok fun t' k=>⟨.str _,H,I.tok k,⟨t',rfl⟩,q⟩
def all_range (bs:List Bool):(FG bs.length).all (fun i=>(bs[i]?).getD true)=bs.all id:=by
 induction bs with
 | nil=>rfl
 | cons b r ih=>
  rw [Lw,aiN,YF,ajv,YF,<-ih];rfl
inductive aaB (K:Frag)(xs:η)(H:Hp)(Q:VK):Prop
|mk (p:AF)(bs:List Bool)(_:xs=[.ref p])(_:aR K H p (bs.map V.bl))(_:Q (.bl (bs.all id)) H)
def acr (hc:X.calm=true):ja X (.builtin "all") (aaB X.K):=by
 intro pX s Y H xs us Q I r h;obtain ⟨p,bs,rfl,hq,q⟩:=h;obtain ⟨u,rfl,r1⟩:=vals1 r;cases r1;obtain ⟨AP,rv,pl,hz⟩:=I.list hq;refine call_all_walk (zB pl.isList ?_);let OM:p≠s.heap.objs.size:=by obtain ⟨o,ho,_⟩:=pl.isList;exact LO (EF ho)
 let I1:Inv X pX Y H {s with heap:=s.heap.push {cls:=.type "list_iterator",data:=.fields #[.ref p,.int 0 0]}}:=I.kept (t':=s.toks) fun b o e=>FK _ e;obtain ⟨f0,f1,f2,f3,f4,f5⟩:=I.nA (H':=H) (D' s.heap.objs.size) (I.bJ.fresh (D' _));let hl:AP.length=bs.length:=by rw [<-rv.length,ir]
 show ⟨s.heap.objs.size,_,_,_,_,_,fun i=>(bs[i]?).getD true,rfl,Walks.list (A:=X.A.in1) (I.ok.hd hc) s.heap.objs.size p OM AP.toArray,⟨⟨_,LL _ rfl,rfl,rfl⟩,pl.isList.at fun o e=>FK _ e⟩,?_,fun h' tk kk=>?_⟩
 ·intro i v s' Q' E' hv vM
  have W0 :AP[i]?=some v:=by simpa using hv
  let hi:i<bs.length:=by rw [<-hl];exact (be.mp W0).1
  let eb:(bs.map V.bl)[i]?=some (.bl bs[i]):=by rw [Wp,gE hi];rfl
  obtain ⟨u,eu,ru⟩:=rv.get eb;erw [W0] at eu;cases ru;dsimp only at vM;rw [gE hi] at vM;exact S5 vM
 ·show ⟨.bl (bs.all id),H,I1.turned (t':=tk) (it:=s.heap.objs.size) (fun b o hb e=>kk b o (by simpa using hb) e) f0 f1 f3 f4 f5,?_,q⟩
  show _=_;rw [<-all_range bs,LV,hl]
end
end Ty
set_option maxHeartbeats 1000000
set_option maxHeartbeats 4000000
namespace Ty
open PySem PySem.Spec PyProof.Rows L2 PySem.NumText
def dg (m:Nat):List Nat:=(Nat.toDigits 10 m).map Char.toNat
def tx (n:Int):Str:=N7 (toString n)
def aaC:Str:=N7 "/"
def nt (q:Int×Int):Str:=if q.2=1 then tx q.1 else tx q.1++aaC++tx q.2
def isStar:Expr->Bool
 | .Starred .. =>true
 | _=>false
def agb {es:Ε}(h:isStar e=false):EC (e::es) env=(false,D_ e env)::EC es env:=by
 cases e<;>first|rfl|(cases h;done)
def jP (ha:PE X e te)(hr:PA X es t)(h:isStar e=false:=by rfl):PA X (e::es) (qu te t):=ags ha hr (agb h)
end Ty
namespace Ty
open PySem PySem.Spec PyProof.Rows L2
section
variable {D:AF}{te:TE}{ph:L2.St}{H1:Hp}{Q:VK}
def bL (D:AF)(H H':Hp):Prop:=∀b o,b≠D->H b=some o->H' b=some o
def bL.of (s:ao H H'):bL D H H':=fun b o _ e=>s b o e
theorem bL.upd :bL D H (upd H D o):=fun b o' n e=>by rwa [aj n]
def sL (n:Nat)(xs:Nat->V)(Rel:Ψ)(nD:H1 D=none)(hn:n<AZ)
  (go:∀i H,i<n->ao H1 H->J.go i H/\∀x H',J.DU i H x H' ->H'=H/\x=xs i) (stop:∀H,ao H1 H->J.stop n H)
  (hR:∀i v H H' ys,H D=some (.lst ys)->bL D H H' ->Rel i v H->Rel i v H')
  (he:∀i H (R:VK),i<n->ao H1 H->(∀v H6,ao H H6->Rel i v H6->R v H6)->te (some (xs i)::ph) H R)
  (hd:∀ys H,ys.length=n->(∀i v,ys[i]?=some v->Rel i v H)->ao H1 H->H D=some (.lst ys)->Q (.ref D) H):
  mK D (cy 0) jV te J (none::ph) H1 Q:=by
 refine xh n xs (fun i ys H=>ys.length=i/\(∀i v,ys[i]?=some v->Rel i v H)/\ao H1 H) ⟨rfl,fun i v e=>by simp at e,fun b o e=>by rwa [aj (ak e nD)]⟩ ?_ ?_ ?_ ?_
 ·rintro i ys H hi ⟨_,_,s⟩
  exact go i H hi s
 ·rintro ys H ⟨_,_,s⟩
  exact stop H s
 ·rintro i ys H R hi ⟨l,r,s⟩ hD k
  refine he i H R hi s fun v H6 s6 rv=>k v H6 (s6 _ _ hD) ce ⟨by simp [l],fun j u e=>?_,fun b o e=>?_⟩
  ·by_cases c:j<ys.length
   ·rw [LR c] at e
    let ru:=hR j u H H6 ys hD (bL.of s6) (r j u e);exact hR j u H6 _ ys (s6 _ _ hD) bL.upd ru
   ·rw [Lg ce] at e
    let ej:j=i:=by
     by_cases z:j-ys.length=0
     ·omega
     ·rw [FJ (by simp;omega)] at e
      cases e
    subst ej
    have:v=u:=by
     rw [show j-ys.length=0 by omega] at e;exact GU e
    subst this;exact hR j v H6 _ ys (s6 _ _ hD) bL.upd rv
  ·rw [aj (ak e nD)]
   exact s6 _ _ (s _ _ e)
 ·rintro ys H ⟨l,r,s⟩ hD
  exact hd ys H l r s hD
def fY {K:Frag}(Rel:Ψ)(nD:H1 D=none)(hn:xs.length<AZ)(hS:∀H,ao H1 H->aR K H a xs)
  (hR:∀i v H H' ys,H D=some (.lst ys)->bL D H H' ->Rel i v H->Rel i v H')
  (he:∀i x H (R:VK),xs[i]?=some x->ao H1 H->(∀v H6,ao H H6->Rel i v H6->R v H6)->te (some x::ph) H R)
  (hd:∀ys H,ys.length=xs.length->(∀i v,ys[i]?=some v->Rel i v H)->ao H1 H->H D=some (.lst ys)->Q (.ref D) H):
  mK D (cy 0) jV te (Sx K a) (none::ph) H1 Q:=by
 refine sL xs.length (fun i=>(xs[i]?).getD .dc) Rel nD hn (fun i H hi s=>⟨⟨xs,xs[i],hS H s,gE hi⟩,fun x H' y=>⟨y.1,?_⟩⟩) (fun H s=>⟨xs,hS H s,D' _⟩) hR (fun i H R hi s k=>?_) hd
 ·rw [y.2 xs (hS H s)];rfl
 ·let e:xs[i]?=some xs[i]:=gE hi
  let k':=he i _ H R e s k;rw [<-(show (xs[i]?).getD .dc=xs[i] by rw [e];rfl)] at k';exact k'
def ik {lo:Int}(Rel:Ψ)(nD:H1 D=none)(hn:n<AZ)
  (hR:∀i v H H' ys,H D=some (.lst ys)->bL D H H' ->Rel i v H->Rel i v H')
  (he:∀(i:Nat) H (R:VK),i<n->ao H1 H->(∀v H6,ao H H6->Rel i v H6->R v H6)->te (some (.int (lo+i))::ph) H R)
  (hd:∀ys H,ys.length=n->(∀i v,ys[i]?=some v->Rel i v H)->ao H1 H->H D=some (.lst ys)->Q (.ref D) H):
  mK D (cy 0) jV te (Sy lo n) (none::ph) H1 Q:=
 sL n (fun i=>.int (lo+i)) Rel nD hn (fun i H hi s=>⟨hi,fun x H' y=>y⟩) (fun H s=>D' n) hR he hd
end
section
variable {X:Cx}{pX:ε}{Y:L2.St}{H:Hp}{s:BN}{h':Heap}
def Inv.nY {fp:χ}(I:Inv X pX Y H s)(k:∀b o,b∉fp->s.heap.get? b=some o->h'.get? b=some o)(hf:∀b∈fp,pC X pX H b):Inv X pX Y H {s with heap:=h',toks:=t'}:=by
 let Vv:∀b u,H b=some u->b∉fp:=fun b u e z=>by erw [(hf b z).1] at e
 refine I.step (g':=s.gens) (d':=s.drawn) (ch:=fp) (fun b hb=>?_) (fun b o _ _ hc e _=>k b o hc e) (fun b o _ _ hc e _=>⟨o.slots,k b o hc e⟩) (fun _ _ _ _ n=>n)
  (fun b o hc e=>⟨o,k b o hc e⟩) (fun _ _ e=>e) (fun _ _ _ e=>e) (fun b ps e=>⟨#[],by rw [e];simp⟩) (fun m hm=>?_) (fun b u e=>?_) I.bare
 ·obtain ⟨f0,f1,f2,f3,f4,f5⟩:=hf b hb
  show ⟨f3,f1,f4,f5⟩
 ·obtain ⟨o,es,ep,ho,r⟩:=hm
  show ⟨o,es,ep,k _ o (fun z=>(hf _ z).2.1 rfl) ho,r⟩
 ·refine (I.bJ b u e).wK (fun c v hc q=>k c v ?_ q) (fun _ q=>q) fun _ _ q=>q
  rcases hc with z|z
  ·rw [z];exact Vv b u e
  ·exact Vv c _ z
def Inv.rH {fp:χ}{T:AF}{xs:η}{AP:ρ}(I:Inv X pX Y H s)(k:∀b o,b∉fp->s.heap.get? b=some o->h'.get? b=some o)(hf:∀b∈fp,pC X pX H b)(hT:s.heap.objs.size<=T)
  (hz:xs.length<=AZ) (rv:Vals xs AP) (ht:IsTup h' T AP.toArray):Inv X pX Y (upd H T (.tup xs)) {s with heap:=h',toks:=t'}:=by
 let hn:=I.bJ.fresh hT;let Vv:∀b u,H b=some u->b∉fp:=fun b u e z=>by erw [(hf b z).1] at e
 let ne:∀b o,s.heap.get? b=some o->b≠T:=fun b o e=>LO (Lf (EF e) hT)
 refine I.step (g':=s.gens) (d':=s.drawn) (ch:=fp) (fun b hb=>?_) (fun b o _ _ hc e _=>k b o hc e) (fun b o _ _ hc e _=>⟨o.slots,k b o hc e⟩) (fun b o _ e n=>by rwa [aj (ne b o e)])
  (fun b o hc e=>⟨o,k b o hc e⟩) (fun b ys e=>by rwa [aj (ak e hn)]) (fun b o u e=>by rwa [aj (ak e hn)]) (fun b ps e=>⟨#[],by rw [aj (ak e hn),e];simp⟩) (fun m hm=>?_) (fun b u e=>?_) I.bare
 ·obtain ⟨f0,f1,f2,f3,f4,f5⟩:=hf b hb
  show ⟨f3,f1,f4,f5⟩
 ·obtain ⟨o,es,ep,ho,r⟩:=hm
  show ⟨o,es,ep,k _ o (fun z=>(hf _ z).2.1 rfl) ho,r⟩
 ·by_cases hb:b=T
  ·subst hb
   erw [ah] at e;show ⟨hz,AP,rv,ht⟩
  ·rw [aj hb] at e
   refine (I.bJ b u e).wK (fun c v hc q=>k c v ?_ q) (fun c q=>by rwa [aj (ak q hn)]) fun c ys q=>by rwa [aj (ak q hn)]
   rcases hc with z|z
   ·rw [z];exact Vv b u e
   ·exact Vv c _ z
end
def Xo (K:Frag)(a b:AF):It:=
 ⟨fun i H=>∃xs ys x y,aR K H a xs/\aR K H b ys/\xs[i]?=some x/\ys[i]?=some y,
  fun i H v H'=>∃p x y,(∀xs,aR K H a xs->xs[i]?=some x)/\(∀ys,aR K H b ys->ys[i]?=some y)/\v=.ref p/\H p=none/\H'=upd H p (.tup [x,y]),
  fun i H=>∃xs ys,aR K H a xs/\aR K H b ys/\(xs.length<=i\/ys.length<=i)⟩
def acV {K:Frag}{es:Ε}(a b z TI TO i1 i2:AF)(D:ZipApart z TI TO i1 i2 a b):
  Turn P w K (.Tuple es k pos) (Xo K a b) [z,TI,TO,i1,i2] z (fun i h=>Lv h z TI TO .none/\LK h TI (.ref i1) (.ref i2)/\(∃x y,LK h TO x y)/\h.IsListIter i1 a i/\h.IsListIter i2 b i) where
 mem:=by simp
 obj:=fun i h st c hc=>by
  obtain ⟨hz,gJ,⟨x,y,lG⟩,⟨o1,e1,c1,d1⟩,⟨o2,e2,c2,d2⟩⟩:=st;have qX :c=z\/c=TI\/c=TO\/c=i1\/c=i2:=by simpa using hc
  rcases qX with e|e|e|e|e<;>subst e
  ·show ⟨_,hz,fun v z=>by cases z⟩
  ·show ⟨_,gJ,fun v z=>by cases z⟩
  ·show ⟨_,lG,fun v z=>by cases z⟩
  ·show ⟨_,e1,fun v z=>by erw [d1] at z⟩
  ·show ⟨_,e2,fun v z=>by erw [d2] at z⟩
 keep:=fun i h h' st k=>by
  obtain ⟨hz,gJ,⟨x,y,lG⟩,h1,h2⟩:=st;show ⟨k z ga _ hz,k TI ga _ gJ,⟨x,y,k TO ga _ lG⟩,h1.at fun o e=>k i1 ga o e,h2.at fun o e=>k i2 ga o e⟩
 item:=by
  intro X hP hw hK hc i pX s Y H E I hf st hg;subst hP hw hK;obtain ⟨hz,gJ,⟨x0,y0,lG⟩,h1,h2⟩:=st;obtain ⟨xs,ys,x,y,qx,qy,ex,ey⟩:=hg;obtain ⟨AP,rv,p,_⟩:=I.list qx;obtain ⟨Xp,u_,p',_⟩:=I.list qy;obtain ⟨u,hu,ru⟩:=rv.get ex;obtain ⟨v,hv,rv'⟩:=u_.get ey;refine wpAny_pyNext_zip_item D hz gJ lG h1 h2 p.isList p'.isList (x:=u) (y:=v) (by simpa using hu) (by simpa using hv) fun h' a1 a2 a3 a4 a5 a6 a7=>?_;show ⟨_,rfl,wpAny_letOwnedTupleGo_zip (s:={s with heap:=h'}) a1 fun JB b1 sb=>?_⟩;let nz:∀c,c≠z->∀o,h'.get? c=some o->JB.get? c=some o:=fun c hc o e=>(sb.2 c hc).trans e
  let kk:∀b o,b∉[z,TI,TO,i1,i2]->s.heap.get? b=some o->JB.get? b=some o:=fun b o hb e=>by
   have fZ :b≠z/\b≠TI/\b≠TO/\b≠i1/\b≠i2:=by simpa using hb
   exact nz b fZ.1 o (a7 b o fZ.1 fZ.2.2.1 fZ.2.2.2.1 fZ.2.2.2.2 e)
  let sz:∀c o,s.heap.get? c=some o->s.heap.objs.size≠c:=fun c o e=>SY (EF e);let tz:s.heap.objs.size≠z:=sz _ _ hz;let hn:=I.bJ.fresh (D' s.heap.objs.size)
  let I2:Inv X pX Y (upd H s.heap.objs.size (.tup [x,y])) {s with heap:=JB,toks:=s.toks}:=
   Inv.rH I kk hf (D' _) (by show 2<=AZ;decide) (AP:=[u,v]) (.cons ru (.cons rv' .nil)) ⟨_,nz _ tz _ a5,rfl,_,rfl⟩
  show ⟨.ref s.heap.objs.size,_,I2,rfl,⟨s.heap.objs.size,x,y,fun xs' q=>by rwa [I.i_ q qx],fun ys' q=>by rwa [I.i_ q qy],rfl,hn,rfl⟩,⟨b1,nz _ D.TIz _ (a7 _ _ D.TIz D.TITO D.TIi1 D.TIi2 gJ),⟨_,_,nz _ D.TOz _ a2⟩,a3.at fun o e=>nz _ D.i1z o e,a4.at fun o e=>nz _ D.i2z o e⟩,fun b hb=>?_⟩
  let ob:∃o,s.heap.get? b=some o:=by
   obtain ⟨o1,e1,_⟩:=h1;obtain ⟨o2,e2,_⟩:=h2;have qX :b=z\/b=TI\/b=TO\/b=i1\/b=i2:=by simpa using hb
   rcases qX with e|e|e|e|e<;>subst e
   ·show ⟨_,hz⟩
   ·show ⟨_,gJ⟩
   ·show ⟨_,lG⟩
   ·show ⟨_,e1⟩
   ·show ⟨_,e2⟩
  obtain ⟨o,e⟩:=ob;rw [aj (FT (sz _ _ e))];exact (hf b hb).1
 done:=by
  intro X hP hw hK hc i pX s Y H E I hf st hg;subst hP hw hK;obtain ⟨hz,gJ,⟨x0,y0,lG⟩,h1,h2⟩:=st;obtain ⟨xs,ys,qx,qy,ee⟩:=hg;obtain ⟨AP,rv,p,_⟩:=I.list qx;obtain ⟨Xp,u_,p',_⟩:=I.list qy;let l1:=rv.length;let l2:=u_.length;refine wpAny_pyNext_zip_end (I.ok.hd hc) D hz gJ lG h1 h2 p.isList p'.isList ?_ fun h' kk=>⟨rfl,Inv.nY I (fun b o hb e=>?_) hf⟩
  ·rcases ee with e|e
   ·exact .inl (by simp;omega)
   ·exact .inr (by simp;omega)
  ·have fZ :b≠z/\b≠TI/\b≠TO/\b≠i1/\b≠i2:=by simpa using hb
   exact kk b o fZ.1 fZ.2.2.1 fZ.2.2.2.1 fZ.2.2.2.2 e
 self:=fun _ _ _ _ _ st h=>Yq st.1 h
def boot_zip:Lm "zip"=some (.type "zip"):=by decide+kernel
section
variable {X:Cx}
inductive VW (K:Frag)(R:(It->Hp->Prop))(vs:η)(H1:Hp):Prop
|mk (a b:_)(_:vs=[.ref a,.ref b])(_:(∃xs,aR K H1 a xs))(_:(∃ys,aR K H1 b ys))(_:R (Xo K a b) H1)
def ah6 (K:Frag)(ta:TA):TI:=fun Y H R=>ta Y H fun vs H1=>VW K R vs H1
def xi {p pos:Pos}{es:Ε}{k:Nat}{wV:Pos}(hg:Gl X "zip")(hm:X.mg "zip"=none)(ha:PA X [e1,e2] ta)(hs:EC [e1,e2] X.env=[(false,D_ e1 X.env),(false,D_ e2 X.env)]:=by rfl)(IH:EC [e2] X.env=[(false,D_ e2 X.env)]:=by rfl):
  PI X (.Tuple es k wV) (.Call (.Name "zip" p) [e1,e2] [] pos) (ah6 X.K ta):=by
 intro pX s Y H R I h;refine Call_ (jt I hg hm boot_zip (To (cK (ha pos pX s Y H _ I h) fun us s1 ⟨vs,H1,I1,r1,q1⟩=>?_) (by rw [hs,IH]) (by rw [IH];rfl)));obtain ⟨a,b,e,⟨xs,hx⟩,⟨ys,hy⟩,q⟩:=q1;subst e;cases r1 with
 | cons r rr=>
  cases rr with
  | cons r' rr=>
   cases rr;cases r;cases r';obtain ⟨AP,rv,pl,_⟩:=I1.list hx;obtain ⟨Xp,u_,pl',_⟩:=I1.list hy;let lt1:a<s1.heap.objs.size:=by obtain ⟨o,ho,_⟩:=pl.isList;exact EF ho
   let lt2:b<s1.heap.objs.size:=by obtain ⟨o,ho,_⟩:=pl'.isList;exact EF ho
   refine call_zip_2 pl.isList pl'.isList fun h' hz gJ lG zv Xq hsz hk=>Yq (s:={s1 with heap:=h'}) hz ?_;show ⟨s1.heap.objs.size+4,[s1.heap.objs.size+4,s1.heap.objs.size+2,s1.heap.objs.size+3,s1.heap.objs.size,s1.heap.objs.size+1],_,_,H1,rfl,I1.kept (t':=s1.toks) hk,acV a b _ _ _ _ _ ?_,⟨hz,gJ,⟨_,_,lG⟩,zv,Xq⟩,fun c hc=>?_,q⟩
   ·constructor<;>(intro z;simp only [AF] at*;omega)
   ·have qX :s1.heap.objs.size<=c:=by
     have:c=s1.heap.objs.size+4\/c=s1.heap.objs.size+2\/c=s1.heap.objs.size+3\/c=s1.heap.objs.size\/c=s1.heap.objs.size+1:=by simpa using hc
     simp only [AF] at*;omega
    exact I1.nA qX (I1.bJ.fresh qX)
inductive OO (K:Frag)(xs:η)(H:Hp)(Q:VK):Prop
|mk (p:AF)(ys:η)(_:xs=[.ref p])(_:aR K H p ys)(_:∀l,H l=none->Q (.ref l) (upd H l (.lst ys)))
def sM:ja X (.type "list") (OO X.K):=by
 intro pX s Y H xs us Q I r h;obtain ⟨p,ys,rfl,hq,q⟩:=h;obtain ⟨u,rfl,r1⟩:=vals1 r;cases r1;obtain ⟨AP,rv,⟨o,n,e,c,d1,d⟩,hz⟩:=I.list hq;let hlen:=rv.length;refine call_list_seq p (.inl rfl) e c d (fun h' c' hk hl=>?_) (by simp;omega);let hn:=I.bJ.fresh (D' s.heap.objs.size);let I2:Inv X pX Y (upd H s.heap.objs.size (.lst ys)) {s with heap:=h',toks:=s.toks}:=I.laid (t':=s.toks) hk (D' _) ⟨hz,AP,c',rv,hl⟩;show ⟨.ref _,_,I2,rfl,q _ hn⟩
end
section
variable {X:Cx}{K:Frag}
def dQ (h:X.K=K):W8 X (Ow K):=by subst h;exact pH
def gj (h:X.K=K):W8 X (SR K):=by subst h;exact aI
def xj {k:Nat}{pos:Pos}(hK:X.K=K)(hc:X.calm=true)(h:α5 X es t)
  (hn:(T1 es X.env).length=n:=by rfl) (Sw:(T1 es X.env).findIdx? (·.1)=none:=by rfl):PG X (.Tuple es k pos) (Ob K n t):=by subst hK;exact fL hc h hn Sw
end
section
variable {D:AF}{te:TE}{ph:L2.St}{H1:Hp}{Q:VK}
def zA {K:Frag}(Rel:Ψ)(nD:H1 D=none)(hn:xs.length<AZ)(hl:ys.length=xs.length)(hX:∀H,ao H1 H->aR K H a xs)(hY:∀H,ao H1 H->aR K H b ys)
  (hR:∀i v H H' ys,H D=some (.lst ys)->bL D H H' ->Rel i v H->Rel i v H')
  (he:∀i x y H (R:VK),xs[i]?=some x->ys[i]?=some y->ao H1 H->(∀v H6,ao H H6->Rel i v H6->R v H6)->te (some x::some y::ph) H R)
  (hd:∀zs H,zs.length=xs.length->(∀i v,zs[i]?=some v->Rel i v H)->ao H1 H->H D=some (.lst zs)->Q (.ref D) H):
  mK D (Ob K 2 (yY (cy 0) (yY (cy 1) WV))) jV te (Xo K a b) (none::none::ph) H1 Q:=by
 show ⟨fun i m Y zs H=>m=xs.length-i/\i<=xs.length/\(∃o o',Y=o::o'::ph)/\(zs.length=i/\(∀i v,zs[i]?=some v->Rel i v H)/\ao H1 H)/\H D=some (.lst zs),⟨xs.length,by simp,LS _,⟨none,none,rfl⟩,⟨rfl,fun i v e=>by simp at e,fun b o e=>by rwa [aj (ak e nD)]⟩,ah⟩,?_⟩;rintro i m Y zs H ⟨rfl,hi,⟨o,o',rfl⟩,⟨l,r,s⟩,hD⟩;by_cases jU:i<xs.length
 ·let e1:xs[i]?=some xs[i]:=gE jU
  let e2:ys[i]?=some (ys[i]'ce):=gE ce;refine .inr ⟨⟨xs,ys,_,_,hX H s,hY H s,e1,e2⟩,fun v H' y=>?_⟩;obtain ⟨p,x,y,q1,q2,rfl,np,rfl⟩:=y;let e1:=q1 xs (hX H s);let e2:=q2 ys (hY H s);let sp:ao H (upd H p (.tup [x,y])):=fun b o e=>by rwa [aj (ak e np)]
  show ⟨p,_,rfl,bE.of ah,rfl,_,_,rfl,_,_,rfl,rfl,?_⟩;unfold jV;dsimp only;rw [ox rfl];refine he i x y _ _ e1 e2 (fun b o e=>sp _ _ (s _ _ e)) fun v H6 s6 rv=>⟨s6 _ _ (sp _ _ hD),ce,xs.length-(i+1),ce,rfl,ce,⟨_,_,rfl⟩,⟨by simp [l],fun j u e=>?_,fun b o e=>?_⟩,ah⟩
  ·by_cases c:j<zs.length
   ·rw [LR c] at e
    let ru:=hR j u H H6 zs hD (bL.of fun b o q=>s6 _ _ (sp _ _ q)) (r j u e);exact hR j u H6 _ zs (s6 _ _ (sp _ _ hD)) bL.upd ru
   ·rw [Lg ce] at e
    let ej:j=i:=by
     by_cases z:j-zs.length=0
     ·omega
     ·rw [FJ (by simp;omega)] at e
      cases e
    subst ej
    have:v=u:=by
     rw [show j-zs.length=0 by omega] at e;exact GU e
    subst this;exact hR j v H6 _ zs (s6 _ _ (sp _ _ hD)) bL.upd rv
  ·rw [aj (ak e nD)]
   exact s6 _ _ (sp _ _ (s _ _ e))
 ·let e:i=xs.length:=ce
  subst e;exact .inl ⟨⟨xs,ys,hX H s,hY H s,.inl (D' _)⟩,hd zs H l r s hD⟩
end
open Builtin.Int (intBits)
def vl (q:Int×Int):Rat:=(q.1:Rat) / (q.2:Rat)
structure Sm (T B:Nat)(q:Int×Int):Prop where
 pos:0<q.2
 low:LI q.1 q.2=1
 top:q.1.natAbs<=2^T
 bot:q.2.natAbs<=2^B
def cz {b:Int}(h:b≠0):(b:Rat)≠0:=by simpa using h
def mL (h:b≠0):vl (low t b)=(t:Rat) / (b:Rat):=by
 let c:=adU (t:=t) h;let p:=lD (t:=t) h;let h1:=cz h;let h2:=cz (b:=(low t b).2) ce;let c':((low t b).1:Rat)*b=t*(low t b).2:=by exact_mod_cast c
 unfold vl;grind
def ajT {t b u c:Int}(hb:b≠0)(hc:c≠0)(h:(t:Rat) / b=(u:Rat) / c):t*c=u*b:=by
 let h1:=cz hb;let h2:=cz hc;have:(t:Rat)*c=u*b:=by grind
 exact_mod_cast this
def ajH (hq:0<q.2)(hr:0<r.2)(gq:LI q.1 q.2=1)(gr:LI r.1 r.2=1)(h:vl q=vl r):q=r:=by
 let c:=ajT (t:=q.1) (b:=q.2) (u:=r.1) (c:=r.2) ce ce h;let e:=zaI (t:=q.1) (b:=q.2) (u:=r.1) (c:=r.2) ce ce c;rw [nR hq gq,nR hr gr] at e;exact yb (pj ap7 e) (pj ap8 e)
def ad1 {b d:Int}(hd:d≠0)(h:d ∣ b):((b.fdiv d:Int):Rat)=(b:Rat) / d:=by
 let e:=cR hd h;let h1:=cz hd;have:(b:Rat)=d*(b.fdiv d:Int):=by exact_mod_cast e
 grind
def iI (xs ys:ο):Rat:=(O0 (fun a b=>vl a*vl b) xs ys).sum
def ab6 {xs ys:ο}:iI (x::xs) (y::ys)=vl x*vl y+iI xs ys:=by simp [iI]
def qA (ts:ξ)(qs:ο)(b:Int):Prop:=ts.length=qs.length/\∀(i:Nat)(t:Int)(q:Int×Int),ts[i]?=some t->qs[i]?=some q->(t:Rat)=vl q*b
def qA.tail {ts:ξ}{qs:ο}(h:qA (t::ts) (q::qs) b):qA ts qs b:=⟨by simpa using h.1,fun i t' q' e1 e2=>h.2 (i+1) t' q' (by simpa using e1) (by simpa using e2)⟩
def xk {a b:Int}(h1:a.natAbs<=2^m)(h2:b.natAbs<=2^n):(a*b).natAbs<=2^(m+n):=by
 rw [Nj,Ud];exact M8 h1 h2
def aia {a b:Int}(h1:a.natAbs<=2^m)(h2:b.natAbs<=2^m):(a+b).natAbs<=2^(m+1):=by
 have:=TV a b;rw [Tb];omega
def sN {a:Int}(h:a.natAbs<=2^m)(hm:m<=n):a.natAbs<=2^n:=BJ h (Na dL hm)
def lH (h:a.natAbs<=2^m)(hm:m<n):intBits a<=n:=intBits_le_iff.mpr (FX h (IV dL hm))
def rJ (h1:a.natAbs<=2^m)(h2:b.natAbs<=2^n)(hm:m<30000000)(hn:n<30000000):nX a b:=⟨BJ (lH h1 hm) dL,BJ (lH h2 hn) dL⟩
def Sm.up (h:Sm T B q)(hT:T<=T')(hB:B<=B'):Sm T' B' q:=⟨h.pos,h.low,sN h.top hT,sN h.bot hB⟩
def agq {b d:Int}(hb:0<b)(hd:0<d):0<b.fdiv (gz b d)*d/\b ∣ b.fdiv (gz b d)*d/\d ∣ b.fdiv (gz b d)*d/\(b.fdiv (gz b d)*d).natAbs<=b.natAbs*d.natAbs:=by
 let gp:=w8 (t:=b) (b:=d) ce;let g1:gz b d ∣ b:=WT ..;let g2:gz b d ∣ d:=WW ..;let e1:=cR (g:=gz b d) ce g1;let e2:=cR (g:=gz b d) ce g2;generalize gz b d=g at*
 let p1:0<b.fdiv g:=by
  rcases BE (b.fdiv g) 0 with z|z|z
  ·exfalso
   have:=ain gp z;omega
  ·rw [z] at e1;omega
  ·exact z
 show ⟨Oo p1 hd,⟨d.fdiv g,?_⟩,⟨b.fdiv g,S' ..⟩,?_⟩
 ·have:b.fdiv g*d=b.fdiv g*(g*d.fdiv g):=by rw [<-e2]
  rw [this];let h3:b*d.fdiv g=g*b.fdiv g*d.fdiv g:=by rw [<-e1]
  rw [h3];rw [<-Xz,S' (b.fdiv g) g]
 ·rw [Nj]
  exact Lu _ (by
   have:=eZ (g:=g) (a:=b.fdiv g) ce;rw [<-e1] at this
   exact this)
def afd {b:Int}(hq:0<q.2)(h:q.2 ∣ b):((q.1*b.fdiv q.2:Int):Rat)=vl q*b:=by
 let e:=ad1 (b:=b) (d:=q.2) ce h;have:((q.1*b.fdiv q.2:Int):Rat)=q.1*((b.fdiv q.2:Int):Rat):=by push_cast;rfl
 rw [this,e];unfold vl;grind
def jb {b d:Int}(hd:d≠0)(h:d ∣ b):(b.fdiv d).natAbs<=b.natAbs:=by
 have:=eZ (g:=d) (a:=b.fdiv d) hd;rwa [<-cR hd h] at this
section
variable {D:AF}{te:TE}{ph:L2.St}{H1:Hp}{Q:VK}
def acY (n:Nat)(xs:Nat->V)(Rel:Ψ)(nD:H1 D=none)(hn:n<AZ)
  (go:∀i H,i<n->ao H1 H->J.go i H/\∀x H',J.DU i H x H' ->H'=H/\x=xs i) (stop:∀H,ao H1 H->J.stop n H)
  (hR:∀i v H H' ys,H D=some (.lst ys)->bL D H H' ->Rel i v H->Rel i v H')
  (he:∀i H (R:VK),i<n->ao H1 H->(∃ys,H D=some (.lst ys))->(∀v H6,ao H H6->Rel i v H6->R v H6)->te (some (xs i)::ph) H R)
  (hd:∀ys H,ys.length=n->(∀i v,ys[i]?=some v->Rel i v H)->ao H1 H->H D=some (.lst ys)->Q (.ref D) H):
  mK D (cy 0) jV te J (none::ph) H1 Q:=by
 refine xh n xs (fun i ys H=>ys.length=i/\(∀i v,ys[i]?=some v->Rel i v H)/\ao H1 H) ⟨rfl,fun i v e=>by simp at e,fun b o e=>by rwa [aj (ak e nD)]⟩ ?_ ?_ ?_ ?_
 ·rintro i ys H hi ⟨_,_,s⟩
  exact go i H hi s
 ·rintro ys H ⟨_,_,s⟩
  exact stop H s
 ·rintro i ys H R hi ⟨l,r,s⟩ hD k
  refine he i H R hi s ⟨_,hD⟩ fun v H6 s6 rv=>k v H6 (s6 _ _ hD) ce ⟨by simp [l],fun j u e=>?_,fun b o e=>?_⟩
  ·by_cases c:j<ys.length
   ·rw [LR c] at e
    let ru:=hR j u H H6 ys hD (bL.of s6) (r j u e);exact hR j u H6 _ ys (s6 _ _ hD) bL.upd ru
   ·rw [Lg ce] at e
    let ej:j=i:=by
     by_cases z:j-ys.length=0
     ·omega
     ·rw [FJ (by simp;omega)] at e
      cases e
    subst ej
    have:v=u:=by
     rw [show j-ys.length=0 by omega] at e;exact GU e
    subst this;exact hR j v H6 _ ys (s6 _ _ hD) bL.upd rv
  ·rw [aj (ak e nD)]
   exact s6 _ _ (s _ _ e)
 ·rintro ys H ⟨l,r,s⟩ hD
  exact hd ys H l r s hD
def sQ {K:Frag}(Rel:Ψ)(nD:H1 D=none)(hn:xs.length<AZ)(hS:∀H,ao H1 H->aR K H a xs)
  (hR:∀i v H H' ys,H D=some (.lst ys)->bL D H H' ->Rel i v H->Rel i v H')
  (he:∀i x H (R:VK),xs[i]?=some x->ao H1 H->(∃ys,H D=some (.lst ys))->(∀v H6,ao H H6->Rel i v H6->R v H6)->te (some x::ph) H R)
  (hd:∀ys H,ys.length=xs.length->(∀i v,ys[i]?=some v->Rel i v H)->ao H1 H->H D=some (.lst ys)->Q (.ref D) H):
  mK D (cy 0) jV te (Sx K a) (none::ph) H1 Q:=by
 refine acY xs.length (fun i=>(xs[i]?).getD .dc) Rel nD hn (fun i H hi s=>⟨⟨xs,xs[i],hS H s,gE hi⟩,fun x H' y=>⟨y.1,?_⟩⟩) (fun H s=>⟨xs,hS H s,D' _⟩) hR (fun i H R hi s dd k=>?_) hd
 ·rw [y.2 xs (hS H s)];rfl
 ·let e:xs[i]?=some xs[i]:=gE hi
  let k':=he i _ H R e s dd k;rw [<-(show (xs[i]?).getD .dc=xs[i] by rw [e];rfl)] at k';exact k'
end
end Ty
namespace L2
open PySem PySem.Spec PyProof.Rows
section
variable {κ:Type}[DecidableEq κ]
def bI (AA:List (κ×V))(k:κ):Option V:=(AA.find? fun kv=>decide (kv.1=k)).map (·.2)
def putK (AA:List (κ×V))(k:κ)(v:V):List (κ×V):=
 if (AA.any fun kv=>decide (kv.1=k))=true then AA.map (fun kv=>if kv.1=k then (kv.1,v) else kv) else AA++[(k,v)]
def bY {k:κ}(e:p.1=k):bI (p::r) k=some p.2:=by simp [bI,WJ,e]
def bH {k:κ}(e:¬ p.1=k):bI (p::r) k=bI r k:=by simp [bI,WJ,e]
theorem jc (k:κ):∀AA:List (κ×V),(AA.any fun kv=>decide (kv.1=k))=(bI AA k).isSome
 | []=>rfl
 | p::r=>by
  rw [WZ];by_cases e:p.1=k
  ·simp only [bY e,La e,Bool.true_or,Option.isSome_some]
  ·rw [bH e,PH e,aks];exact jc k r
theorem zC (k j:κ)(y:V):∀AA:List (κ×V),bI (AA.map fun kv=>if kv.1=k then (kv.1,y) else kv) j=(bI AA j).map fun x=>if j=k then y else x
 | []=>rfl
 | p::r=>by
  let ih:=zC k j y r;rw [DV];by_cases h:p.1=k
  ·rw [ox h]
   by_cases e:p.1=j
   ·rw [bY (p:=(p.1,y)) e,bY e,WK,ox (e.symm.trans h)]
   ·rw [bH (p:=(p.1,y)) e,bH e,ih]
  ·rw [ni h]
   by_cases e:p.1=j
   ·rw [bY (p:=p) e,bY e,WK,ni (fun z=>h (e.trans z))]
   ·rw [bH (p:=p) e,bH e,ih]
theorem vX (k j:κ)(y:V):∀AA:List (κ×V),bI AA k=none->bI (AA++[(k,y)]) j=if j=k then some y else bI AA j
 | [],_=>by
  by_cases e:k=j
  ·rw [ox e.symm];exact bY (p:=(k,y)) e
  ·rw [ni (fun z=>e z.symm)];exact bH (p:=(k,y)) e
 | p::r,hn=>by
  rw [Yi];let hk:¬ p.1=k:=fun z=>by erw [bY z] at hn
  rw [bH hk] at hn;let ih:=vX k j y r hn;by_cases e:p.1=j
  ·rw [bY e,bY e,ni (fun z=>hk (e.trans z))]
  ·rw [bH e,bH e,ih]
def kr (AA:List (κ×V))(k j:κ)(y:V):bI (putK AA k y) j=if j=k then some y else bI AA j:=by
 unfold putK;by_cases a:(AA.any fun kv=>decide (kv.1=k))=true
 ·rw [ox a,zC]
  rw [jc] at a;by_cases e:j=k
  ·obtain ⟨x,hx⟩:=aiv.mp a
   rw [ox e,e,hx,WK,ox rfl]
  ·rw [ni e]
   cases bI AA j with
   | none=>rfl
   | some x=>rw [WK,ni e]
 ·rw [ni a]
  refine vX k j y AA ?_;rw [jc] at a;cases q:bI AA k with
  | none=>rfl
  | some x=>rw [q] at a;exact (a rfl).elim
def iJ (AA:List (κ×V))(k:κ)(v:V):(putK AA k v).length<=AA.length+1:=by
 unfold putK;split
 ·rw [ir];omega
 ·rw [EM,Lw,aiX];omega
def dI {k:κ}(v:V)(h:bI AA k=none):putK AA k v=AA++[(k,v)]:=by
 unfold putK;rw [jc,h];exact ni dL
def jT.jd {o:ψ}(r:jT o u):o.isSome=u.isSome:=by
 cases o with
 | none=>cases u with
  | none=>rfl
  | some _=>exact (show False from r).elim
 | some _=>cases u with
  | none=>exact (show False from r).elim
  | some _=>rfl
theorem jT.getD {o:ψ}(r:jT o u)(rd:RelV d d'):RelV (o.getD d) (u.getD d'):=by
 cases o with
 | none=>cases u with
  | none=>exact rd
  | some _=>exact (show False from r).elim
 | some _=>cases u with
  | none=>exact (show False from r).elim
  | some _=>exact r
def KV.val (r:KV AA vs)(k:κ):jT (bI AA k) (valueAt vs k):=by
 unfold KV at r
 induction r with
 | nil=>exact True.intro
 | @cons p q ps qs h t ih=>
  obtain ⟨h1,h2⟩:=h;by_cases e:p.1=k
  ·let e':q.1=k:=h1.symm.trans e
   let b:valueAt (q::qs) k=some q.2:=by simp [valueAt,WJ,e']
   rwa [bY e,b]
  ·let e':¬ q.1=k:=fun z=>e (h1.trans z)
   let b:valueAt (q::qs) k=valueAt qs k:=by simp [valueAt,WJ,e']
   rwa [bH e,b]
theorem KV.any (r:KV AA vs)(k:κ):(AA.any fun kv=>decide (kv.1=k))=vs.any fun kv=>decide (kv.1=k):=by
 unfold KV at r
 induction r with
 | nil=>rfl
 | cons h t ih=>rw [WZ,WZ,ih,h.1]
def KV.Xt (r:KV AA vs)(k:κ)(ry:RelV y u):
  KV (AA.map fun kv=>if kv.1=k then (kv.1,y) else kv) (vs.map fun kv=>if kv.1=k then (kv.1,u) else kv):=by
 unfold KV at r ⊢
 induction r with
 | nil=>exact .nil
 | @cons p q ps qs h t ih=>
  rw [DV,DV];refine .cons ?_ ih;obtain ⟨h1,h2⟩:=h;by_cases e:p.1=k
  ·rw [ox e,ox (h1.symm.trans e)];show ⟨h1,ry⟩
  ·rw [ni e,ni (fun z=>e (h1.trans z))];show ⟨h1,h2⟩
def KV.put (r:KV AA vs)(k:κ)(ry:RelV y u):KV (putK AA k y) (stored vs k u):=by
 unfold putK stored;rw [r.any k];by_cases e:(vs.any fun kv=>decide (kv.1=k))=true
 ·rw [ox e,ox e];exact r.Xt k ry
 ·rw [ni e,ni e];exact Tx r ⟨rfl,ry⟩
def KV.keys {vs:List (κ×Value)}(r:KV AA vs):AA.map (·.1)=vs.map (·.1):=by
 unfold KV at r
 induction r with
 | nil=>rfl
 | cons h t ih=>rw [DV,DV,ih,h.1]
theorem KV.length {vs:List (κ×Value)}(r:KV AA vs):AA.length=vs.length:=GJ r
end
def qB (r:RelV (kV k) u):(bx P w).is k u=true:=by
 cases k with
 | inl i=>obtain ⟨t,e⟩:=(show ∃t,u=Value.int i t from r);subst e;exact ajk P w i t
 | inr x=>obtain ⟨t,e⟩:=(show ∃t,u=Value.str x t from r);subst e;exact ajf P w x t
theorem vY :∀{ks:List Key} {us:ρ},Vals (ks.map kV) us->ItemsAre (bx P w) ks us
 | [],_,r=>by erw [LP] at r;exact .nil
 | k::ks,_,r=>by
  rw [DV] at r;cases r with
  | cons h t=>exact .cons (qB h) (vY t)
abbrev KT (H:Hp):List (List Key×V)->List (List Key×AF×Value)->Prop:=Paired fun p q=>p.1=q.1/\H q.2.1=some (.tup (p.1.map kV))/\RelV p.2 q.2.2
def KT.val {AA:Ρ}{xs:Χ}(r:KT H AA xs)(k:List Key):jT (bI AA k) ((atKey xs k).map (·.2)):=by
 induction r with
 | nil=>exact True.intro
 | @cons p q ps qs h t ih=>
  obtain ⟨h1,_,h2⟩:=h;by_cases e:p.1=k
  ·let e':q.1=k:=h1.symm.trans e
   let b:atKey (q::qs) k=some q.2:=by simp [atKey,WJ,e']
   rwa [bY e,b]
  ·let e':¬ q.1=k:=fun z=>e (h1.trans z)
   let b:atKey (q::qs) k=atKey qs k:=by simp [atKey,WJ,e']
   rwa [bH e,b]
def KT.Xt {AA:Ρ}{xs:Χ}(r:KT H AA xs)(k:List Key)(ry:RelV y u):
  KT H (AA.map fun kv=>if kv.1=k then (kv.1,y) else kv) (xs.map (putAt k u)):=by
 induction r with
 | nil=>exact .nil
 | @cons p q ps qs h t ih=>
  rw [DV,DV];refine .cons ?_ ih;obtain ⟨h1,h2,h3⟩:=h;unfold putAt;by_cases e:p.1=k
  ·rw [ox e,ox (h1.symm.trans e)];show ⟨h1,h2,ry⟩
  ·rw [ni e,ni (fun z=>e (h1.trans z))];show ⟨h1,h2,h3⟩
def KT.put {AA:Ρ}{xs:Χ}(r:KT H AA xs)(k:List Key)(hb:H b=some (.tup (k.map kV)))(ry:RelV y u):
  KT H (putK AA k y) (storedH xs k b u):=by
 let e:(AA.any fun kv=>decide (kv.1=k))=(atKey xs k).isSome:=by
  rw [jc,(r.val k).jd,air]
 unfold putK storedH;rw [e];by_cases q:(atKey xs k).isSome=true
 ·rw [ox q,ox q];exact r.Xt k ry
 ·rw [ni q,ni q];exact Tx r ⟨rfl,hb,ry⟩
def KT.keeps {AA:Ρ}{xs:Χ}(r:KT H AA xs)(ht:∀b ys,H b=some (.tup ys)->H' b=some (.tup ys)):KT H' AA xs:=
 Paired.cV r fun _ _ z=>⟨z.1,ht _ _ z.2.1,z.2.2⟩
section
variable {P:FE}{w:World}{H:Hp}{h:Heap}{a:AF}
def VX (ok:me P w H h)(e:Rd H a u):dk P w H h a u:=e.ok ok
def ku (ok:me P w H h)(e:Rd H a (.dK AA)):AA.length<=AZ/\(a==Ls)=false/\∃vs,KV AA vs/\h.DictOf (bx P w) a vs:=
 show dk P w H h a (.dK AA) from VX ok e
def nZ (ok:me P w H h)(e:H a=some (.dK AA)):AA.length<=AZ/\(a==Ls)=false/\∃vs,KV AA vs/\h.DictOf (bx P w) a vs:=ku ok (.inl e)
def pJ (ok:me P w H h)(e:H a=some (.tup (ks.map kV))):(tupleKind (bx P w)).is h ks a:=by
 obtain ⟨_,AP,r,o,h1,h2,n,h3⟩:=(show dk P w H h a (.tup (ks.map kV)) from ok a _ e);show ⟨o,AP.toArray,n,h1,h2,h3,by simpa using vY r⟩
def sR (ok:me P w H h)(e:Rd H a (.dT AA)):AA.length<=AZ/\(a==Ls)=false/\
  ∃xs,KT H AA xs/\h.DictOfH (tupleKind (bx P w)) a xs:=by
 obtain ⟨z,y,xs,r,o,es,ep,h1,h2,h3,h4,h5⟩:=(show dk P w H h a (.dT AA) from VX ok e);show ⟨z,y,xs,r,o,es,ep,h1,h2,h3,h4,fun x hx=>?_,h5⟩
 let all:∀{l:Ρ} {m:Χ},KT H l m->∀x∈m,(tupleKind (bx P w)).is h x.1 x.2.1:=by
  intro l m q
  induction q with
  | nil=>intro x hx;exact nomatch hx
  | @cons p q ps qs hq t ih=>
   intro x hx
   rcases LN.mp hx with e|hx
   ·subst e
    exact pJ ok (by rw [<-hq.1];exact hq.2.1)
   ·exact ih x hx
 exact all r x hx
def aaE (ok:me P w H h)(e:H a=some (.dT AA)):AA.length<=AZ/\(a==Ls)=false/\
  ∃xs,KT H AA xs/\h.DictOfH (tupleKind (bx P w)) a xs:=sR ok (.inl e)
end
def cW (H:Hp)(a:AF)(y:V)(r:ψ):Prop:=
 (∃AA k,Rd H a (.dK AA)/\y=kV k/\r=bI AA k)\/∃AA k b,Rd H a (.dT AA)/\y=.ref b/\H b=some (.tup (k.map kV))/\r=bI AA k
def je (H:Hp)(a:AF)(y v:V)(H':Hp):Prop:=
 (∃AA k,H a=some (.dK AA)/\y=kV k/\AA.length<AZ/\H'=upd H a (.dK (putK AA k v)))\/
 ∃AA k b,H a=some (.dT AA)/\y=.ref b/\H b=some (.tup (k.map kV))/\AA.length<AZ/\H'=upd H a (.dT (putK AA k v))
theorem cW.k {AA:γ}{k:Key}(e:H a=some (.dK AA)):cW H a (kV k) (bI AA k):=.inl ⟨AA,k,.inl e,rfl,rfl⟩
theorem je.k {AA:γ}{k:Key}(e:H a=some (.dK AA))(hl:AA.length<AZ):je H a (kV k) v (upd H a (.dK (putK AA k v))):=.inl ⟨AA,k,e,rfl,hl,rfl⟩
section
variable {X:Cx}{pX:ε}{Y:St}{H:Hp}{s:BN}{a:AF}{y v:V}{u r:Value}{o:ψ}{A:LF}{E:δ}
def Inv.big (I:Inv X pX Y H s):Ls<s.heap.objs.size:=by
 let h:EW<s.heap.objs.size:=(I.mod.glob.keeps I.bk).lt;exact zq dL h
def ad4 {Q:δ}(hu:A.units+1<Lp)(I:Inv X pX Y H s)(g:cW H a y (some v))(ry:RelV y u)(h:∀w' s',Inv X pX Y H s' ->RelV v w' ->Q w' s'):
  AS (AX X.prog X.w) A (getItem (.ref a) u) Q E s:=by
 rcases g with ⟨AA,k,e,ey,l⟩|⟨AA,k,b,e,ey,eb,l⟩
 ·subst ey
  obtain ⟨z,hd,vs,rel,dd⟩:=ku I.bJ e;obtain ⟨w',hw,u_⟩:=jT.some_of (v:=v) (o:=valueAt vs k) (by rw [l];exact rel.val k);exact wpAny_getItem_of (qB ry) dd.mapOf hw (h w' _ (I.tok _) u_)
 ·subst ey
  cases (show u=Value.ref b from ry);obtain ⟨z,hd,xs,rel,dd⟩:=sR I.bJ e;obtain ⟨w',hw,u_⟩:=jT.some_of (v:=v) (o:=(atKey xs k).map (·.2)) (by rw [l];exact rel.val k);obtain ⟨p,hp,hp2⟩:=LA.mp hw;refine wpAny_getItem_heap (α0 hu) (pJ I.bJ eb) dd hp ?_;rw [hp2];exact h w' _ (I.tok _) u_
def ah7 {Q:δ}(hu:A.units+1<Lp)(I:Inv X pX Y H s)(g:cW H a y o)(ry:RelV y u)(h:∀s',Inv X pX Y H s' ->Q (.bool o.isSome) s'):
  AS (AX X.prog X.w) A (Lo .In u (.ref a)) Q E s:=by
 rcases g with ⟨AA,k,e,ey,l⟩|⟨AA,k,b,e,ey,eb,l⟩
 ·subst ey
  obtain ⟨z,hd,vs,rel,dd⟩:=ku I.bJ e;refine wpAny_in_of (qB ry) hd dd.mapOf ?_;rw [<-(rel.val k).jd,<-l];exact h _ (I.tok _)
 ·subst ey
  cases (show u=Value.ref b from ry);obtain ⟨z,hd,xs,rel,dd⟩:=sR I.bJ e;refine wpAny_in_heap (α0 hu) (pJ I.bJ eb) hd dd ?_;let q:=(rel.val k).jd;rw [air] at q;rw [<-q,<-l];exact h _ (I.tok _)
def afn {Q:δ}(hu:A.units+1<Lp)(I:Inv X pX Y H s)(g:cW H a y o)(ry:RelV y u)(h:∀s',Inv X pX Y H s' ->Q (.bool (!o.isSome)) s'):
  AS (AX X.prog X.w) A (Lo .NotIn u (.ref a)) Q E s:=by
 rcases g with ⟨AA,k,e,ey,l⟩|⟨AA,k,b,e,ey,eb,l⟩
 ·subst ey
  obtain ⟨z,hd,vs,rel,dd⟩:=ku I.bJ e;refine wpAny_notIn_of (qB ry) hd dd.mapOf ?_;rw [<-(rel.val k).jd,<-l];exact h _ (I.tok _)
 ·subst ey
  cases (show u=Value.ref b from ry);obtain ⟨z,hd,xs,rel,dd⟩:=sR I.bJ e;refine wpAny_notIn_heap (α0 hu) (pJ I.bJ eb) hd dd ?_;let q:=(rel.val k).jd;rw [air] at q;rw [<-q,<-l];exact h _ (I.tok _)
def rK (I:Inv X pX Y H s)(mu:ZT (H a))(hs:Px a s.heap h')(he:∃q,h'.get? a=some q)(new:dk X.prog X.w (upd H a ob) h' a ob):
  Inv X pX Y (upd H a ob) {s with heap:=h',toks:=t'}:=
 I.write (x:=a) (e:=a) mu (.inl rfl) (fun b q hb z=>(hs.2 b hb).trans z) he new
def EJ {AA:γ}(z:AA.length<=AZ)(hd:(a==Ls)=false)(rel:KV AA vs)(dd:h'.DictOf (bx P w) a vs):
  dk P w H' h' a (.dK AA):=⟨z,hd,vs,rel,dd⟩
def aeu (hu:A.units+1<Lp)(I:Inv X pX Y H s)(g:je H a y v H')(ry:RelV y u)(rv:RelV v r)(h:∀s',Inv X pX Y H' s' ->Q () s'):
  AS (AX X.prog X.w) A (setItem (.ref a) u r) Q E s:=by
 rcases g with ⟨AA,k,e,ey,l,eH⟩|⟨AA,k,b,e,ey,eb,l,eH⟩
 ·subst ey eH
  obtain ⟨z,hd,vs,rel,dd⟩:=nZ I.bJ e;let hz:vs.length<=AZ:=by rwa [<-rel.length]
  let hl:(putK AA k v).length<=AZ:=by have:=iJ AA k v;omega
  refine wpAny_setItem_pairs (hsz:=hz) (qB ry) dd fun h' Xu hs=>h _ ?_;let he:∃q,h'.get? a=some q:=let ⟨q,_,_,hq,_⟩:=Xu;⟨q,hq⟩;exact rK I (by rw [e];exact True.intro) hs he (EJ hl hd (rel.put k rv) Xu)
 ·subst ey eH
  cases (show u=Value.ref b from ry);obtain ⟨z,hd,xs,rel,dd⟩:=aaE I.bJ e;let hz:xs.length<=AZ:=by rwa [<-GJ rel]
  let hl:(putK AA k v).length<=AZ:=by have:=iJ AA k v;omega
  refine wpAny_setItem_heap (hsz:=hz) (α0 hu) (pJ I.bJ eb) dd fun h' Xu hs=>h _ ?_;obtain ⟨q,es,ep,hq,h2,h3,h4,_,h5⟩:=Xu;refine rK I (by rw [e];exact True.intro) hs ⟨q,hq⟩ ⟨hl,hd,_,(rel.put k eb rv).keeps fun c ys ec=>?_,q,es,ep,hq,h2,h3,h4,h5⟩;rwa [aj (ae8 ec e (fun z=>nomatch z))]
end
section
variable {X:Cx}{pX:ε}{Y:St}{H:Hp}{s:BN}{a:AF}{AA:γ}{k:Key}{u:Value}{A:LF}{E:δ}
def aaG {Q:δ}(I:Inv X pX Y H s)(e:Rd H a (.dK AA))(h:∀t s',Inv X pX Y H s' ->Q (.int AA.length t) s'):AS (AX X.prog X.w) A (call (.builtin "len") [.ref a]) Q E s:=by
 obtain ⟨z,hd,vs,rel,dd⟩:=ku I.bJ e;refine call_len_dict hd dd (by rw [<-rel.length];rw [sizeLine_eq] at z;omega) ?_;rw [<-rel.length];exact h _ _ (I.tok _)
end
def aaH (i:Expr):Prop:=∀ov iv,subscripted i false ov iv=operate [ov,iv] (getItem ov iv)
def aem {E:δ}{T id:String}{Q:δ}
  (hl:typeLookup (.type T) "__getitem__"=pure (some (.builtin id))) (hs:aaH slice)
  (h:AS (AX prog w) A (D_ value env) (fun o oW=>AS (AX prog w) A (D_ slice env) (fun i qV=>qV.TypeIs o T/\AS (AX prog w) A (getItem o i) Q E qV) E oW) E s):
  AS (AX prog w) A (D_ (.Subscript value slice pos) env) Q E s:=by
 refine Subscript_ (Lj h (fun o oW qQ=>Lj qQ (fun i qV uN=>?_) fun _ _ x=>x) fun _ _ x=>x);obtain ⟨hT,uN⟩:=uN;unfold subscriptTail;refine AO ?_;rw [getitemInPython_of_ne hT.not_modules];refine AO (wpAny_specialOf hT hl ?_)
 let fin:AS (AX prog w) A (subscripted slice false o i) (fun r s₃=>AS (AX prog w) A (letTemporaryGo value o r >>=fun _=>pure r) Q E s₃) E qV:=by
  rw [hs o i];exact wpAny_operating (Lj uN (fun r s₃ h₃=>AO (wpAny_letTemporaryGo (DY h₃))) fun _ _ x=>x)
 first
  | exact DY (AO fin)
  | exact AO (DY (AO fin))
  | exact AO fin
def ajB {Y:St}(I:Inv X pX Y H s)(g:cW H a y o):s.TypeIs (.ref a) "dict":=by
 rcases g with ⟨AA,k,e,_,_⟩|⟨AA,k,b,e,_,_,_⟩
 ·obtain ⟨_,_,vs,_,dd⟩:=ku I.bJ e
  exact dd.typeIs
 ·obtain ⟨_,_,xs,_,dd⟩:=sR I.bJ e
  exact dd.typeIs
inductive OQ (Q:VK)(x:V)(y:V)(H2:Hp):Prop
|mk (a v:_)(_:x=.ref a)(_:cW H2 a y (some v))(_:Q v H2)
def aaI (td ty:TE):TE:=fun Y H Q=>td Y H fun x H1=>ty Y H1 fun y H2=>OQ Q x y H2
inductive VY (Q:VK)(y:V)(x:V)(H2:Hp):Prop
|mk (a o:_)(_:x=.ref a)(_:cW H2 a y o)(_:Q (.bl o.isSome) H2)
def ah8 (ty td:TE):TE:=fun Y H Q=>ty Y H fun y H1=>td Y H1 fun x H2=>VY Q y x H2
inductive zF (Q:VK)(y:V)(x:V)(H2:Hp):Prop
|mk (a o:_)(_:x=.ref a)(_:cW H2 a y o)(_:Q (.bl (!o.isSome)) H2)
def aef (ty td:TE):TE:=fun Y H Q=>ty Y H fun y H1=>td Y H1 fun x H2=>zF Q y x H2
inductive OR (D:Ends)(Y:L2.St)(v:V)(x:V)(y:V)(H3:Hp):Prop
|mk (a H4:_)(_:x=.ref a)(_:je H3 a y v H4)(_:D.nx Y H4)
def aaJ (td ty tv:TE):TS:=fun D Y H=>tv Y H fun v H1=>td Y H1 fun x H2=>ty Y H2 fun y H3=>OR D Y v x y H3
section
variable {X:Cx}{o i e value:Expr}{pos pos' wV:Pos}{td ty tv:TE}
def dR (hu:X.A.units+1<Lp)(ho:PE X o td)(hi:PE X i ty)(hs:aaH i):PE X (.Subscript o i pos) (aaI td ty):=by
 intro pX s Y H Q I h;refine aem PySem.F.slot_dict_getitem.lookup hs (cK (ho pX s Y H _ I h) fun u s1 ⟨x,H1,I1,rx,q1⟩=>cK (hi pX s1 Y H1 _ I1 q1) fun iv s2 ⟨y,H2,I2,ry,a,v,ex,g,q2⟩=>?_);subst ex;obtain rfl:u=Value.ref a:=rx;show ⟨ajB I2 g,ad4 hu I2 g ry fun w' s3 I3 u_ =>⟨v,H2,I3,u_,q2⟩⟩
def OS (hu:X.A.units+1<Lp)(hi:PE X i ty)(ho:PE X o td):PC X .In i o (ah8 ty td):=by
 intro pX s Y H Q I h;refine cK (hi pX s Y H _ I h) fun iv s1 ⟨y,H1,I1,ry,q1⟩=>cK (ho pX s1 Y H1 _ I1 q1) fun u s2 ⟨x,H2,I2,rx,a,ov,ex,g,q2⟩=>?_;subst ex;obtain rfl:u=Value.ref a:=rx;exact ah7 hu I2 g ry fun s3 I3=>⟨.bl ov.isSome,H2,I3,rfl,q2⟩
def vZ (hu:X.A.units+1<Lp)(hi:PE X i ty)(ho:PE X o td):PC X .NotIn i o (aef ty td):=by
 intro pX s Y H Q I h;refine cK (hi pX s Y H _ I h) fun iv s1 ⟨y,H1,I1,ry,q1⟩=>cK (ho pX s1 Y H1 _ I1 q1) fun u s2 ⟨x,H2,I2,rx,a,ov,ex,g,q2⟩=>?_;subst ex;obtain rfl:u=Value.ref a:=rx;exact afn hu I2 g ry fun s3 I3=>⟨.bl (!ov.isSome),H2,I3,rfl,q2⟩
def dC (hu:X.A.units+1<Lp)(ho:PE X o td)(hi:PE X i ty)(hv:PE X value tv)(hs:S0 value (some (.Subscript o i pos')) pos.line X.env=pure false):
  PS X (.Assign [.Subscript o i pos'] value pos) (aaJ td ty tv):=by
 intro pX s Y H D I h;refine wpAny_Assign_Subscript (cK (hv pX s Y H _ I h) fun r s1 ⟨v,H1,I1,rv,q1⟩=>cK (ho pX s1 Y H1 _ I1 q1) fun u s2 ⟨x,H2,I2,rx,q2⟩=>cK (hi pX s2 Y H2 _ I2 q2) fun iv s3 ⟨y,H3,I3,ry,a,H4,ex,g,q3⟩=>?_) hs;subst ex;obtain rfl:u=Value.ref a:=rx;exact aeu hu I3 g ry rv fun s4 I4=>⟨Y,H4,I4,q3⟩
end
def zH (h:Heap)(hb:Ls<h.objs.size):dk P w H (h.push {cls:=.type "dict",data:=.dict #[]}) h.objs.size (.dK []):=
 ⟨LS _,beq_eq_false_iff_ne.mpr (FT (LO hb)),[],.nil,Heap.DictOf.new h⟩
def ahq:TE:=fun _ H Q=>∀p,H p=none->Q (.ref p) (upd H p (.dK []))
section
variable {X:Cx}{pos:Pos}
def dw:PE X (.Dict [] [] pos) ahq:=fun pX s Y H Q I h=>
 wpAny_Dict_empty ⟨.ref s.heap.objs.size,_,I.laid (a:=s.heap.objs.size) (o:=.dK []) (t':=s.toks) (fun _ _ q=>FK _ q) (D' _) (zH s.heap I.big),rfl,h _ (I.bJ.fresh (D' _))⟩
end
def EK:List (TE×TE)->St->Hp->(List (V×V)->Hp->Prop)->Prop
 | [],_,H,Q=>Q [] H
 | (tk,tv)::r,Y,H,Q=>tk Y H fun x H1=>tv Y H1 fun y H2=>EK r Y H2 fun ps H3=>Q ((x,y)::ps) H3
abbrev VV:List (V×V)->List (Value×Value)->Prop:=Paired fun p q=>RelV p.1 q.1/\RelV p.2 q.2
def PPs (X:Cx)(pos:Pos)(keys:List (Option Expr))(values:Ε)(S3:List (TE×TE)):Prop:=
 ∀(pX:ε)(s:BN)(Y:St)(H:Hp)(Q:List (V×V)->Hp->Prop),Inv X pX Y H s->EK S3 Y H Q->
  AS (AX X.prog X.w) X.A (evalPairs (pairTrees keys values X.env pos)) (fun vs s'=>∃ps H',Inv X pX Y H' s'/\VV ps vs/\Q ps H') X.xe s
def aex :PPs X pos [] [] []:=fun pX s Y H Q I h=>pairTrees_nil_walk ⟨[],H,I,.nil,h⟩
def sX (hk:PE X k tk)(hv:PE X v tv)(hr:PPs X pos ks vs S3):
  PPs X pos (some k::ks) (v::vs) ((tk,tv)::S3):=fun pX s Y H Q I h=>
 pairTrees_cons_walk (cK (hk pX s Y H _ I h) fun u s1 ⟨x,H1,I1,rx,q1⟩=>cK (hv pX s1 Y H1 _ I1 q1) fun w2 s2 ⟨y,H2,I2,ry,q2⟩=>
  cK (hr pX s2 Y H2 _ I2 q2) fun ws s3 ⟨ps,H3,I3,rel,q3⟩=>⟨(x,y)::ps,H3,I3,.cons ⟨rx,ry⟩ rel,q3⟩)
def dD (AA more:γ):List (Key×V):=more.foldl (fun acc kv=>putK acc kv.1 kv.2) AA
def KV.merge:∀{more:γ} {rs:List (Key×Value)} {AA:γ} {vs:List (Key×Value)},KV more rs->KV AA vs->KV (dD AA more) (merged vs rs):=by
 intro more rs AA vs r;unfold KV at r
 induction r generalizing AA vs with
 | nil=>intro q;exact q
 | @cons p q ps qs h t ih=>
  intro r0
  let e:KV (putK AA p.1 p.2) (stored vs q.1 q.2):=by
   have:=r0.put p.1 h.2;rw [<-h.1];exact this
  exact ih e
theorem iX:∀(more AA:γ),(dD AA more).length<=AA.length+more.length
 | [],AA=>by show AA.length<=AA.length+0;omega
 | p::r,AA=>by
  let h1:=iX r (putK AA p.1 p.2);let h2:=iJ AA p.1 p.2;show (dD (putK AA p.1 p.2) r).length<=_;rw [Lw];omega
theorem sY :∀{AA:γ} {ws:List (Value×Value)},VV (AA.map fun kv=>(kV kv.1,kv.2)) ws->∃rs,Carries (bx P w) ws rs/\KV AA rs
 | [],_,r=>by erw [LP] at r;show ⟨[],True.intro,.nil⟩
 | p::AA,_,r=>by
  rw [DV] at r;cases r with
  | @cons a b as bs h t=>
   obtain ⟨rs,c,q⟩:=sY (P:=P) (w:=w) t;obtain ⟨b1,b2⟩:=b;show ⟨(p.1,b2)::rs,⟨qB h.1,rfl,c⟩,.cons ⟨rfl,h.2⟩ q⟩
def aaK (S3:List (TE×TE)):TE:=fun Y H Q=>∀p,H p=none->EK S3 Y (upd H p (.dK [])) fun ps H2=>H2 p=some (.dK [])/\∃AA:List (Key×V),ps=AA.map (fun kv=>(kV kv.1,kv.2))/\AA.length<=15/\Q (.ref p) (upd H2 p (.dK (dD [] AA)))
def aes (h:PPs X pos keys values S3)(OB:keys.all (·.isSome)=true)(hl:keys.length=values.length)(h0:keys≠[])
  (h15:keys.length<=15):PE X (.Dict keys values pos) (aaK S3):=by
 intro pX s Y H Q I q;let hn:=I.bJ.fresh (D' s.heap.objs.size);let I1:=I.laid (a:=s.heap.objs.size) (o:=.dK []) (h':=s.heap.push {cls:=.type "dict",data:=.dict #[]}) (t':=s.toks) (fun _ _ q=>FK _ q) (D' _) (zH s.heap I.big);refine wpAny_Dict_walk (knd:=bx X.prog X.w) OB hl h0 h15 (cK (h pX _ Y _ _ I1 (q _ hn)) fun ws s2 ⟨ps,H2,I2,rel,e,AA,ep,lk,q2⟩=>?_);subst ep;obtain ⟨rs,c,rk⟩:=sY (P:=X.prog) (w:=X.w) rel;obtain ⟨z,hd,vs0,r0,dd⟩:=nZ I2.bJ e;cases r0;show ⟨rs,c,dd,fun h' Xu hs=>⟨.ref s.heap.objs.size,_,?_,rfl,q2⟩⟩
 let hz:(dD [] AA).length<=AZ:=by
  let h1:=iX AA [];rw [aiX] at h1;rw [sizeLine_eq];omega
 let he:∃q,h'.get? s.heap.objs.size=some q:=let ⟨q,_,_,hq,_⟩:=Xu;⟨q,hq⟩;exact rK I2 (by rw [e];exact True.intro) hs he (EJ hz hd (rk.merge .nil) Xu)
structure M2 (X:Cx)(o:Expr)(m:Str)(apos:Pos)(e f:Expr)(fU:Pos):Prop where
 iT:Tj o m X.env (D_ o X.env)=D_ o X.env
 few:((Le fU (EC [e,f] X.env)).all (fun x=> !x.1) && (backToKw fU (Xn [] X.env)).all (fun x=>x.1.isSome)
  && decide (([e,f]:List Expr).length+([]:List Keyword).length+(if ([]:List Keyword).isEmpty then 0 else 1)<30))=true
 line:(apos.endLine==fU.line)=true
 trees:Le fU (EC [e,f] X.env)=[(false,D_ e X.env),(false,D_ f X.env)]
def IsD (H:Hp)(a:AF):Prop:=(∃AA,Rd H a (.dK AA))\/∃AA,Rd H a (.dT AA)
def EL {Y:St}(I:Inv X pX Y H s)(d:IsD H a):
  s.TypeIs (.ref a) "dict"/\(∀b,Value.ref a=.ref b->∃ob,s.heap.get? b=some ob/\ob.dict=none)/\(a==Ls)=false:=by
 rcases d with ⟨AA,e⟩|⟨AA,e⟩
 ·obtain ⟨_,hd,vs,_,dd⟩:=ku I.bJ e
  show ⟨dd.typeIs,fun b q=>?_,hd⟩;cases q;obtain ⟨ob,_,_,h1,h2,_⟩:=dd;show ⟨ob,h1,h2.2.1⟩
 ·obtain ⟨_,hd,xs,_,dd⟩:=sR I.bJ e
  show ⟨dd.typeIs,fun b q=>?_,hd⟩;cases q;obtain ⟨ob,_,_,h1,h2,_⟩:=dd;show ⟨ob,h1,h2.2.1⟩
section
variable {X:Cx}{pX:ε}{Y:St}{H:Hp}{s:BN}{a:AF}{y d:V}{u r:Value}{o:ψ}{A:LF}{E:δ}
def ahb {Q:δ}(hu:A.units+1<Lp)(I:Inv X pX Y H s)(g:cW H a y o)(ry:RelV y u)(rd:RelV d r)(h:∀w' s',Inv X pX Y H s' ->RelV (o.getD d) w' ->Q w' s'):
  AS (AX X.prog X.w) A (call (.builtin "dict.get") [.ref a,u,r]) Q E s:=by
 rcases g with ⟨AA,k,e,ey,l⟩|⟨AA,k,b,e,ey,eb,l⟩
 ·subst ey
  obtain ⟨z,hd,vs,rel,dd⟩:=ku I.bJ e;refine Xi PySem.F.slot_dict_get dd.typeIs PySem.F.entry_dict_get (PySem.F.args_dict_get_3 _ _ _) (meets_dict_get_default (bx X.prog X.w) a (qB ry) hd r) ⟨_,dd.mapOf,h _ _ (I.tok _) ?_⟩;rw [l];exact (rel.val k).getD rd
 ·subst ey
  cases (show u=Value.ref b from ry);obtain ⟨z,hd,xs,rel,dd⟩:=sR I.bJ e;refine Xi PySem.F.slot_dict_get dd.typeIs PySem.F.entry_dict_get (PySem.F.args_dict_get_3 _ _ _) (meetsH_dict_get_default (tupleKind (bx X.prog X.w)) a b hd r) ⟨α0 hu,k,xs,pJ I.bJ eb,dd,h _ _ (I.tok _) ?_⟩;rw [l];exact (rel.val k).getD rd
end
def aha (td ty tx:TE):TE:=fun Y H Q=>td Y H fun x H1=>∃a,x=.ref a/\IsD H1 a/\ty Y H1 fun y H2=>tx Y H2 fun z H3=>∃o,cW H3 a y o/\Q (o.getD z) H3
section
variable {X:Cx}{o e f:Expr}{apos fU:Pos}{td ty tx:TE}
def gm (hu:X.A.units+1<Lp)(ho:PE X o td)(he:PE X e ty)(hf:PE X f tx)(m:M2 X o "get" apos e f fU):PE X (.Call (.Attribute o "get" apos) [e,f] [] fU) (aha td ty tx):=by
 intro pX s Y H Q I h;refine wpAny_Call_method m.iT m.few m.line PySem.F.plainAttrs_dict PySem.F.slot_dict_get PySem.F.type_dict_get (cK (ho pX s Y H _ I h) fun u s1 ⟨x,H1,I1,rx,a,ex,d,q1⟩=>?_);subst ex;obtain rfl:u=Value.ref a:=rx;obtain ⟨t1,t2,_⟩:=EL I1 d;show ⟨t1,t2,?_⟩;rw [m.trees]
 refine α1 rfl (Calls.evalArgs_plain (ZS (cK (he pX s1 Y H1 _ I1 q1) fun iv s2 ⟨y,H2,I2,ry,q2⟩=>
  ZS (cK (hf pX s2 Y H2 _ I2 q2) fun fv s3 ⟨z,H3,I3,rz,ov,g,q3⟩=>Calls.spliced_nil ?_))))
 exact ahb hu I3 g ry rz fun w' s4 I4 u_ =>⟨_,H3,I4,u_,q3⟩
end
end L2
namespace Ty
open PySem PySem.Spec PyProof.Rows L2
section
variable {X:Cx}
def aee {Y:L2.St}(I:Inv X pX Y H s):s.heap.NoSeer:=I.ok.mod.seer.keeps I.bk
def cM.py (r:cM k A)(h:32<=k):A.depth+Builtin.pylongFrames<xf:=by
 have:=r.dp;have:Builtin.pylongFrames=100:=rfl;omega
def ip (ht:X.prog.given.tree=none)(hd:X.A.depth+Builtin.pylongFrames<xf)(Sw:X.stack=env::l)(h1:env.scope.isGenerator=false)(h2:env.scope.isCoroutine=false)(h3:env.builtins=builtinsNs)(h4:env.globals=EW):
  j8 X (O8 .FloorDiv) (rI Xg fun i j=>.int (i.fdiv j)):=by
 intro pX s Y H x y v u Q I rx ry h;obtain ⟨i,j,rfl,rfl,hc,q⟩:=h;obtain ⟨t,rfl⟩:=rx;obtain ⟨t',rfl⟩:=ry;exact floordiv_int hc ⟨.int _,H,I.tok _,⟨_,rfl⟩,q⟩ (.inr (PylongRoom.of I.nolimit hd (SeerAt.of (aee I) ht (by rw [I.ok.frames,Sw]) h1 h2 h3 h4)))
end
section
variable {prog:FE}{w:World}{A:LF}{E:δ}{s:BN}{KK:Type}[DecidableEq KK]{knd:KeyKind prog w KK}
def aaL (hm:s.heap.DictOf knd d AA)(h:Q false s):AS (AX prog w) A (Builtin.List.listLengthHint (.ref d)) Q E s:=by
 unfold Builtin.List.listLengthHint;refine AO (wpAny_specialOf (name:=N7 "__len__") hm.typeIs F.slot_dict_len.lookup ?_);generalize hid:("dict.__len__":String)=id0
 wp_delta
 rw [show splitId id0=some ("dict","__len__") from by subst hid;decide+kernel];subst hid;refine AO (xV (T:="dict") (b:=true) hm.typeIs (by rw [isSubtype_type];kernel_rfl) ?_);refine wpAny_ite_split (fun hab=>DZ hab dL) (fun _=>?_);refine wpAny_ite_split (fun _=>?_) (fun hab=>DZ (by decide+kernel) hab);refine AO (Xj (T:="dict") hm.typeIs ?_);exact DY h
def aiy {R:Φ}(hh:A.handled=none)(hd:(d==Ls)=false)(hm:s.heap.DictAt knd d AA ep)(hlen:AA.length<=AZ)(S:AF)(res:Value)(c₀:Nat)(hS:s.heap.get? S=some {cls:=.type "list",data:=.seq #[] c₀})
  (hR:∀h' tk kz c',(∀b o,b≠S->s.heap.get? b=some o->h'.get? b=some o)->h'.get? S=some {cls:=.type "list",dict:=none,data:=.seq kz c',slots:= #[]}->
   ItemsOf (fun i v=>∃k x,AA[i]?=some (k,x)/\knd.is k v=true) kz AA.length->R (.ok (.ret res)) {s with heap:=h',toks:=tk}):
  AS (AX prog w) A.in1 (JC (.ref S) (.ref d) res)
   (fun fin s'=>match fin with | .done f=>R (.ok f) s' | .again c'=>c'.quiet=true/\Lz (AX prog w) A c' R s') (fun e s'=>R (.error e) s') s:=by
 obtain ⟨od,es,Zo,u6,jf,hk0,hp0,hn0⟩:=id hm;let hT:s.TypeIs (.ref d) "dict":=hm.dictOf.typeIs
 let Zp:S≠d:=fun e=>by
  rw [e] at hS;erw [hS] at Zo;cases jf
 let hdI:d≠s.heap.objs.size:=LO (EF Zo);let hSI:S≠s.heap.objs.size:=LO (EF hS)
 let hSf:S∉[s.heap.objs.size,d]:=fun hm=>by
  rcases LN.mp hm with z|z
  ·exact hSI z
  ·exact Zp (GQ.mp z)
 let W:=(Walks.dictKeys (knd:=knd) (A:=A.in1) hh s.heap.objs.size d hdI AA ep).toS;unfold JC;refine AO (Xj (T:="dict") hT ?_);let h1:Builtin.List.listSameRef (.ref S) (.ref d)=false:=by simp [Builtin.List.listSameRef,Zp]
 let h2:(Value.type "dict"==Value.type "list")=false:=dL
 let h3:(Value.type "dict"==Value.type "tuple")=false:=dL
 simp only [h1,h2,h3,Bool.or_false,TX,if_false];refine AO (wpAny_pyIter_dict hd hm ?_);let Zq:(s.heap.push {cls:=.type "dict_keyiterator",data:=.fields #[.ref d,.int 0 0,.int AA.length 0,.int ep 0]}).DictAt knd d AA ep:=hm.at' fun o e=>FK _ e;refine AO (OK (aaL (knd:=knd) Zq.dictOf ?_));let hS₁:=FK {cls:=.type "dict_keyiterator",data:=.fields #[.ref d,.int 0 0,.int AA.length 0,.int ep 0]} hS;let it₁:(s.heap.push {cls:=.type "dict_keyiterator",data:=.fields #[.ref d,.int 0 0,.int AA.length 0,.int ep 0]}).IsKeyIter s.heap.objs.size d 0 AA.length ep:=⟨_,LL _ rfl,rfl,rfl⟩
 let key:∀(h:Heap)(c₁ tk:Nat),h.IsKeyIter s.heap.objs.size d 0 AA.length ep->h.DictAt knd d AA ep->(∀b o,b≠S->s.heap.get? b=some o->h.get? b=some o)->
   h.get? S=some {cls:=.type "list",data:=.seq #[] c₁}->Lz (AX prog w) A (.builtin "list.extend.loop" ⟨[.ref S,.ref s.heap.objs.size,res],[]⟩) R {s with heap:=h,toks:=tk}:=by
  intro h c₁ tk hit hdm hk hS₁;refine codeAny_extend_loopS W hlen S hSf res AA.length 0 _ #[] c₁ rfl (LS _) ⟨hit,hdm⟩ hS₁ (ItemsOf.nil _) fun s' kz c' hm' Xy zJ=>?_;rw [Moved.eq_with hm'];refine hR s'.heap s'.toks kz c' (fun b o hb e=>hm'.heap b o (fun LB=>?_) (hk b o hb e)) Xy zJ
  rcases LN.mp LB with e'|LB
  ·exact hb e'
  ·exact DZ (EF e) (by rw [GQ.mp LB];exact Pm _)
 refine wpAny_ite_split (fun _=>?_) (fun _=>DY ⟨plainId_quiet F.plain_extend_loop _,key _ c₀ _ it₁ Zq (fun b o _ e=>FK _ e) hS₁⟩);refine AO (wpAny_rule ?_);refine AO ?_;show AS _ _ (updateSeq S (·.push .none) >>=fun _=>updateSeq S (·.pop)) _ _ _;refine AO (wY hS₁ rfl ?_);let hS₂:=α8 (QR (·.push Value.none)) hS₁ rfl;refine wY (hz:=by seq_fits) hS₂ rfl ?_;let hS₃:=α8 (QR (·.pop)) hS₂ rfl;refine DY ⟨plainId_quiet F.plain_extend_loop _,key _ _ _ (it₁.at fun o e=>?_) (Zq.at' fun o e=>?_) (fun b o hb e=>?_) hS₃⟩
 ·exact (S7 _ _ hSI).trans ((S7 _ _ hSI).trans e)
 ·exact (S7 _ _ Zp).trans ((S7 _ _ Zp).trans e)
 ·exact (S7 _ _ (FT hb)).trans ((S7 _ _ (FT hb)).trans (FK _ e))
def zah {R:Φ}(hh:A.handled=none)(hd:(d==Ls)=false)(hm:s.heap.DictAt knd d AA ep)(hlen:AA.length<=AZ)(S:AF)(hS:s.heap.get? S=some {cls:=.type "list",data:=.seq #[]})
  (hR:∀h' tk kz c',(∀b o,b≠S->s.heap.get? b=some o->h'.get? b=some o)->h'.get? S=some {cls:=.type "list",dict:=none,data:=.seq kz c',slots:= #[]}->
   ItemsOf (fun i v=>∃k x,AA[i]?=some (k,x)/\knd.is k v=true) kz AA.length->R (.ok (.ret .none)) {s with heap:=h',toks:=tk}):
  AS (AX prog w) A.in1 (Builtin.«list.__init__» ⟨[.ref S,.ref d],[]⟩)
   (fun fin s'=>match fin with | .done f=>R (.ok f) s' | .again c'=>c'.quiet=true/\Lz (AX prog w) A c' R s') (fun e s'=>R (.error e) s') s:=by
 obtain ⟨od,es,Zo,u6,jf,hk0,hp0,hn0⟩:=id hm
 let Zp:S≠d:=fun e=>by
  rw [e] at hS;erw [hS] at Zo;cases jf
 show AS _ _ (do let old <- Builtin.List.listItems (.ref S);Builtin.List.listUpdate (.ref S) (fun _=> #[]);letGo old.toList.reverse;JC (.ref S) (.ref d) .none) _ _ s;refine AO ?_;unfold Builtin.List.listItems;refine AO (S1 hS rfl (DY ?_));show AS _ _ (updateSeq S (fun _=> #[]) >>=fun _=>letGo (#[]:Array Value).toList.reverse >>=fun _=>JC (.ref S) (.ref d) .none) _ _ s;refine AO (wY hS rfl ?_);let hS₂:=α8 (QR (fun _=>(#[]:Array Value))) hS rfl
 let oth:∀b o,b≠S->s.heap.get? b=some o->(s.heap.update S (QR (fun _=>(#[]:Array Value)))).get? b=some o:=
  fun b o hb e=>(S7 _ _ (FT hb)).trans e
 refine AO (wpAny_letGo ?_);refine aiy hh hd (hm.at' fun o e=>oth d o (FT Zp) e) hlen S .none _ hS₂ fun h' tk kz c' hk Xy zJ=>?_;exact hR h' tk kz c' (fun b o hb e=>hk b o hb (oth b o hb e)) Xy zJ
def zaS {Q:δ}(hh:A.handled=none)(hd:(d==Ls)=false)(hm:s.heap.DictAt knd d AA ep)(hlen:AA.length<=AZ)
  (hQ:∀h' tk kz c',(∀b o,s.heap.get? b=some o->h'.get? b=some o)->
   h'.get? s.heap.objs.size=some {cls:=.type "list",dict:=none,data:=.seq kz c',slots:= #[]}->ItemsOf (fun i v=>∃k x,AA[i]?=some (k,x)/\knd.is k v=true) kz AA.length->Q (.ref s.heap.objs.size) {s with heap:=h',toks:=tk}):
  AS (AX prog w) A (call (.type "list") [.ref d]) Q E s:=by
 refine callType_codes (Q₁:=fun obj oW=>obj=.ref s.heap.objs.size/\oW={s with heap:=s.heap.push {cls:=.type "list",data:=.seq #[]}}) F.called_list (F.typeCall_list_1 _) F.entry_list_init
  (code_list_new _ ⟨rfl,rfl⟩) fun obj oW qQ=>?_
 obtain ⟨rfl,rfl⟩:=qQ;let hS:(s.heap.push {cls:=.type "list",data:=.seq #[]}).get? s.heap.objs.size=some {cls:=.type "list",data:=.seq #[]}:=LL _ rfl;show ⟨⟨_,hS,rfl⟩,F.args_list_init_2 _ _,zah (A:=A.in1) hh hd (hm.at' fun o e=>FK _ e) hlen _ hS fun h' tk kz c' hk Xy zJ=>?_⟩;show ⟨rfl,hQ h' tk kz c' (fun b o e=>hk b o (LO (EF e)) (FK _ e)) Xy zJ⟩
end
theorem aG :∀{qT:List Z} {qS:List β} {i:Nat} {a:Z},Paired F qT qS->qT[i]?=some a->∃b,qS[i]?=some b/\F a b
 | _,_,_,_,.nil,h=>by simp at h
 | _,_,0,_,.cons r _,h=>by
  cases h;show ⟨_,rfl,r⟩
 | _,_,i+1,_,.cons _ t,h=>by
  obtain ⟨b,e,f⟩:=aG (i:=i) t (by simpa using h);show ⟨b,by simpa using e,f⟩
theorem lI :∀{qT:List Z} {qS:List β},qT.length=qS.length->(∀(i:Nat)(a:Z)(b:β),qT[i]?=some a->qS[i]?=some b->F a b)->Paired F qT qS
 | [],[],_,_=>.nil
 | a::qT,b::qS,h,f=>.cons (f 0 a b rfl rfl) (lI (by simpa using h) fun i a b e1 e2=>f (i+1) a b (by simpa using e1) (by simpa using e2))
 | [],_::_,h,_=>by simp at h
 | _::_,[],h,_=>by simp at h
def xl (h:(bx P w).is k u=true):RelV (kV k) u:=by
 rcases cJ h with ⟨i,t,rfl,rfl⟩|⟨x,t,rfl,rfl⟩
 ·show ⟨t,rfl⟩
 ·show ⟨t,rfl⟩
section
variable {X:Cx}
inductive OT (xs:η)(H:Hp)(Q:VK):Prop
|mk (p:AF)(AA:γ)(_:xs=[.ref p])(_:Rd H p (.dK AA))(_:∀l,H l=none->Q (.ref l) (upd H l (.lst (AA.map fun kv=>kV kv.1))))
def iq (hc:X.calm=true):ja X (.type "list") OT:=by
 intro pX s Y H xs us Q I r h;obtain ⟨p,AA,rfl,hq,q⟩:=h;obtain ⟨u,rfl,r1⟩:=vals1 r;cases r1;obtain ⟨z,hd,vs,rel,o,es,ep,ho,hx,jf,hk,hp,hn⟩:=ku I.bJ hq;let hl:=rel.length;refine zaS (knd:=bx X.prog X.w) (I.ok.hd hc) hd ⟨o,es,ho,hx,jf,hk,hp,hn⟩ ce fun h' tk kz c' kk hS zJ=>?_;let hn':=I.bJ.fresh (D' s.heap.objs.size)
 let rv:Vals (AA.map fun kv=>kV kv.1) kz.toList:=lI (by have:=zJ.1;simp;omega) fun i a b e1 e2=>by
  rw [Wp] at e1;obtain ⟨kv,ek,rfl⟩:=LA.mp e1;obtain ⟨q',eq,e3,_⟩:=aG rel ek;obtain ⟨k,x,e4,e5⟩:=zJ.2 i b (by simpa using e2);erw [eq] at e4;rw [e3];exact xl e5
 let I2:Inv X pX Y (upd H s.heap.objs.size (.lst (AA.map fun kv=>kV kv.1))) {s with heap:=h',toks:=tk}:=I.laid (t':=tk) kk (D' _) ⟨by rwa [ir],kz.toList,c',rv,by simpa using hS⟩;show ⟨.ref _,_,I2,rfl,q _ hn'⟩
def Inv.freeze {Y:L2.St}(I:Inv X pX Y H s)(e:H d=some (.dK AA))(ho:s.heap.get? d=some o):Inv X pX Y (upd H d (.eQ o (.dK AA))) s:=by
 let nx:∀b u,H b=some u->b≠d->upd H d (.eQ o (.dK AA)) b=some u:=fun b u q n=>by rwa [aj n]
 refine I.step (g':=s.gens) (t':=s.toks) (d':=s.drawn) (ch:=[]) (fun _ z=>nomatch z) (fun b o _ _ _ e _=>e) (fun b o _ _ _ e _=>⟨o.slots,e⟩) (fun b o _ _ n=>by rw [aj (fun z=>by erw [z,e] at n)];exact n) (fun b o _ e=>⟨o,e⟩)
  (fun b xs q=>nx b _ q fun z=>by erw [z,e] at q) (fun b o' u q=>nx b _ q fun z=>by erw [z,e] at q) (fun b ps q=>⟨#[],by rw [nx b _ q fun z=>by erw [z,e] at q];simp⟩) (fun m hm=>hm) (fun b u q=>?_) I.bare
 by_cases hb:b=d
 ·subst hb
  erw [ah] at q;show ⟨ho,I.bJ b _ e⟩
 ·rw [aj hb] at q
  exact (I.bJ b u q).wK (fun _ _ _ k=>k) (fun c k=>nx c _ k fun z=>by erw [z,e] at k) fun c xs k=>nx c _ k fun z=>by erw [z,e] at k
def Itd (d:AF)(o:Obj)(AA:γ):It:=
 ⟨fun i H=>H d=some (.eQ o (.dK AA))/\i<AA.length,
  fun i H v H'=>∃p k x,AA[i]?=some (k,x)/\v=.ref p/\H p=none/\H'=upd H p (.tup [kV k,x]),
  fun i H=>H d=some (.eQ o (.dK AA))/\AA.length<=i⟩
def kA (ok:me P w H h)(e:H d=some (.eQ o (.dK AA)))(he:o.data=.dict Rn ep):
  (d==Ls)=false/\∃vs,KV AA vs/\h.DictAt (bx P w) d vs ep/\AA.length<=AZ:=by
 obtain ⟨h1,z,hd,vs,rel,o',es,Zj,ho,hx,jf,hk,hp,hn⟩:=ok d _ e;erw [h1] at ho;erw [he] at jf;show ⟨hd,vs,rel,⟨o,Rn,h1,hx,he,hk,hp,hn⟩,z⟩
def zaz:entryFor table "dict_itemiterator.__iter__"=some Builtin.«dict_keyiterator.__iter__»:=
 entryFor_alias (id':="dict_keyiterator.__iter__") (by kernel_rfl) (by first|rfl|decide+kernel|(unfold String.splitOn;simp+decide [String.splitOnAux])) (by decide+kernel) (by kernel_rfl)
def aaF {E:δ}{Q:δ}(st:IsItemIter s.heap it d i n ep ok ov)(h:Q (.ref it) s):AS (AX P w) A (pyIter (.ref it)) Q E s:=by
 let hT:s.TypeIs (.ref it) "dict_itemiterator":=⟨_,st,rfl⟩;refine wpAny_pyIter_slot hT F.slot_dict_itemiterator_iter (S2 F.slot_dict_itemiterator_iter hT zaz ?_ (F.args_dict_itemiterator_iter_1 _));show AS _ _ (ret (.ref it)) _ _ s;exact DY ⟨_,rfl,"dict_itemiterator",_,hT,F.slot_dict_itemiterator_next.lookup,h⟩
def zab {K:Frag}{es:Ε}(d it:AF)(o:Obj)(AA:γ)(he:o.data=.dict Rn ep)(OM:it≠d):
  Turn P w K (.Tuple es k pos) (Itd d o AA) [it] it (fun i h=>∃ok ov,IsItemIter h it d i AA.length ep ok ov) where
 mem:=by simp
 obj:=fun i h st b hb=>by
  let e:b=it:=by simpa using hb
  subst e;obtain ⟨ok,ov,st⟩:=st;show ⟨_,st,fun v z=>by cases z⟩
 keep:=fun i h h' st k=>by
  obtain ⟨ok,ov,st⟩:=st;show ⟨ok,ov,k it ga _ st⟩
 item:=by
  intro X hP hw hK hc i pX s Y H E I hf st hg;subst hP hw hK;obtain ⟨ok,ov,st⟩:=st;obtain ⟨fz,hi⟩:=hg;obtain ⟨hd,vs,rel,da,_⟩:=kA I.bJ fz he;let ek:AA[i]?=some AA[i]:=gE hi;obtain ⟨⟨k',u⟩,ev,e1,ru⟩:=aG rel ek;let lv:=rel.length;rw [lv] at st;refine wpAny_pyNext_items_item st da ev fun key h' ze out tup sz kk=>?_;show ⟨_,rfl,wpAny_letOwnedTupleGo_items (s:={s with heap:=h'}) out fun JB aib sb=>?_⟩;let hsz:∀c o,s.heap.get? c=some o->s.heap.objs.size≠c:=fun c o e=>SY (EF e);let tz:s.heap.objs.size≠it:=hsz _ _ st;let nz:∀c,c≠it->∀o,h'.get? c=some o->JB.get? c=some o:=fun c hc o e=>(sb.2 c hc).trans e;let hn:=I.bJ.fresh (D' s.heap.objs.size);have VR :AA[i].1=k':=e1
  let I2:Inv X pX Y (upd H s.heap.objs.size (.tup [kV AA[i].1,AA[i].2])) {s with heap:=JB,toks:=s.toks}:=
   Inv.rH I (fun b o hb e=>nz b (by simpa using hb) o (kk b o (by simpa using hb) e)) hf (D' _) (by show 2<=AZ;decide) (AP:=[key,u]) (.cons (by rw [VR];exact xl ze) (.cons ru .nil)) ⟨_,nz _ tz _ tup,rfl,_,rfl⟩
  show ⟨.ref s.heap.objs.size,_,I2,rfl,⟨s.heap.objs.size,AA[i].1,AA[i].2,ek,rfl,hn,rfl⟩,⟨_,_,by rwa [lv]⟩,fun b hb=>?_⟩;let eb:b=it:=by simpa using hb
  rw [aj (by rw [eb];exact FT tz)];exact (hf b hb).1
 done:=by
  intro X hP hw hK hc i pX s Y H E I hf st hg;subst hP hw hK;obtain ⟨ok,ov,st⟩:=st;obtain ⟨fz,hi⟩:=hg;obtain ⟨hd,vs,rel,da,_⟩:=kA I.bJ fz he;let lv:=rel.length;rw [lv] at st;obtain ⟨f0,f1,f2,f3,f4,f5⟩:=hf it ga;exact wpAny_pyNext_items_end (I.ok.hd hc) st da (FJ ce) fun h' eb=>⟨rfl,I.turned (t':=s.toks) (fun b o hb e=>eb b o hb e) f0 f1 f3 f4 f5⟩
 self:=fun _ _ _ _ _ st h=>by
  obtain ⟨ok,ov,st⟩:=st;exact aaF st h
inductive JE (R:(It->Hp->Prop))(x:V)(H1:Hp):Prop
|mk (d AA:_)(_:x=.ref d)(_:H1 d=some (.dK AA))(_:∀o,R (Itd d o AA) (upd H1 d (.eQ o (.dK AA))))
def ahP (te:TE):TI:=fun Y H R=>te Y H fun x H1=>JE R x H1
def n_ {apos fU:Pos}{es:Ε}{k:Nat}{wV:Pos}(ho:PE X e te)(r9:Tj e "items" X.env (D_ e X.env)=D_ e X.env:=by rfl)(r_:(apos.endLine==fU.line)=true:=by rfl):
  PI X (.Tuple es k wV) (.Call (.Attribute e "items" apos) [] [] fU) (ahP te):=by
 intro pX s Y H R I h;refine wpAny_Call_method0_late r9 r_ (cK (ho pX s Y H _ I h) fun v s1 ⟨x,H1,I1,r1,q1⟩=>?_);obtain ⟨d,AA,rfl,e,q⟩:=q1;cases r1;obtain ⟨z,hd,vs,rel,o,XA,ep,LC,hx,jf,hk,hp,hn⟩:=nZ I1.bJ e;obtain ⟨h1,h2⟩:=Oz (T:="dict") I1 (show RelV (.ref d) (.ref d) from rfl) (.inr (.inr (.inl ⟨rfl,.inl ⟨AA,e⟩⟩)));let da:s1.heap.DictAt (bx X.prog X.w) d vs ep:=⟨o,XA,LC,hx,jf,hk,hp,hn⟩;let lv:=rel.length;show ⟨"dict","dict.items",F.plainAttrs_dict,F.slot_dict_items,F.type_dict_items,h1,h2,α1 rfl (PySem.evalArgs_none ?_)⟩;refine Xi F.slot_dict_items h1 F.entry_dict_items (F.args_dict_items_1 _) (meets_dict_items (bx X.prog X.w) d hd) ⟨⟨vs,da.dictOf⟩,?_⟩;let I2:=Inv.freeze I1 e LC;let da2:(s1.heap.push {cls:=.type "dict_items",data:=.fields #[.ref d]}).DictAt (bx X.prog X.w) d vs ep:=da.at' fun o e=>FK _ e;show AS (AX X.prog X.w) X.A (pyIter (.ref s1.heap.objs.size)) _ _ _;refine wpAny_pyIter_items (s:={s1 with heap:=s1.heap.push {cls:=.type "dict_items",data:=.fields #[.ref d]}}) ⟨_,LL _ rfl,rfl,rfl⟩ da2 ?_;let sz:(s1.heap.push {cls:=.type "dict_items",data:=.fields #[.ref d]}).objs.size=s1.heap.objs.size+1:=QQ ..
 let ne:(s1.heap.push {cls:=.type "dict_items",data:=.fields #[.ref d]}).objs.size≠d:=by
  rw [sz];exact FT (LO (Yn (EF LC)))
 let I3:Inv X pX Y (upd H1 d (.eQ o (.dK AA))) {s1 with heap:=(s1.heap.push {cls:=.type "dict_items",data:=.fields #[.ref d]}).push {cls:=.type "dict_itemiterator",data:=.fields #[.none,.bool false,.ref d,.int 0 0,.int vs.length 0,.int ep 0,.none,.none]}}:=I2.kept (t':=s1.toks) fun b o e=>FK _ (FK _ e);show ⟨_,[_],_,_,_,rfl,I3,zab d _ o AA jf ne,⟨_,_,by rw [lv];exact LL _ rfl⟩,fun b hb=>?_,q o⟩;let eb:b=(s1.heap.push {cls:=.type "dict_items",data:=.fields #[.ref d]}).objs.size:=by simpa using hb
 let le:s1.heap.objs.size<=b:=by rw [eb,sz];exact AQ _
 exact I2.nA le (I2.bJ.fresh le)
end
end Ty
namespace Ty
def ev:List Int->(Nat->Rat)->Rat
 | [],_=>0
 | a::r,z=>(a:Rat)*z 0+ev r (fun i=>z (i+1))
theorem OU:∀(l:ξ)(z y:Nat->Rat),ev l (fun i=>z i+y i)=ev l z+ev l y
 | [],_,_=>by simp [ev];grind
 | a::r,z,y=>by
  simp only [ev];rw [OU r (fun i=>z (i+1)) (fun i=>y (i+1))];grind
theorem xm:∀(l:ξ)(z:Nat->Rat),(∀j,((l.getD j 0:Int):Rat)*z j=0)->ev l z=0
 | [],_,_=>rfl
 | a::r,z,h=>by
  let h0:=h 0;let ih:=xm r (fun i=>z (i+1)) (fun j=>by simpa using h (j+1));simp only [ev];rw [ih];simp at h0;grind
theorem xo:∀(l:ξ)(z:Nat->Rat)(p:Nat),(∀j,j≠p->((l.getD j 0:Int):Rat)*z j=0)->ev l z=((l.getD p 0:Int):Rat)*z p
 | [],_,_,_=>by simp [ev]
 | a::r,z,0,h=>by
  let ih:=xm r (fun i=>z (i+1)) (fun j=>by simpa using h (j+1) ce);simp only [ev];rw [ih];simp;grind
 | a::r,z,p+1,h=>by
  let h0:=h 0 ce;let ih:=xo r (fun i=>z (i+1)) p (fun j hj=>by simpa using h (j+1) ce);simp only [ev];rw [ih];simp at h0;simp;grind
theorem OV :∀{new line AV:ξ},new.length=line.length->AV.length=line.length->(∀j,s*new.getD j 0=t*line.getD j 0-u*AV.getD j 0)->∀z:Nat->Rat,(s:Rat)*ev new z=t*ev line z-u*ev AV z
 | [],[],[],_,_,_,z=>by simp [ev];grind
 | a::new,b::line,c::AV,h1,h2,h,z=>by
  let h0:=h 0;let ih:=OV (by simpa using h1) (by simpa using h2) (fun j=>by simpa using h (j+1)) (fun i=>z (i+1));simp at h0;let h0':(s:Rat)*a=t*b-u*c:=by exact_mod_cast h0
  simp only [ev];grind
 | [],_::_,_,h,_,_,_=>by simp at h
 | _::_,[],_,h,_,_,_=>by simp at h
 | _,[],_::_,_,h,_,_=>by simp at h
 | _,_::_,[],_,h,_,_=>by simp at h
def fP:List Rat->List (List Int)->Nat->Rat
 | c::y,o::os,j=>c*((o.getD j 0:Int):Rat)+fP y os j
 | _,_,_=>0
theorem zK (hs:s≠0)(j:Nat):∀(os:ζ)(y1 y2:Ι),y1.length=os.length->y2.length=os.length->s*fP (O0 (fun a b=>(t*a-u*b) / s) y1 y2) os j=t*fP y1 os j-u*fP y2 os j
 | [],[],[],_,_=>by simp [fP];grind
 | o::os,a::y1,b::y2,h1,h2=>by
  let ih:=zK (t:=t) (u:=u) hs j os y1 y2 (by simpa using h1) (by simpa using h2);simp only [aiQ,fP];grind
 | [],_::_,_,h,_=>by simp at h
 | [],[],_::_,_,h=>by simp at h
 | _::_,[],_,h,_=>by simp at h
 | _::_,_::_,[],_,h=>by simp at h
theorem v9 (j:Nat):∀(os:ζ),fP (GH os.length 0) os j=0
 | []=>rfl
 | o::os=>by
  simp only [Lw,WX,fP];rw [v9 j os];grind
def pM (os:ζ)(l:ξ):Prop:=∃y:List Rat,y.length=os.length/\∀j,((l.getD j 0:Int):Rat)=fP y os j
theorem zL:∀{os:ζ} {l:ξ},l∈os->pM os l
 | o::os,l,h=>by
  rcases LN.mp h with z|z
  ·subst z
   show ⟨1::GH os.length 0,by simp,fun j=>?_⟩;simp only [fP];rw [v9];grind
  ·obtain ⟨y,hl,hy⟩:=zL z
   show ⟨0::y,by simp [hl],fun j=>?_⟩;simp only [fP];rw [<-hy j];grind
def age (hs:s≠0)(h:∀j,s*new.getD j 0=t*line.getD j 0-u*AV.getD j 0)(h1:pM os line)(h2:pM os AV):pM os new:=by
 obtain ⟨y1,l1,e1⟩:=h1;obtain ⟨y2,l2,e2⟩:=h2;have VS :=cz hs;show ⟨O0 (fun a b=>((t:Rat)*a-u*b) / s) y1 y2,by simp [l1,l2],fun j=>?_⟩;let k:=zK (t:=(t:Rat)) (u:=(u:Rat)) VS j os y1 y2 l1 l2;rw [<-e1 j,<-e2 j] at k;let h':(s:Rat)*(new.getD j 0:Int)=t*(line.getD j 0:Int)-u*(AV.getD j 0:Int):=by exact_mod_cast h j
 rw [<-h'] at k;grind
def qC (y:Ι):Nat->Rat:=fun i=>if i<y.length then y.getD i 0 else -1
theorem EO (j:Nat)(c:Int):∀(os:ζ)(y:Ι),y.length=os.length->ev (os.map (fun o=>o.getD j 0)++[c]) (qC y)=fP y os j-c
 | [],[],_=>by simp [ev,qC,fP];grind
 | o::os,a::y,h=>by
  let ih:=EO j c os y (by simpa using h)
  let ez:(fun i=>qC (a::y) (i+1))=qC y:=by
   funext i;simp [qC]
  simp only [DV,Yi,ev,fP];rw [ez,ih];simp [qC];grind
 | [],_::_,h=>by simp at h
 | _::_,[],h=>by simp at h
theorem tf (k:Rat)(j:Nat):∀(os:ζ)(y:Ι),fP (y.map (fun a=>a*k)) os j=fP y os j*k
 | [],_=>by cases ‹List Rat› <;> simp [fP]<;>grind
 | _::_,[]=>by simp [fP]
 | o::os,a::y=>by
  simp only [DV,fP];rw [tf k j os y];grind
structure u3 (line AV new:ξ)(c:Nat):Prop where
 len:new.length=line.length
 OX:new.getD c 0=0
 Ro:∃s t u:Int,s≠0/\t≠0/\∀j,s*new.getD j 0=t*line.getD j 0-u*AV.getD j 0
def u3.zero (h:u3 line AV new c)(h1:line.getD j 0=0)(h2:AV.getD j 0=0):new.getD j 0=0:=by
 obtain ⟨s,t,u,hs,_,e⟩:=h.Ro;have:=e j;rw [h1,h2,Uc,Uc,Int.sub_self] at this
 rcases Sl.mp this with z|z
 ·exact DZ z hs
 ·exact z
theorem u3.at (h:u3 line AV new c)(h2:AV.getD j 0=0)(h1:line.getD j 0≠0):new.getD j 0≠0:=by
 obtain ⟨s,t,u,hs,ht,e⟩:=h.Ro;have:=e j;rw [h2] at this;intro z;rw [z,Uc,Uc,Int.sub_zero] at this
 rcases Sl.mp this.symm with y|y
 ·exact ht y
 ·exact h1 y
def u3.comb (h:u3 line AV new c)(h1:pM os line)(h2:pM os AV):pM os new:=by
 obtain ⟨s,t,u,hs,ht,e⟩:=h.Ro;exact age hs e h1 h2
theorem u3.ev (h:u3 line AV new c)(hl:AV.length=line.length)(h2:Ty.ev AV z=0):Ty.ev new z=0 ↔ Ty.ev line z=0:=by
 obtain ⟨s,t,u,hs,ht,e⟩:=h.Ro;let k:=OV h.len hl e z;rw [h2] at k;have VS :=cz hs;let ht':=cz ht;constructor
 ·intro w
  rw [w] at k;grind
 ·intro w
  rw [w] at k;grind
end Ty
namespace Ty
open PySem PySem.Spec PyProof.Rows L2
def Itn (K:Frag)(a:AF):It:=
 ⟨fun i H=>∃xs x,aR K H a xs/\xs[i]?=some x,
  fun i H v H'=>∃p x,(∀xs,aR K H a xs->xs[i]?=some x)/\v=.ref p/\H p=none/\H'=upd H p (.tup [.int (i:Int),x]),
  fun i H=>∃xs,aR K H a xs/\xs.length<=i⟩
def aaV {K:Frag}{es:Ε}(a e it:AF)(OM:e≠it):
  Turn P w K (.Tuple es k pos) (Itn K a) [e,it] e (fun i h=>(∃old,IsEnum h e it ((i:Nat):Int) old)/\h.IsListIter it a i) where
 mem:=by simp
 obj:=fun i h st c hc=>by
  obtain ⟨⟨old,he⟩,⟨o1,e1,c1,d1⟩⟩:=st;have qX :c=e\/c=it:=by simpa using hc
  rcases qX with z|z<;>subst z
  ·show ⟨_,he,fun v z=>by cases z⟩
  ·show ⟨_,e1,fun v z=>by erw [d1] at z⟩
 keep:=fun i h h' st k=>by
  obtain ⟨⟨old,he⟩,h1⟩:=st;show ⟨⟨old,k e ga _ he⟩,h1.at fun o e=>k it ga o e⟩
 item:=by
  intro X hP hw hK hc i pX s Y H E I hf st hg;subst hP hw hK;obtain ⟨⟨old,he⟩,h1⟩:=st;obtain ⟨xs,x,qx,ex⟩:=hg;obtain ⟨AP,rv,p,_⟩:=I.list qx;obtain ⟨u,hu,ru⟩:=rv.get ex;refine wpAny_pyNext_enum_item he h1 p.isList (x:=u) (by simpa using hu) OM fun h' a1 a2 a3 a4 a5=>?_;show ⟨_,rfl,wpAny_letOwnedTupleGo_enum (s:={s with heap:=h',toks:=s.toks+1}) a1 fun JB b1 sb=>?_⟩;let nz:∀c,c≠e->∀o,h'.get? c=some o->JB.get? c=some o:=fun c hc o q=>(sb.2 c hc).trans q
  let kk:∀b o,b∉[e,it]->s.heap.get? b=some o->JB.get? b=some o:=fun b o hb q=>by
   have fZ :b≠e/\b≠it:=by simpa using hb
   exact nz b fZ.1 o (a5 b o fZ.1 fZ.2 q)
  let sz:∀c o,s.heap.get? c=some o->s.heap.objs.size≠c:=fun c o q=>SY (EF q);let tz:s.heap.objs.size≠e:=sz _ _ he;let hn:=I.bJ.fresh (D' s.heap.objs.size)
  let I2:Inv X pX Y (upd H s.heap.objs.size (.tup [.int (i:Int),x])) {s with heap:=JB,toks:=s.toks+1}:=
   Inv.rH I kk hf (D' _) (by show 2<=AZ;decide) (AP:=[.int i s.toks,u]) (.cons ⟨_,rfl⟩ (.cons ru .nil)) ⟨_,nz _ tz _ a3,rfl,_,rfl⟩
  show ⟨.ref s.heap.objs.size,_,I2,rfl,⟨s.heap.objs.size,x,fun xs' q=>by rwa [I.i_ q qx],rfl,hn,rfl⟩,⟨⟨_,by exact b1⟩,a2.at fun o q=>nz _ (FT OM) o q⟩,fun b hb=>?_⟩
  let ob:∃o,s.heap.get? b=some o:=by
   obtain ⟨o1,e1,_⟩:=h1;have qX :b=e\/b=it:=by simpa using hb
   rcases qX with z|z<;>subst z
   ·show ⟨_,he⟩
   ·show ⟨_,e1⟩
  obtain ⟨o,q⟩:=ob;rw [aj (FT (sz _ _ q))];exact (hf b hb).1
 done:=by
  intro X hP hw hK hc i pX s Y H E I hf st hg;subst hP hw hK;obtain ⟨⟨old,he⟩,h1⟩:=st;obtain ⟨xs,qx,ee⟩:=hg;obtain ⟨AP,rv,p,_⟩:=I.list qx;let l1:=rv.length;refine wpAny_pyNext_enum_end (I.ok.hd hc) he h1 p.isList (by simp;omega) fun h' kk=>⟨rfl,Inv.nY I (fun b o hb q=>?_) hf⟩;have fZ :b≠e/\b≠it:=by simpa using hb
  exact kk b o fZ.2 q
 self:=fun _ _ _ _ _ st h=>by
  obtain ⟨⟨old,he⟩,_⟩:=st;exact wpAny_pyIter_enum he h
def boot_enumerate:Lm "enumerate"=some (.type "enumerate"):=by decide+kernel
section
variable {X:Cx}
inductive OY (K:Frag)(R:(It->Hp->Prop))(vs:η)(H1:Hp):Prop
|mk (a:_)(_:vs=[.ref a])(_:(∃xs,aR K H1 a xs))(_:R (Itn K a) H1)
def aaO (K:Frag)(ta:TA):TI:=fun Y H R=>ta Y H fun vs H1=>OY K R vs H1
def aeq {es:Ε}(hg:Gl X "enumerate")(hm:X.mg "enumerate"=none)(ha:PA X [e1] ta)(hs:EC [e1] X.env=[(false,D_ e1 X.env)]:=by rfl):
  PI X (.Tuple es k wV) (.Call (.Name "enumerate" p) [e1] [] pos) (aaO X.K ta):=by
 intro pX s Y H R I h;refine Call_ (jt I hg hm boot_enumerate (To (cK (ha pos pX s Y H _ I h) fun us s1 ⟨vs,H1,I1,r1,q1⟩=>?_) hs rfl));obtain ⟨a,e,⟨xs,hx⟩,q⟩:=q1;subst e;cases r1 with
 | cons r rr=>
  cases rr;cases r;obtain ⟨AP,rv,pl,_⟩:=I1.list hx;refine call_enumerate_list pl.isList fun h' hE hI hsz hk=>wpAny_pyIter_enum (s:={s1 with heap:=h'}) hE ?_;show ⟨s1.heap.objs.size+1,[s1.heap.objs.size+1,s1.heap.objs.size],_,_,H1,rfl,I1.kept (t':=s1.toks) hk,aaV a _ _ (Nat.succ_ne_self _),⟨⟨_,hE⟩,hI⟩,fun c hc=>?_,q⟩
  have qX :s1.heap.objs.size<=c:=by
   have:c=s1.heap.objs.size+1\/c=s1.heap.objs.size:=by simpa using hc
   simp only [AF] at*;omega
  exact I1.nA qX (I1.bJ.fresh qX)
def any_range (bs:List Bool):(FG bs.length).any (fun i=>(bs[i]?).getD true)=bs.any id:=by
 rw [WM,BP,BP];constructor
 ·rintro ⟨i,hi,h⟩
  let hi':i<bs.length:=OW.mp hi;rw [gE hi'] at h;show ⟨bs[i],SK hi',h⟩
 ·rintro ⟨b,hb,h⟩
  obtain ⟨i,hi⟩:=FZ hb;show ⟨i,OW.mpr (be.mp hi).1,by rwa [hi]⟩
inductive aaQ (K:Frag)(xs:η)(H:Hp)(Q:VK):Prop
|mk (p:AF)(bs:List Bool)(_:xs=[.ref p])(_:aR K H p (bs.map V.bl))(_:Q (.bl (bs.any id)) H)
def adQ (hc:X.calm=true):ja X (.builtin "any") (aaQ X.K):=by
 intro pX s Y H xs us Q I r h;obtain ⟨p,bs,rfl,hq,q⟩:=h;obtain ⟨u,rfl,r1⟩:=vals1 r;cases r1;obtain ⟨AP,rv,pl,hz⟩:=I.list hq;refine call_any_walk (zB pl.isList ?_);let OM:p≠s.heap.objs.size:=by obtain ⟨o,ho,_⟩:=pl.isList;exact LO (EF ho)
 let I1:Inv X pX Y H {s with heap:=s.heap.push {cls:=.type "list_iterator",data:=.fields #[.ref p,.int 0 0]}}:=I.kept (t':=s.toks) fun b o e=>FK _ e;obtain ⟨f0,f1,f2,f3,f4,f5⟩:=I.nA (H':=H) (D' s.heap.objs.size) (I.bJ.fresh (D' _));let hl:AP.length=bs.length:=by rw [<-rv.length,ir]
 show ⟨s.heap.objs.size,_,_,_,_,_,fun i=>(bs[i]?).getD true,rfl,Walks.list (A:=X.A.in1) (I.ok.hd hc) s.heap.objs.size p OM AP.toArray,⟨⟨_,LL _ rfl,rfl,rfl⟩,pl.isList.at fun o e=>FK _ e⟩,?_,fun h' tk kk=>?_⟩
 ·intro i v s' Q' E' hv vM
  have W0 :AP[i]?=some v:=by simpa using hv
  let hi:i<bs.length:=by rw [<-hl];exact (be.mp W0).1
  let eb:(bs.map V.bl)[i]?=some (.bl bs[i]):=by rw [Wp,gE hi];rfl
  obtain ⟨u,eu,ru⟩:=rv.get eb;erw [W0] at eu;cases ru;dsimp only at vM;rw [gE hi] at vM;exact S5 vM
 ·show ⟨.bl (bs.any id),H,I1.turned (t':=tk) (it:=s.heap.objs.size) (fun b o hb e=>kk b o (by simpa using hb) e) f0 f1 f3 f4 f5,?_,q⟩
  show _=_;rw [<-any_range bs,LV,hl]
def aaR:Lm "any"=some (.builtin "any"):=by decide+kernel
end
def zN {K:Frag}{g:TG}{tb:TS}{D:Ends}(Pv:Nat->L2.St->Hp->Prop)(h0:Pv 0 Y H)(hl:∀i Y H,i<=xs.length->Pv i Y H->aR K H a xs)
  (hs:∀i x Y H p,xs[i]?=some x->Pv i Y H->H p=none->g (.ref p) Y (upd H p (.tup [.int (i:Int),x])) fun Y2 H2=>tb {D with nx:=Pv (i+1),ct:=Pv (i+1),bk:=D.nx} Y2 H2) (hd:∀Y H,Pv xs.length Y H->D.nx Y H):
  ∃W:Nat->Nat->L2.St->Hp->Prop,(∃m,W 0 m Y H)/\∀i m Y H,W i m Y H->
   ((Itn K a).stop i H/\D.nx Y H)\/((Itn K a).go i H/\∃N:L2.St->Hp->Prop,(∀Y' H',N Y' H' ->∃m',m'<m/\W (i+1) m' Y' H')/\∀x H',(Itn K a).DU i H x H' ->g x Y H' fun Y2 H2=>tb {D with nx:=N,ct:=N,bk:=D.nx} Y2 H2):=by
 show ⟨fun i m Y H=>m=xs.length-i/\i<=xs.length/\Pv i Y H,⟨xs.length,by simp,LS _,h0⟩,?_⟩;rintro i m Y H ⟨rfl,hi,p⟩;let q:=hl i Y H hi p;by_cases jU:i<xs.length
 ·let e:xs[i]?=some xs[i]:=gE jU
  refine .inr ⟨⟨xs,_,q,e⟩,Pv (i+1),fun Y' H' z=>⟨xs.length-(i+1),ce,rfl,ce,z⟩,fun x H' y=>?_⟩;obtain ⟨pp,x',y1,rfl,np,rfl⟩:=y;exact hs i x' Y H pp (y1 xs q) p np
 ·let e:i=xs.length:=ce
  subst e;exact .inl ⟨⟨xs,q,D' _⟩,hd Y H p⟩
def lJ {g:TG}{tb:TS}{D:Ends}(Pv:Nat->L2.St->Hp->Prop)(h0:Pv 0 Y H)(hl:∀i Y H,i<=AA.length->Pv i Y H->H d=some (.eQ o (.dK AA)))
  (hs:∀i k x Y H p,AA[i]?=some (k,x)->Pv i Y H->H p=none->g (.ref p) Y (upd H p (.tup [kV k,x])) fun Y2 H2=>tb {D with nx:=Pv (i+1),ct:=Pv (i+1),bk:=D.nx} Y2 H2) (hd:∀Y H,Pv AA.length Y H->D.nx Y H):
  ∃W:Nat->Nat->L2.St->Hp->Prop,(∃m,W 0 m Y H)/\∀i m Y H,W i m Y H->
   ((Itd d o AA).stop i H/\D.nx Y H)\/((Itd d o AA).go i H/\∃N:L2.St->Hp->Prop,(∀Y' H',N Y' H' ->∃m',m'<m/\W (i+1) m' Y' H')/\∀x H',(Itd d o AA).DU i H x H' ->g x Y H' fun Y2 H2=>tb {D with nx:=N,ct:=N,bk:=D.nx} Y2 H2):=by
 show ⟨fun i m Y H=>m=AA.length-i/\i<=AA.length/\Pv i Y H,⟨AA.length,by simp,LS _,h0⟩,?_⟩;rintro i m Y H ⟨rfl,hi,p⟩;let q:=hl i Y H hi p;by_cases jU:i<AA.length
 ·refine .inr ⟨⟨q,jU⟩,Pv (i+1),fun Y' H' z=>⟨AA.length-(i+1),ce,rfl,ce,z⟩,fun x H' y=>?_⟩
  obtain ⟨pp,k,x',y1,rfl,np,rfl⟩:=y;exact hs i k x' Y H pp y1 p np
 ·let e:i=AA.length:=ce
  subst e;exact .inl ⟨⟨q,D' _⟩,hd Y H p⟩
open Builtin.Int (intBits)
section
variable {X:Cx}
def OZ (i j:Int):Prop:=intBits i+intBits j<=134217728
def iK:j8 X (O8 .Mult) (rI OZ fun i j=>.int (i*j)):=
 α9 fun _ _ _ _ _ _ _ hc q=>mul_int q (IntMulOk.of_le (D' _) (D' _) hc)
def gu (h1:a.natAbs<=2^m)(h2:b.natAbs<=2^n)(h:m+n<=134000000):OZ a b:=by
 let x1:=lH h1 (Of m);let x2:=lH h2 (Of n);unfold OZ;omega
inductive VZ (K:Frag)(xs:η)(H:Hp)(Q:VK):Prop
|mk (p ys:_)(_:xs=[.ref p,.ty "tuple"])(_:bE K H p ys)(_:Q (.bl true) H)
def zaa:ja X (.builtin "isinstance") (VZ X.K):=by
 intro pX s Y H xs us Q I r h;obtain ⟨p,ys,rfl,hq,q⟩:=h;obtain ⟨u,w,rfl,r1,r2⟩:=vals2 r;obtain rfl:=ag1 (c:=.ty "tuple") rfl r2;cases r1;obtain ⟨AP,rv,⟨o,h1,h2,_⟩,_⟩:=I.tuple hq;let e:Om X.K (.type "tuple") (Xd (.ty "tuple"))=some true:=by unfold Om;rw [ox dL]
 exact P0 PySem.W.kitx_tuple I.mC ⟨o,h1,h2⟩ e (fun z=>nomatch z) fun tk=>⟨.bl true,H,I.tok tk,rfl,q⟩
end
def ao.bZ {K:Frag}(e:ao H H')(h:bE K H a xs):bE K H' a xs:=by
 rcases h with (h|⟨o,h⟩)|h
 ·exact .inl (.inl (e _ _ h))
 ·exact .inl (.inr ⟨o,e _ _ h⟩)
 ·exact .inr h
section
variable {D:AF}{te:TE}{ph:L2.St}{H1:Hp}{Q:VK}
def zae {K:Frag}(Rel:Ψ)(nD:H1 D=none)(hn:xs.length<AZ)(hl:ys.length=xs.length)(hX:∀H,ao H1 H->aR K H a xs)(hY:∀H,ao H1 H->aR K H b ys)
  (hR:∀i v H H' ys,H D=some (.lst ys)->bL D H H' ->Rel i v H->Rel i v H')
  (he:∀i x y H (R:VK),xs[i]?=some x->ys[i]?=some y->ao H1 H->(∃ys,H D=some (.lst ys))->(∀v H6,ao H H6->Rel i v H6->R v H6)->te (some x::some y::ph) H R)
  (hd:∀zs H,zs.length=xs.length->(∀i v,zs[i]?=some v->Rel i v H)->ao H1 H->H D=some (.lst zs)->Q (.ref D) H):
  mK D (Ob K 2 (yY (cy 0) (yY (cy 1) WV))) jV te (Xo K a b) (none::none::ph) H1 Q:=by
 show ⟨fun i m Y zs H=>m=xs.length-i/\i<=xs.length/\(∃o o',Y=o::o'::ph)/\(zs.length=i/\(∀i v,zs[i]?=some v->Rel i v H)/\ao H1 H)/\H D=some (.lst zs),⟨xs.length,by simp,LS _,⟨none,none,rfl⟩,⟨rfl,fun i v e=>by simp at e,fun b o e=>by rwa [aj (ak e nD)]⟩,ah⟩,?_⟩;rintro i m Y zs H ⟨rfl,hi,⟨o,o',rfl⟩,⟨l,r,s⟩,hD⟩;by_cases jU:i<xs.length
 ·let e1:xs[i]?=some xs[i]:=gE jU
  let e2:ys[i]?=some (ys[i]'ce):=gE ce;refine .inr ⟨⟨xs,ys,_,_,hX H s,hY H s,e1,e2⟩,fun v H' y=>?_⟩;obtain ⟨p,x,y,q1,q2,rfl,np,rfl⟩:=y;let e1:=q1 xs (hX H s);let e2:=q2 ys (hY H s);let sp:ao H (upd H p (.tup [x,y])):=fun b o e=>by rwa [aj (ak e np)]
  show ⟨p,_,rfl,bE.of ah,rfl,_,_,rfl,_,_,rfl,rfl,?_⟩;unfold jV;dsimp only;rw [ox rfl];refine he i x y _ _ e1 e2 (fun b o e=>sp _ _ (s _ _ e)) ⟨zs,sp _ _ hD⟩ fun v H6 s6 rv=>⟨s6 _ _ (sp _ _ hD),ce,xs.length-(i+1),ce,rfl,ce,⟨_,_,rfl⟩,⟨by simp [l],fun j u e=>?_,fun b o e=>?_⟩,ah⟩
  ·by_cases c:j<zs.length
   ·rw [LR c] at e
    let ru:=hR j u H H6 zs hD (bL.of fun b o q=>s6 _ _ (sp _ _ q)) (r j u e);exact hR j u H6 _ zs (s6 _ _ (sp _ _ hD)) bL.upd ru
   ·rw [Lg ce] at e
    let ej:j=i:=by
     by_cases z:j-zs.length=0
     ·omega
     ·rw [FJ (by simp;omega)] at e
      cases e
    subst ej
    have:v=u:=by
     rw [show j-zs.length=0 by omega] at e;exact GU e
    subst this;exact hR j v H6 _ zs (s6 _ _ (sp _ _ hD)) bL.upd rv
  ·rw [aj (ak e nD)]
   exact s6 _ _ (sp _ _ (s _ _ e))
 ·let e:i=xs.length:=ce
  subst e;exact .inl ⟨⟨xs,ys,hX H s,hY H s,.inl (D' _)⟩,hd zs H l r s hD⟩
end
def iY (K:Frag)(H:Hp)(v:V)(q:Int×Int):Prop:=∃p,v=.ref p/\bE K H p [.int q.1,.int q.2]
def iY.lh {K:Frag}(h:iY K H v q)(s:ao H H'):iY K H' v q:=by
 obtain ⟨p,e,k⟩:=h;show ⟨p,e,Ty.ao.bZ s k⟩
def cP (K:Frag)(H:Hp)(us:η)(qs:ο):Prop:=us.length=qs.length/\∀(i:Nat)(u:V)(q:Int×Int),us[i]?=some u->qs[i]?=some q->iY K H u q
theorem cP.lh {K:Frag}(h:cP K H us qs)(s:ao H H'):cP K H' us qs:=⟨h.1,fun i u q e1 e2=>(h.2 i u q e1 e2).lh s⟩
def cP.at {K:Frag}(h:cP K H us qs){i:Nat}(e:us[i]?=some u):∃q,qs[i]?=some q/\iY K H u q:=by
 let hi:i<us.length:=(be.mp e).1;let hl:=h.1;let e2:qs[i]?=some (qs[i]'ce):=gE ce;show ⟨_,e2,h.2 i u _ e e2⟩
theorem cP.set {K:Frag}(h:cP K H us qs)(n:iY K H v q):cP K H (us.set j v) (qs.set j q):=by
 show ⟨by simp [h.1],fun i u q' e1 e2=>?_⟩;rw [Pp] at e1 e2;by_cases c:j=i
 ·subst c
  rw [ox rfl] at e1 e2;let l:=h.1;by_cases hj:j<us.length
  ·rw [ox hj] at e1
   rw [ox ce] at e2;cases e1;cases e2;exact n
  ·rw [ni hj] at e1
   cases e1
 ·rw [ni c] at e1 e2
  exact h.2 i u q' e1 e2
def aid (K:Frag)(H:Hp)(a:AF)(qs:ο):Prop:=∃us,aR K H a us/\cP K H us qs
def sumTo:Nat->(Nat->Rat)->Rat
 | 0,_=>0
 | n+1,f=>f 0+sumTo n (fun i=>f (i+1))
theorem v_:∀(n:Nat)(f g:Nat->Rat),sumTo n (fun i=>f i+g i)=sumTo n f+sumTo n g
 | 0,_,_=>by simp [sumTo];grind
 | n+1,f,g=>by
  simp only [sumTo];rw [v_ n (fun i=>f (i+1)) (fun i=>g (i+1))];grind
theorem wc (c:Rat):∀(n:Nat)(f:Nat->Rat),sumTo n (fun i=>c*f i)=c*sumTo n f
 | 0,_=>by simp [sumTo]
 | n+1,f=>by
  simp only [sumTo];rw [wc c n (fun i=>f (i+1))];grind
theorem jz:∀(n:Nat)(f:Nat->Rat),(∀i,f i=0)->sumTo n f=0
 | 0,_,_=>rfl
 | n+1,f,h=>by
  simp only [sumTo];rw [h 0,jz n (fun i=>f (i+1)) (fun i=>h (i+1))];grind
theorem tj:∀(n:Nat)(l:ξ)(z:Nat->Rat),l.length<=n->ev l z=sumTo n (fun j=>((l.getD j 0:Int):Rat)*z j)
 | n,[],z,_=>by
  rw [jz n _ (fun i=>by simp)];rfl
 | 0,_::_,_,h=>by simp at h
 | n+1,a::r,z,h=>by
  simp only [ev,sumTo];rw [tj n r (fun i=>z (i+1)) (by simpa using h)];simp
theorem aeK (n:Nat)(z:Nat->Rat):∀(y:Ι)(os:ζ),(∀o∈os,o.length<=n)->(∀o∈os,ev o z=0)->sumTo n (fun j=>fP y os j*z j)=0
 | c::y,o::os,h1,h2=>by
  let ih:=aeK n z y os (fun x hx=>h1 x (F' _ hx)) (fun x hx=>h2 x (F' _ hx));let e:=h2 o GG;rw [tj n o z (h1 o GG)] at e
  let k:(fun j=>fP (c::y) (o::os) j*z j)=fun j=>c*(((o.getD j 0:Int):Rat)*z j)+fP y os j*z j:=by
   funext j;simp only [fP];grind
  rw [k,v_,wc,e,ih];grind
 | [],os,_,_=>jz n _ (fun j=>by cases os<;>simp [fP])
 | _::_,[],_,_=>jz n _ (fun j=>by simp [fP])
def aed {os:ζ}(h:pM os l)(hl:l.length<=n)(ho:∀o∈os,o.length<=n)(hz:∀o∈os,ev o z=0):ev l z=0:=by
 obtain ⟨y,_,e⟩:=h;rw [tj n l z hl,<-aeK n z y os ho hz];congr 1;funext j;rw [e j]
theorem zO:∀{ts:ξ} {qs xs:ο} {d:Int×Int} {b:Int},qA ts (qs++[d]) b->xs.length=qs.length->ev ts (qC (xs.map vl))=(iI qs xs-vl d)*b
 | [],qs,xs,d,b,h,_=>by have:=h.1;simp at this
 | t::ts,[],[],d,b,h,_=>by
  let e:=h.2 0 t d rfl rfl;let l:=h.1;have:ts=[]:=by simpa using l
  subst this;simp [ev,qC,iI];rw [e];grind
 | t::ts,q::qs,x::xs,d,b,h,hl=>by
  let e:=h.2 0 t q rfl rfl;let ih:=zO (ts:=ts) (qs:=qs) (xs:=xs) (d:=d) (b:=b) h.tail (by simpa using hl)
  let ez:(fun i=>qC ((x::xs).map vl) (i+1))=qC (xs.map vl):=by
   funext i;simp [qC]
  simp only [ev];rw [ez,ih,e];let e0:qC ((x::xs).map vl) 0=vl x:=by simp [qC]
  let ed:iI (q::qs) (x::xs)=vl q*vl x+iI qs xs:=by simp [iI]
  rw [e0,ed];grind
 | _::_,[],_::_,_,_,_,hl=>by simp at hl
 | _::_,_::_,[],_,_,_,hl=>by simp at hl
section
variable {X:Cx}
def Itv (d:AF)(o:Obj)(AA:γ):It:=
 ⟨fun i H=>H d=some (.eQ o (.dK AA))/\i<AA.length,
  fun i H v H'=>H'=H/\∃k,AA[i]?=some (k,v),
  fun i H=>H d=some (.eQ o (.dK AA))/\AA.length<=i⟩
def agf {K:Frag}(d it:AF)(o:Obj)(AA:γ)(he:o.data=.dict Rn ep):
  Turn P w K tg (Itv d o AA) [it] it (fun i h=>h.IsValIter it d i AA.length ep) where
 mem:=by simp
 obj:=fun i h st b hb=>by
  let e:b=it:=by simpa using hb
  subst e;obtain ⟨o,e,c,d⟩:=st;show ⟨o,e,fun v z=>by erw [d] at z⟩
 keep:=fun i h h' st k=>st.at fun o e=>k it ga o e
 item:=by
  intro X hP hw hK hc i pX s Y H E I hf st hg;subst hP hw hK;obtain ⟨fz,hi⟩:=hg;obtain ⟨hd,vs,rel,da,_⟩:=kA I.bJ fz he;let ek:AA[i]?=some AA[i]:=gE hi;obtain ⟨⟨k',u⟩,ev,e1,ru⟩:=aG rel ek;let lv:=rel.length;rw [lv] at st;obtain ⟨f0,f1,f2,f3,f4,f5⟩:=hf it ga;refine wpAny_pyNext_values_item st da ev fun h' yP sb=>?_;let I1:Inv X pX Y H {s with heap:=h'}:=I.turned (t':=s.toks) (fun b o hb e=>(sb.2 b hb).trans e) f0 f1 f3 f4 f5;rw [<-lv] at yP;obtain ⟨o',e',c',d'⟩:=id yP;show ⟨u,rfl,y4 (s:={s with heap:=h'}) e' c' d' dL ⟨AA[i].2,H,I1,ru,⟨rfl,AA[i].1,ek⟩,yP,fun b hb=>(hf b hb).1⟩⟩
 done:=by
  intro X hP hw hK hc i pX s Y H E I hf st hg;subst hP hw hK;obtain ⟨fz,hi⟩:=hg;obtain ⟨hd,vs,rel,da,_⟩:=kA I.bJ fz he;let lv:=rel.length;rw [lv] at st;obtain ⟨f0,f1,f2,f3,f4,f5⟩:=hf it ga;exact wpAny_pyNext_values_end (I.ok.hd hc) st da (FJ ce) fun h' eb=>⟨rfl,I.turned (t':=s.toks) (fun b o hb e=>eb b o hb e) f0 f1 f3 f4 f5⟩
 self:=fun _ _ _ _ _ st h=>wpAny_pyIter_valiter st h
def agh {g:TG}{tb:TS}{D:Ends}(Pv:Nat->L2.St->Hp->Prop)(h0:Pv 0 Y H)(hl:∀i Y H,i<=AA.length->Pv i Y H->H d=some (.eQ o (.dK AA)))
  (hs:∀i k x Y H,AA[i]?=some (k,x)->Pv i Y H->g x Y H fun Y2 H2=>tb {D with nx:=Pv (i+1),ct:=Pv (i+1),bk:=D.nx} Y2 H2) (hd:∀Y H,Pv AA.length Y H->D.nx Y H):
  ∃W:Nat->Nat->L2.St->Hp->Prop,(∃m,W 0 m Y H)/\∀i m Y H,W i m Y H->
   ((Itv d o AA).stop i H/\D.nx Y H)\/((Itv d o AA).go i H/\∃N:L2.St->Hp->Prop,(∀Y' H',N Y' H' ->∃m',m'<m/\W (i+1) m' Y' H')/\∀x H',(Itv d o AA).DU i H x H' ->g x Y H' fun Y2 H2=>tb {D with nx:=N,ct:=N,bk:=D.nx} Y2 H2):=by
 show ⟨fun i m Y H=>m=AA.length-i/\i<=AA.length/\Pv i Y H,⟨AA.length,by simp,LS _,h0⟩,?_⟩;rintro i m Y H ⟨rfl,hi,p⟩;let q:=hl i Y H hi p;by_cases jU:i<AA.length
 ·refine .inr ⟨⟨q,jU⟩,Pv (i+1),fun Y' H' z=>⟨AA.length-(i+1),ce,rfl,ce,z⟩,fun x H' y=>?_⟩
  obtain ⟨rfl,k,ek⟩:=y;exact hs i k x Y _ ek p
 ·let e:i=AA.length:=ce
  subst e;exact .inl ⟨⟨q,D' _⟩,hd Y H p⟩
inductive V0 (xs:η)(H:Hp)(Q:VK):Prop
|mk (p:AF)(AA:γ)(_:xs=[.ref p])(_:Rd H p (.dK AA))(_:Q (.int (AA.length:Int)) H)
def pO:ja X (.builtin "len") V0:=by
 intro pX s Y H xs us Q I r h;obtain ⟨p,AA,rfl,hq,q⟩:=h;obtain ⟨u,rfl,r1⟩:=vals1 r;cases r1;exact aaG I hq fun t s' I'=>⟨.int _,H,I',⟨t,rfl⟩,q⟩
end
section
variable {X:Cx}
def Inv.aaT {Y:L2.St}(I:Inv X pX Y H s)(e:H d=some (.eQ o u))(n:∀o' u',X.H₀ d≠some (.eQ o' u'))(nt:∀xs,u≠.tup xs):Inv X pX Y (upd H d u) s:=by
 let nx:∀b u',H b=some u' ->b≠d->upd H d u b=some u':=fun b u q n=>by rwa [aj n]
 let nn:∀b,H b=none->upd H d u b=none:=fun b q=>by rw [aj (fun z=>by erw [z,e] at q)];exact q
 show ⟨I.ok,I.os,I.bare,⟨I.iT.keep,I.iT.slot,fun b ob q z hx=>nn b (I.iT.free b ob q z hx),I.iT.there,fun b xs q=>?_,fun b ob u' q=>?_,fun b ps q=>?_⟩,I.loc,I.cell,nn _ I.free,fun x c q=>nn _ (I.i9 x c q),fun p hp=>?_,?_,I.len⟩
 ·let z:=I.iT.wL b xs q
  exact nx b _ z fun y=>by erw [y,e] at z
 ·let z:=I.iT.u5 b ob u' q
  exact nx b _ z fun y=>by rw [y] at q;exact n _ _ q
 ·obtain ⟨m,z⟩:=I.iT.wM b ps q
  show ⟨m,nx b _ z fun y=>by erw [y,e] at z⟩
 ·obtain ⟨a1,a2,a3⟩:=I.pin p hp
  show ⟨a1,nn _ a2,a3⟩
 ·let st:∀{b u'},dk X.prog X.w H s.heap b u' ->dk X.prog X.w (upd H d u) s.heap b u':=fun {b u'} k=>k.wK (fun _ _ _ z=>z) (fun c z=>nx c _ z fun y=>by erw [y,e] at z) fun c xs z=>nx c _ z fun y=>by erw [y,e] at z
  intro b u' q;by_cases hb:b=d
  ·subst hb
   erw [ah] at q;exact st (I.bJ b _ e).2
  ·rw [aj hb] at q
   exact st (I.bJ b u' q)
def aaU (H0:Hp)(t:TS):TS:=fun D Y H=>t {D with nx:=fun Y' H'=>∃d o AA,H' d=some (.eQ o (.dK AA))/\(∀o' u',H0 d≠some (.eQ o' u'))/\D.nx Y' (upd H' d (.dK AA))} Y H
def jA {st:Stmt}(h:PS X st t):PS X st (aaU X.H₀ t):=by
 intro pX s Y H D I q;refine Lj (h pX s Y H _ I q) (fun f s' z=>?_) fun _ _ z=>z;cases f with
 | next=>
  obtain ⟨Y',H',I',d,o,AA,e,n,k⟩:=z;show ⟨Y',_,Inv.aaT I' e n (fun _ z=>nomatch z),k⟩
 | brk=>exact z
 | cont=>exact z
 | ret u=>exact z
def Itk (d:AF)(o:Obj)(AA:γ):It:=
 ⟨fun i H=>H d=some (.eQ o (.dK AA))/\i<AA.length,
  fun i H v H'=>H'=H/\∃k x,AA[i]?=some (k,x)/\v=kV k,
  fun i H=>H d=some (.eQ o (.dK AA))/\AA.length<=i⟩
def ack {K:Frag}(d it:AF)(o:Obj)(AA:γ)(he:o.data=.dict Rn ep):
  Turn P w K tg (Itk d o AA) [it] it (fun i h=>h.IsKeyIter it d i AA.length ep) where
 mem:=by simp
 obj:=fun i h st b hb=>by
  let e:b=it:=by simpa using hb
  subst e;obtain ⟨o,e,c,d⟩:=st;show ⟨o,e,fun v z=>by erw [d] at z⟩
 keep:=fun i h h' st k=>st.at fun o e=>k it ga o e
 item:=by
  intro X hP hw hK hc i pX s Y H E I hf st hg;subst hP hw hK;obtain ⟨fz,hi⟩:=hg;obtain ⟨hd,vs,rel,da,_⟩:=kA I.bJ fz he;let ek:AA[i]?=some AA[i]:=gE hi;obtain ⟨⟨k',u⟩,ev,e1,ru⟩:=aG rel ek;let lv:=rel.length;rw [lv] at st;obtain ⟨f0,f1,f2,f3,f4,f5⟩:=hf it ga;refine wpAny_pyNext_dict_item st da ev fun key h' ze yP sb=>?_;let I1:Inv X pX Y H {s with heap:=h'}:=I.turned (t':=s.toks) (fun b o hb e=>(sb.2 b hb).trans e) f0 f1 f3 f4 f5;rw [<-lv] at yP;obtain ⟨o',e',c',d'⟩:=id yP;have VR :AA[i].1=k':=e1;show ⟨key,rfl,y4 (s:={s with heap:=h'}) e' c' d' dL ⟨kV AA[i].1,H,I1,by rw [VR];exact xl ze,⟨rfl,AA[i].1,AA[i].2,ek,rfl⟩,yP,fun b hb=>(hf b hb).1⟩⟩
 done:=by
  intro X hP hw hK hc i pX s Y H E I hf st hg;subst hP hw hK;obtain ⟨fz,hi⟩:=hg;obtain ⟨hd,vs,rel,da,_⟩:=kA I.bJ fz he;let lv:=rel.length;rw [lv] at st;obtain ⟨f0,f1,f2,f3,f4,f5⟩:=hf it ga;exact wpAny_pyNext_dict_end (I.ok.hd hc) st da (FJ ce) fun h' eb=>⟨rfl,I.turned (t':=s.toks) (fun b o hb e=>eb b o hb e) f0 f1 f3 f4 f5⟩
 self:=fun _ _ _ _ _ st h=>wpAny_pyIter_keyiter st h
inductive O1 (R:(It->Hp->Prop))(x:V)(H1:Hp):Prop
|mk (d AA:_)(_:x=.ref d)(_:H1 d=some (.dK AA))(_:∀o,R (Itk d o AA) (upd H1 d (.eQ o (.dK AA))))
def aaW (te:TE):TI:=fun Y H R=>te Y H fun x H1=>O1 R x H1
def aeI (ho:PE X e te):PI X tg e (aaW te):=by
 intro pX s Y H R I h;refine cK (ho pX s Y H _ I h) fun v s1 ⟨x,H1,I1,r1,q1⟩=>?_;obtain ⟨d,AA,rfl,e,q⟩:=q1;cases r1;obtain ⟨z,hd,vs,rel,o,XA,ep,LC,hx,jf,hk,hp,hn⟩:=nZ I1.bJ e;let da:s1.heap.DictAt (bx X.prog X.w) d vs ep:=⟨o,XA,LC,hx,jf,hk,hp,hn⟩;let lv:=rel.length;let I2:=Inv.freeze I1 e LC;refine wpAny_pyIter_dict hd da ?_;let I3:Inv X pX Y (upd H1 d (.eQ o (.dK AA))) {s1 with heap:=s1.heap.push {cls:=.type "dict_keyiterator",data:=.fields #[.ref d,.int 0 0,.int vs.length 0,.int ep 0]}}:=I2.kept (t':=s1.toks) fun b o e=>FK _ e;show ⟨s1.heap.objs.size,[s1.heap.objs.size],_,_,_,rfl,I3,ack d _ o AA jf,(show Heap.IsKeyIter _ _ d 0 AA.length ep from ⟨_,LL _ rfl,rfl,by rw [lv];rfl⟩),fun b hb=>?_,q o⟩;let eb:b=s1.heap.objs.size:=by simpa using hb
 let le:s1.heap.objs.size<=b:=by rw [eb];exact D' _
 exact I2.nA le (I2.bJ.fresh le)
def zP {g:TG}{tb:TS}{D:Ends}(Pv:Nat->L2.St->Hp->Prop)(h0:Pv 0 Y H)(hl:∀i Y H,i<=AA.length->Pv i Y H->H d=some (.eQ o (.dK AA)))
  (hs:∀i k x Y H,AA[i]?=some (k,x)->Pv i Y H->g (kV k) Y H fun Y2 H2=>tb {D with nx:=Pv (i+1),ct:=Pv (i+1),bk:=D.nx} Y2 H2) (hd:∀Y H,Pv AA.length Y H->D.nx Y H):
  ∃W:Nat->Nat->L2.St->Hp->Prop,(∃m,W 0 m Y H)/\∀i m Y H,W i m Y H->
   ((Itk d o AA).stop i H/\D.nx Y H)\/((Itk d o AA).go i H/\∃N:L2.St->Hp->Prop,(∀Y' H',N Y' H' ->∃m',m'<m/\W (i+1) m' Y' H')/\∀x H',(Itk d o AA).DU i H x H' ->g x Y H' fun Y2 H2=>tb {D with nx:=N,ct:=N,bk:=D.nx} Y2 H2):=by
 show ⟨fun i m Y H=>m=AA.length-i/\i<=AA.length/\Pv i Y H,⟨AA.length,by simp,LS _,h0⟩,?_⟩;rintro i m Y H ⟨rfl,hi,p⟩;let q:=hl i Y H hi p;by_cases jU:i<AA.length
 ·refine .inr ⟨⟨q,jU⟩,Pv (i+1),fun Y' H' z=>⟨AA.length-(i+1),ce,rfl,ce,z⟩,fun x H' y=>?_⟩
  obtain ⟨rfl,k,x',ek,rfl⟩:=y;exact hs i k x' Y _ ek p
 ·let e:i=AA.length:=ce
  subst e;exact .inl ⟨⟨q,D' _⟩,hd Y H p⟩
end
section
variable {prog:FE}{w:World}{KK:Type}[DecidableEq KK]{knd:KeyKind prog w KK}{A:LF}{E:δ}{s:BN}
def zaw (ha:(a==Ls)=false)(hb:(b==Ls)=false)(da:s.heap.DictOf knd a vs)(db:s.heap.DictOf knd b ws)
  (hk:vs.map (·.1)=ws.map (·.1)) (he:∀(i:Nat)(x y:KK×Value),vs[i]?=some x->ws[i]?=some y->SeqAt.EqAt A s x.2 y.2 true) (h:Q true s):AS (AX prog w) A (Builtin.Dict.samePairs nm a b) Q E s:=by
 obtain ⟨oa,ea,pa,hoa,hca,hda,hka,hpa,hna⟩:=id da;obtain ⟨ob,eb,pb,hob,hcb,va,hkb,hpb,hnb⟩:=id db;let la:ea.size=vs.length:=by rw [<-hpa.length];simp
 let lb:eb.size=ws.length:=by rw [<-hpb.length];simp
 let lvw:vs.length=ws.length:=by have:=pj Oq hk;simpa using this
 unfold Builtin.Dict.samePairs Builtin.Dict.showsAll;rw [ni (by rw [ha];exact LM),ni (by rw [hb];exact LM)];refine AO (DY (AO (DY ?_)));refine AO (X8 hoa hda ?_);refine AO (X8 hob va ?_);rw [ni (by rw [la,lb,lvw];simp)];refine AO (vw hoa hda ?_);refine AO ?_;rw [ai7];simp only [apX,Nat.sub_zero,Nat.add_sub_cancel,Nat.div_one];refine wpAny_forIn_list _ (fun rest r s'=>r=⟨none,PUnit.unit⟩/\s'=s/\∃i,rest=List.range' i (ea.size-i)/\i<=ea.size) _ ?_ ?_ _ _ ⟨rfl,rfl,0,by simp,LS _⟩
 ·rintro x rest r s' ⟨rfl,rfl,i,hr,hi⟩
  let jU:i<ea.size:=by
   rcases Nat.lt_or_ge i ea.size with h|h
   ·exact h
   ·rw [Nat.sub_eq_zero_of_le h] at hr;simp at hr
  obtain ⟨rfl,tq⟩:x=i/\rest=List.range' (i+1) (ea.size-(i+1)):=by
   let e:ea.size-i=(ea.size-(i+1))+1:=ce
   rw [e,List.range'_succ] at hr;injection hr with h1 h2
   show ⟨h1,h2⟩
  let hlb:x<eb.size:=ce
  obtain ⟨kv,O3⟩:∃kv,vs[x]?=some kv:=⟨vs[x]'ce,gE _⟩;obtain ⟨kw,hkw⟩:∃kw,ws[x]?=some kw:=⟨ws[x]'ce,gE _⟩;obtain ⟨k,v⟩:=kv;obtain ⟨k2,v2⟩:=kw
  obtain rfl:k=k2:=by
   let e1:(vs.map (·.1))[x]?=some k:=by rw [Wp,O3];rfl
   let e2:(ws.map (·.1))[x]?=some k2:=by rw [Wp,hkw];rfl
   rw [hk,e2] at e1;injection e1 with e1
   exact e1.symm
  obtain ⟨ze,aik⟩:=hpa.get? (e:=ea[x]) (by simp [jU]) O3;obtain ⟨aaX,aaY⟩:=hpb.get? (e:=eb[x]) (by simp [hlb]) hkw;obtain ⟨k',aaZ,aa0⟩:=hka ea[x] (Array.getElem_mem jU);obtain rfl:k'=k:=knd.inj _ _ _ aaZ ze
  let hf:eb.findIdx? (fun e=>knd.is k' e.key)=some x:=by
   rw [Array.findIdx?_eq_some_iff_getElem];show ⟨hlb,aaX,fun j hj z=>?_⟩;let hjb:j<eb.size:=ce
   obtain ⟨⟨kj,vj⟩,hkj⟩:∃kv,ws[j]?=some kv:=⟨ws[j]'ce,gE _⟩;obtain ⟨aa1,_⟩:=hpb.get? (e:=eb[j]) (by simp [hjb]) hkj;let e:=knd.inj _ _ _ z aa1;let e1:(ws.map (·.1))[j]?=some k':=by rw [Wp,hkj,e];rfl
   let e2:(ws.map (·.1))[x]?=some k':=by rw [Wp,hkw];rfl
   have:=(Ta (by simp;omega) hnb).mp (e1.trans e2.symm);omega
  refine AO (X8 hoa hda ?_);rw [ag8 jU];refine AO (OK (AO ?_));rw [aa0];refine wpAny_dictFind_of ze hob va hkb ?_;rw [hf];refine AO (X8 hob va ?_);rw [ag8 hlb];refine OK ?_;rw [aik,aaY];refine he x _ _ O3 hkw prog w _ _ ?_;rw [ni dL];refine AO (vw hoa hda ?_);rw [ni ga];exact DY ⟨rfl,rfl,x+1,tq,ce⟩
 ·rintro r s' ⟨rfl,rfl,i,hr,hi⟩
  exact DY h
open MeetsSeq MeetsSeq2 MeetsSeq3 SeqRoads2 in
open MeetsSeq MeetsSeq2 MeetsSeq3 SeqRoads2 in
end
structure XB (K:Frag)(x qual:Str)(st:Stmt)(f:AF)(fd:FuncData):Prop where
 ex:∃(dV oc:Value)(od:Κ)(kV doc pm:Value)(an:Κ)(cF ct:Value)(uZ:Ν),
  fd=fnOf x qual (au st) (aq st) (ae st) dV kV doc pm an cF ct/\K.lookup f=some ⟨oc,od,.func fd,uZ⟩/\codeIn K cF qual=true
 kp:keepIn K (.ref f)=true
section
variable {P:FE}{w:World}{K:Frag}{mg:ι}{iT:Heap}{CX:nI}
def ad_ {st:Stmt}{od an:Κ}{uZ:Ν}{kV doc pm cF ct:Value}(l:K.lookup f=some ⟨oc,od,.func (fnOf x qual (au st) (aq st) (ae st) dV kV doc pm an cF ct),uZ⟩)
  (c:codeIn K cF qual=true) (k:keepIn K (.ref f)=true):XB K x qual st f (fnOf x qual (au st) (aq st) (ae st) dV kV doc pm an cF ct):=⟨⟨dV,oc,od,kV,doc,pm,an,cF,ct,uZ,rfl,l,c⟩,k⟩
def aeH {st:Stmt}(F:sr K name qual st f fd)(S:av N ps (ae st))(len:∀vs H Q E,sp vs H Q E->vs.length=ps.length)
  (ib:∀(cF:Value)(A:LF)(mB:List Env)(s:BN)(H:Hp)(vs:η)(Q:VK)(E:XK),cM k (A.deeper (Nf qual (ae st) s.heap.objs.size f cF))->sp vs H Q E->
   ∃t,rj (uP P w K mg iT N qual (ae st) f cF A mB s H E).yO (aq st) t/\t {nx:=fun _ H'=>Q .dc H',rt:=Q} (start N vs) H):dH P w K mg iT (aS P w) (k+1) f fd ps sp:=by
 obtain ⟨oc,od,kV,doc,pm,an,cF,ct,uZ,rfl,lk,u6⟩:=F.ex
 exact IJ lk u6 S len fun A mB s H vs Q E hr IK=>by
  obtain ⟨t,h,q⟩:=ib cF A mB s H vs Q E hr IK;show ⟨t,h.yO,q⟩
def afj {st:Stmt}(F:XB K name qual st f fd)(S:av N ps (ae st))(len:∀vs H Q E,sp vs H Q E->vs.length=ps.length)
  (ib:∀(cF:Value)(A:LF)(mB:List Env)(s:BN)(H:Hp)(vs:η)(Q:VK)(E:XK),cM k (A.deeper (Nf qual (ae st) s.heap.objs.size f cF))->sp vs H Q E->
   ∃t,rj (uP P w K mg iT N qual (ae st) f cF A mB s H E).yO (aq st) t/\t {nx:=fun _ H'=>Q .dc H',rt:=Q} (start N vs) H):dH P w K mg iT (aS P w) (k+1) f fd ps sp:=by
 obtain ⟨dV,oc,od,kV,doc,pm,an,cF,ct,uZ,rfl,lk,u6⟩:=F.ex
 exact IJ lk u6 S len fun A mB s H vs Q E hr IK=>by
  obtain ⟨t,h,q⟩:=ib cF A mB s H vs Q E hr IK;show ⟨t,h.yO,q⟩
end
structure ER (P:FE)(w:World)(K:Frag)(mg:ι)(iT:Heap)(CX:nI)(k:Nat)(C:AF)(m:Str)(ps:ς)(ds:ρ)(sp:Sp):Prop where
 ex:∃(f:AF)(fd:FuncData),zf K C/\Meth K C m f/\dH P w K mg iT CX k f fd ps sp/\Binds K fd ps ds
section
variable {X:Cx}{CX:nI}{k:Nat}{E:XK}{m:Str}{pos apos:Pos}{e o:Expr}{es:Ε}{ta:TE}{t:TA}
inductive O6 (P:FE)(w:World)(K:Frag)(mg:ι)(iT:Heap)(CX:nI)(k:Nat)(m:Str)(E:XK)(t:TA)(Y:L2.St)(Q:VK)(x:V)(H1:Hp):Prop
|mk (a C dx fs ps sp:_)(_:x=.ref a)(_:H1 a=some (.ins C dx fs))(_:fs.lookup m=none)(_:ER P w K mg iT CX k C m ps [.none] sp)(_:t Y H1 fun vs H2=>sp (x::vs++[.dc]) H2 Q E)
def aa2 (P:FE)(w:World)(K:Frag)(mg:ι)(iT:Heap)(CX:nI)(k:Nat)(m:Str)(E:XK)(ta:TE)(t:TA):TE:=fun Y H Q=>ta Y H fun x H1=>O6 P w K mg iT CX k m E t Y Q x H1
def adZ {pl:Sem Bool}(he:PE X o ta)(hr:cM k X.A)(hx:Passes CX X E)(ha:PA X (e::es) t)
  (Sw:EC (e::es) X.env=(false,D_ e X.env)::EC es X.env:=by rfl) (qY:(Le pos (EC es X.env)).any (·.1)=false:=by rfl)
  (ht:D_ (.Call (.Attribute o m apos) (e::es) [] pos) X.env=(do
   let ov <- D_ o X.env
   standAt apos.atName
   let (f,first) <- holding [ov] (getMethod ov m pl)
   callWith pos f first (Le pos (EC (e::es) X.env)) (backToKw pos (Xn [] X.env))):=by rfl):
  PE X (.Call (.Attribute o m apos) (e::es) [] pos) (aa2 X.prog X.w X.K X.mg X.iT CX k m E ta t):=by
 intro pX s Y H Q I h;refine PySem.W.methodCall_KW (pl:=pl) (cK (he pX s Y H _ I h) fun u s1 ⟨x,H1,I1,rx,a,C,dx,fs,ps,sp,ex,ea,l,M,q⟩=>?_) ht;subst ex;obtain rfl:u=Value.ref a:=rx;obtain ⟨f,fd,c,hm,F,hb⟩:=M.ex;refine mG I1 ea c hm l ?_;refine yV (first:=[.ref a]) (h₀:=X.iT) I.ok.mod.Zi hm.kp (cK (ha pos pX s1 Y H1 _ I1 q) fun us s2 ⟨vs,H2,I2,r,q2⟩=>⟨I2.mC,?_⟩) Sw qY;exact wX (us:=.ref a::us) (vs:=.ref a::vs) (rl:=[.dc]) F hr hb (.cons rfl .nil) hx I2 (.cons rfl r) q2
end
theorem zQ {κ:Type}[DecidableEq κ]{k:κ}{v:V}:∀{AA:List (κ×V)},bI AA k=some v->(k,v)∈AA
 | p::r,h=>by
  by_cases e:p.1=k
  ·rw [bY e] at h
   cases h;subst e;exact GG ..
  ·rw [bH e] at h
   exact F' _ (zQ h)
theorem bW {κ:Type}[DecidableEq κ]{k:κ}:∀{AA:List (κ×V)},k∉AA.map (·.1)->bI AA k=none
 | [],_=>rfl
 | p::r,h=>by
  rw [DV,LN,not_or] at h;rw [bH (fun e=>h.1 e.symm)];exact bW h.2
theorem pQ {κ:Type}[DecidableEq κ]{k:κ}:∀{AA:List (κ×V)},k∈AA.map (·.1)->∃v,bI AA k=some v
 | p::r,h=>by
  by_cases e:p.1=k
  ·show ⟨_,bY e⟩
  ·rw [bH e]
   rw [DV,LN] at h
   rcases h with h|h
   ·exact DZ h.symm e
   ·exact pQ h
def aea {κ:Type}[DecidableEq κ]{AA:List (κ×V)}{k:κ}{v:V}(P:κ->Prop)(h:∀kv∈AA,P kv.1)(hk:P k):∀kv∈putK AA k v,P kv.1:=by
 unfold putK;split
 ·intro kv m
  obtain ⟨a,ha,e⟩:=AY.mp m;have:=h a ha;by_cases z:a.1=k
  ·rw [ox z] at e;rw [<-e];exact this
  ·rw [ni z] at e;rw [<-e];exact this
 ·intro kv m
  rcases FR.mp m with m|m
  ·exact h kv m
  ·rw [GQ] at m
   rwa [m]
def yR (K:Frag)(H:Hp)(AA:γ)(F:ω):Prop:=
 ∀nm,(bI AA (.inr nm)=none/\F nm=none)\/∃v q,bI AA (.inr nm)=some v/\F nm=some q/\iY K H v q
theorem yR.lh {K:Frag}(h:yR K H AA F)(s:ao H H'):yR K H' AA F:=fun nm=>by
 rcases h nm with h|⟨v,q,h1,h2,h3⟩
 ·exact .inl h
 ·exact .inr ⟨v,q,h1,h2,h3.lh s⟩
def yR.put {K:Frag}(h:yR K H AA F)(n:iY K H v q):yR K H (putK AA (.inr x) v) (fun nm=>if nm=x then some q else F nm):=fun nm=>by
 rw [kr];by_cases e:nm=x
 ·subst e
  exact .inr ⟨v,q,by rw [ox rfl],by show (if nm=nm then some q else F nm)=some q;rw [ox rfl],n⟩
 ·let e':(EX nm:Key)≠.inr x:=fun z=>e (Lr z)
  show (_/\(if nm=x then some q else F nm)=none)\/∃v' q',_/\(if nm=x then some q else F nm)=some q'/\_;rw [ni e',ni e];exact h nm
def yR.zR {K:Frag}(h:yR K H AA G)(n:iY K H v q):iY K H ((bI AA (.inr x)).getD v) ((G x).getD q):=by
 rcases h x with ⟨h1,h2⟩|⟨u,q',h1,h2,h3⟩
 ·rw [h1,h2]
  exact n
 ·rw [h1,h2]
  exact h3
structure O7 (K:Frag)(C:AF):Prop where
 cls:zf K C
 pl:ia K C "pin_places"
 wy:ia K C "pin_ways"
 br:ia K C "bar_ends"
abbrev frF (pP pW pB:AF):List (Str×V):=[("pin_places",.ref pP),("pin_ways",.ref pW),("bar_ends",.ref pB)]
abbrev Pt:=(Int×Int)×(Int×Int)
abbrev _root_.Θ:=List (Str×Pt)
abbrev jg (p:Pt):List Da:=[.t [.v (.int p.1.1),.v (.int p.1.2)],.t [.v (.int p.2.1),.v (.int p.2.2)]]
def a9 (H H':Hp):Prop:=∀b xs,Rd H b (.tup xs)->Rd H' b (.tup xs)
def a9.of (s:ao H H'):a9 H H':=fun b xs e=>by
 rcases e with e|⟨o,e⟩
 ·exact .inl (s _ _ e)
 ·exact .inr ⟨o,s _ _ e⟩
def a9.trans (a:a9 H H1)(b:a9 H1 H2):a9 H H2:=fun c xs e=>b c xs (a c xs e)
def a9.dict (e:H d=some (.dK AA)):a9 H (upd H d o):=fun b xs r=>by
 rcases r with r|⟨o,r⟩
 ·exact .inl (by rw [aj (fun z=>by erw [z,e] at r)];exact r)
 ·exact .inr ⟨o,by rw [aj (fun z=>by erw [z,e] at r)];exact r⟩
def a9.list (e:H d=some (.lst xs)):a9 H (upd H d o):=fun b xs r=>by
 rcases r with r|⟨o,r⟩
 ·exact .inl (by rw [aj (fun z=>by erw [z,e] at r)];exact r)
 ·exact .inr ⟨o,by rw [aj (fun z=>by erw [z,e] at r)];exact r⟩
def a9.bZ {K:Frag}(s:a9 H H')(q:bE K H p xs):bE K H' p xs:=by
 rcases q with q|q
 ·exact .inl (s _ _ q)
 ·exact .inr q
def iY.aH {K:Frag}(h:iY K H v q)(s:a9 H H'):iY K H' v q:=by
 obtain ⟨p,e,k⟩:=h;show ⟨p,e,s.bZ k⟩
theorem yR.aH {K:Frag}(h:yR K H AA F)(s:a9 H H'):yR K H' AA F:=fun nm=>by
 rcases h nm with h|⟨v,q,h1,h2,h3⟩
 ·exact .inl h
 ·exact .inr ⟨v,q,h1,h2,h3.aH s⟩
def Spot (K:Frag)(H:Hp)(v:V)(p:Pt):Prop:=∃a u1 u2,v=.ref a/\bE K H a [u1,u2]/\iY K H u1 p.1/\iY K H u2 p.2
theorem Spot.aH {K:Frag}(h:Spot K H v p)(s:a9 H H'):Spot K H' v p:=by
 obtain ⟨a,u1,u2,e,h1,h2,h3⟩:=h;show ⟨a,u1,u2,e,s.bZ h1,h2.aH s,h3.aH s⟩
def lK {K:Frag}(h:iY K H v q):Is K H (.t [.v (.int q.1),.v (.int q.2)]) v:=by
 obtain ⟨p,rfl,e⟩:=h;unfold Is;show ⟨p,_,rfl,e,?_⟩;unfold js;show ⟨by unfold Is;show ⟨rfl,rfl⟩,?_⟩;unfold js;show ⟨by unfold Is;show ⟨rfl,rfl⟩,?_⟩;unfold js;trivial
def Spot.is {K:Frag}(h:Spot K H v p):Is K H (.t (jg p)) v:=by
 obtain ⟨a,u1,u2,rfl,h1,h2,h3⟩:=h;unfold Is;show ⟨a,_,rfl,h1,?_⟩;unfold js;show ⟨lK h2,?_⟩;unfold js;show ⟨lK h3,?_⟩;unfold js;trivial
def aet (p q:Pt):cO (jg p) (jg q)=decide (p=q):=by
 let e:cO (jg p) (jg q)=((p.1.1==q.1.1 && (p.1.2==q.1.2 && true)) && ((p.2.1==q.2.1 && (p.2.2==q.2.2 && true)) && true)):=by
  simp only [jg,cO,iH,nK]
 rw [e];obtain ⟨⟨a,b⟩,c,d⟩:=p;obtain ⟨⟨a',b'⟩,c',d'⟩:=q;by_cases h:a=a' <;> by_cases h1:b=b' <;> by_cases h2:c=c' <;> by_cases h3:d=d' <;> simp [h,h1,h2,h3,Prod.mk.injEq]
def aii (p q:Pt):dW (jg p) (jg q)=true:=by simp [jg,dW,alike]
def adH (p:Pt):jy (jg p)<=60:=by simp [jg,jy,dep]
structure gX (K:Frag)(H:Hp)(C a dx pP pW pB:AF)(ps:Θ)(bs:Α)(kP kW kB:γ):Prop where
 obj:H a=some (.ins C dx (frF pP pW pB))
 pl:H pP=some (.dK kP)
 wy:H pW=some (.dK kW)
 br:H pB=some (.dK kB)
 ne1:pP≠pW
 ne2:pP≠pB
 ne3:pW≠pB
 rp:Paired (fun (p:Str×Pt) (kv:Key×V)=>kv.1=.inr p.1/\Spot K H kv.2 p.2) ps kP
 rb:Paired (fun (b:Str×Str×Str) (kv:Key×V)=>kv.1=.inr b.1/\∃p,kv.2=.ref p/\Rd H p (.tup [.str b.2.1,.str b.2.2])) bs kB
section
variable {K:Frag}{H H':Hp}{C a dx pP pW pB:AF}{ps:Θ}{bs:Α}{kP kW kB:γ}
theorem iL {R:(Str×Z)->(Key×V)->Prop}:∀{l:List (Str×Z)} {AA:γ},Paired (fun b kv=>kv.1=.inr b.1/\R b kv) l AA->AA.map (·.1)=l.map (fun b=>(EX b.1:Key))
 | _,_,.nil=>rfl
 | _,_,.cons h t=>by rw [DV,DV,h.1,iL t]
def iM {l:ς}:(EX x:Key)∈l.map (fun b=>(EX b:Key)) ↔ x∈l:=by
 constructor
 ·intro h
  obtain ⟨y,hy,e⟩:=AY.mp h;exact Lr e▸hy
 ·exact fun h=>AY.mpr ⟨x,h,rfl⟩
def gX.O9 (R:gX K H C a dx pP pW pB ps bs kP kW kB)(s:a9 H H')(h1:H' a=H a)(h2:H' pP=H pP)(h3:H' pW=H pW)(h4:H' pB=H pB):gX K H' C a dx pP pW pB ps bs kP kW kB:=
 ⟨h1.trans R.obj,h2.trans R.pl,h3.trans R.wy,h4.trans R.br,R.ne1,R.ne2,R.ne3,Paired.cV R.rp fun _ _ h=>⟨h.1,h.2.aH s⟩,Paired.cV R.rb fun _ _ h=>⟨h.1,by obtain ⟨p,e,k⟩:=h.2;show ⟨p,e,s _ _ k⟩⟩⟩
def gX.lh (R:gX K H C a dx pP pW pB ps bs kP kW kB)(s:ao H H'):gX K H' C a dx pP pW pB ps bs kP kW kB:=
 R.O9 (.of s) ((s _ _ R.obj).trans R.obj.symm) ((s _ _ R.pl).trans R.pl.symm) ((s _ _ R.wy).trans R.wy.symm) ((s _ _ R.br).trans R.br.symm)
def gX.tu (R:gX K H C a dx pP pW pB ps bs kP kW kB):kB.map (·.1)=(bs.map (·.1)).map (fun b=>(EX b:Key)):=by
 rw [iL R.rb,EB];rfl
def gX.JJ (R:gX K H C a dx pP pW pB ps bs kP kW kB):kP.map (·.1)=(ps.map (·.1)).map (fun b=>(EX b:Key)):=by
 rw [iL R.rp,EB];rfl
def gX.bar (R:gX K H C a dx pP pW pB ps bs kP kW kB)(x:Str):(bI kB (.inr x)).isSome=decide (x∈bs.map (·.1)):=by
 by_cases h:x∈bs.map (·.1)
 ·obtain ⟨v,e⟩:=pQ (AA:=kB) (k:=.inr x) (by rw [R.tu];exact iM.mpr h)
  rw [e,La h];rfl
 ·rw [bW (by rw [R.tu];exact fun z=>h (iM.mp z)),PH h]
  rfl
def gX.pin (R:gX K H C a dx pP pW pB ps bs kP kW kB)(x:Str):(bI kP (.inr x)).isSome=decide (x∈ps.map (·.1)):=by
 by_cases h:x∈ps.map (·.1)
 ·obtain ⟨v,e⟩:=pQ (AA:=kP) (k:=.inr x) (by rw [R.JJ];exact iM.mpr h)
  rw [e,La h];rfl
 ·rw [bW (by rw [R.JJ];exact fun z=>h (iM.mp z)),PH h]
  rfl
def gX.ab (R:gX K H C a dx pP pW pB ps bs kP kW kB):a≠pP/\a≠pW/\a≠pB:=
 ⟨fun z=>(by have h:=R.obj;erw [z,R.pl] at h),fun z=>(by have h:=R.obj;erw [z,R.wy] at h),fun z=>(by have h:=R.obj;erw [z,R.br] at h)⟩
def gX.XC (R:gX K H C a dx pP pW pB ps bs kP kW kB)(ht:Rd H t (.tup [.str one,.str lj])):
  gX K (upd H pB (.dK (kB++[(.inr x,.ref t)]))) C a dx pP pW pB ps (bs++[(x,one,lj)]) kP kW (kB++[(.inr x,.ref t)]):=by
 let s:a9 H (upd H pB (.dK (kB++[(.inr x,.ref t)]))):=.dict R.br
 show ⟨by rw [aj R.ab.2.2];exact R.obj,by rw [aj R.ne2];exact R.pl,by rw [aj R.ne3];exact R.wy,ah,R.ne1,R.ne2,R.ne3,Paired.cV R.rp fun _ _ h=>⟨h.1,h.2.aH s⟩,
  Tx (Paired.cV R.rb fun _ _ h=>⟨h.1,by obtain ⟨p,e,k⟩:=h.2;show ⟨p,e,s _ _ k⟩⟩) ⟨rfl,t,rfl,s _ _ ht⟩⟩
theorem gw :∀{l:List Z} {m:List β},Paired R l m->Paired (fun b a=>R a b) m l
 | _,_,.nil=>.nil
 | _,_,.cons h t=>.cons h (gw t)
def gX.XD (R:gX K H C a dx pP pW pB ps bs kP kW kB)(ht:Spot K H (.ref t) p):
  gX K (upd H pP (.dK (kP++[(.inr x,.ref t)]))) C a dx pP pW pB (ps++[(x,p)]) bs (kP++[(.inr x,.ref t)]) kW kB:=by
 let s:a9 H (upd H pP (.dK (kP++[(.inr x,.ref t)]))):=.dict R.pl
 show ⟨by rw [aj R.ab.1];exact R.obj,ah,by rw [aj (FT R.ne1)];exact R.wy,by rw [aj (FT R.ne2)];exact R.br,R.ne1,R.ne2,R.ne3,
  Tx (Paired.cV R.rp fun _ _ h=>⟨h.1,h.2.aH s⟩) ⟨rfl,ht.aH s⟩,Paired.cV R.rb fun _ _ h=>⟨h.1,by obtain ⟨p,e,k⟩:=h.2;show ⟨p,e,s _ _ k⟩⟩⟩
def gX.JK (R:gX K H C a dx pP pW pB ps bs kP kW kB)(zX :γ):gX K (upd H pW (.dK zX)) C a dx pP pW pB ps bs kP zX kB:=by
 let s:a9 H (upd H pW (.dK zX)):=.dict R.wy
 show ⟨by rw [aj R.ab.2.1];exact R.obj,by rw [aj R.ne1];exact R.pl,ah,by rw [aj (FT R.ne3)];exact R.br,R.ne1,R.ne2,R.ne3,
  Paired.cV R.rp fun _ _ h=>⟨h.1,h.2.aH s⟩,Paired.cV R.rb fun _ _ h=>⟨h.1,by obtain ⟨p,e,k⟩:=h.2;show ⟨p,e,s _ _ k⟩⟩⟩
def we (xs:ς):(xs.map V.str).all kc=true:=by
 rw [ajv,List.all_eq_true];exact fun _ _=>rfl
theorem tw :∀(xs:ς),Zn (.str x) (xs.map V.str)=decide (x∈xs)
 | []=>rfl
 | y::ys=>by
  let ih:=tw (x:=x) ys;unfold Zn at ih ⊢;rw [DV,WZ,ih];by_cases e:y=x
  ·subst e
   simp [nK]
  ·let e':¬ x=y:=fun z=>e z.symm
   simp [nK,e,e']
end
open Builtin.Int (intBits)
def qr (r:Rat):Int×Int:=(r.num,(r.den:Int))
def cX (r:Rat):0<(qr r).2:=by
 have:=r.den_pos;show (0:Int)<(r.den:Int);omega
def tD (r:Rat):LI (qr r).1 (qr r).2=1:=by
 have:=r.reduced;show LI r.num (r.den:Int)=1;unfold LI;simpa [Nat.Coprime] using this
def dY (r:Rat):vl (qr r)=r:=by
 show (r.num:Rat) / ((r.den:Int):Rat)=r;rw [<-ajw];exact ajg r
def zY (h:0<q.2)(g:LI q.1 q.2=1):q=qr (vl q):=ajH h (cX _) g (tD _) (dY _).symm
def kC (h:b≠0):low t b=qr ((t:Rat) / (b:Rat)):=by
 rw [<-mL h];exact zY (lD h) (rC h)
def ES (h:qr a=qr b):a=b:=by
 rw [<-dY a,<-dY b,h]
def tE (i:Int):qr (i:Rat)=(i,1):=by
 let e:(i,(1:Int))=qr (vl (i,1)):=zY (by show (0:Int)<1;decide) (by show LI i 1=1;simp)
 let v:vl (i,(1:Int))=(i:Rat):=by
  unfold vl;show (i:Rat) / ((1:Int):Rat)=i;have:((1:Int):Rat)=1:=by rfl
  rw [this];grind
 rw [e,v]
def ET (r:Rat):qr (-r)=(-(qr r).1,(qr r).2):=by
 let e:((-(qr r).1,(qr r).2):Int×Int)=qr (vl (-(qr r).1,(qr r).2)):=zY (cX r) (by
  have:=tD r;show LI (-(qr r).1) (qr r).2=1;rw [Int.neg_gcd]
  exact this)
 let v:vl (-(qr r).1,(qr r).2)= -r:=by
  let h:=dY r;unfold vl at h ⊢;push_cast;rw [<-h];grind
 rw [e,v]
def EU :((qr r).2:Rat)≠0:=cz (LJ (cX r))
def O_ (a b:Rat):low ((qr a).1*(qr b).2+(qr b).1*(qr a).2) ((qr a).2*(qr b).2)=qr (a+b):=by
 let ha:=cX a;let hb:=cX b;rw [kC (LJ (Oo ha hb))];let e1:=dY a;let e2:=dY b;let z1:=EU (r:=a);let z2:=EU (r:=b);unfold vl at e1 e2;congr 1;push_cast;grind
def Pa (a b:Rat):low ((qr a).1*(qr b).2-(qr b).1*(qr a).2) ((qr a).2*(qr b).2)=qr (a-b):=by
 let ha:=cX a;let hb:=cX b;rw [kC (LJ (Oo ha hb))];let e1:=dY a;let e2:=dY b;let z1:=EU (r:=a);let z2:=EU (r:=b);unfold vl at e1 e2;congr 1;push_cast;grind
def Pb (a b:Rat):low ((qr a).1*(qr b).1) ((qr a).2*(qr b).2)=qr (a*b):=by
 let ha:=cX a;let hb:=cX b;rw [kC (LJ (Oo ha hb))];let e1:=dY a;let e2:=dY b;let z1:=EU (r:=a);let z2:=EU (r:=b);unfold vl at e1 e2;congr 1;push_cast;grind
structure Sz (k:Nat)(r:Rat):Prop where
 top:intBits (qr r).1<=k
 bot:intBits (qr r).2<=k
def Sz.up (h:Sz k r)(kl:k<=l):Sz l r:=⟨BJ h.top kl,BJ h.bot kl⟩
def abp (ha:intBits a<=k)(hb:intBits b<=k):intBits (a+b)<=k+1:=by
 rw [Xr] at ha hb ⊢;have:=TV a b;rw [Tb];omega
def acp (ha:intBits a<=k)(hb:intBits b<=k):intBits (a-b)<=k+1:=by
 rw [Xr] at ha hb ⊢;have:=Int.natAbs_sub_le a b;rw [Tb];omega
def tF (hb:b≠0)(h1:intBits t<=k)(h2:intBits b<=k):Sz k ((t:Rat) / (b:Rat)):=by
 rw [<-mL hb];let e:=zY (lD (t:=t) hb) (rC hb);show ⟨by rw [<-e];exact α7 (mH hb) h1,by rw [<-e];exact α7 (mI hb) h2⟩
def Pc (hb:b≠0)(e:low t b=qr r)(h1:intBits t<=k)(h2:intBits b<=k):Sz k r:=by
 let z:=kC (t:=t) hb;rw [z] at e;have:=ES e;rw [<-this];exact tF hb h1 h2
def Sz.add (ha:Sz k a)(hb:Sz l b):Sz (k+l+1) (a+b):=
 Pc (LJ (Oo (cX a) (cX b))) (O_ a b) (abp (M_ ha.top hb.bot) (by rw [YG];exact M_ hb.top ha.bot)) (ais (M_ ha.bot hb.bot))
def Sz.sub (ha:Sz k a)(hb:Sz l b):Sz (k+l+1) (a-b):=
 Pc (LJ (Oo (cX a) (cX b))) (Pa a b) (acp (M_ ha.top hb.bot) (by rw [YG];exact M_ hb.top ha.bot)) (ais (M_ ha.bot hb.bot))
def Sz.mul (ha:Sz k a)(hb:Sz l b):Sz (k+l) (a*b):=
 Pc (LJ (Oo (cX a) (cX b))) (Pb a b) (M_ ha.top hb.top) (M_ ha.bot hb.bot)
def Sz.neg (ha:Sz k a):Sz k (-a):=by
 show ⟨?_,?_⟩
 ·rw [ET]
  have:=ha.top;rw [Xr] at this ⊢;show (-(qr a).1).natAbs<2^k;rw [ai6];exact this
 ·rw [ET]
  exact ha.bot
def tG {i:Int}(h:i.natAbs<2^k)(hk:1<=k):Sz k (i:Rat):=by
 show ⟨?_,?_⟩
 ·rw [tE]
  exact intBits_le_iff.mpr h
 ·rw [tE]
  refine intBits_le_iff.mpr ?_;show 1<2^k;exact Nat.one_lt_two_pow ce
def dh (K:Frag)(H:Hp)(v:V)(r:Rat):Prop:=iY K H v (qr r)
def i8 (K:Frag)(H:Hp)(v:V)(p:Rat×Rat):Prop:=∃a u1 u2,v=.ref a/\bE K H a [u1,u2]/\dh K H u1 p.1/\dh K H u2 p.2
section
variable {K:Frag}{H H':Hp}{v:V}{r:Rat}{p:Rat×Rat}
theorem dh.aH (h:dh K H v r)(s:a9 H H'):dh K H' v r:=iY.aH h s
theorem dh.lh (h:dh K H v r)(s:ao H H'):dh K H' v r:=iY.lh h s
theorem i8.aH (h:i8 K H v p)(s:a9 H H'):i8 K H' v p:=by
 obtain ⟨a,u1,u2,e,h1,h2,h3⟩:=h;show ⟨a,u1,u2,e,s.bZ h1,h2.aH s,h3.aH s⟩
def i8.lh (h:i8 K H v p)(s:ao H H'):i8 K H' v p:=h.aH (.of s)
abbrev Pd (p:Rat×Rat):Pt:=(qr p.1,qr p.2)
def q_ (K:Frag)(H:Hp)(us:η)(ps:Ο):Prop:=Paired (i8 K H) us ps
theorem q_.aH (h:q_ K H us ps)(s:a9 H H'):q_ K H' us ps:=Paired.cV h fun _ _ z=>z.aH s
def q_.lh (h:q_ K H us ps)(s:ao H H'):q_ K H' us ps:=h.aH (.of s)
end
def jB {R:(Str×Z)->(Key×V)->Prop}:∀{l:List (Str×Z)} {AA:γ},Paired (fun b kv=>kv.1=.inr b.1/\R b kv) l AA->(l.map (·.1)).Nodup->(x,y)∈l->∃v,bI AA (.inr x)=some v/\R (x,y) (.inr x,v):=fun {l AA} p nd m=>by
 induction p with
 | nil=>cases m
 | cons h t ih=>
  rw [DV,M9] at nd
  rcases LN.mp m with e|m
  ·subst e
   show ⟨_,bY h.1,?_⟩;let h2:=h.2;rwa [<-h.1]
  ·obtain ⟨v,e,r⟩:=ih nd.2 m
   show ⟨v,?_,r⟩;rw [bH (fun z=>?_)]
   ·exact e
   ·rw [h.1] at z
    exact nd.1 (Lr z▸AY.mpr ⟨_,m,rfl⟩)
def DK (K:Frag)(H:Hp)(pw:Τ)(kW:γ):Prop:=
 Paired (fun (p:Str×List (Rat×Rat)) (kv:Key×V)=>kv.1=.inr p.1/\∃l us,kv.2=.ref l/\H l=some (.lst us)/\q_ K H us p.2) pw kW
theorem DK.lh {K:Frag}(h:DK K H pw kW)(s:ao H H'):DK K H' pw kW:=
 Paired.cV h fun _ _ z=>⟨z.1,by obtain ⟨l,us,e1,e2,e3⟩:=z.2;show ⟨l,us,e1,s _ _ e2,e3.lh s⟩⟩
theorem DK.dict {K:Frag}(h:DK K H pw kW)(e:H d=some (.dK AA)):DK K (upd H d o) pw kW:=
 Paired.cV h fun _ _ z=>⟨z.1,by
  obtain ⟨l,us,e1,e2,e3⟩:=z.2
  show ⟨l,us,e1,by rw [aj (fun q=>by erw [q,e] at e2)];exact e2,e3.aH (.dict e)⟩⟩
def DK.keys {K:Frag}(h:DK K H pw kW):kW.map (·.1)=(pw.map (·.1)).map (fun b=>(EX b:Key)):=by
 rw [iL h,EB];rfl
def gX.ends {K:Frag}(R:gX K H C a dx pP pW pB ps bs kP kW kB)(nd:(bs.map (·.1)).Nodup)(m:(x,one,lj)∈bs):
  ∃p,bI kB (.inr x)=some (.ref p)/\Rd H p (.tup [.str one,.str lj]):=by
 obtain ⟨v,e,p,ep,r⟩:=jB R.rb nd m;have Zj :v=.ref p:=ep;show ⟨p,by rw [e,Zj],r⟩
def gX.place {K:Frag}(R:gX K H C a dx pP pW pB ps bs kP kW kB)(nd:(ps.map (·.1)).Nodup)(m:(x,p)∈ps):
  ∃v,bI kP (.inr x)=some v/\Spot K H v p:=jB R.rp nd m
structure aA where
 nm:Str
 sp:Rat×Rat
 ws:List (Rat×Rat)
abbrev _root_.ν:=List aA
structure aL where
 nm:Str
 one:aA
 lj:aA
abbrev _root_.τ:=List aL
inductive xp (K:Frag)(H:Hp)(C a:AF)(pX:ν)(gV:τ):Prop
|mk (dx pP pW pB:AF)(kP kW kB:γ)(_:gX K H C a dx pP pW pB (pX.map fun p=>(p.nm,Pd p.sp)) (gV.map fun b=>(b.nm,b.one.nm,b.lj.nm)) kP kW kB)(_:DK K H (pX.map fun p=>(p.nm,p.ws)) kW)
def xp.ex {K:Frag}(h:xp K H C a pX gV):xp K H C a pX gV:=h
structure dJ (pX:ν)(gV:τ):Prop where
 np:(pX.map (·.nm)).Nodup
 nb:(gV.map (·.nm)).Nodup
 ends:∀b∈gV,b.one∈pX/\b.lj∈pX/\b.one.nm≠b.lj.nm
 sz:∀p∈pX,Sz 27 p.sp.1/\Sz 27 p.sp.2/\∀w∈p.ws,Sz 22 w.1/\Sz 22 w.2
 lp:pX.length<=9
 lb:gV.length<=26
 lw:∀p∈pX,p.ws.length<=2
theorem xp.lh {K:Frag}(h:xp K H C a pX gV)(s:ao H H'):xp K H' C a pX gV:=by
 obtain ⟨dx,pP,pW,pB,kP,kW,kB,R,W⟩:=h.ex;show ⟨dx,pP,pW,pB,kP,kW,kB,R.lh s,W.lh s⟩
def Pe (K:Frag)(H:Hp)(AA:γ)(F:θ):Prop:=
 ∀nm,(bI AA (.inr nm)=none/\F nm=none)\/∃v p,bI AA (.inr nm)=some v/\F nm=some p/\i8 K H v p
section
variable {K:Frag}{H H':Hp}{AA:γ}
theorem Pe.lh (h:Pe K H AA F)(s:ao H H'):Pe K H' AA F:=fun nm=>by
 rcases h nm with h|⟨v,q,h1,h2,h3⟩
 ·exact .inl h
 ·exact .inr ⟨v,q,h1,h2,h3.lh s⟩
def Pe.zR (h:Pe K H AA F)(n:i8 K H v q):i8 K H ((bI AA (.inr x)).getD v) ((F x).getD q):=by
 rcases h x with ⟨h1,h2⟩|⟨u,q',h1,h2,h3⟩
 ·rw [h1,h2]
  exact n
 ·rw [h1,h2]
  exact h3
end
def zau {K:Frag}{g:TG}{tb:TS}{D:Ends}(Pv:Nat->L2.St->Hp->Prop)(h0:Pv 0 Y H)(hl:∀i Y H,Pv i Y H->aR K H a xs/\aR K H b ys)
  (hs:∀i x y Y H p,xs[i]?=some x->ys[i]?=some y->Pv i Y H->H p=none->g (.ref p) Y (upd H p (.tup [x,y])) fun Y2 H2=>tb {D with nx:=Pv (i+1),ct:=Pv (i+1),bk:=D.nx} Y2 H2) (hd:∀Y H,Pv (min xs.length ys.length) Y H->D.nx Y H):
  ∃W:Nat->Nat->L2.St->Hp->Prop,(∃m,W 0 m Y H)/\∀i m Y H,W i m Y H->
   ((Xo K a b).stop i H/\D.nx Y H)\/((Xo K a b).go i H/\∃N:L2.St->Hp->Prop,(∀Y' H',N Y' H' ->∃m',m'<m/\W (i+1) m' Y' H')/\∀x H',(Xo K a b).DU i H x H' ->g x Y H' fun Y2 H2=>tb {D with nx:=N,ct:=N,bk:=D.nx} Y2 H2):=by
 show ⟨fun i m Y H=>m=min xs.length ys.length-i/\i<=min xs.length ys.length/\Pv i Y H,⟨min xs.length ys.length,by simp,LS _,h0⟩,?_⟩;rintro i m Y H ⟨rfl,hi,p⟩;obtain ⟨q1,q2⟩:=hl i Y H p;by_cases jU:i<min xs.length ys.length
 ·let l1:i<xs.length:=ce
  let l2:i<ys.length:=ce
  refine .inr ⟨⟨xs,ys,xs[i],ys[i],q1,q2,gE l1,gE l2⟩,Pv (i+1),fun Y' H' z=>⟨min xs.length ys.length-(i+1),ce,rfl,ce,z⟩,fun v H' y=>?_⟩;obtain ⟨c,x,y,e1,e2,rfl,nc,rfl⟩:=y;exact hs i x y Y H c (e1 xs q1) (e2 ys q2) p nc
 ·let e:i=min xs.length ys.length:=ce
  subst e;exact .inl ⟨⟨xs,ys,q1,q2,ce⟩,hd Y H p⟩
def aeB {Z:Type}{nm:Z->Str}{l:List Z}(nd:(l.map nm).Nodup){b b':Z}(h:b∈l)(h':b' ∈l)(e:nm b=nm b'):b=b':=by
 obtain ⟨i,hi,ei⟩:=Ug.mp h;obtain ⟨j,hj,ej⟩:=Ug.mp h';let q1:(l.map nm)[i]?=some (nm b):=by rw [Wp,gE hi,ei];rfl
 let q2:(l.map nm)[j]?=some (nm b):=by rw [Wp,gE hj,ej,e];rfl
 let ij:=(Ta (by rwa [ir]) nd).mp (q1.trans q2.symm);subst ij;rw [<-ei,<-ej]
def iu {Z:Type}{nm:Z->Str}{l:List Z}(nd:(l.map nm).Nodup){b b':Z}(h:l[i]?=some b)(m:b' ∈l.take i):nm b'≠nm b:=fun e=>by
 let il:=(be.mp h).1;obtain ⟨j,hj,ej⟩:=Ug.mp m;rw [AW] at ej;rw [FU] at hj;let q1:(l.map nm)[j]?=some (nm b):=by rw [Wp,gE ce,ej,<-e];rfl
 let q2:(l.map nm)[i]?=some (nm b):=by rw [Wp,h];rfl
 have:=(Ta (by rw [ir];omega) nd).mp (q1.trans q2.symm);omega
def take_snoc {Z:Type}{l:List Z}{b:Z}(h:l[i]?=some b):l.take (i+1)=l.take i++[b]:=by rw [Ot,h];rfl
def acs {xs:ς}(h:xs.Nodup):(xs.map fun x=>(EX x:Key)).Nodup:=by
 unfold yU;rw [AR];exact List.Pairwise.imp (fun h e=>h (Lr e)) h
def pR (s:ao H H')(n:H' p=none):H p=none:=by
 cases e:H p with
 | none=>rfl
 | some o=>erw [s _ _ e] at n
section
variable {D:AF}{te:TE}{ph:L2.St}{H1:Hp}{Q:VK}
def zan {K:Frag}(Rel:Ψ)(nD:H1 D=none)(hn:xs.length<AZ)(hS:∀H,ao H1 H->bE K H a xs)
  (hR:∀i v H H' ys,H D=some (.lst ys)->bL D H H' ->Rel i v H->Rel i v H')
  (he:∀i x H (R:VK),xs[i]?=some x->ao H1 H->(∀v H6,ao H H6->Rel i v H6->R v H6)->te (some x::ph) H R)
  (hd:∀ys H,ys.length=xs.length->(∀i v,ys[i]?=some v->Rel i v H)->ao H1 H->H D=some (.lst ys)->Q (.ref D) H):
  mK D (cy 0) jV te (Zk K a) (none::ph) H1 Q:=by
 refine sL xs.length (fun i=>(xs[i]?).getD .dc) Rel nD hn (fun i H hi s=>⟨⟨xs,xs[i],hS H s,gE hi⟩,fun x H' y=>⟨y.1,?_⟩⟩) (fun H s=>⟨xs,hS H s,D' _⟩) hR (fun i H R hi s k=>?_) hd
 ·rw [y.2 xs (hS H s)];rfl
 ·let e:xs[i]?=some xs[i]:=gE hi
  let k':=he i _ H R e s k;rw [<-(show (xs[i]?).getD .dc=xs[i] by rw [e];rfl)] at k';exact k'
end
abbrev iw (h:Heap)(z TI TO:AF)(f0:Value)(fb:Bool):Prop:=
 h.get? z=some {cls:=.type "zip",dict:=none,data:=.fields #[f0,.bool fb,.bool false,.ref TI,.ref TO],slots:= #[]}
section
variable {prog:FE}{w:World}{A:LF}{E:δ}{s:BN}
def aif (h:s.heap.get? a=some o)(q:Q (some o) s):AS (AX prog w) A (loadIfAlive a) Q E s:=fun Γ p _=>by
 show Sem.wp _ _ (.loadIfAlive a .pure) _ _ _ _;rwa [Sem.wp_loadIfAlive,h]
def z9 {z TI TO T:AF}(hz:iw s.heap z TI TO (Ld T) fb)(hT:s.heap.get? T=some o)
  (hQ:∀h',iw h' z TI TO (Ld T) true->Px z s.heap h' ->Q false {s with heap:=h'}):AS (AX prog w) A (TC (.ref z)) Q E s:=by
 unfold TC;refine AO (Ly hz rfl (x:=Ld T) rfl ?_);show AS _ _ (loadIfAlive ((T:Int)).toNat >>=_) _ _ _;refine AO (aif (o:=o) (by simpa using hT) ?_);simp only [Option.isNone_some,TX,if_false];refine AO (Ly hz rfl (x:=.bool fb) rfl ?_);cases fb with
 | true=>
  show AS _ _ (if (Value.bool true !=Value.bool true)=true then _ else _) _ _ _;rw [ni dL];exact DY (hQ s.heap hz ⟨rfl,fun _ _=>rfl⟩)
 | false=>
  show AS _ _ (if (Value.bool false !=Value.bool true)=true then _ else _) _ _ _;rw [ox dL];refine AO (X6 hz ga fun h' hz' VS =>DY (hQ h' hz' VS))
def acv {z TI TO T i1 i2 l1 l2:AF}{xs ys:Λ}{Q:δ}(D:ZipApart z TI TO i1 i2 l1 l2)
  (hz:iw s.heap z TI TO (Ld T) fb) (hT:s.heap.get? T=some o) (gJ:LK s.heap TI (.ref i1) (.ref i2))
  (h1:s.heap.IsListIter i1 l1 k1) (h2:s.heap.IsListIter i2 l2 k2) (JL:s.heap.IsList l1 xs) (EG:s.heap.IsList l2 ys) (hx:xs[k1]?=some x) (hy:ys[k2]?=some y)
  (hQ:∀h',iw h' z TI TO (Ld T) true->h'.IsListIter i1 l1 (k1+1)->h'.IsListIter i2 l2 (k2+1)->LK h' s.heap.objs.size x y->h'.objs.size=s.heap.objs.size+1->
   (∀c o,c≠z->c≠i1->c≠i2->s.heap.get? c=some o->h'.get? c=some o)->Q (.ref s.heap.objs.size) {s with heap:=h'}):
  AS (AX prog w) A (Builtin.«zip.__next__» ⟨[.ref z],[]⟩) (fun fin s'=>∃v,fin=.done (.ret v)/\Q v s') E s:=by
 show AS _ _ (field (.ref z) 2 >>=_) _ _ _;refine AO (Ly hz rfl (x:=.bool false) rfl ?_);show AS _ _ (field (.ref z) 3 >>=_) _ _ _;refine AO (Ly hz rfl (x:=.ref TI) rfl ?_);refine AO (S1 gJ rfl ?_);show AS _ _ (TC (.ref z) >>=_) _ _ _;refine AO (z9 hz hT fun qQ hz₁ EV=>?_);simp only [TX,if_false];refine AO ?_;show AS _ _ (forIn [Value.ref i1,Value.ref i2].toArray _ _) _ _ _;rw [ajm];simp only [BO,zW];refine AO (AO (OK ?_));show AS _ _ (QF (.ref i1) >>=_) _ _ _;refine AO (JA (h1.extBut EV.extBut D.i1z) (JL.extBut EV.extBut D.l1z) hx fun uN h1₂ Pg=>DY ?_);refine DY ?_;refine AO (AO (OK ?_));show AS _ _ (QF (.ref i2) >>=_) _ _ _;refine AO (JA ((h2.extBut EV.extBut D.i2z).extBut Pg.extBut D.i12.symm) ((EG.extBut EV.extBut D.l2z).extBut Pg.extBut D.l2i1) hy fun h₄ h2₄ Zr=>DY ?_);refine DY (DY ?_);refine AO (wpAny_newTuple (hsz:=(by show 2<=AZ;decide)) ?_);let hsz:h₄.objs.size=s.heap.objs.size:=by rw [Zr.1,Pg.1,EV.1]
 refine DY ⟨_,rfl,?_⟩;let hz₄:iw h₄ z TI TO (Ld T) true:=Zr.extBut _ _ D.i2z.symm (Pg.extBut _ _ D.i1z.symm hz₁);show Q (.ref h₄.objs.size) _;rw [hsz];refine hQ _ (FK _ hz₄) ((h1₂.extBut Zr.extBut D.i12).at fun o e=>FK _ e) (h2₄.at fun o e=>FK _ e) ?_ (by rw [QQ,hsz]) fun c o c1 c3 c4 e=>FK _ (Zr.extBut _ _ c4 (Pg.extBut _ _ c3 (EV.extBut _ _ c1 e)));show (h₄.push _).get? _=_;rw [<-hsz];exact LL _ rfl
def zad {z TI TO T i1 i2 l1 l2:AF}{xs ys:Λ}(hh:A.handled=none)(D:ZipApart z TI TO i1 i2 l1 l2)
  (hz:iw s.heap z TI TO (Ld T) fb) (hT:s.heap.get? T=some o) (gJ:LK s.heap TI (.ref i1) (.ref i2))
  (h1:s.heap.IsListIter i1 l1 k1) (h2:s.heap.IsListIter i2 l2 k2) (JL:s.heap.IsList l1 xs) (EG:s.heap.IsList l2 ys) (LQ:xs[k1]?=none\/ys[k2]?=none)
  (hE:∀h' e,(∀c o,c≠z->c≠i1->c≠i2->s.heap.get? c=some o->h'.get? c=some o)->(∃o,h'.get? e=some o/\o.cls=.type "StopIteration")->E (.ref e) {s with heap:=h'}):
  AS (AX prog w) A (Builtin.«zip.__next__» ⟨[.ref z],[]⟩) Q E s:=by
 show AS _ _ (field (.ref z) 2 >>=_) _ _ _;refine AO (Ly hz rfl (x:=.bool false) rfl ?_);show AS _ _ (field (.ref z) 3 >>=_) _ _ _;refine AO (Ly hz rfl (x:=.ref TI) rfl ?_);refine AO (S1 gJ rfl ?_);show AS _ _ (TC (.ref z) >>=_) _ _ _;refine AO (z9 hz hT fun qQ hz₁ EV=>?_);simp only [TX,if_false];refine AO ?_;show AS _ _ (forIn [Value.ref i1,Value.ref i2].toArray _ _) _ _ _;rw [ajm];simp only [BO,zW];refine AO (AO (OK ?_));show AS _ _ (QF (.ref i1) >>=_) _ _ _;cases hx:xs[k1]? with
 | none=>
  refine AO (wpAny_nextOf_list_end hh (h1.extBut EV.extBut D.i1z) (JL.extBut EV.extBut D.l1z) hx fun uN e Pg he=>?_);exact hE uN e (fun c o c1 c3 _ x=>Pg _ _ c3 (EV.extBut _ _ c1 x)) he
 | some x=>
  let hy:ys[k2]?=none:=by rcases LQ with h|h;erw [hx] at h;exact h
  refine AO (JA (h1.extBut EV.extBut D.i1z) (JL.extBut EV.extBut D.l1z) hx fun uN h1₂ Pg=>DY ?_);refine DY ?_;refine AO (AO (OK ?_));show AS _ _ (QF (.ref i2) >>=_) _ _ _;refine AO (wpAny_nextOf_list_end hh ((h2.extBut EV.extBut D.i2z).extBut Pg.extBut D.i12.symm) ((EG.extBut EV.extBut D.l2z).extBut Pg.extBut D.l2i1) hy fun h₄ e Zr he=>?_);exact hE h₄ e (fun c o c1 c3 c4 x=>Zr _ _ c4 (Pg.extBut _ _ c3 (EV.extBut _ _ c1 x))) he
def adI {z TI TO T i1 i2 l1 l2:AF}{xs ys:Λ}{Q:Ξ}(D:ZipApart z TI TO i1 i2 l1 l2)
  (hz:iw s.heap z TI TO (Ld T) fb) (hT:s.heap.get? T=some o) (gJ:LK s.heap TI (.ref i1) (.ref i2))
  (h1:s.heap.IsListIter i1 l1 k1) (h2:s.heap.IsListIter i2 l2 k2) (JL:s.heap.IsList l1 xs) (EG:s.heap.IsList l2 ys) (hx:xs[k1]?=some x) (hy:ys[k2]?=some y)
  (hQ:∀h',iw h' z TI TO (Ld T) true->h'.IsListIter i1 l1 (k1+1)->h'.IsListIter i2 l2 (k2+1)->LK h' s.heap.objs.size x y->h'.objs.size=s.heap.objs.size+1->
   (∀c o,c≠z->c≠i1->c≠i2->s.heap.get? c=some o->h'.get? c=some o)->Q (some (.ref s.heap.objs.size)) {s with heap:=h'}):
  AS (AX prog w) A (Nn (.ref z)) Q E s:=by
 let hT':s.TypeIs (.ref z) "zip":=⟨_,hz,rfl⟩;unfold Nn
 exact AO (wpAny_attempt (wpAny_callSpecial?_slot (name:=N7 "__next__") hT' T2
  (S2 T2 hT' xT
   (acv D hz hT gJ h1 h2 JL EG hx hy fun h' a1 a3 a4 a5 a6 a7=>DY (hQ h' a1 a3 a4 a5 a6 a7)) (yf _))))
def aa6 {z TI TO T i1 i2 l1 l2:AF}{xs ys:Λ}{Q:Ξ}(hh:A.handled=none)(D:ZipApart z TI TO i1 i2 l1 l2)
  (hz:iw s.heap z TI TO (Ld T) fb) (hT:s.heap.get? T=some o) (gJ:LK s.heap TI (.ref i1) (.ref i2))
  (h1:s.heap.IsListIter i1 l1 k1) (h2:s.heap.IsListIter i2 l2 k2) (JL:s.heap.IsList l1 xs) (EG:s.heap.IsList l2 ys) (LQ:xs[k1]?=none\/ys[k2]?=none)
  (hQ:∀h',(∀c o,c≠z->c≠i1->c≠i2->s.heap.get? c=some o->h'.get? c=some o)->Q none {s with heap:=h'}):AS (AX prog w) A (Nn (.ref z)) Q E s:=by
 let hT':s.TypeIs (.ref z) "zip":=⟨_,hz,rfl⟩;unfold Nn
 refine AO (wpAny_attempt (wpAny_callSpecial?_slot (name:=N7 "__next__") hT' T2
  (S2 T2 hT' xT (zad hh D hz hT gJ h1 h2 JL EG LQ fun h' e hk he=>?_) (yf _))))
 obtain ⟨o,ho,hc⟩:=he;refine AO (xV (T:="StopIteration") (b:=true) ⟨o,ho,hc⟩ isSubtype_stop ?_);exact DY (hQ _ hk)
end
def Rp (h:Heap)(z TI TO i1 i2 a b S:AF)(i:Nat):Prop:=(iw h z TI TO .none false\/∃(T:AF)(o:Obj)(fb:Bool),iw h z TI TO (Ld T) fb/\h.get? T=some o/\T≠z/\T≠TO/\T≠i1/\T≠i2/\T≠S)/\LK h TI (.ref i1) (.ref i2)/\(∃x y,LK h TO x y)/\h.IsListIter i1 a i/\h.IsListIter i2 b i
section
variable {prog:FE}{w:World}{A:LF}{E:δ}{s:BN}{z TI TO i1 i2 a b S:AF}{i:Nat}
def Rp.frame (st:Rp h z TI TO i1 i2 a b S i)(k:∀c o,c≠S->h.get? c=some o->h'.get? c=some o)(nz:z≠S)(n1:TI≠S)(n2:TO≠S)(n3:i1≠S)(n4:i2≠S):Rp h' z TI TO i1 i2 a b S i:=by
 obtain ⟨hz,gJ,⟨x,y,lG⟩,h1,h2⟩:=st;show ⟨?_,k _ _ n1 gJ,⟨x,y,k _ _ n2 lG⟩,h1.at fun o e=>k _ o n3 e,h2.at fun o e=>k _ o n4 e⟩
 rcases hz with hz|⟨T,o,fb,hz,hT,t1,t2,t3,t4,t5⟩
 ·exact .inl (k _ _ nz hz)
 ·exact .inr ⟨T,o,fb,k _ _ nz hz,k _ _ t5 hT,t1,t2,t3,t4,t5⟩
def Rp.item {xs ys:Λ}{Q:Ξ}(D:ZipApart z TI TO i1 i2 a b)(st:Rp s.heap z TI TO i1 i2 a b S i)(hS:s.heap.get? S=some oS)
  (JL:s.heap.IsList a xs) (EG:s.heap.IsList b ys) (hx:xs[i]?=some x) (hy:ys[i]?=some y)
  (hQ:∀h',Rp h' z TI TO i1 i2 a b S (i+1)->LK h' s.heap.objs.size x y->(∀c o,c∉[z,TI,TO,i1,i2]->s.heap.get? c=some o->h'.get? c=some o)->Q (some (.ref s.heap.objs.size)) {s with heap:=h'}):
  AS (AX prog w) A (Nn (.ref z)) Q E s:=by
 obtain ⟨hz,gJ,⟨x0,y0,lG⟩,h1,h2⟩:=st;let lt:∀{c o},s.heap.get? c=some o->s.heap.objs.size≠c:=fun e=>SY (EF e);let e1:∃o,s.heap.get? i1=some o:=by obtain ⟨o,e,_⟩:=h1;show ⟨o,e⟩
 let e2:∃o,s.heap.get? i2=some o:=by obtain ⟨o,e,_⟩:=h2;show ⟨o,e⟩
 obtain ⟨o1,e1⟩:=e1;obtain ⟨o2,e2⟩:=e2;let nin:∀{c:AF},c∉[z,TI,TO,i1,i2]->c≠z/\c≠TI/\c≠TO/\c≠i1/\c≠i2:=fun h=>by simpa using h
 rcases hz with hz|⟨T,o,fb,hz,hT,t1,t2,t3,t4,t5⟩
 ·refine wpAny_pyNext_zip_item D hz gJ lG h1 h2 JL EG hx hy fun h' a1 a2 a3 a4 a5 a6 a7=>?_
  refine hQ h' ⟨.inr ⟨_,_,false,a1,a5,lt hz,lt lG,lt e1,lt e2,lt hS⟩,a7 _ _ D.TIz D.TITO D.TIi1 D.TIi2 gJ,⟨_,_,a2⟩,a3,a4⟩ a5 fun c o hc e=>?_;obtain ⟨c1,c2,c3,c4,c5⟩:=nin hc;exact a7 c o c1 c3 c4 c5 e
 ·refine adI D hz hT gJ h1 h2 JL EG hx hy fun h' a1 a3 a4 a5 a6 a7=>?_
  refine hQ h' ⟨.inr ⟨T,o,true,a1,a7 _ _ t1 t3 t4 hT,t1,t2,t3,t4,t5⟩,a7 _ _ D.TIz D.TIi1 D.TIi2 gJ,⟨_,_,a7 _ _ D.TOz D.TOi1 D.TOi2 lG⟩,a3,a4⟩ a5 fun c o hc e=>?_;obtain ⟨c1,c2,c3,c4,c5⟩:=nin hc;exact a7 c o c1 c4 c5 e
def Rp.fin {xs ys:Λ}{Q:Ξ}(hh:A.handled=none)(D:ZipApart z TI TO i1 i2 a b)(st:Rp s.heap z TI TO i1 i2 a b S i)
  (JL:s.heap.IsList a xs) (EG:s.heap.IsList b ys) (LQ:xs[i]?=none\/ys[i]?=none)
  (hQ:∀h',(∀c o,c∉[z,TI,TO,i1,i2]->s.heap.get? c=some o->h'.get? c=some o)->Q none {s with heap:=h'}):AS (AX prog w) A (Nn (.ref z)) Q E s:=by
 obtain ⟨hz,gJ,⟨x0,y0,lG⟩,h1,h2⟩:=st;let nin:∀{c:AF},c∉[z,TI,TO,i1,i2]->c≠z/\c≠TI/\c≠TO/\c≠i1/\c≠i2:=fun h=>by simpa using h
 rcases hz with hz|⟨T,o,fb,hz,hT,t1,t2,t3,t4,t5⟩
 ·refine wpAny_pyNext_zip_end hh D hz gJ lG h1 h2 JL EG LQ fun h' kk=>hQ h' fun c o hc e=>?_
  obtain ⟨c1,c2,c3,c4,c5⟩:=nin hc;exact kk c o c1 c3 c4 c5 e
 ·refine aa6 hh D hz hT gJ h1 h2 JL EG LQ fun h' kk=>hQ h' fun c o hc e=>?_
  obtain ⟨c1,c2,c3,c4,c5⟩:=nin hc;exact kk c o c1 c4 c5 e
end
section
variable {X:Cx}{pX:ε}{Y:L2.St}
def adj (h:H p=none)(o:HO):ao H (upd H p o):=fun b u q=>by rwa [aj (ak q h)]
end
def zal (l:AF)(AP:Λ)(n:Nat)(b:AF)(fV:Λ)(n2:Nat)(d:Κ)(sl:Ν)(hs0:¬(!AP.isEmpty && α3 (AP.size+fV.size))=true)(hs1:AP.size<=AZ)(IH:AP.size+fV.size<=AZ+1):
  Meets (Builtin.«list.extend» ⟨[.ref l,.ref b],[]⟩) (fun _ R s=>s.heap.get? l=some {cls:=.type "list",dict:=none,data:=.seq AP n,slots:= #[]}/\s.heap.get? b=some {cls:=.type "tuple",dict:=d,data:=.seq fV n2,slots:=sl}/\
   R (.ok (.ret Value.none)) {s with heap:=s.heap.update l (QR fun x=>x++fV),toks:=s.toks}):=
 .of_wp fun prog w A R s h=>by
  obtain ⟨hp,g,dd,tk,os⟩:=s;obtain ⟨hl,hb,h⟩:=h;let f1:=AutoSeq1.idx_int;let f2:=AutoSeq1.sub_tuple_tuple;let f3:=AutoSeq1.sub_list_list;let f4:=AutoSeq1.sub_tuple_list;let f5:=AutoSeq1.sub_list_tuple;let hz':(AP++fV).size<=AZ+1:=by rwa [Array.size_append]
  wp_walk using (wY hl rfl (hz:=hs1) (_hz':=hz')),wpAny_loadPart' hl,wpAny_loadPart' hb
  show ⟨_,rfl,h⟩
section
variable {X:Cx}
def aa5 (K:Frag):V->List V->Hp->VK->Prop:=fun x vs H Q=>∃l b xs zs,x=.ref l/\vs=[.ref b]/\H l=some (.lst xs)/\bE K H b zs/\xs.length+zs.length<=1000/\Q .dc (upd H l (.lst (xs++zs)))
def agE:MtR X "list.extend" (aa5 X.K):=by
 intro pX s Y H x vs v us Q I rx rv h;obtain ⟨l,b,xs,zs,rfl,rfl,hH,hB,hz,q⟩:=h;cases rx;obtain ⟨u,rfl,ru⟩:=rv.one;cases ru;obtain ⟨z,AP,n,r,hl,e⟩:=I.so hH;obtain ⟨fV,r2,tp,z2⟩:=I.tuple hB;let EG:=r2.length;let big:(1000:Nat)<=AZ:=dL
 let hsz:AP.toArray.size+fV.toArray.size<=AZ:=by rw [LV,LV];omega
 let OA:¬ (!AP.toArray.isEmpty && α3 (AP.toArray.size+fV.toArray.size))=true:=by
  rw [zk hsz,zZ];exact LM
 obtain ⟨⟨c,d,dt,sl⟩,e2,hc,n2,hd⟩:=tp;obtain rfl:c=Value.type "tuple":=hc;obtain rfl:dt=_:=hd
 refine call_meets F.slot_list_extend ⟨_,e,rfl⟩ F.entry_list_extend (F.args_list_extend_2 _ _)
  (zal l AP.toArray n b fV.toArray n2 d sl OA (by rw [LV];omega) ce) ⟨e,e2,?_⟩
 show ⟨.dc,_,I.aak (qR:=AP++fV) hH e ga (r.append r2) ?_,rfl,q⟩;rw [EM];omega
end
def akA:typeLookup (.type "zip") "__getattr__"=pure none:=by rw [typeLookup_type,builtinLookup_eq_fast];kernel_rfl
def abE:typeLookup (.type "zip") "keys"=pure none:=by rw [typeLookup_type,builtinLookup_eq_fast];kernel_rfl
def acZ:entryFor table "zip.__getattribute__"=some Builtin.«object.__getattribute__»:=
 entryFor_alias (id':="object.__getattribute__") (by kernel_rfl) (by decide+kernel) (by decide+kernel) (by kernel_rfl)
def qD:entryFor table "dict.update.loop"=some Builtin.«dict.update.loop»:=entryFor_of_tree (by kernel_rfl)
def iN:plainId "dict.update.loop"=true:=by decide+kernel
def aix (a:AF)(vs:Λ)(u:Tok):
  Meets (Builtin.«object.__getattribute__» ⟨[.ref a,.str "keys" u],[]⟩) (fun A R s=>s.heap.get? a=some {cls:=.type "zip",dict:=none,data:=.fields vs,slots:= #[]}/\raisesAttr (.ref a) "keys" A R s):=
 Meets.of_wp fun prog w A R s hs=>by
  obtain ⟨hp,g,d,tk,os⟩:=s;obtain ⟨hx,hs⟩:=hs;let hT:(⟨hp,g,d,tk,os⟩:BN).TypeIs (.ref a) "zip":=⟨_,hx,rfl⟩;let hm:=abE;unfold Builtin.«object.__getattribute__»
  repeat (any_goals (first|(assumption)|wp_step))
  exact wpAny_raiseAttrError hs.1 hs.2 (attrMsg_fits (by decide+kernel) (by decide+kernel))
section
variable {prog:FE}{w:World}{A:LF}{E:δ}{s:BN}
def ai_ {vs:Λ}{Q:Ξ}(hx:s.heap.get? z=some {cls:=.type "zip",dict:=none,data:=.fields vs,slots:= #[]})(hA:A.handled=none)
  (h:∀h' tk,(∀b o,s.heap.get? b=some o->h'.get? b=some o)->Q none {s with heap:=h',toks:=tk}):AS (AX prog w) A (getAttr? (.ref z) "keys") Q E s:=by
 obtain ⟨hp,g,d,tk,os⟩:=s;let hT:∀tk',(⟨hp,g,d,tk',os⟩:BN).TypeIs (.ref z) "zip":=fun _=>⟨_,hx,rfl⟩;let f1:=sub_AttributeError;let f3:=F.slot_zip_getattribute.lookup;let f4:=F.slot_zip_getattribute.bind (.ref z);let f5:=akA;unfold getAttr? getAttrBy? getAttrBy
 repeat (any_goals (first|(assumption)|exact hT _|((with_reducible show AS _ _ (call (Value.builtin "zip.__getattribute__") _ _) _ _ _);refine call_meets F.slot_zip_getattribute (hT _) acZ (F.args_zip_getattribute_2 _ _) (aix z vs _) ⟨hx,hA,fun h' tk' e Rl =>?_⟩)|wp_step))
 obtain ⟨t',u',he⟩:=Rl.there;show AS _ _ (getattributeRaised _ _ _ _ _ _ _) _ _ _;unfold getattributeRaised
 repeat (any_goals (first|(assumption)|wp_step))
 exact h _ _ Rl.keeps
def zaG {z TI TO:AF}{Q:δ}(hA:A.in1.in1.handled=none)(hz:Lv s.heap z TI TO f0)
  (hL:∀(h':Heap)(tk:Nat)(R:Φ),(∀b o,s.heap.get? b=some o->h'.get? b=some o)->h'.get? s.heap.objs.size=some {cls:=.type "dict",data:=.dict #[]}->
   (∀s',Q (.ref s.heap.objs.size) s' ->R (.ok (.ret .none)) s')->Lz (AX prog w) A.in1 (.builtin "dict.update.loop" ⟨[.ref s.heap.objs.size,.ref z,Ld 0,.none],[]⟩) R {s with heap:=h',toks:=tk}):
  AS (AX prog w) A (call (.type "dict") [.ref z]) Q E s:=by
 refine callType_codes (Q₁:=fun obj oW=>obj=.ref s.heap.objs.size/\oW={s with heap:=s.heap.push {cls:=.type "dict",data:=.dict #[]}}) F.kt_called_dict (F.kt_typeCall_dict_1 _) F.entry_dict_init (kt_code_dict_new _ ⟨rfl,rfl⟩) ?_;rintro obj oW ⟨rfl,rfl⟩;let hS:(s.heap.push {cls:=.type "dict",data:=.dict #[]}).get? s.heap.objs.size=some {cls:=.type "dict",data:=.dict #[]}:=LL _ rfl;let k0:∀b o,s.heap.get? b=some o->(s.heap.push {cls:=.type "dict",data:=.dict #[]}).get? b=some o:=fun b o e=>FK _ e;generalize hN:s.heap.objs.size=S at hS hL ⊢;generalize s.heap.push {cls:=.type "dict",data:=.dict #[]}=hp at hS k0 ⊢;let hz2:hp.get? z=_:=k0 _ _ hz;let hTS:Shared.TypeIs {s with heap:=hp} (.ref S) "dict":=⟨_,hS,rfl⟩;let hT:Shared.TypeIs {s with heap:=hp} (.ref z) "zip":=⟨_,hz2,rfl⟩;show ⟨hTS,F.args_dict_init_2 _ _,?_⟩;unfold Builtin.«dict.__init__»;refine AO ?_;unfold Builtin.Dict.selfAndRest;refine AO (wpAny_notOrdered_dict hTS ?_);refine DY ?_;show AS _ _ (Builtin.Dict.updateFrom "dict.__init__" S (.ref z) [] .none) _ _ _;unfold Builtin.Dict.updateFrom;refine AO (Xj hT ?_);rw [ox dL];refine AO (ai_ (s:={s with heap:=hp}) hz2 hA fun h' tk k1=>?_);rw [ox (by rfl)];refine AO (wpAny_rule ?_);let hz3:Lv h' z TI TO f0:=k1 _ _ hz2;refine AO (Yq (s:={s with heap:=h',toks:=tk}) hz3 ?_);exact DY ⟨plainId_quiet iN _,hL _ _ _ (fun b o e=>k1 _ _ (k0 _ _ e)) (k1 _ _ hS) fun s' hq=>⟨rfl,hq⟩⟩
end
section
variable {X:Cx}{pX:ε}{Y:L2.St}
def kvs (AA more:γ)(kv:Key×V):dD AA (more++[kv])=putK (dD AA more) kv.1 kv.2:=by
 unfold dD;rw [ajA];rfl
def zay {z TI TO i1 i2 a b S:AF}{R:Φ}{ks:List Key}(hh:A'.in1.handled=none)(D:ZipApart z TI TO i1 i2 a b)(na:a≠S)(nb:b≠S)(hk1:ks.length<=1000):
  ∀(k i:Nat)(s:BN)(H:Hp),min ks.length ys.length-i=k->i<=min ks.length ys.length->Inv X pX Y H s->(∀c∈[z,TI,TO,i1,i2],pC X pX H c)->Rp s.heap z TI TO i1 i2 a b S i->
  H a=some (.lst (ks.map kV))->H b=some (.lst ys)->H S=some (.dK (dD [] ((ks.zip ys).take i)))->bL S H0 H->
  (∀s' H',Inv X pX Y H' s' ->bL S H0 H' ->H' S=some (.dK (dD [] (ks.zip ys)))->R (.ok (.ret .none)) s')->
  Lz (AX X.prog X.w) A' (.builtin "dict.update.loop" ⟨[.ref S,.ref z,Ld (i:Int),.none],[]⟩) R s:=by
 let aA1:(ks.zip ys).length=min ks.length ys.length:=ajY;intro k
 induction k with
 | zero=>
  intro i s H hk hi I hf st ha hb hS hks hR;refine codeAny_builtin qD ?_;rw [Around.under_plainId iN _];show AS _ A'.in1 (Nn (.ref z) >>=_) _ _ s;obtain ⟨z1,AP,n1,r1,l1,e1⟩:=I.so ha;obtain ⟨z2,Xp,n2,r2,l2,e2⟩:=I.so hb;rw [ir] at l1;refine AO (st.fin hh D ⟨_,e1,rfl,_,rfl⟩ ⟨_,e2,rfl,_,rfl⟩ ?_ fun h' kk=>?_)
  ·by_cases c:ks.length<=i
   ·exact .inl (by simp;omega)
   ·exact .inr (by simp;omega)
  ·rw [PZ ce] at hS
   exact AO (DY (DY (hR _ H (Inv.nY (t':=s.toks) I kk hf) hks hS)))
 | succ k ih=>
  intro i s H hk hi I hf st ha hb hS hks hR;refine codeAny_builtin qD ?_;rw [Around.under_plainId iN _];show AS _ A'.in1 (Nn (.ref z) >>=_) _ _ s;obtain ⟨z1,AP,n1,r1,l1,e1⟩:=I.so ha;obtain ⟨z2,Xp,n2,r2,l2,e2⟩:=I.so hb;let lx:i<ks.length:=ce
  let ly:i<ys.length:=ce
  obtain ⟨u,hu,ru⟩:=r1.get (i:=i) (x:=kV ks[i]) (by rw [Wp,gE lx];rfl);obtain ⟨v,hv,rv⟩:=r2.get (i:=i) (x:=ys[i]) (gE ly);obtain ⟨zS0,aA2,vs0,aio,dd0⟩:=nZ I.bJ hS;obtain ⟨oS,_,_,eS,_⟩:=id dd0;refine AO (st.item D eS ⟨_,e1,rfl,_,rfl⟩ ⟨_,e2,rfl,_,rfl⟩ (x:=u) (y:=v) (by simpa using hu) (by simpa using hv) fun h' yP ht kk=>?_)
  let Zs:∀c∈[z,TI,TO,i1,i2],c≠S:=fun c hc e=>by
   have:=(hf c hc).1;erw [e,hS] at this
  let I2:Inv X pX Y H {s with heap:=h',toks:=s.toks}:=Inv.nY (t':=s.toks) I kk hf;obtain ⟨zS,hdS,vs,rel,dd⟩:=nZ I2.bJ hS;let hT:Shared.TypeIs {s with heap:=h',toks:=s.toks} (.ref s.heap.objs.size) "tuple":=⟨_,ht,rfl⟩;refine AO (OK ?_);refine AO (wpAny_tryCatch ?_);unfold Builtin.Dict.pairItems;refine AO (Xj hT ?_);rw [ox dL];refine AO (S1 ht rfl (DY ?_));show AS _ A'.in1 (holding [u,v] (dictSet S u v)) _ _ _;refine OK ?_;let hlen:vs.length<=AZ:=by rwa [<-rel.length]
  refine wpAny_dictSet_pairs (hsz:=hlen) (qB ru) dd fun h2 dd2 sb=>?_;let he:∃q,h2.get? S=some q:=let ⟨q,_,_,hq,_⟩:=dd2;⟨q,hq⟩
  let etk:(ks.zip ys).take (i+1)=(ks.zip ys).take i++[(ks[i],ys[i])]:=by
   rw [Ot];have:(ks.zip ys)[i]?=some (ks[i],ys[i]):=by rw [ag9];show ⟨gE lx,gE ly⟩
   rw [this];rfl
  let aa7:dD [] ((ks.zip ys).take (i+1))=putK (dD [] ((ks.zip ys).take i)) ks[i] ys[i]:=by rw [etk,kvs]
  let hl:(putK (dD [] ((ks.zip ys).take i)) ks[i] ys[i]).length<=AZ:=by
   rw [<-aa7];let h1:=iX ((ks.zip ys).take (i+1)) [];rw [FU,aiX] at h1;exact BJ (show (dD [] ((ks.zip ys).take (i+1))).length<=1000 by omega) dL
  let I3:Inv X pX Y (upd H S (.dK (putK (dD [] ((ks.zip ys).take i)) ks[i] ys[i]))) {s with heap:=h2,toks:=s.toks+1}:=rK (s:={s with heap:=h',toks:=s.toks}) (t':=s.toks+1) I2 (by rw [hS];exact True.intro) sb he (EJ hl hdS (rel.put ks[i] rv) dd2);let kS:∀c o,c≠S->h'.get? c=some o->h2.get? c=some o:=fun c o n e=>(sb.2 c n).trans e;refine DY ⟨plainId_quiet iN _,?_⟩;let nn:∀{c:AF} {o:HO},H c=some o->c≠S->(upd H S (.dK (putK (dD [] ((ks.zip ys).take i)) ks[i] ys[i]))) c=some o:=fun {c o} e n=>by rwa [aj n]
  refine ih (i+1) _ _ ce ce I3 (fun c hc=>?_) (yP.frame kS (Zs z ga) (Zs TI ga) (Zs TO ga) (Zs i1 ga) (Zs i2 ga)) (nn ha na) (nn hb nb) (by rw [aa7,ah]) (fun c o n e=>nn (hks c o n e) n) hR;obtain ⟨f0,f1,f2,f3,f4,f5⟩:=hf c hc;show ⟨by rwa [aj (Zs c hc)],f1,f2,f3,f4,f5⟩
def zax (ta:TA):TE:=fun Y H Q=>ta Y H fun vs H1=>∃(a b:AF)(ks:List Key)(ys:η),vs=[.ref a,.ref b]/\H1 a=some (.lst (ks.map kV))/\H1 b=some (.lst ys)/\ks.length<=1000/\
 ∀(l:AF)(H':Hp),ao H1 H' ->H1 l=none->H' l=some (.dK (dD [] (ks.zip ys)))->Q (.ref l) H'
def boot_dict:Lm "dict"=some (.type "dict"):=by decide+kernel
def agv {p pos p' pos':Pos}(hc:X.calm=true)(hgl:Gl X "dict")(hml:X.mg "dict"=none)(hg:Gl X "zip")(hm:X.mg "zip"=none)(ha:PA X [e1,e2] ta)(hs:EC [e1,e2] X.env=[(false,D_ e1 X.env),(false,D_ e2 X.env)]:=by rfl)(IH:EC [e2] X.env=[(false,D_ e2 X.env)]:=by rfl)
  (hs3:EC [(.Call (.Name "zip" p) [e1,e2] [] pos:Expr)] X.env=[(false,D_ (.Call (.Name "zip" p) [e1,e2] [] pos) X.env)]:=by rfl):
  PE X (.Call (.Name "dict" p') [.Call (.Name "zip" p) [e1,e2] [] pos] [] pos') (zax ta):=by
 intro pX s Y H Q I h;refine Call_ (jt I hgl hml boot_dict (To ?_ hs3 rfl));rw [hs3];show AS _ _ (spliced ((false,D_ (.Call (.Name "zip" p) [e1,e2] [] pos) X.env)::[])) _ _ s;refine ZS ?_;refine Call_ (jt I hg hm boot_zip (To (cK (ha pos pX s Y H _ I h) fun us s1 ⟨vs,H1,I1,r1,q1⟩=>?_) (by rw [hs,IH]) (by rw [IH];rfl)));obtain ⟨a,b,ks,ys,e,hx,hy,hkl,q⟩:=q1;subst e;cases r1 with
 | cons r rr=>
  cases rr with
  | cons r' rr=>
   cases rr;cases r;cases r';obtain ⟨z1,AP,n1,r1,l1,e1⟩:=I1.so hx;obtain ⟨z2,Xp,n2,r2,l2,e2⟩:=I1.so hy;let lt1:a<s1.heap.objs.size:=EF e1;let lt2:b<s1.heap.objs.size:=EF e2;refine call_zip_2 ⟨_,e1,rfl,_,rfl⟩ ⟨_,e2,rfl,_,rfl⟩ fun h' hz gJ lG zv Xq hsz hk=>Calls.spliced_nil ?_;let I2:Inv X pX Y H1 {s1 with heap:=h',toks:=s1.toks}:=I1.kept (t':=s1.toks) hk;let hS:=I2.bJ.fresh (D' h'.objs.size);refine zaG (s:={s1 with heap:=h'}) (I1.ok.hd hc) hz fun h2 tk R k2 V1 hR=>?_;let lt':EW<h'.objs.size:=(I2.mod.glob.keeps I2.bk).lt;let ns:(h'.objs.size==Ls)=false:=beq_eq_false_iff_ne.mpr (FT (LO (zq dL lt')));let I3:Inv X pX Y (upd H1 h'.objs.size (.dK [])) {s1 with heap:=h2,toks:=tk}:=I2.laid (t':=tk) k2 (D' _) ⟨LS _,ns,[],.nil,_,_,_,V1,⟨rfl,rfl,rfl⟩,rfl,fun _ he=>by simp at he,Pairs.nil,ai9⟩
   let st:Rp h2 (s1.heap.objs.size+4) (s1.heap.objs.size+2) (s1.heap.objs.size+3) s1.heap.objs.size (s1.heap.objs.size+1) a b h'.objs.size 0:=
    ⟨.inl (k2 _ _ hz),k2 _ _ gJ,⟨_,_,k2 _ _ lG⟩,zv.at fun o e=>k2 _ o e,Xq.at fun o e=>k2 _ o e⟩
   let na:a≠h'.objs.size:=ak hx hS;let nb:b≠h'.objs.size:=ak hy hS;let AB:=adj hS (.dK []);refine zay (A':=X.A.in1) (H0:=H1) (ks:=ks) (ys:=ys) (I1.ok.hd hc) ?_ na nb hkl (min ks.length ys.length) 0 _ _ ce (LS _) I3 (fun c' qX =>?_) st (AB _ _ hx) (AB _ _ hy) ah (fun b' o n e=>AB _ _ e) fun s' H' I' ks' Xy =>hR s' ⟨.ref h'.objs.size,H',I',rfl,q _ H' (fun b' o e=>ks' b' o (ak e hS) e) hS Xy⟩
   ·constructor<;>(intro z;simp only [AF] at*;omega)
   ·let hc2:c'=s1.heap.objs.size+4\/c'=s1.heap.objs.size+2\/c'=s1.heap.objs.size+3\/c'=s1.heap.objs.size\/c'=s1.heap.objs.size+1:=by simpa using qX
    let hb:s1.heap.objs.size<=c':=by
     simp only [AF] at*;omega
    let hb2:c'≠h'.objs.size:=by
     rw [hsz];simp only [AF] at*;omega
    refine I1.nA hb ?_;rw [aj hb2];exact I1.bJ.fresh hb
end
def cP.snoc {K:Frag}(h:cP K H us qs)(n:iY K H v q):cP K H (us++[v]) (qs++[q]):=by
 show ⟨by simp [h.1],fun i u q' e1 e2=>?_⟩;let l:=h.1;by_cases c:i<us.length
 ·rw [LR c] at e1
  rw [LR ce] at e2;exact h.2 i u q' e1 e2
 ·rw [Lg ce] at e1 e2
  by_cases z:i-us.length=0
  ·rw [z] at e1
   rw [show i-qs.length=0 by omega] at e2;cases e1;cases e2;exact n
  ·rw [FJ (by simp;omega)] at e1
   cases e1
theorem cP.aH {K:Frag}(h:cP K H us qs)(s:a9 H H'):cP K H' us qs:=⟨h.1,fun i u q e1 e2=>(h.2 i u q e1 e2).aH s⟩
variable {X:Cx}
section
variable {X:Cx}{pX:ε}{Y:L2.St}{H:Hp}{s:BN}
inductive JM (R:(It->Hp->Prop))(x:V)(H1:Hp):Prop
|mk (d AA:_)(_:x=.ref d)(_:H1 d=some (.dK AA))(_:∀o,R (Itv d o AA) (upd H1 d (.eQ o (.dK AA))))
def zar (te:TE):TI:=fun Y H R=>te Y H fun x H1=>JM R x H1
def agn {apos fU:Pos}{tg:Expr}(ho:PE X e te)(r9:Tj e "values" X.env (D_ e X.env)=D_ e X.env:=by rfl)(r_:(apos.endLine==fU.line)=true:=by rfl):
  PI X tg (.Call (.Attribute e "values" apos) [] [] fU) (zar te):=by
 intro pX s Y H R I h;refine wpAny_Call_method0_late r9 r_ (cK (ho pX s Y H _ I h) fun v s1 ⟨x,H1,I1,r1,q1⟩=>?_);obtain ⟨d,AA,rfl,e,q⟩:=q1;cases r1;obtain ⟨h1,h2,hd⟩:=EL I1 (.inl ⟨AA,.inl e⟩);obtain ⟨z,Rj,vs,rel,o,XA,ep,LC,hx,jf,hk,hp,hn⟩:=nZ I1.bJ e;let da:s1.heap.DictAt (bx X.prog X.w) d vs ep:=⟨o,XA,LC,hx,jf,hk,hp,hn⟩;let lv:=rel.length;let I1':=Inv.freeze I1 e LC;show ⟨"dict","dict.values",F.plainAttrs_dict,zE,F.type_dict_values,h1,h2,α1 rfl (PySem.evalArgs_none ?_)⟩;refine Xi zE h1 F.entry_dict_values (F.args_dict_values_1 _) (meets_dict_values (bx X.prog X.w) d hd) ⟨⟨vs,da.dictOf⟩,?_⟩;let da2:(s1.heap.push {cls:=.type "dict_values",data:=.fields #[.ref d]}).DictAt (bx X.prog X.w) d vs ep:=da.at' fun o e=>FK _ e;show AS (AX X.prog X.w) X.A (pyIter (.ref s1.heap.objs.size)) _ _ _;refine wpAny_pyIter_values (s:={s1 with heap:=s1.heap.push {cls:=.type "dict_values",data:=.fields #[.ref d]}}) ⟨_,LL _ rfl,rfl,rfl⟩ da2 ?_;let sz:(s1.heap.push {cls:=.type "dict_values",data:=.fields #[.ref d]}).objs.size=s1.heap.objs.size+1:=QQ ..;let I3:Inv X pX Y (upd H1 d (.eQ o (.dK AA))) {s1 with heap:=(s1.heap.push {cls:=.type "dict_values",data:=.fields #[.ref d]}).push {cls:=.type "dict_valueiterator",data:=.fields #[.ref d,.int 0 0,.int vs.length 0,.int ep 0]}}:=I1'.kept (t':=s1.toks) fun b o e=>FK _ (FK _ e);show ⟨_,[_],_,_,_,rfl,I3,agf d _ o AA jf,(show Heap.IsValIter _ _ d 0 AA.length ep from ⟨_,LL _ rfl,rfl,by rw [lv];rfl⟩),fun b hb=>?_,q o⟩;let eb:b=(s1.heap.push {cls:=.type "dict_values",data:=.fields #[.ref d]}).objs.size:=by simpa using hb
 let le:s1.heap.objs.size<=b:=by rw [eb,sz];exact AQ _
 exact I1'.nA le (I1'.bJ.fresh le)
end
theorem a9.ks (h0:H D=some (.lst ys))(ks:bL D H H'):a9 H H':=fun b xs r=>by
 rcases r with r|⟨o',r⟩
 ·exact .inl (ks _ _ (fun e=>by erw [e,h0] at r) r)
 ·exact .inr ⟨o',ks _ _ (fun e=>by erw [e,h0] at r) r⟩
section
variable {X:Cx}{K:Frag}
inductive aa8 (K:Frag)(x:V)(y:V)(H:Hp)(Q:VK):Prop
|mk (p xs i v:_)(_:x=.ref p)(_:y=.int i)(_:aR K H p xs\/bE K H p xs)(_:i7 xs i=some v)(_:Q v H)
def JN:W8 X (aa8 X.K):=by
 intro value slice pX s Y H x y v u Q I rx ry h hs;obtain ⟨p,xs,i,z,e1,e2,hq,he,q⟩:=h
 rcases hq with hq|hq
 ·exact aI value slice pX s Y H x y v u Q I rx ry ⟨p,xs,i,z,e1,e2,hq,he,q⟩ hs
 ·exact pH value slice pX s Y H x y v u Q I rx ry ⟨p,xs,i,z,e1,e2,hq,he,q⟩ hs
end
section
variable {D:AF}{te:TE}{ph:L2.St}{H1:Hp}{Q:VK}
def tI {K:Frag}(J:List V->Hp->Prop)(nD:H1 D=none)(hn:xs.length<AZ)(hS:∀H,ao H1 H->aR K H a xs)(h0:J [] (upd H1 D (.lst [])))
  (he:∀(i:Nat) x ys H (R:VK),xs[i]?=some x->ys.length=i->J ys H->ao H1 H->H D=some (.lst ys)->(∀v H6,ao H H6->J (ys++[v]) (upd H6 D (.lst (ys++[v])))->R v H6)->te (some x::ph) H R)
  (hd:∀ys H,ys.length=xs.length->J ys H->ao H1 H->H D=some (.lst ys)->Q (.ref D) H):
  mK D (cy 0) jV te (Sx K a) (none::ph) H1 Q:=by
 refine xh xs.length (fun i=>(xs[i]?).getD .dc) (fun i ys H=>ys.length=i/\J ys H/\ao H1 H) ⟨rfl,h0,fun b o e=>by rwa [aj (ak e nD)]⟩ ?_ ?_ ?_ ?_
 ·rintro i ys H hi ⟨_,_,s⟩
  show ⟨⟨xs,xs[i],hS H s,gE hi⟩,fun x H' y=>⟨y.1,by rw [y.2 xs (hS H s)];rfl⟩⟩
 ·rintro ys H ⟨_,_,s⟩
  show ⟨xs,hS H s,D' _⟩
 ·rintro i ys H R hi ⟨l,j,s⟩ hD k
  let e:xs[i]?=some xs[i]:=gE hi;let k':=he i _ ys H R e l j s hD fun v H6 s6 jv=>k v H6 (s6 _ _ hD) ce ⟨by simp [l],jv,fun b o e=>by rw [aj (ak e nD)];exact s6 _ _ (s _ _ e)⟩;rw [<-(show (xs[i]?).getD .dc=xs[i] by rw [e];rfl)] at k';exact k'
 ·rintro ys H ⟨l,j,s⟩ hD
  exact hd ys H l j s hD
end
end Ty
namespace Ty
theorem wg {Z:Type}[DecidableEq Z]:∀{l m:List Z},l.Nodup->(∀x∈l,x∈m)->l.length<=m.length
 | [],_,_,_=>LS _
 | x::l,m,h,k=>by
  obtain ⟨h1,h2⟩:=M9.mp h;let hx:=k x GG;have:=wg (l:=l) (m:=m.erase x) h2 fun y hy=>(List.mem_erase_of_ne (fun z:y=x=>h1 (by rwa [<-z]))).mpr (k y (F' _ hy));rw [List.length_erase_of_mem hx] at this;let p:=List.length_pos_of_mem hx;show l.length+1<=m.length;omega
def box (B:Nat):Nat->List (List Int)
 | 0=>[[]]
 | n+1=>(box B n).flatMap fun y=>(FG (B+1)).map fun (a:Nat)=>(a:Int)::y
theorem aeE {Z:Type}(c:Nat):∀l:List Z,(l.map fun _=>c).sum=l.length*c
 | []=>by simp
 | _::l=>by
  rw [DV,GN,aeE c l,Lw,OP];omega
theorem xr (B:Nat):∀n,(box B n).length=(B+1)^n
 | 0=>rfl
 | n+1=>by
  let ih:=xr B n;unfold box;rw [List.length_flatMap];have:((box B n).map fun y=>((FG (B+1)).map fun (a:Nat)=>(a:Int)::y).length)=(box B n).map fun _=>B+1:=LD fun y _=>by rw [ir,Li]
  rw [this,aeE,ih,Tb]
theorem wj (B:Nat):∀n,(box B n).Nodup
 | 0=>by simp [box]
 | n+1=>by
  let ih:=wj B n;unfold box;unfold yU at ih ⊢;rw [List.pairwise_flatMap];show ⟨fun y _=>?_,ih.imp fun {y1 y2} ne x hx z hz e=>?_⟩
  ·rw [AR]
   exact aiI.imp fun {a b} ne e=>ne (by injection e with e _;exact Int.ofNat.inj e)
  ·obtain ⟨a,_,rfl⟩:=AY.mp hx
   obtain ⟨b,_,rfl⟩:=AY.mp hz;injection e with _ e
   exact ne e
theorem lM :∀{n:Nat} {y:ξ},y∈box B n ↔ y.length=n/\∀a∈y,0<=a/\a<=(B:Int)
 | 0,y=>by
  unfold box;rw [GQ];constructor
  ·intro e
   rw [e];show ⟨rfl,fun a h=>nomatch h⟩
  ·intro h
   exact Uh.mp h.1
 | n+1,y=>by
  unfold box;rw [Qy];constructor
  ·rintro ⟨z,hz,hy⟩
   obtain ⟨a,ha,rfl⟩:=AY.mp hy;obtain ⟨h1,h2⟩:=(lM (n:=n)).mp hz;have:=OW.mp ha;show ⟨by simp [h1],fun b hb=>?_⟩
   rcases LN.mp hb with e|e
   ·rw [e]
    omega
   ·exact h2 b e
  ·rintro ⟨h1,h2⟩
   match y,h1 with
   | a::z,h1=>
    let ha:=h2 a GG;show ⟨z,(lM (n:=n)).mpr ⟨by simpa using h1,fun b hb=>h2 b (F' _ hb)⟩,AY.mpr ⟨a.toNat,OW.mpr (show a.toNat<B+1 by omega),?_⟩⟩;rw [show ((a.toNat:Nat):Int)=a by omega]
def jh:List Int->List Int->Int
 | a::e,b::y=>a*b+jh e y
 | _,_=>0
theorem aiO:∀(e:ξ) {y z:ξ},y.length=z.length->jh e (O0 (fun a b=>a-b) y z)=jh e y-jh e z
 | [],y,z,h=>by simp [jh]
 | a::e,[],[],h=>by simp [jh]
 | a::e,b::y,c::z,h=>by
  let ih:=aiO e (y:=y) (z:=z) (by simpa using h);rw [aiQ];simp only [jh];rw [ih,Int.mul_sub];omega
theorem JP :∀{e y:ξ},(∀a∈e,a.natAbs<=A)->(∀b∈y,b.natAbs<=B)->(jh e y).natAbs<=e.length*(A*B)
 | [],y,_,_=>by simp [jh]
 | a::e,[],_,_=>by simp [jh]
 | a::e,b::y,h1,h2=>by
  let ih:=JP (e:=e) (y:=y) (fun x hx=>h1 x (F' _ hx)) fun x hx=>h2 x (F' _ hx);simp only [jh]
  let m:(a*b).natAbs<=A*B:=by
   rw [Nj];exact M8 (h1 a GG) (h2 b GG)
  let t:=TV (a*b) (jh e y);rw [Lw,OP,z_];omega
def Pn {eqs:ζ}(hn:eqs.length<n)(hA:1<=A)(he:∀e∈eqs,e.length=n/\∀a∈e,a.natAbs<=A):∃z:List Int,z.length=n/\(∃a∈z,a≠0)/\(∀a∈z,a.natAbs<=(2*n*A)^eqs.length)/\∀e∈eqs,jh e z=0:=by
 generalize hC:2*n*A=C;generalize hB:C^eqs.length=B
 let c1:1<=C:=by
  rw [<-hC];exact M8 (show 1<=2*n by omega) hA
 generalize hM:n*(A*B)=M
 let key:¬ ∀y∈box B n,∀z∈box B n,(eqs.map fun e=>jh e y+(M:Int))=(eqs.map fun e=>jh e z+(M:Int))->y=z:=by
  intro inj
  let nd:((box B n).map fun y=>eqs.map fun e=>jh e y+(M:Int)).Nodup:=by
   unfold yU;rw [AR];refine aiC (fun {y z} hy hz ne e=>ne (inj y hy z hz e)) (wj B n)
  let le:=wg nd (m:=box (2*M) eqs.length) fun x hx=>by
   obtain ⟨y,hy,rfl⟩:=AY.mp hx;obtain ⟨ly,by'⟩:=lM.mp hy;refine lM.mpr ⟨by simp,fun a ha=>?_⟩;obtain ⟨e,hee,rfl⟩:=AY.mp ha
   let b1:=JP (A:=A) (B:=B) (he e hee).2 (y:=y) fun b hb=>by
    have:=by' b hb
    omega
   rw [(he e hee).1,hM] at b1;omega
  rw [ir,xr,xr] at le
  let e1:2*M+1<=C*(B+1):=by
   let e3:2*M=C*B:=by rw [<-hM,<-hC,<-Nat.mul_assoc,<-Nat.mul_assoc]
   rw [e3,Nat.mul_add];omega
  let e2:(2*M+1)^eqs.length<=B*(B+1)^eqs.length:=by
   have:=ah9 e1 eqs.length;rwa [Nat.mul_pow,hB] at this
  let e4:(B+1)^(eqs.length+1)<=(B+1)^n:=Na ce hn
  let e5:B*(B+1)^eqs.length<(B+1)^(eqs.length+1):=by
   rw [Tb,Xs ((B+1)^eqs.length)];exact Nat.mul_lt_mul_of_pos_right (Of B) (Nat.pow_pos ce)
  omega
 obtain ⟨y,k1⟩:=ai'.mp key;obtain ⟨hy,k2⟩:=aiu.mp k1;obtain ⟨z,k3⟩:=ai'.mp k2;obtain ⟨hz,k4⟩:=aiu.mp k3;obtain ⟨ee,ne⟩:=aiu.mp k4;obtain ⟨ly,by'⟩:=lM.mp hy;obtain ⟨lz,bz⟩:=lM.mp hz;let hl:y.length=z.length:=ce
 show ⟨O0 (fun a b=>a-b) y z,by rw [List.length_zipWith];omega,?_,?_,fun e hee=>?_⟩
 ·apply TZ
  intro h;refine ne (List.ext_getElem hl fun i h1 h2=>?_);let h':∀a∈O0 (fun a b=>a-b) y z,a=0:=fun a ha=>TZ fun q=>h ⟨a,ha,q⟩
  let m:y[i]-z[i]∈O0 (fun a b=>a-b) y z:=by
   refine DW (i:=i) ?_;rw [Yc,gE h1,gE h2]
  have:=h' _ m;omega
 ·intro a ha
  obtain ⟨i,ei⟩:=FZ ha;rw [Yc] at ei
  let hi:i<y.length:=by
   apply TZ;intro q;erw [FJ ce] at ei
  rw [gE hi,gE (show i<z.length by omega)] at ei;let ea:y[i]-z[i]=a:=GU ei;let q1:=by' _ (SK hi)
  let q2:=bz _ (SK (show i<z.length by omega));omega
 ·rw [aiO e hl]
  obtain ⟨i,ei⟩:=FZ hee;let e1:=pj (fun l:List Int=>l[i]?) ee;simp only [Wp,ei,WK,Option.some.injEq] at e1;omega
def col (l:ξ)(j:Nat):Rat:=((l.getD j 0:Int):Rat)
inductive dz (A:ζ):(Nat->Rat)->Prop
 | zero:dz A (fun _=>0)
 | put {f:Nat->Rat} (c:Rat) {a:ξ} (h:a∈A) (hf:dz A f):dz A (fun j=>f j+c*col a j)
def dz.congr (h:dz A f)(e:∀j,f j=g j):dz A g:=(funext e:f=g)▸h
def dz.add (hf:dz A f)(hg:dz A g):dz A (fun j=>f j+g j):=by
 induction hg with
 | zero=>exact hf.congr fun j=>by grind
 | put c h _ ih=>exact (dz.put c h ih).congr fun j=>by grind
def dz.mul (k:Rat)(hf:dz A f):dz A (fun j=>k*f j):=by
 induction hf with
 | zero=>exact dz.zero.congr fun j=>by grind
 | put c h _ ih=>exact (dz.put (k*c) h ih).congr fun j=>by grind
def dz.mem (h:a∈A):dz A (col a):=(dz.put 1 h dz.zero).congr fun j=>by grind
def dz.trans (hf:dz A f)(h:∀a∈A,dz B (col a)):dz B f:=by
 induction hf with
 | zero=>exact dz.zero
 | put c ha _ ih=>exact ih.add ((h _ ha).mul c)
def dz.mono (hf:dz A f)(h:∀a∈A,a∈B):dz B f:=hf.trans fun a ha=>dz.mem (h a ha)
def dz.first {l:ξ}{A:ζ}(hf:dz (l::A) f):∃a:Rat,dz A (fun j=>f j-a*col l j):=by
 induction hf with
 | zero=>show ⟨0,dz.zero.congr fun j=>by grind⟩
 | put c h _ ih=>
  obtain ⟨a,ha⟩:=ih
  rcases LN.mp h with e|e
  ·subst e
   show ⟨a+c,ha.congr fun j=>by grind⟩
  ·show ⟨a,(dz.put c e ha).congr fun j=>by grind⟩
def dz.last (hf:dz (A++[l]) f):∃a:Rat,dz A (fun j=>f j-a*col l j):=dz.first (hf.mono fun a ha=>by
 rcases FR.mp ha with z|z
 ·exact F' _ z
 ·rw [GQ.mp z]
  exact GG)
def dz.van (hf:dz A f)(h:∀a∈A,col a c=0):f c=0:=by
 induction hf with
 | zero=>rfl
 | put k ha _ ih=>
  dsimp only;rw [ih,h _ ha];grind
structure NH (nd:π):Prop where
 nn:(nd.map (·.1)).Nodup
 here:∀x∈nd,x.2.getD x.1 0≠0
 off:∀x∈nd,∀y∈nd,x.1≠y.1->x.2.getD y.1 0=0
theorem NH.zero:∀{nd:π} {f:Nat->Rat},NH nd->dz (nd.map (·.2)) f->(∀x∈nd,f x.1=0)->∀j,f j=0
 | [],f,_,hf,_=>fun j=>by
  have:∀{g:Nat->Rat},dz [] g->g j=0:=fun {g} h=>h.van fun a ha=>nomatch ha;exact this hf
 | x::r,f,P,hf,hz=>by
  obtain ⟨a,ha⟩:=dz.first hf;let nn:=M9.mp P.nn
  let v:f x.1-a*col x.2 x.1=0:=ha.van (c:=x.1) fun b hb=>by
   obtain ⟨y,hy,rfl⟩:=AY.mp hb;unfold col;rw [P.off y (F' _ hy) x GG (fun z=>nn.1 (by show x.1∈_;rw [<-z];exact AY.mpr ⟨y,hy,rfl⟩))];rfl
  rw [hz x GG] at v;let OM:col x.2 x.1≠0:=cz (P.here x GG);let a0:a=0:=by grind
  subst a0;let P':NH r:=⟨nn.2,fun y hy=>P.here y (F' _ hy),fun y hy z hz=>P.off y (F' _ hy) z (F' _ hz)⟩;exact NH.zero P' (ha.congr (g:=f) fun j=>by grind) fun y hy=>hz y (F' _ hy)
def NH.one (P:NH nd)(hf:dz (nd.map (·.2)) f)(hx:x∈nd)(hz:∀y∈nd,y.1≠x.1->f y.1=0):∃a:Rat,∀j,f j=a*col x.2 j:=by
 let OM:col x.2 x.1≠0:=cz (P.here x hx);show ⟨f x.1 / col x.2 x.1,fun j=>?_⟩;let g:dz (nd.map (·.2)) fun j=>f j+ -(f x.1 / col x.2 x.1)*col x.2 j:=dz.put _ (AY.mpr ⟨x,hx,rfl⟩) hf
 have:=P.zero g (fun y hy=>by
  by_cases c:y.1=x.1
  ·rw [c]
   grind
  ·rw [hz y hy c]
   have:col x.2 y.1=0:=by
    unfold col;rw [P.off x hx y hy (FT c)];rfl
   rw [this]
   grind) j
 grind
def mj:List Int->List (List Int)->Nat->Int
 | z::zs,a::A,j=>z*a.getD j 0+mj zs A j
 | _,_,_=>0
theorem og:∀(zs:ξ)(A:ζ),dz A (fun j=>((mj zs A j:Int):Rat))
 | [],A=>dz.zero.congr fun j=>by simp [mj]
 | _::_,[]=>dz.zero.congr fun j=>by simp [mj]
 | z::zs,a::A=>by
  let ih:=(og zs A).mono (B:=a::A) fun b hb=>F' _ hb;refine (dz.put (z:Rat) (GG) ih).congr fun j=>?_;simp only [mj,col];push_cast;grind
theorem xt (c:Nat):∀(zs:ξ)(A:ζ),jh (A.map fun a=>a.getD c 0) zs=mj zs A c
 | [],A=>by cases A<;>simp [mj,jh]
 | _::_,[]=>by simp [mj,jh]
 | z::zs,a::A=>by
  simp only [DV,jh,mj];rw [xt c zs A,S']
theorem EY (j:Nat):∀{zs:ξ} {A:ζ},(∀z∈zs,z.natAbs<=α)->(∀a∈A,(a.getD j 0).natAbs<=E)->(mj zs A j).natAbs<=A.length*(α*E)
 | [],A,_,_=>by simp [mj]
 | _::_,[],_,_=>by simp [mj]
 | z::zs,a::A,h1,h2=>by
  let ih:=EY j (zs:=zs) (A:=A) (fun x hx=>h1 x (F' _ hx)) fun x hx=>h2 x (F' _ hx);simp only [mj]
  let m:(z*a.getD j 0).natAbs<=α*E:=by
   rw [Nj];exact M8 (h1 z GG) (h2 a GG)
  let t:=TV (z*a.getD j 0) (mj zs A j);rw [Lw,OP,z_];omega
theorem tJ (j:Nat):∀{zs:ξ} {A:ζ} (z:Int) (a:ξ),zs.length=A.length->mj (zs++[z]) (A++[a]) j=mj zs A j+z*a.getD j 0
 | [],[],z,a,_=>by simp [mj]
 | y::zs,b::A,z,a,h=>by
  let ih:=tJ j (zs:=zs) (A:=A) z a (by simpa using h);simp only [Yi,mj];rw [ih];omega
def Prm (l:ξ):Prop:=∀d:Int,(∀j,d ∣ l.getD j 0)->d.natAbs=1
def Po (p:Prm l){v:Nat->Int}(ha:a≠0)(h:∀j,((v j:Int):Rat)=a*col l j)(j:Nat):(l.getD j 0).natAbs<=(v j).natAbs:=by
 let e:∀j,v j*(a.den:Int)=a.num*l.getD j 0:=fun j=>by
  let h1:=h j
  let h2:a=(a.num:Rat) / ((a.den:Int):Rat):=by
   rw [<-ajw];exact (ajg a).symm
  let hd:((a.den:Int):Rat)≠0:=cz (by have:=a.den_pos;omega);rw [h2] at h1;unfold col at h1
  let h3:((v j*(a.den:Int):Int):Rat)=((a.num*l.getD j 0:Int):Rat):=by
   rw [QL,QL];generalize ((a.den:Int):Rat)=D at hd h1;grind
  exact S_.mp h3
 let dv:∀j,(a.den:Int) ∣ l.getD j 0:=fun j=>by
  let h1:a.den ∣ a.num.natAbs*(l.getD j 0).natAbs:=by
   rw [<-Nj,<-e j,Nj];show ⟨(v j).natAbs,by rw [Xs];rfl⟩
  let h2:=Nat.Coprime.dvd_of_dvd_mul_left (Nat.Coprime.symm a.reduced) h1;exact IY.mp (by simpa using h2)
 let d1:a.den=1:=by simpa using p _ dv
 let ej:=e j;rw [d1] at ej;let n0:a.num≠0:=fun z=>ha (Rat.num_eq_zero.mp z);have:v j=a.num*l.getD j 0:=by simpa using ej
 rw [this,Nj];exact Nat.le_mul_of_pos_left _ ce
def agc (p:Prm l):¬ ∀j,l.getD j 0=0:=fun h=>by
 have:=p 0 fun j=>by rw [h j];exact Int.dvd_refl 0
 simp at this
structure NI (os:ζ)(nd:π)(lv ps qs:ζ):Prop where
 po:∀p∈ps,p∈os
 qo:∀q∈qs,q∈os
 lp:ps.length=nd.length
 lq:qs.length=lv.length
 s1:∀x∈nd,dz ps (col x.2)
 s2:∀p∈ps,dz (nd.map (·.2)) (col p)
 s3:∀(i:Nat)(l q:ξ),lv[i]?=some l->qs[i]?=some q->dz (ps++[q]) (col l)/\dz (nd.map (·.2)++[l]) (col q)
 ind:∀zs:List Int,zs.length=ps.length->(∀j,mj zs ps j=0)->∀a∈zs,a=0
def NI.start (os:ζ):NI os [] os [] os:=by
 show ⟨by simp,fun q hq=>hq,rfl,rfl,by simp,by simp,fun i l q e1 e2=>?_,fun zs h _ a ha=>?_⟩
 ·rw [e1] at e2
  cases e2;show ⟨dz.mem ga,dz.mem ga⟩
 ·rw [Uh.mp h] at ha
  cases ha
def NH.cols (P:NH nd)(hl:dz (nd.map (·.2)) (col l))(hz:∀x∈nd,l.getD x.1 0=0):∀j,l.getD j 0=0:=fun j=>by
 have:=P.zero hl (fun x hx=>by unfold col;rw [hz x hx];rfl) j;unfold col at this;exact S_.mp (this.trans (by rfl))
def aiL {A:ζ}(hA:∀a∈A,∀j,(a.getD j 0).natAbs<=2^b):(A.map fun a=>a.getD c 0).length=A.length/\∀x∈A.map (fun a=>a.getD c 0),x.natAbs<=2^b:=by
 show ⟨by simp,fun x hx=>?_⟩;obtain ⟨a,ha,rfl⟩:=AY.mp hx;exact hA a ha c
def NI.left (O:NI os nd lv ps qs)(P:NH nd){i b:Nat}{l:ξ}(e:lv[i]?=some l)(hz:∀x∈nd,l.getD x.1 0=0)(hb:∀o∈os,∀j,(o.getD j 0).natAbs<=2^b)(pr:Prm l)(j:Nat):(l.getD j 0).natAbs<=(nd.length+1)*((2*(nd.length+1)*2^b)^nd.length*2^b):=by
 let hi:i<qs.length:=by
  rw [O.lq];exact (be.mp e).1
 obtain ⟨q,eq⟩:∃q,qs[i]?=some q:=⟨_,gE hi⟩;obtain ⟨t1,t2⟩:=O.s3 i l q e eq
 let hA:∀a∈ps++[q],∀j,(a.getD j 0).natAbs<=2^b:=fun a ha=>by
  rcases FR.mp ha with z|z
  ·exact hb a (O.po a z)
  ·rw [GQ.mp z]
   exact hb q (O.qo q (DW eq))
 let lA:(ps++[q]).length=nd.length+1:=by simp [O.lp]
 obtain ⟨zs,lz,nz,bz,sz⟩:=Pn (n:=nd.length+1) (A:=2^b) (eqs:=nd.map fun x=>(ps++[q]).map fun a=>a.getD x.1 0) ga (BL) fun y hy=>by
  obtain ⟨x,hx,rfl⟩:=AY.mp hy;rw [<-lA];exact aiL hA
 rw [ir] at bz
 let v0:∀x∈nd,mj zs (ps++[q]) x.1=0:=fun x hx=>by
  rw [<-xt];exact sz _ (AY.mpr ⟨x,hx,rfl⟩)
 let hv:dz (nd.map (·.2)++[l]) fun j=>((mj zs (ps++[q]) j:Int):Rat):=(og zs (ps++[q])).trans fun a ha=>by
  rcases FR.mp ha with z|z
  ·exact (O.s2 a z).mono fun y hy=>ON _ hy
  ·rw [GQ.mp z]
   exact t2
 obtain ⟨a,ha⟩:=dz.last hv
 let ez:=P.zero ha fun x hx=>by
  rw [v0 x hx];unfold col;rw [hz x hx];show ((0:Int):Rat)-a*((0:Int):Rat)=0;grind
 by_cases c:a=0
 ·exfalso
  subst c
  let vz:∀j,mj zs (ps++[q]) j=0:=fun j=>by
   have:=ez j;let h:((mj zs (ps++[q]) j:Int):Rat)=((0:Int):Rat):=by grind
   exact S_.mp h
  obtain ⟨xu,z,rfl⟩:∃xu z,zs=xu ++[z]:=by
   rcases ai1 zs with h|⟨xu,z,h⟩
   ·rw [h] at lz
    simp at lz
   ·show ⟨xu,z,by rw [h,ai3]⟩
  let lz':xu.length=ps.length:=by
   rw [O.lp];simpa using lz
  let sp:∀j,mj xu ps j+z*q.getD j 0=0:=fun j=>by
   rw [<-tJ j z q lz'];exact vz j
  by_cases z0:z=0
  ·subst z0
   obtain ⟨x,hx,nx⟩:=nz;let all:=O.ind xu lz' fun j=>by simpa using sp j
   rcases FR.mp hx with h|h
   ·exact nx (all x h)
   ·exact nx (GQ.mp h)
  ·let hq:dz ps (col q):=((og xu ps).mul (-1 / (z:Rat))).congr fun j=>by
    let s':((mj xu ps j+z*q.getD j 0:Int):Rat)=((0:Int):Rat):=by rw [sp j]
    rw [aj0,QL] at s';let zr:(z:Rat)≠0:=cz z0;unfold col;grind
   let hl:dz ps (col l):=t1.trans fun a ha=>by
    rcases FR.mp ha with h|h
    ·exact dz.mem h
    ·rw [GQ.mp h]
     exact hq
   exact agc pr (P.cols (hl.trans O.s2) hz)
 ·let le:=Po pr c (v:=fun j=>mj zs (ps++[q]) j) (fun j=>by have:=ez j;grind) j
  refine BJ le ?_;have:=EY j (zs:=zs) (A:=ps++[q]) bz fun a ha=>hA a ha j;rwa [lA] at this
def NI.need (O:NI os nd lv ps qs)(P:NH nd)(hx:x∈nd)(hb:∀o∈os,∀j,(o.getD j 0).natAbs<=2^b)(pr:Prm x.2)(j:Nat):(x.2.getD j 0).natAbs<=(nd.length+1)*((2*(nd.length+1)*2^b)^nd.length*2^b):=by
 let hA:∀a∈ps,∀j,(a.getD j 0).natAbs<=2^b:=fun a ha=>hb a (O.po a ha)
 let lf:(nd.filter fun y=>decide (y.1≠x.1)).length<nd.length:=by
  let h1:(nd.filter fun y=>decide (y.1≠x.1)).length<=nd.length:=ahE ..
  rcases Nat.lt_or_eq_of_le h1 with h|h
  ·exact h
  ·have:=List.length_filter_eq_length_iff.mp h x hx
   simp at this
 obtain ⟨zs,lz,nz,bz,sz⟩:=Pn (n:=nd.length) (A:=2^b) (eqs:=(nd.filter fun y=>decide (y.1≠x.1)).map fun y=>ps.map fun a=>a.getD y.1 0) (by rwa [ir]) (BL) fun y hy=>by
  obtain ⟨z,hz,rfl⟩:=AY.mp hy;rw [<-O.lp];exact aiL hA
 rw [ir] at bz
 let v0:∀y∈nd,y.1≠x.1->mj zs ps y.1=0:=fun y hy ne=>by
  rw [<-xt];exact sz _ (AY.mpr ⟨y,QO.mpr ⟨hy,by simpa using ne⟩,rfl⟩)
 let hv:dz (nd.map (·.2)) fun j=>((mj zs ps j:Int):Rat):=(og zs ps).trans O.s2
 obtain ⟨a,ha⟩:=P.one hv hx fun y hy ne=>by
  rw [v0 y hy ne];rfl
 let c:a≠0:=fun z=>by
  subst z;obtain ⟨y,hy,ny⟩:=nz;refine ny (O.ind zs (by rw [lz,O.lp]) (fun j=>?_) y hy)
  let h:((mj zs ps j:Int):Rat)=((0:Int):Rat):=by
   rw [ha j];show 0*col x.2 j=0;grind
  exact S_.mp h
 let le:=Po pr c (v:=fun j=>mj zs ps j) ha j;refine BJ le ?_;have:=EY j (zs:=zs) (A:=ps) bz fun a ha=>hA a ha j;rw [O.lp] at this;refine BJ this (M8 ce (M8 ?_ (D' _)));refine BJ (ah9 (Lu _ (show 2*nd.length<=2*(nd.length+1) by omega)) _) ?_;exact Na (Nat.mul_pos ce (aiY _)) ce
def zai (hs:s+1<=1024):(s+1)*((2*(s+1)*2^b)^s*2^b)<=2^((s+1)*(b+11)):=by
 let h1:2*(s+1)*2^b<=2^(b+11):=by
  have:2*(s+1)<=2^11:=by
   show 2*(s+1)<=2048;omega
  rw [Ud,Xs (2^b)];exact Lu _ this
 let h2:(2*(s+1)*2^b)^s<=2^((b+11)*s):=by
  rw [Nat.pow_mul];exact ah9 h1 s
 let h3:s+1<=2^11:=by
  show s+1<=2048;omega
 let e:(s+1)*(b+11)=11+((b+11)*s+b):=by
  rw [OP,z_,Xs s];omega
 rw [e,Ud,Ud];exact M8 h3 (Lu _ h2)
def JQ (k:u3 line AV new c)(h1:dz B (col line))(h2:dz B (col AV)):dz B (col new):=by
 obtain ⟨s,t,u,hs,ht,e⟩:=k.Ro;let zs:=cz hs;refine ((h1.mul ((t:Rat) / s)).add (h2.mul (-(u:Rat) / s))).congr fun j=>?_;let ej:((s*new.getD j 0:Int):Rat)=((t*line.getD j 0-u*AV.getD j 0:Int):Rat):=by rw [e j]
 rw [QL,aj1,QL,QL] at ej;unfold col;grind
def JR (k:u3 line AV new c)(h1:dz B (col new))(h2:dz B (col AV)):dz B (col line):=by
 obtain ⟨s,t,u,hs,ht,e⟩:=k.Ro;let zt:=cz ht;refine ((h1.mul ((s:Rat) / t)).add (h2.mul ((u:Rat) / t))).congr fun j=>?_;let ej:((s*new.getD j 0:Int):Rat)=((t*line.getD j 0-u*AV.getD j 0:Int):Rat):=by rw [e j]
 rw [QL,aj1,QL,QL] at ej;unfold col;grind
def NI.step {nd lY :π}{lv EZ ps qs:ζ}{AV:ξ}{j c:Nat}(O:NI os nd lv ps qs)(P:NH nd)(ej:lv[j]?=some AV)(hz:∀x∈nd,AV.getD x.1 0=0)(hc:AV.getD c 0≠0)
  (lL:EZ.length=(lv.eraseIdx j).length) (ML:∀(i:Nat)(x:ξ),(lv.eraseIdx j)[i]?=some x->∃y,EZ[i]?=some y/\u3 x AV y c) (lN:lY.length=nd.length) (MN:∀(i:Nat)(x:ξ),(nd.map (·.2))[i]?=some x->∃y,(lY.map (·.2))[i]?=some y/\u3 x AV y c):∃ps' Pq,NI os (lY ++[(c,AV)]) EZ ps' Pq :=by
 let hj:j<lv.length:=(be.mp ej).1;obtain ⟨q,eq⟩:∃q,qs[j]?=some q:=⟨_,gE (by rwa [O.lq])⟩;obtain ⟨t1,t2⟩:=O.s3 j AV q ej eq;let ml:AV∈(lY ++[(c,AV)]).map (·.2):=by simp
 let old:∀x∈nd.map (·.2),dz ((lY ++[(c,AV)]).map (·.2)) (col x):=fun x hx=>by
  obtain ⟨i,ei⟩:=FZ hx;obtain ⟨y,ey,k⟩:=MN i x ei;refine JR k (dz.mem ?_) (dz.mem ml);rw [GV];exact ON _ (DW ey)
 let ait:∀y∈lY.map (·.2),∃x∈nd.map (·.2),u3 x AV y c:=fun y hy=>by
  obtain ⟨i,ei⟩:=FZ hy;let hi:=(be.mp ei).1;rw [ir] at hi;obtain ⟨x,ex⟩:∃x,(nd.map (·.2))[i]?=some x:=⟨_,gE (by rw [ir];omega)⟩;obtain ⟨y',NJ,k⟩:=MN i x ex;erw [ei] at NJ;show ⟨x,DW ex,k⟩
 let up:∀{f:Nat->Rat},dz ps f->dz (ps++[q]) f:=fun h=>h.mono fun a ha=>ON _ ha;show ⟨ps++[q],qs.eraseIdx j,fun p hp=>?_,fun p hp=>O.qo p (IQ hp),by simp [O.lp,lN],?_,fun x hx=>?_,fun p hp=>?_,fun i l' q' e1 e2=>?_,fun zs lz hzs a ha=>?_⟩
 ·rcases FR.mp hp with z|z
  ·exact O.po p z
  ·rw [GQ.mp z]
   exact O.qo q (DW eq)
 ·rw [lL,YI,YI,O.lq]
 ·rcases FR.mp hx with z|z
  ·obtain ⟨y,hy,k⟩:=ait x.2 (AY.mpr ⟨x,z,rfl⟩)
   obtain ⟨x0,hx0,rfl⟩:=AY.mp hy;exact JQ k (up (O.s1 x0 hx0)) t1
  ·rw [GQ.mp z]
   exact t1
 ·rcases FR.mp hp with z|z
  ·exact (O.s2 p z).trans old
  ·rw [GQ.mp z]
   refine t2.trans fun a ha=>?_
   rcases FR.mp ha with h|h
   ·exact old a h
   ·rw [GQ.mp h]
    exact dz.mem ml
 ·let hi:=(be.mp e1).1
  obtain ⟨x,ex⟩:∃x,(lv.eraseIdx j)[i]?=some x:=⟨_,gE ce⟩;obtain ⟨y',NJ,k⟩:=ML i x ex;erw [e1] at NJ
  obtain ⟨i',f1,f2⟩:∃i',lv[i']?=some x/\qs[i']?=some q':=by
   rw [IE] at ex e2;by_cases h:i<j
   ·rw [ox h] at ex e2
    show ⟨_,ex,e2⟩
   ·rw [ni h] at ex e2
    show ⟨_,ex,e2⟩
  obtain ⟨u1,u2⟩:=O.s3 i' x q' f1 f2;constructor
  ·refine JQ k (u1.mono fun a ha=>?_) (t1.mono fun a ha=>ON _ ha)
   rcases FR.mp ha with h|h
   ·exact ON _ (ON _ h)
   ·exact OL _ h
  ·refine u2.trans fun a ha=>?_
   rcases FR.mp ha with h|h
   ·exact (old a h).mono fun b hb=>ON _ hb
   ·rw [GQ.mp h]
    exact JR k (dz.mem ga) (dz.mem (ON _ ml))
 ·obtain ⟨xu,z,rfl⟩:∃xu z,zs=xu ++[z]:=by
   rcases ai1 zs with h|⟨xu,z,h⟩
   ·rw [h] at lz
    simp at lz
   ·show ⟨xu,z,by rw [h,ai3]⟩
  let lz':xu.length=ps.length:=by simpa using lz
  let sp:∀j,mj xu ps j+z*q.getD j 0=0:=fun j=>by
   rw [<-tJ j z q lz'];exact hzs j
  let z0:z=0:=by
   apply TZ;intro z0
   let hq:dz ps (col q):=((og xu ps).mul (-1 / (z:Rat))).congr fun j=>by
    let s':((mj xu ps j+z*q.getD j 0:Int):Rat)=((0:Int):Rat):=by rw [sp j]
    rw [aj0,QL] at s';let zr:(z:Rat)≠0:=cz z0;unfold col;grind
   let hl:dz ps (col AV):=t1.trans fun a ha=>by
    rcases FR.mp ha with h|h
    ·exact dz.mem h
    ·rw [GQ.mp h]
     exact hq
   exact hc (P.cols (hl.trans O.s2) hz c)
  rcases FR.mp ha with h|h
  ·exact O.ind xu lz' (fun j=>by have:=sp j;rw [z0] at this;simpa using this) a h
  ·rw [GQ.mp h]
   exact z0
end Ty
namespace Ty
open PySem PySem.Spec PyProof.Rows L2
def adv {ph:L2.St}(p:Nat->Bool)(nD:H1 D=none)(hn:n<AZ)
  (ht:∀i H (R:Bool->Hp->Prop),i<n->ao H1 H->(∀H',ao H H' ->R (p i) H')->tt (some (.int (i:Int))::ph) H R)
  (he:∀i H (R:VK),R (.int (i:Int)) H->te (some (.int (i:Int))::ph) H R)
  (hd:∀H,ao H1 H->H D=some (.lst (((FG n).filter p).map fun i:Nat=>V.int (i:Int)))->Q (.ref D) H):
  mK D (cy 0) tt te (Sy 0 n) (none::ph) H1 Q:=by
 show ⟨fun i m Y ys H=>m=n-i/\i<=n/\(∃o,Y=o::ph)/\ao H1 H/\H D=some (.lst ys)/\ys=((FG i).filter p).map fun i:Nat=>V.int (i:Int),⟨n,by simp,LS _,⟨none,rfl⟩,fun b o e=>by rwa [aj (ak e nD)],ah,rfl⟩,?_⟩;rintro i m Y ys H ⟨rfl,hi,⟨o,rfl⟩,s,hD,ey⟩;by_cases jU:i<n
 ·refine .inr ⟨jU,fun v H' y=>?_⟩
  obtain ⟨rfl,rfl⟩:=y;rw [Lh];unfold cy;refine ht i _ _ jU s fun H2 s2=>?_;let pU:ao H1 H2:=fun b o e=>s2 _ _ (s _ _ e)
  let ly:ys.length<=i:=by
   rw [ey,ir];have:=ahE p (FG i);rwa [Li] at this
  by_cases c:p i=true
  ·rw [ox c]
   refine he i _ _ ⟨s2 _ _ hD,ce,n-(i+1),ce,rfl,ce,⟨_,rfl⟩,?_,ah,?_⟩
   ·exact fun b o e=>by
     rw [aj (ak e nD)];exact pU _ _ e
   ·rw [BM,aij,List.filter_cons_of_pos c,ey,GV]
    rfl
  ·rw [ni c]
   show ⟨n-(i+1),ce,rfl,ce,⟨_,rfl⟩,pU,s2 _ _ hD,?_⟩;rw [BM,aij,List.filter_cons_of_neg c,ey,aj2,WL]
 ·let e:i=n:=ce
  subst e;rw [ey] at hD;exact .inl ⟨D' _,hd H s hD⟩
section
variable {prog:FE}{w:World}{Kt:Type}[DecidableEq Kt]{knd:KeyKind prog w Kt}{A:LF}{E:δ}{s:BN}
def zaV {Q:δ}(g:s.heap.IsValIter it d i ps.length ep)(m:s.heap.DictAt knd d ps ep)(hx:ps[i]?=some (k,v))
  (q:∀h',h'.IsValIter it d (i+1) ps.length ep->Px it s.heap h' ->Q v {s with heap:=h'}):AS (AX prog w) A (QF (.ref it)) Q E s:=by
 obtain ⟨o,g1,g2,g3⟩:=id g;obtain ⟨od,es,t1,t2,t3,t4,t5,t6⟩:=id m;let n0:es.size=ps.length:=by rw [<-t5.length];simp
 let lt:i<ps.length:=(be.mp hx).1;let lt2:i<es.size:=by rwa [n0]
 let ev:es[i].val=v:=(t5.get? (e:=es[i]) (by simp [lt2]) hx).2;let ow:Builtin.Dict_items.ownsTuple "dict_valueiterator"=false:=dL
 unfold QF;refine AO (wpAny_callSpecial?_slot (name:=N7 "__next__") g.typeIs JF (S2 JF g.typeIs F.entry_dict_valueiterator_next ?_ (F.args_dict_valueiterator_next_1 _)));refine AO (DY (AO (AO ?_)))
 first|refine AO (JD g.typeIs (DY (AO (xZ g1 g3 ?_))))|refine AO (JH g.typeIs (DY (AO (xZ g1 g3 ?_))))
 simp only [ow,TX,if_false];show AS _ _ (if (Value.ref d==Value.none)=true then _ else _) _ _ s;rw [ni (fun z=>nomatch z)];refine AO (DY (AO (X8 t1 t3 ?_)));rw [ni (by rw [n0];simp)];refine AO (DY (AO (vw t1 t3 ?_)));rw [ni ga];refine DY ?_;simp only [show ¬ ((i:Int)<0) from by omega,if_false,BK,ag8 lt2];refine AO ?_
 first|refine AO (JD g.typeIs (DY (AO (I_ g.typeIs ?_))))|refine AO (JH g.typeIs (DY (AO (I_ g.typeIs ?_))))
 show AS _ _ (setField (.ref it) 1 (Ld ((i:Int)+1)) >>=_) _ _ s;refine AO (wpAny_setField g1 g3 ga ?_)
 let g':(s.heap.update it (Obj.mapFields (·.setIfInBounds 1 (Ld ((i:Int)+1))))).IsValIter it d (i+1) ps.length ep:=
  ⟨_,α8 _ g1 (Obj.isFreed_of_fields (Obj.data_mapFields g3 _)),(Obj.cls_mapFields ..).trans g2,by rw [Obj.data_mapFields g3];simp [Ld]⟩
 let sb:Px it s.heap (s.heap.update it (Obj.mapFields (·.setIfInBounds 1 (Ld ((i:Int)+1))))):=Heap.SameBut.update ..;generalize s.heap.update it (Obj.mapFields (·.setIfInBounds 1 (Ld ((i:Int)+1))))=h' at g' sb ⊢;let ty:Shared.TypeIs {s with heap:=h'} (.ref it) "dict_valueiterator":=g'.typeIs (s:={s with heap:=h'});refine AO (OK (AO (I_ ty (AO (I_ ty ?_)))));show AS _ _ (pure es[i].val) _ _ _;exact DY (DY ⟨_,rfl,DY (ev▸q _ g' sb)⟩)
def agL {Q:δ}(hh:A.handled=none)(g:s.heap.IsValIter it d i ps.length ep)(m:s.heap.DictAt knd d ps ep)(hx:ps.length<=i)
  (q:∀h' e,Heap.ExtBut it s.heap h' ->(∃o,h'.get? e=some o/\o.cls=.type "StopIteration")->E (.ref e) {s with heap:=h'}):AS (AX prog w) A (QF (.ref it)) Q E s:=by
 obtain ⟨o,g1,g2,g3⟩:=id g;obtain ⟨od,es,t1,t2,t3,t4,t5,t6⟩:=id m;let n0:es.size=ps.length:=by rw [<-t5.length];simp
 let ge:es.size<=i:=by rwa [n0]
 let ow:Builtin.Dict_items.ownsTuple "dict_valueiterator"=false:=dL
 unfold QF;refine AO (wpAny_callSpecial?_slot (name:=N7 "__next__") g.typeIs JF (S2 JF g.typeIs F.entry_dict_valueiterator_next ?_ (F.args_dict_valueiterator_next_1 _)));refine AO (DY (AO (AO ?_)))
 first|refine AO (JD g.typeIs (DY (AO (xZ g1 g3 ?_))))|refine AO (JH g.typeIs (DY (AO (xZ g1 g3 ?_))))
 simp only [ow,TX,if_false];show AS _ _ (if (Value.ref d==Value.none)=true then _ else _) _ _ s;rw [ni (fun z=>nomatch z)];refine AO (DY (AO (X8 t1 t3 ?_)));rw [ni (by rw [n0];simp)];refine AO (DY (AO (vw t1 t3 ?_)));rw [ni ga];refine DY ?_;simp only [show ¬ ((i:Int)<0) from by omega,if_false,BK,Array.getElem?_eq_none ge];refine AO ?_
 first|refine AO (JD g.typeIs (DY ?_))|refine AO (JH g.typeIs (DY ?_))
 show AS _ _ (setField (.ref it) 0 .none >>=_) _ _ s;refine AO (wpAny_setField g1 g3 ga ?_);show AS _ _ (newExc (.type "StopIteration") [] >>=_) _ _ _;refine AO ?_;simp only [newExc,newTuple];refine AO (T9 ?_ (by size_fits));refine AO (m:=firstArgMember _ _) (wpAny_of_eq (a:=Value.none) (by first|rfl|(simp only [firstArgMember];rfl)) ?_);refine T9 ?_ (by size_fits);simp only [raiseNew];refine AO (wpAny_handled ?_)
 first|rw [show A.in1.handled=none from hh]|rw [hh]
 refine AO (DY (wpAny_throw ?_));exact q _ _ (((Heap.SameBut.update ..).extBut.push _).push _) ⟨_,LL _ rfl,rfl⟩
def agA {z TI TO i1 i2 d l:AF}{ys:Λ}{Q:δ}(D:ZipApart z TI TO i1 i2 d l)
  (hz:Lv s.heap z TI TO .none) (gJ:LK s.heap TI (.ref i1) (.ref i2)) (lG:LK s.heap TO a b)
  (h1:s.heap.IsValIter i1 d k ps.length ep) (m:s.heap.DictAt knd d ps ep) (h2:s.heap.IsListIter i2 l k) (hl:s.heap.IsList l ys) (hx:ps[k]?=some (kk,x)) (hy:ys[k]?=some y)
  (q:∀h',Lv h' z TI TO (Ld s.heap.objs.size)->LK h' TO x y->h'.IsValIter i1 d (k+1) ps.length ep->h'.IsListIter i2 l (k+1)->LK h' s.heap.objs.size x y->
   (∀c o,c≠z->c≠TO->c≠i1->c≠i2->s.heap.get? c=some o->h'.get? c=some o)->Q (.ref s.heap.objs.size) {s with heap:=h'}):
  AS (AX prog w) A (Builtin.«zip.__next__» ⟨[.ref z],[]⟩) (fun fin s'=>∃v,fin=.done (.ret v)/\Q v s') E s:=by
 show AS _ _ (field (.ref z) 2 >>=_) _ _ _;refine AO (Ly hz rfl (x:=.bool false) rfl ?_);show AS _ _ (field (.ref z) 3 >>=_) _ _ _;refine AO (Ly hz rfl (x:=.ref TI) rfl (AO (S1 gJ rfl ?_)));show AS _ _ (TC (.ref z) >>=_) _ _ _;refine AO ?_;unfold TC;refine AO (Ly hz rfl (x:=.none) rfl (DY ?_));simp only [if_true];refine AO (wpAny_rule (AO (Ly hz rfl (x:=.ref TO) rfl (AO (X6 hz ga fun p1 z1 b1=>?_)))));let z1:Lv p1 z TI TO .ellipsis:=z1;refine AO ?_;simp only [ajO,aj3,BO,zW];refine AO (AO (wpAny_onRaise ?_));show AS _ _ (QF (.ref i1) >>=_) _ _ _;let m1:p1.DictAt knd d ps ep:=m.at' fun o e=>(b1.2 d D.l1z).trans e;refine AO (zaV (s:={s with heap:=p1}) (h1.extBut b1.extBut D.i1z) m1 hx fun p2 g2 b2=>DY ?_);let b2:Px i1 p1 p2:=b2;let o2:LK p2 TO a b:=b2.extBut _ _ D.TOi1 (b1.extBut _ _ D.TOz lG);refine AO (S1 o2 rfl (AO (wpAny_updateSeq_pair o2 fun p3 o3 b3=>?_)));let b3:Px TO p2 p3:=b3;let o3:LK p3 TO x b:=o3;refine AO (wpAny_letGo (DY (AO (AO (wpAny_onRaise ?_)))));show AS _ _ (QF (.ref i2) >>=_) _ _ _;let j3:p3.IsListIter i2 l k:=((h2.extBut b1.extBut D.i2z).extBut b2.extBut D.i12.symm).extBut b3.extBut D.TOi2.symm;let l3:p3.IsList l ys:=((hl.extBut b1.extBut D.l2z).extBut b2.extBut D.l2i1).extBut b3.extBut D.l2TO;refine AO (JA (s:={s with heap:=p3}) j3 l3 hy fun p4 j4 b4=>DY ?_);let b4:Px i2 p3 p4:=b4;let o4:LK p4 TO x b:=b4.extBut _ _ D.TOi2 o3;refine AO (S1 o4 rfl (AO (wpAny_updateSeq_pair o4 fun p5 o5 b5=>?_)));let b5:Px TO p4 p5:=b5;let o5:LK p5 TO x y:=o5;refine AO (wpAny_letGo (DY (DY (AO (S1 o5 rfl (AO (wpAny_newTuple ?_)))))));let sz:p5.objs.size=s.heap.objs.size:=by rw [b5.1,b4.1,b3.1,b2.1,b1.1]
 let z5:Lv p5 z TI TO .ellipsis:=b5.extBut _ _ D.TOz.symm (b4.extBut _ _ D.i2z.symm (b3.extBut _ _ D.TOz.symm (b2.extBut _ _ D.i1z.symm z1)));let c5:∀c o,c≠z->c≠TO->c≠i1->c≠i2->s.heap.get? c=some o->p5.get? c=some o:=fun c o c1 c2 c3 c4 e=>b5.extBut _ _ c2 (b4.extBut _ _ c4 (b3.extBut _ _ c2 (b2.extBut _ _ c3 (b1.extBut _ _ c1 e))));let g5:p5.IsValIter i1 d (k+1) ps.length ep:=((g2.extBut b3.extBut D.TOi1.symm).extBut b4.extBut D.i12).extBut b5.extBut D.TOi1.symm;let j5:p5.IsListIter i2 l (k+1):=j4.extBut b5.extBut D.TOi2.symm;let zl:z<p5.objs.size:=EF z5;show AS _ _ (Builtin.SmallTypes.ownedTupleHandOut (.ref z) (.ref p5.objs.size) >>=_) _ _ _;refine AO ?_;unfold Builtin.SmallTypes.ownedTupleHandOut;let z6:Lv (p5.push {cls:=.type "tuple",data:=.seq #[x,y]}) z TI TO .ellipsis:=FK _ z5;refine AO (X6 z6 ga fun p7 z7 b7=>?_);let z7:Lv p7 z TI TO (Ld p5.objs.size):=z7;refine X6 z7 ga fun p8 z8 b8=>?_;let z8:Lv p8 z TI TO (Ld p5.objs.size):=z8;let up:∀c o,c≠z->p5.get? c=some o->p8.get? c=some o:=fun c o c1 e=>b8.extBut _ _ c1 (b7.extBut _ _ c1 (FK _ e));let t8:LK p8 p5.objs.size x y:=b8.extBut _ _ (SY zl) (b7.extBut _ _ (SY zl) (LL _ rfl));rw [sz] at z8 t8;refine DY ⟨_,rfl,?_⟩;show Q (.ref p5.objs.size) _;rw [sz];exact q p8 z8 (up _ _ D.TOz o5) (g5.at fun o e=>up _ o D.i1z e) (j5.at fun o e=>up _ o D.i2z e) t8 fun c o c1 c2 c3 c4 e=>up c o c1 (c5 c o c1 c2 c3 c4 e)
def zaU {z TI TO i1 i2 d:AF}(hh:A.handled=none)(n1:i1≠z)(n2:d≠z)
  (hz:Lv s.heap z TI TO .none) (gJ:LK s.heap TI (.ref i1) (.ref i2)) (h1:s.heap.IsValIter i1 d k ps.length ep) (m:s.heap.DictAt knd d ps ep) (hx:ps.length<=k)
  (q:∀h' e,(∀c o,c≠z->c≠i1->s.heap.get? c=some o->h'.get? c=some o)->(∃o,h'.get? e=some o/\o.cls=.type "StopIteration")->E (.ref e) {s with heap:=h'}):
  AS (AX prog w) A (Builtin.«zip.__next__» ⟨[.ref z],[]⟩) Q E s:=by
 show AS _ _ (field (.ref z) 2 >>=_) _ _ _;refine AO (Ly hz rfl (x:=.bool false) rfl ?_);show AS _ _ (field (.ref z) 3 >>=_) _ _ _;refine AO (Ly hz rfl (x:=.ref TI) rfl (AO (S1 gJ rfl ?_)));show AS _ _ (TC (.ref z) >>=_) _ _ _;refine AO ?_;unfold TC;refine AO (Ly hz rfl (x:=.none) rfl (DY ?_));simp only [if_true];refine AO (wpAny_rule (AO (Ly hz rfl (x:=.ref TO) rfl (AO (X6 hz ga fun p1 z1 b1=>?_)))));let z1:Lv p1 z TI TO .ellipsis:=z1;refine AO ?_;simp only [ajO,aj3,BO,zW];refine AO (AO (wpAny_onRaise ?_));show AS _ _ (QF (.ref i1) >>=_) _ _ _;let m1:p1.DictAt knd d ps ep:=m.at' fun o e=>(b1.2 d n2).trans e;refine AO (agL (s:={s with heap:=p1}) hh (h1.extBut b1.extBut n1) m1 hx fun p2 e b2 he=>?_);obtain ⟨oe,e1,e2⟩:=he;let z2:Lv p2 z TI TO .ellipsis:=b2 _ _ n1.symm z1;let ne:e≠z:=fun x=>by subst x;erw [z2] at e1;simp at e2
 exact X6 (s:={s with heap:=p2}) z2 ga fun p3 _ b3=>q p3 e (fun c o c1 c2 x=>b3.extBut _ _ c1 (b2 _ _ c2 (b1.extBut _ _ c1 x))) ⟨oe,b3.extBut _ _ ne e1,e2⟩
def aba {z TI TO i1 i2 d l:AF}{ys:Λ}{Q:Ξ}(D:ZipApart z TI TO i1 i2 d l)
  (hz:Lv s.heap z TI TO .none) (gJ:LK s.heap TI (.ref i1) (.ref i2)) (lG:LK s.heap TO a b)
  (h1:s.heap.IsValIter i1 d k ps.length ep) (m:s.heap.DictAt knd d ps ep) (h2:s.heap.IsListIter i2 l k) (hl:s.heap.IsList l ys) (hx:ps[k]?=some (kk,x)) (hy:ys[k]?=some y)
  (q:∀h',Lv h' z TI TO (Ld s.heap.objs.size)->LK h' TO x y->h'.IsValIter i1 d (k+1) ps.length ep->h'.IsListIter i2 l (k+1)->LK h' s.heap.objs.size x y->
   (∀c o,c≠z->c≠TO->c≠i1->c≠i2->s.heap.get? c=some o->h'.get? c=some o)->Q (some (.ref s.heap.objs.size)) {s with heap:=h'}):
  AS (AX prog w) A (Nn (.ref z)) Q E s:=by
 let ty:s.TypeIs (.ref z) "zip":=⟨_,hz,rfl⟩;unfold Nn;exact AO (wpAny_attempt (wpAny_callSpecial?_slot (name:=N7 "__next__") ty T2 (S2 T2 ty xT (agA D hz gJ lG h1 m h2 hl hx hy fun h' a1 a2 a3 a4 a5 a6=>DY (q h' a1 a2 a3 a4 a5 a6)) (yf _))))
def zaR {z TI TO i1 i2 d:AF}{Q:Ξ}(hh:A.handled=none)(n1:i1≠z)(n2:d≠z)
  (hz:Lv s.heap z TI TO .none) (gJ:LK s.heap TI (.ref i1) (.ref i2)) (h1:s.heap.IsValIter i1 d k ps.length ep) (m:s.heap.DictAt knd d ps ep) (hx:ps.length<=k)
  (q:∀h',(∀c o,c≠z->c≠i1->s.heap.get? c=some o->h'.get? c=some o)->Q none {s with heap:=h'}):AS (AX prog w) A (Nn (.ref z)) Q E s:=by
 let ty:s.TypeIs (.ref z) "zip":=⟨_,hz,rfl⟩;unfold Nn;refine AO (wpAny_attempt (wpAny_callSpecial?_slot (name:=N7 "__next__") ty T2 (S2 T2 ty xT (zaU hh n1 n2 hz gJ h1 m hx fun h' e hk he=>?_) (yf _))));obtain ⟨o,e1,e2⟩:=he;exact AO (xV (T:="StopIteration") (b:=true) ⟨o,e1,e2⟩ isSubtype_stop (DY (q _ hk)))
abbrev pG (h:Heap)(d:AF)(n ep:Nat):Heap:=h.push {cls:=.type "dict_valueiterator",data:=.fields #[.ref d,.int 0 0,.int n 0,.int ep 0]}
abbrev m4 (h:Heap)(d l:AF)(n ep:Nat):Heap:=(pG h d n ep).push {cls:=.type "list_iterator",data:=.fields #[.ref l,.int 0 0]}
abbrev ZZ (h:Heap)(d l:AF)(n ep:Nat):Heap:=(m4 h d l n ep).push {cls:=.type "tuple",data:=.seq #[.ref h.objs.size,.ref (pG h d n ep).objs.size]}
abbrev ZY (h:Heap)(d l:AF)(n ep:Nat):Heap:=(ZZ h d l n ep).push {cls:=.type "tuple",data:=.seq #[.none,.none]}
abbrev Zt (h:Heap)(d l:AF)(n ep:Nat):Heap:=(ZY h d l n ep).push {cls:=.type "zip",data:=.fields #[.none,.bool false,.bool false,.ref (m4 h d l n ep).objs.size,.ref (ZZ h d l n ep).objs.size]}
def ag6 (knd:KeyKind prog w Kt)(v l d:AF)(ps:List (Kt×Value))(ep:Nat)(ys:Λ):
  MeetsIn prog w (Builtin.«zip.__new__» ⟨[.type "zip",.ref v,.ref l],[]⟩) (fun _ R s=>s.heap.IsValuesView v d/\s.heap.DictAt knd d ps ep/\s.heap.IsList l ys/\
   R (.ok (.ret (.ref (ZY s.heap d l ps.length ep).objs.size))) {s with heap:=Zt s.heap d l ps.length ep}):=
 .of_wp fun A R s h=>by
  obtain ⟨hp,g,dr,tk,os⟩:=s;obtain ⟨h1,h2,h3,q⟩:=h;let aA9:=sub_zip;let hV:Heap.IsValuesView (Shared.heap ⟨hp,g,dr,tk,os⟩) v d:=h1;let hD:Heap.DictAt knd (Shared.heap ⟨hp,g,dr,tk,os⟩) d ps ep:=h2;let hL:Heap.IsList (Shared.heap ⟨hp.push {cls:=.type "dict_valueiterator",data:=.fields #[.ref d,.int 0 0,.int ps.length 0,.int ep 0]},g,dr,tk,os⟩) l ys:=Heap.IsList.push h3 _
  wp_walk using wpAny_pyIter_values hV hD,zB hL
  show ⟨_,rfl,q⟩
def abB {ys:Λ}{Q:δ}(hv:s.heap.IsValuesView v d)(m:s.heap.DictAt knd d ps ep)(hl:s.heap.IsList l ys)
  (q:∀h',Lv h' (s.heap.objs.size+4) (s.heap.objs.size+2) (s.heap.objs.size+3) .none->LK h' (s.heap.objs.size+2) (.ref s.heap.objs.size) (.ref (s.heap.objs.size+1))->
   LK h' (s.heap.objs.size+3) .none .none->h'.IsValIter s.heap.objs.size d 0 ps.length ep->h'.IsListIter (s.heap.objs.size+1) l 0->(∀c o,s.heap.get? c=some o->h'.get? c=some o)->Q (.ref (s.heap.objs.size+4)) {s with heap:=h'}):
  AS (AX prog w) A (call (.type "zip") [.ref v,.ref l]) Q E s:=by
 refine callType_newIn F.called_zip dL (F.typeCall_zip_2 _ _) (F.newCall_zip_2 _ _) (fun obj=>F.args_object_init_3 obj _ _) F.entry_zip_new (ag6 knd v l d ps ep ys) ⟨hv,m,hl,?_⟩;let z1:(pG s.heap d ps.length ep).objs.size=s.heap.objs.size+1:=QQ ..;let z2:(m4 s.heap d l ps.length ep).objs.size=s.heap.objs.size+2:=by rw [QQ,z1]
 let z3:(ZZ s.heap d l ps.length ep).objs.size=s.heap.objs.size+3:=by rw [QQ,z2]
 let z4:(ZY s.heap d l ps.length ep).objs.size=s.heap.objs.size+4:=by rw [QQ,z3]
 let on:∀{h:Heap} {c:AF} {o p:Obj},h.get? c=some o->(h.push p).get? c=some o:=fun e=>FK _ e;let g5:(Zt s.heap d l ps.length ep).get? (ZY s.heap d l ps.length ep).objs.size=some _:=LL _ rfl;let g4:(Zt s.heap d l ps.length ep).get? (ZZ s.heap d l ps.length ep).objs.size=some _:=on (LL _ rfl);let g3:(Zt s.heap d l ps.length ep).get? (m4 s.heap d l ps.length ep).objs.size=some _:=on (on (LL _ rfl));let g2:(Zt s.heap d l ps.length ep).get? (pG s.heap d ps.length ep).objs.size=some _:=on (on (on (LL _ rfl)));let g1:(Zt s.heap d l ps.length ep).get? s.heap.objs.size=some _:=on (on (on (on (LL _ rfl))));show _/\_;rw [z2,z3,z4] at g5;rw [z1,z2] at g3;rw [z3] at g4;rw [z1] at g2;rw [z4];show ⟨⟨_,g5,rfl⟩,q _ g5 g3 g4 ⟨_,g1,rfl,rfl⟩ ⟨_,g2,rfl,rfl⟩ fun c o x=>on (on (on (on (on x))))⟩
end
def Pu (K:Frag)(d:AF)(o:Obj)(AA:γ)(b:AF):It:=
 ⟨fun i H=>H d=some (.eQ o (.dK AA))/\i<AA.length/\∃ys y,aR K H b ys/\ys[i]?=some y,
  fun i H v H'=>∃p k x y,AA[i]?=some (k,x)/\(∀ys,aR K H b ys->ys[i]?=some y)/\v=.ref p/\H p=none/\H'=upd H p (.tup [x,y]),
  fun i H=>H d=some (.eQ o (.dK AA))/\AA.length<=i⟩
def afT {K:Frag}{es:Ε}(d b z TI TO i1 i2:AF)(o:Obj)(AA:γ)(he:o.data=.dict Rn ep)(D:ZipApart z TI TO i1 i2 d b):
  Turn P w K (.Tuple es k pos) (Pu K d o AA b) [z,TI,TO,i1,i2] z (fun i h=>Lv h z TI TO .none/\LK h TI (.ref i1) (.ref i2)/\(∃x y,LK h TO x y)/\h.IsValIter i1 d i AA.length ep/\h.IsListIter i2 b i) where
 mem:=by simp
 obj:=fun i h st c hc=>by
  obtain ⟨hz,gJ,⟨x,y,lG⟩,⟨o1,e1,c1,d1⟩,⟨o2,e2,c2,d2⟩⟩:=st;have qX :c=z\/c=TI\/c=TO\/c=i1\/c=i2:=by simpa using hc
  rcases qX with e|e|e|e|e<;>subst e
  ·show ⟨_,hz,fun v z=>by cases z⟩
  ·show ⟨_,gJ,fun v z=>by cases z⟩
  ·show ⟨_,lG,fun v z=>by cases z⟩
  ·show ⟨_,e1,fun v z=>by erw [d1] at z⟩
  ·show ⟨_,e2,fun v z=>by erw [d2] at z⟩
 keep:=fun i h h' st k=>by
  obtain ⟨hz,gJ,⟨x,y,lG⟩,h1,h2⟩:=st;show ⟨k z ga _ hz,k TI ga _ gJ,⟨x,y,k TO ga _ lG⟩,h1.at fun o e=>k i1 ga o e,h2.at fun o e=>k i2 ga o e⟩
 item:=by
  intro X hP hw hK hc i pX s Y H E I hf st hg;subst hP hw hK;obtain ⟨hz,gJ,⟨x0,y0,lG⟩,h1,h2⟩:=st;obtain ⟨fz,hi,ys,y,qy,ey⟩:=hg;obtain ⟨hd,vs,rel,da,_⟩:=kA I.bJ fz he;let ek:AA[i]?=some AA[i]:=gE hi;obtain ⟨⟨k',u⟩,ev,e1,ru⟩:=aG rel ek;let lv:=rel.length;rw [lv] at h1;obtain ⟨Xp,u_,p',_⟩:=I.list qy;obtain ⟨v,hv,rv'⟩:=u_.get ey;refine aba D hz gJ lG h1 da h2 p'.isList ev (y:=v) (by simpa using hv) fun h' a1 a2 a3 a4 a5 a7=>?_;show ⟨_,rfl,wpAny_letOwnedTupleGo_zip (s:={s with heap:=h'}) a1 fun JB b1 sb=>?_⟩;let nz:∀c,c≠z->∀o,h'.get? c=some o->JB.get? c=some o:=fun c hc o e=>(sb.2 c hc).trans e
  let kk:∀b o,b∉[z,TI,TO,i1,i2]->s.heap.get? b=some o->JB.get? b=some o:=fun b o hb e=>by
   have fZ :b≠z/\b≠TI/\b≠TO/\b≠i1/\b≠i2:=by simpa using hb
   exact nz b fZ.1 o (a7 b o fZ.1 fZ.2.2.1 fZ.2.2.2.1 fZ.2.2.2.2 e)
  let sz:∀c o,s.heap.get? c=some o->s.heap.objs.size≠c:=fun c o e=>SY (EF e);let hn:=I.bJ.fresh (D' s.heap.objs.size)
  let I2:Inv X pX Y (upd H s.heap.objs.size (.tup [AA[i].2,y])) {s with heap:=JB,toks:=s.toks}:=
   Inv.rH I kk hf (D' _) (by show 2<=AZ;decide) (AP:=[u,v]) (.cons ru (.cons rv' .nil)) ⟨_,nz _ (sz _ _ hz) _ a5,rfl,_,rfl⟩
  rw [<-lv] at a3;show ⟨.ref s.heap.objs.size,_,I2,rfl,⟨s.heap.objs.size,AA[i].1,AA[i].2,y,ek,fun ys' q=>by rwa [I.i_ q qy],rfl,hn,rfl⟩,⟨b1,nz _ D.TIz _ (a7 _ _ D.TIz D.TITO D.TIi1 D.TIi2 gJ),⟨_,_,nz _ D.TOz _ a2⟩,a3.at fun o e=>nz _ D.i1z o e,a4.at fun o e=>nz _ D.i2z o e⟩,fun b hb=>?_⟩
  let ob:∃o,s.heap.get? b=some o:=by
   obtain ⟨o1,e1,_⟩:=h1;obtain ⟨o2,e2,_⟩:=h2;have qX :b=z\/b=TI\/b=TO\/b=i1\/b=i2:=by simpa using hb
   rcases qX with e|e|e|e|e<;>subst e
   ·show ⟨_,hz⟩
   ·show ⟨_,gJ⟩
   ·show ⟨_,lG⟩
   ·show ⟨_,e1⟩
   ·show ⟨_,e2⟩
  obtain ⟨o,e⟩:=ob;rw [aj (FT (sz _ _ e))];exact (hf b hb).1
 done:=by
  intro X hP hw hK hc i pX s Y H E I hf st hg;subst hP hw hK;obtain ⟨hz,gJ,⟨x0,y0,lG⟩,h1,h2⟩:=st;obtain ⟨fz,hi⟩:=hg;obtain ⟨hd,vs,rel,da,_⟩:=kA I.bJ fz he;let lv:=rel.length;rw [lv] at h1;refine zaR (I.ok.hd hc) D.i1z D.l1z hz gJ h1 da ce fun h' kk=>⟨rfl,Inv.nY I (fun b o hb e=>?_) hf⟩;have fZ :b≠z/\b≠TI/\b≠TO/\b≠i1/\b≠i2:=by simpa using hb
  exact kk b o fZ.1 fZ.2.2.2.1 e
 self:=fun _ _ _ _ _ st h=>Yq st.1 h
section
variable {X:Cx}
def abb (K:Frag)(te:TE)(ta:TA):TI:=fun Y H R=>te Y H fun x H1=>∃d,x=.ref d/\(∃AA,H1 d=some (.dK AA))/\ta Y H1 fun vs H2=>∃b AA,vs=[.ref b]/\(∃ys,aR K H2 b ys)/\H2 d=some (.dK AA)/\∀o,R (Pu K d o AA b) (upd H2 d (.eQ o (.dK AA)))
def Inv.XO {Y:L2.St}(I:Inv X pX Y H s)(h:s.heap.get? a=some o/\H a=none/\a≠X.env.locals/\a∉X.fs/\∀v,o.data≠.cell v):Inv X ((a,o)::pX) Y H s:=by
 show ⟨I.ok,I.os,I.bare,I.iT,I.loc,I.cell,I.free,I.i9,fun p hp=>?_,I.bJ,I.len⟩
 rcases FR.mp hp with z|z
 ·exact I.pin p (ON _ z)
 ·rcases LN.mp z with z|z
  ·rw [z]
   exact h
  ·exact I.pin p (OL _ z)
def Inv.Td {pX:ε}{Y:L2.St}(I:Inv X (p::pX) Y H s):Inv X pX Y H s:=by
 show ⟨I.ok,I.os,I.bare,I.iT,I.loc,I.cell,I.free,I.i9,fun p hp=>?_,I.bJ,I.len⟩
 rcases FR.mp hp with z|z
 ·exact I.pin p (ON _ z)
 ·exact I.pin p (OL _ (F' _ z))
def aez {p pos apos fU:Pos}{es:Ε}{k:Nat}{wV:Pos}(hg:Gl X "zip")(hm:X.mg "zip"=none)(ho:PE X e te)(ha:PA X [e2] ta)
  (hs:EC [.Call (.Attribute e "values" apos) [] [] fU,e2] X.env=[(false,D_ (.Call (.Attribute e "values" apos) [] [] fU) X.env),(false,D_ e2 X.env)]:=by rfl) (IH:EC [e2] X.env=[(false,D_ e2 X.env)]:=by rfl)
  (r9:Tj e "values" X.env (D_ e X.env)=D_ e X.env:=by rfl) (r_:(apos.endLine==fU.line)=true:=by rfl):
  PI X (.Tuple es k wV) (.Call (.Name "zip" p) [.Call (.Attribute e "values" apos) [] [] fU,e2] [] pos) (abb X.K te ta):=by
 intro pX s Y H R I h;refine Call_ (jt I hg hm boot_zip (To ?_ (by rw [hs,IH]) (by rw [IH];rfl)));rw [hs];show AS _ _ (spliced ((false,D_ (.Call (.Attribute e "values" apos) [] [] fU) X.env)::Le pos [(false,D_ e2 X.env)])) _ _ s;refine ZS (wpAny_Call_method0_late r9 r_ (cK (ho pX s Y H _ I h) fun v s1 ⟨x,H1,I1,r1,q1⟩=>?_));obtain ⟨d,rfl,⟨kv0,e0⟩,q⟩:=q1;cases r1;obtain ⟨h1,h2,hd⟩:=EL I1 (.inl ⟨kv0,.inl e0⟩);obtain ⟨_,_,vs0,aio,dd0⟩:=nZ I1.bJ e0;show ⟨"dict","dict.values",F.plainAttrs_dict,zE,F.type_dict_values,h1,h2,α1 rfl (PySem.evalArgs_none ?_)⟩;refine Xi zE h1 F.entry_dict_values (F.args_dict_values_1 _) (meets_dict_values (bx X.prog X.w) d hd) ⟨⟨vs0,dd0⟩,?_⟩;let I2:Inv X pX Y H1 {s1 with heap:=s1.heap.push {cls:=.type "dict_values",data:=.fields #[.ref d]}}:=I1.kept (t':=s1.toks) fun b o e=>FK _ e;obtain ⟨f0,f1,f2,f3,f4,f5⟩:=I1.nA (D' s1.heap.objs.size) (I1.bJ.fresh (D' _));let I3:=Inv.XO I2 (a:=s1.heap.objs.size) (o:={cls:=.type "dict_values",data:=.fields #[.ref d]}) ⟨LL _ rfl,f0,f1,f2,fun v z=>by cases z⟩;let hb2:Le pos [(false,D_ e2 X.env)]=Le pos (EC [e2] X.env):=by rw [IH]
 show AS _ _ (spliced (Le pos [(false,D_ e2 X.env)])) _ _ _;rw [hb2];refine cK (ha pos _ _ Y H1 _ I3 q) fun us s3 ⟨ws,H3,I4,r4,q4⟩=>?_;obtain ⟨b,AA,rfl,⟨ys,hy⟩,ed,q⟩:=q4;obtain ⟨u,rfl⟩:∃u,us=[u]:=by cases r4 with|cons h t=>cases t;show ⟨_,rfl⟩
 cases r4 with
 | cons rb _=>
 cases rb;let hv:=(I4.pin (s1.heap.objs.size,_) (OL _ GG)).1;let I5:=Inv.Td I4;obtain ⟨z,Rj,vs,rel,o,XA,ep,LC,hx,jf,hk,hp,hn⟩:=nZ I5.bJ ed;let da:s3.heap.DictAt (bx X.prog X.w) d vs ep:=⟨o,XA,LC,hx,jf,hk,hp,hn⟩;let lv:=rel.length;let I6:=Inv.freeze I5 ed LC;obtain ⟨Xp,u_,pl,_⟩:=I5.list hy;let lt1:d<s3.heap.objs.size:=EF LC;let lt2:b<s3.heap.objs.size:=by obtain ⟨ob,e1,_⟩:=pl.isList;exact EF e1
 refine abB (knd:=bx X.prog X.w) (d:=d) ⟨_,hv,rfl,rfl⟩ da pl.isList fun h' hz gJ lG zv Xq hk=>Yq (s:={s3 with heap:=h'}) hz ?_;rw [<-lv] at zv;show ⟨s3.heap.objs.size+4,[s3.heap.objs.size+4,s3.heap.objs.size+2,s3.heap.objs.size+3,s3.heap.objs.size,s3.heap.objs.size+1],_,_,_,rfl,I6.kept (t':=s3.toks) hk,afT d b _ _ _ _ _ o AA jf ?_,⟨hz,gJ,⟨_,_,lG⟩,zv,Xq⟩,fun c hc=>?_,q o⟩
 ·constructor<;>(intro z;simp only [AF] at*;omega)
 ·have qX :s3.heap.objs.size<=c:=by
   have:c=s3.heap.objs.size+4\/c=s3.heap.objs.size+2\/c=s3.heap.objs.size+3\/c=s3.heap.objs.size\/c=s3.heap.objs.size+1:=by simpa using hc
   simp only [AF] at*;omega
  exact I6.nA qX (I6.bJ.fresh qX)
def agH {K:Frag}{g:TG}{tb:TS}{D:Ends}(Pv:Nat->L2.St->Hp->Prop)(hy:AA.length<=ys.length)(h0:Pv 0 Y H)(hl:∀i Y H,i<=AA.length->Pv i Y H->H d=some (.eQ o (.dK AA))/\aR K H b ys)
  (hs:∀i k x y Y H p,AA[i]?=some (k,x)->ys[i]?=some y->Pv i Y H->H p=none->g (.ref p) Y (upd H p (.tup [x,y])) fun Y2 H2=>tb {D with nx:=Pv (i+1),ct:=Pv (i+1),bk:=D.nx} Y2 H2) (hd:∀Y H,Pv AA.length Y H->D.nx Y H):
  ∃W:Nat->Nat->L2.St->Hp->Prop,(∃m,W 0 m Y H)/\∀i m Y H,W i m Y H->
   ((Pu K d o AA b).stop i H/\D.nx Y H)\/((Pu K d o AA b).go i H/\∃N:L2.St->Hp->Prop,(∀Y' H',N Y' H' ->∃m',m'<m/\W (i+1) m' Y' H')/\∀x H',(Pu K d o AA b).DU i H x H' ->g x Y H' fun Y2 H2=>tb {D with nx:=N,ct:=N,bk:=D.nx} Y2 H2):=by
 show ⟨fun i m Y H=>m=AA.length-i/\i<=AA.length/\Pv i Y H,⟨AA.length,by simp,LS _,h0⟩,?_⟩;rintro i m Y H ⟨rfl,hi,p⟩;obtain ⟨q1,q2⟩:=hl i Y H hi p;by_cases jU:i<AA.length
 ·let ey:ys[i]?=some ys[i]:=gE ce
  refine .inr ⟨⟨q1,jU,ys,ys[i],q2,ey⟩,Pv (i+1),fun Y' H' z=>⟨AA.length-(i+1),ce,rfl,ce,z⟩,fun x H' y=>?_⟩;obtain ⟨a,k,x',y',ek,NJ,rfl,na,rfl⟩:=y;exact hs i k x' y' Y _ a ek (NJ ys q2) p na
 ·let e:i=AA.length:=ce
  subst e;exact .inl ⟨⟨q1,D' _⟩,hd Y H p⟩
end
section
variable {D:AF}{te:TE}{ph:L2.St}{H1:Hp}{Q:VK}
def qE (J:List V->Hp->Prop)(nD:H1 D=none)(hn:n<AZ)(h0:J [] (upd H1 D (.lst [])))
  (he:∀(i:Nat) ys H (R:VK),i<n->ys.length=i->J ys H->ao H1 H->H D=some (.lst ys)->(∀v H6,ao H H6->J (ys++[v]) (upd H6 D (.lst (ys++[v])))->R v H6)->te (some (.int (0+(i:Int)))::ph) H R)
  (hd:∀ys H,ys.length=n->J ys H->ao H1 H->H D=some (.lst ys)->Q (.ref D) H):
  mK D (cy 0) jV te (Sy 0 n) (none::ph) H1 Q:=by
 refine xh n (fun i=>.int (0+(i:Int))) (fun i ys H=>ys.length=i/\J ys H/\ao H1 H) ⟨rfl,h0,fun b o e=>by rwa [aj (ak e nD)]⟩ ?_ ?_ ?_ ?_
 ·rintro i ys H hi _
  show ⟨hi,fun x H' y=>y⟩
 ·rintro ys H _
  exact D' n
 ·rintro i ys H R hi ⟨l,j,s⟩ hD k
  exact he i ys H R hi l j s hD fun v H6 s6 jv=>k v H6 (s6 _ _ hD) ce ⟨by simp [l],jv,fun b o e=>by rw [aj (ak e nD)];exact s6 _ _ (s _ _ e)⟩
 ·rintro ys H ⟨l,j,s⟩ hD
  exact hd ys H l j s hD
end
def aek {K:Frag}(h:X.K=K)(hu:X.A.units+64<Lp):j8 X (Lo .NotEq) (IW K):=by subst h;exact xb hu
section
variable {prog:FE}{w:World}{KK:Type}[DecidableEq KK]{knd:KeyKind prog w KK}{A:LF}{E:δ}{s:BN}
def aa3 (hu:A.units<Lp)(ha:(a==Ls)=false)(hb:(b==Ls)=false)(da:s.heap.DictOf knd a vs)(db:s.heap.DictOf knd b ws)
  (hk:vs.map (·.1)=ws.map (·.1)) (he:∀(i:Nat)(x y:KK×Value),vs[i]?=some x->ws[i]?=some y->SeqAt.EqAt A.in1 s x.2 y.2 true) {Q:δ} (q:Q (.bool false) s):
  AS (AX prog w) A (richCompare .NotEq (.ref a) (.ref b)) Q E s:=by
 refine wpAny_richCompare_same_room da.typeIs db.typeIs F.slot_dict_ne (S2 F.slot_dict_ne da.typeIs F.entry_dict_ne ?_ (F.args_dict_ne_2 _ _)) hu;show AS _ _ (Builtin.Dict.dictSlotArgs "__ne__" ⟨[.ref a,.ref b],[]⟩ >>=_) _ _ s;unfold Builtin.Dict.dictSlotArgs;refine AO (AO (wpAny_notOrdered_dict da.typeIs ?_));show AS _ _ (pure (Value.ref a,Value.ref b)) _ _ s;refine DY ?_;refine AO (xV db.typeIs isSubtype_dict_dict ?_);rw [ni dL];show AS _ _ (Builtin.Dict.samePairs _ a b >>=_) _ _ s;refine AO (zaw ha hb da db hk he ?_);exact DY ⟨.bool false,rfl,(fun z=>nomatch z),q⟩
end
variable {X:Cx}
def V2 (K:Frag):R2:=fun x y H Q=>∃(a b:AF)(k1 k2:γ),x=.ref a/\y=.ref b/\H a=some (.dK k1)/\H b=some (.dK k2)/\k1.map (·.1)=k2.map (·.1)/\
 (∀(i:Nat)(u v:Key×V),k1[i]?=some u->k2[i]?=some v->∃d,Is K H d u.2/\Is K H d v.2/\alike d d=true/\iH d d=true/\dep d<=60)/\Q (.bl false) H
def aer (hu:X.A.units+64<Lp):j8 X (Lo .NotEq) (V2 X.K):=by
 intro pX s Y H x y v u Q I rx ry h;obtain ⟨a,b,k1,k2,rfl,rfl,e1,e2,ek,hv,q⟩:=h;cases rx;cases ry;obtain ⟨z,hd,vs,rel,dd⟩:=ku I.bJ (.inl e1);obtain ⟨z2,hd2,ws,XQ,dd2⟩:=ku I.bJ (.inl e2);refine aa3 ce hd hd2 dd dd2 (by rw [<-rel.keys,<-XQ.keys,ek]) (fun i x y hx hy=>?_) ⟨.bl false,H,I,rfl,q⟩
 let li:i<k1.length:=by
  have:=(be.mp hx).1;rw [rel.length];exact this
 let li2:i<k2.length:=by
  have:=(be.mp hy).1;rw [XQ.length];exact this
 let g1:=gE li;let g2:=gE li2;obtain ⟨x',ex,_,rx⟩:=aG rel g1;obtain ⟨y',ey,_,ry⟩:=aG XQ g2;rw [hx] at ex;rw [hy] at ey;cases ex;cases ey;obtain ⟨d,h1,h2,h3,h4,h5⟩:=hv i _ _ g1 g2;have:=ag5 I _ _ _ _ _ _ X.A.in1 h1 h2 h3 rx ry (by rw [in1_units];omega);rwa [h4] at this
inductive NK {A0 A1:Type}(p:A0->A1->Prop):Prop where
 | mk (a0:A0)(a1:A1)(h:p a0 a1):NK p
inductive JS {A0 A1 A2:Type}(p:A0->A1->A2->Prop):Prop where
 | mk (a0:A0)(a1:A1)(a2:A2)(h:p a0 a1 a2):JS p
inductive LX {A0 A1 A2 A3:Type}(p:A0->A1->A2->A3->Prop):Prop where
 | mk (a0:A0)(a1:A1)(a2:A2)(a3:A3)(h:p a0 a1 a2 a3):LX p
inductive Ex5 {A0 A1 A2 A3 A4:Type}(p:A0->A1->A2->A3->A4->Prop):Prop where
 | mk (a0:A0)(a1:A1)(a2:A2)(a3:A3)(a4:A4)(h:p a0 a1 a2 a3 a4):Ex5 p
inductive Ex6 {A0 A1 A2 A3 A4 A5:Type}(p:A0->A1->A2->A3->A4->A5->Prop):Prop where
 | mk (a0:A0)(a1:A1)(a2:A2)(a3:A3)(a4:A4)(a5:A5)(h:p a0 a1 a2 a3 a4 a5):Ex6 p
inductive Ex7 {A0 A1 A2 A3 A4 A5 A6:Type}(p:A0->A1->A2->A3->A4->A5->A6->Prop):Prop where
 | mk (a0:A0)(a1:A1)(a2:A2)(a3:A3)(a4:A4)(a5:A5)(a6:A6)(h:p a0 a1 a2 a3 a4 a5 a6):Ex7 p
inductive Ex9 {A0 A1 A2 A3 A4 A5 A6 A7 A8:Type}(p:A0->A1->A2->A3->A4->A5->A6->A7->A8->Prop):Prop where
 | mk (a0:A0)(a1:A1)(a2:A2)(a3:A3)(a4:A4)(a5:A5)(a6:A6)(a7:A7)(a8:A8)(h:p a0 a1 a2 a3 a4 a5 a6 a7 a8):Ex9 p
section
variable {P:FE}{w:World}{K:Frag}{mg:ι}{iT:Heap}{CX:nI}{N ps:ς}{k:Nat}{sp:Sp}{st:Stmt}
def Def.oo (D:Def K mg x st ps)(S:av N ps (ae st))
  (ib:∀{f:AF} {cF:Value} {A:LF} {mB:List Env} {s:BN} {vs:η} {Q:VK} {E:XK} (H:Hp),cM k (A.deeper (Nf x (ae st) s.heap.objs.size f cF))->sp vs H Q E->
   ∃t,rj (j_ CX P w K mg iT N x (ae st) f cF A mB s H E).yO (aq st) t/\t {nx:=fun _ H'=>Q .dc H',rt:=Q} (start N vs) H) (len:∀vs H Q E,sp vs H Q E->vs.length=ps.length:=by intro vs H Q E h;cases h;subst_vars;rfl):Fn P w K mg iT CX (k+1) x ps sp:=D.ok S len fun _ _ _ _ _ H _ _ _ hr h=>ib H hr h
def Def.op (D:Def K mg x st ps)(S:av N ps (ae st))
  (ib:∀(f:AF)(cF:Value)(A:LF)(mB:List Env)(s:BN)(H:Hp)(vs:η)(Q:VK)(E:XK),cM k (A.deeper (Nf x (ae st) s.heap.objs.size f cF))->sp vs H Q E->
   ∃t,rj (j_ CX P w K mg iT N x (ae st) f cF A mB s H E).yO (aq st) t/\t {nx:=fun _ H'=>Q .dc H',rt:=Q} (start N vs) H) (len:∀vs H Q E,sp vs H Q E->vs.length=ps.length:=by intro vs H Q E h;cases h;subst_vars;rfl):Fn P w K mg iT CX (k+1) x ps sp:=D.ok S len ib
def ix (F:sr K name qual st f fd)(S:av N ps (ae st))
  (ib:∀{cF:Value} {A:LF} {mB:List Env} {s:BN} {vs:η} {Q:VK} {E:XK} (H:Hp),cM k (A.deeper (Nf qual (ae st) s.heap.objs.size f cF))->sp vs H Q E->
   ∃t,rj (uP P w K mg iT N qual (ae st) f cF A mB s H E).yO (aq st) t/\t {nx:=fun _ H'=>Q .dc H',rt:=Q} (start N vs) H) (len:∀vs H Q E,sp vs H Q E->vs.length=ps.length:=by intro vs H Q E h;cases h;subst_vars;rfl):dH P w K mg iT (aS P w) (k+1) f fd ps sp:=aeH F S len fun _ _ _ _ H _ _ _ hr h=>ib H hr h
def JT (P:FE)(w:World):Passes (aS P w) X.yO E0:=mi aS.EH
end
section
variable {X:Cx}{i:Nat}{x y:Str}{a b c d e e1 e2 e3 e4 e5 elt target iter:Expr}{es ifs:Ε}{te ta tb t1 t2 t3 t4 t5:TE}{wi:TI}{g:TG}{tt:TT}{pos pos' py vd p:Pos}{scope:Scope}{tn fr:ς}{oV:List Nat}
def aC (i:Nat)(hN:X.N.Nodup)(he:PE X e te)(hi:X.N[i]?=some x:=by rfl)(hx:Loc X.env.scope x:=by first|exact .inl rfl|exact .inr rfl)(hs:S0 e (some (.Name x pos')) pos.line X.env=pure false:=by rfl)(hf:X.fn x=true\/X.env.scope.names.lookup x=some .local:=by first|exact .inl rfl|exact .inr rfl|assumption):
  PS X (.Assign [.Name x pos'] e pos) (DT te (cy i)):=agK hN hi hx he hs hf
def bM (i:Nat)(hN:X.N.Nodup)(hi:X.N[i]?=some x:=by rfl)(hx:Loc X.env.scope x:=by first|exact .inl rfl|exact .inr rfl)(hf:X.fn x=true\/X.env.scope.names.lookup x=some .local:=by first|exact .inl rfl|exact .inr rfl|assumption):PG X (.Name x pos) (cy i):=gN hN hi hx hf
def bg (hr:W8 X r)(ha:PE X a ta)(hb:PE X b tb)(hs:agI b:=by exact fun _ _=>rfl):PE X (.Subscript a b pos) (SD r ta tb):=Ov hr ha hb hs
def bO (ho:j8 X (Lo op) r)(ha:PE X a ta)(hb:PE X b tb)(hm:X1 op b=false:=by exact j9 _):PT X (.Compare a [op] [b] pos) (VE (SD r ta tb)):=wQ ho ha hb hm
def aZ (h1:PE X e1 t1)(s1:isStar e1=false:=by rfl):PA X [e1] (qu t1 gI):=jP h1 jx s1
def aE (h1:PE X e1 t1)(h2:PE X e2 t2)(s1:isStar e1=false:=by rfl)(s2:isStar e2=false:=by rfl):PA X [e1,e2] (qu t1 (qu t2 gI)):=jP h1 (aZ h2 s2) s1
def bU (h1:PE X e1 t1)(h2:PE X e2 t2)(h3:PE X e3 t3)(s1:isStar e1=false:=by rfl)(s2:isStar e2=false:=by rfl)(s3:isStar e3=false:=by rfl):PA X [e1,e2,e3] (qu t1 (qu t2 (qu t3 gI))):=jP h1 (aE h2 h3 s2 s3) s1
def JU (h1:closureFor scope X.env=pure (bf X.env fr):=by exact rfl)(h2:∀y∈scope.names,y.2≠.cell:=by decide+kernel)(h3:scope.kind=.function:=by exact rfl)(h4:∀y∈scope.names,y.2=.local->scope.names.lookup y.1=some .local:=by decide+kernel)(h5:∀y∈scope.names,y.2=.free->y.1∈fr:=by decide+kernel)(h6:oV.map (fun i=>X.N[i]?)=fr.map some:=by exact rfl)
  (h7:iW X.env fr:=by repeat (first|exact trivial|show ⟨by first|exact Pj rfl|exact TM rfl,?_⟩)) (h8:iW (compEnvC scope [] 0 X.env) fr:=by repeat (first|exact trivial|show ⟨by first|exact Pj rfl|exact TM rfl,?_⟩)):xg X scope fr oV:=⟨h1,h2,h3,h4,h5,h6,h7,h8⟩
def Py (hi:PI X target iter wi)(hg:∀C s H fp,PG (rF X (tn++fr) scope (bf X.env fr) C s H fp) target g)(ht:∀C s H fp,PF (rF X (tn++fr) scope (bf X.env fr) C s H fp) ifs tt)(he:∀{C s H fp},PE (rF X (tn++fr) scope (bf X.env fr) C s H fp) elt te)
  (hc:X.calm=true:=by rfl) (B:xg X scope fr oV:=by exact JU) (hs:∀x,S4 iter X.env x=pure x:=by intro _;rfl):PE X (.ListComp elt [⟨target,iter,ifs,0⟩] scope pos) (qz tn.length oV wi g tt te):=afl hc B hi hg ht (fun _ _ _ _=>he) hs
def abc (hN:(tn++fr).Nodup)(h0:(tn++fr)[0]?=some y)(hx:∀C s H fp,Loc (rF X (tn++fr) scope (bf X.env fr) C s H fp).env.scope y)(hl:∀C s H fp,(rF X (tn++fr) scope (bf X.env fr) C s H fp).fn y=true\/(rF X (tn++fr) scope (bf X.env fr) C s H fp).env.scope.names.lookup y=some .local):∀C s H fp,PG (rF X (tn++fr) scope (bf X.env fr) C s H fp) (.Name y py) (cy 0):=fun C s H fp=>gN hN h0 (hx C s H fp) (hl C s H fp)
def fe (hi:PI X (.Name y py) iter wi)(he:∀{C s H fp},PE (rF X (tn++fr) scope (bf X.env fr) C s H fp) elt te)
  (hc:X.calm=true:=by rfl) (B:xg X scope fr oV:=by exact JU) (hs:∀x,S4 iter X.env x=pure x:=by intro _;rfl) (hN:(tn++fr).Nodup:=by decide+kernel) (h0:(tn++fr)[0]?=some y:=by rfl) (hx:∀C s H fp,Loc (rF X (tn++fr) scope (bf X.env fr) C s H fp).env.scope y:=by exact fun _ _ _ _=>.inl rfl) (hl:∀C s H fp,(rF X (tn++fr) scope (bf X.env fr) C s H fp).fn y=true\/(rF X (tn++fr) scope (bf X.env fr) C s H fp).env.scope.names.lookup y=some .local:=by intro _ _ _ _;first|exact .inl rfl|exact .inr rfl):PE X (.ListComp elt [⟨.Name y py,iter,[],0⟩] scope pos) (qz tn.length oV wi (cy 0) jV te):=afl hc B hi (abc hN h0 hx hl) (fun _ _ _ _=>sI) (fun _ _ _ _=>he) hs
def Pz (hN:X.N.Nodup)(hi:PI X target iter wi)(hg:∀C s H fp,PG (rF X (tn++fr) scope (bf X.env fr) C s H fp) target g)(ht:∀C s H fp,PF (rF X (tn++fr) scope (bf X.env fr) C s H fp) ifs tt)(he:∀{C s H fp},PE (rF X (tn++fr) scope (bf X.env fr) C s H fp) elt te)
  (Xl:X.N[i]?=some x:=by rfl) (hx:Loc X.env.scope x:=by first|exact .inl rfl|exact .inr rfl) (hc:X.calm=true:=by rfl) (B:xg X scope fr oV:=by exact JU) (IZ:S0 (.ListComp elt [⟨target,iter,ifs,0⟩] scope pos) (some (.Name x py)) vd.line X.env=pure true:=by rfl)
  (hs:∀x,S4 iter X.env x=pure x:=by intro _;rfl) (hf:X.fn x=true\/X.env.scope.names.lookup x=some .local:=by first|exact .inl rfl|exact .inr rfl|assumption):
  PS X (.Assign [.Name x py] (.ListComp elt [⟨target,iter,ifs,0⟩] scope pos) vd) (DT (qz tn.length oV wi g tt te) (cy i)):=afh hN Xl hx hc B hi hg ht (fun _ _ _ _=>he) IZ hs hf
def kE (hN:X.N.Nodup)(hi:PI X (.Name y yp) iter wi)(he:∀{C s H fp},PE (rF X (tn++fr) scope (bf X.env fr) C s H fp) elt te)
  (Xl:X.N[i]?=some x:=by rfl) (hx:Loc X.env.scope x:=by first|exact .inl rfl|exact .inr rfl) (hc:X.calm=true:=by rfl) (B:xg X scope fr oV:=by exact JU) (IZ:S0 (.ListComp elt [⟨.Name y yp,iter,[],0⟩] scope pos) (some (.Name x py)) vd.line X.env=pure true:=by rfl)
  (hs:∀x,S4 iter X.env x=pure x:=by intro _;rfl) (hf:X.fn x=true\/X.env.scope.names.lookup x=some .local:=by first|exact .inl rfl|exact .inr rfl|assumption) (hN2:(tn++fr).Nodup:=by decide+kernel) (h0:(tn++fr)[0]?=some y:=by rfl) (hx2:∀C s H fp,Loc (rF X (tn++fr) scope (bf X.env fr) C s H fp).env.scope y:=by exact fun _ _ _ _=>.inl rfl) (hl:∀C s H fp,(rF X (tn++fr) scope (bf X.env fr) C s H fp).fn y=true\/(rF X (tn++fr) scope (bf X.env fr) C s H fp).env.scope.names.lookup y=some .local:=by intro _ _ _ _;first|exact .inl rfl|exact .inr rfl):
  PS X (.Assign [.Name x py] (.ListComp elt [⟨.Name y yp,iter,[],0⟩] scope pos) vd) (DT (qz tn.length oV wi (cy 0) jV te) (cy i)):=afh hN Xl hx hc B hi (abc hN2 h0 hx2 hl) (fun _ _ _ _=>sI) (fun _ _ _ _=>he) IZ hs hf
def aJ {E:XK}(F:Fn X.prog X.w X.K X.mg X.iT (aS P w) k x ps sp)(hr:cM l X.A)(ha:PA X (e::es) t)(hk:k<=l:=by decide)(hx:Passes (aS P w) X E:=by exact mi aS.EH)(hg:Gl X x:=by rfl)(va:(x==("__debug__":Str))=false:=by decide)
  (he:EC (e::es) X.env=(false,D_ e X.env)::EC es X.env:=by rfl) (qY:(Le pos (EC es X.env)).any (·.1)=false:=by rfl):PE X (.Call (.Name x p) (e::es) [] pos) (II sp [] E t):=kq F (hr.mono hk) hx ha hg va he qY
def tK {E:XK}(F:Fn X.prog X.w X.K X.mg X.iT (aS P w) k x ps sp)(hr:cM l X.A)(ha:PA X (e::es) t)(hk:k<=l:=by decide)(hx:Passes (aS P w) X E:=by exact aaz aS.EH rfl)(hg:Gl X x:=by rfl)(va:(x==("__debug__":Str))=false:=by decide)
  (he:EC (e::es) X.env=(false,D_ e X.env)::EC es X.env:=by rfl) (qY:(Le pos (EC es X.env)).any (·.1)=false:=by rfl):PE X (.Call (.Name x p) (e::es) [] pos) (II sp [] E t):=kq F (hr.mono hk) hx ha hg va he qY
end
end Ty
namespace T_k97
open PySem PySem.Spec PyProof.Rows L2 Ty
open Builtin.Int (intBits)
abbrev ac (P:FE)(w:World)(K:Frag)(mg:ι)(iT:Heap):=Fn P w K mg iT (aS P w)
abbrev ad (P:FE)(w:World)(K:Frag)(mg:ι)(iT:Heap):=dH P w K mg iT (aS P w)
abbrev am (P:FE)(w:World)(K:Frag)(mg:ι)(iT:Heap):=bS P w K mg iT (aS P w)
abbrev ap (a:AF):Option V:=some (.ref a)
theorem sq2 {a b c:TS}{D Y H}(s:let y:=c;let z:=oX b y;oX a z D Y H):oX a (oX b c) D Y H:=s
theorem sq3 {a b c d:TS}{D Y H}(s:let x:=d;let y:=oX c x;let z:=oX b y;oX a z D Y H):oX a (oX b (oX c d)) D Y H:=s
theorem sq4 {a b c d e:TS}{D Y H}(s:let w:=e;let x:=oX d w;let y:=oX c x;let z:=oX b y;oX a z D Y H):oX a (oX b (oX c (oX d e))) D Y H:=s
theorem sq6 {a b c d e f g:TS}{D Y H}(s:let u:=g;let v:=oX f u;let w:=oX e v;let x:=oX d w;let y:=oX c x;let z:=oX b y;oX a z D Y H):oX a (oX b (oX c (oX d (oX e (oX f g))))) D Y H:=s
theorem sq8 {a b c d e f g h i:TS}{D Y H}(s:let r:=i;let t:=oX h r;let u:=oX g t;let v:=oX f u;let w:=oX e v;let x:=oX d w;let y:=oX c x;let z:=oX b y;oX a z D Y H):oX a (oX b (oX c (oX d (oX e (oX f (oX g (oX h i))))))) D Y H:=s
theorem sq10 {a b c d e f g h i j k:TS}{D Y H}(s:let B:=k;let A:=oX j B;let r:=oX i A;let t:=oX h r;let u:=oX g t;let v:=oX f u;let w:=oX e v;let x:=oX d w;let y:=oX c x;let z:=oX b y;oX a z D Y H):oX a (oX b (oX c (oX d (oX e (oX f (oX g (oX h (oX i (oX j k))))))))) D Y H:=s
theorem sq13 {a b c d e f g h i j k l m n:TS}{D Y H}(s:let F:=n;let E:=oX m F;let C:=oX l E;let B:=oX k C;let A:=oX j B;let r:=oX i A;let t:=oX h r;let u:=oX g t;let v:=oX f u;let w:=oX e v;let x:=oX d w;let y:=oX c x;let z:=oX b y;oX a z D Y H):oX a (oX b (oX c (oX d (oX e (oX f (oX g (oX h (oX i (oX j (oX k (oX l (oX m n)))))))))))) D Y H:=s
local macro_rules|`(tactic|sleep 2)=>`(tactic|(try dsimp only [uP,j_,Cx.yO,Cx.u9];refine sq2 ?_;intros))|`(tactic|sleep 3)=>`(tactic|(try dsimp only [uP,j_,Cx.yO,Cx.u9];refine sq3 ?_;intros))|`(tactic|sleep 4)=>`(tactic|(try dsimp only [uP,j_,Cx.yO,Cx.u9];refine sq4 ?_;intros))|`(tactic|sleep 6)=>`(tactic|(try dsimp only [uP,j_,Cx.yO,Cx.u9];refine sq6 ?_;intros))|`(tactic|sleep 8)=>`(tactic|(try dsimp only [uP,j_,Cx.yO,Cx.u9];refine sq8 ?_;intros))|`(tactic|sleep 10)=>`(tactic|(try dsimp only [uP,j_,Cx.yO,Cx.u9];refine sq10 ?_;intros))|`(tactic|sleep 13)=>`(tactic|(try dsimp only [uP,j_,Cx.yO,Cx.u9];refine sq13 ?_;intros))
abbrev bn:=Nat->L2.St->Hp->Prop
def z0L:0<=AZ:=dL
def z1L:1<=AZ:=dL
def qU:2<=AZ:=dL
def z4L:4<=AZ:=dL
def z6L:6<=AZ:=dL
seal L2.PE L2.PS L2.rj L2.PA
abbrev LG:List Str:=["_law_one","_law_other"]
abbrev EN:List Str:=["one","other"]
abbrev SI:List Str:=["_law_pins_here","_law_bars_here","_law_pulls","_law_pushes"]
abbrev Ph:List Str:=["_law_cell","_law_prime","_law_many"]
abbrev LH:List Str:=["self"]
abbrev SH:List Str:=["_law_pins_here","_law_motion"]
abbrev Tu:List Str:=["_law_pins_here","_law_bar","_law_axis"]
abbrev sZ:List Str:=["_law_bars_here","_law_bar","_law_pulls","_law_grips_here"]
abbrev XI:List Str:=["_law_found","_law_k","_law_axis","_law_draw"]
abbrev SA:List Str:=["self","name","one","other"]
abbrev Qd:List Str:=["_law_script","_law_k"]
abbrev S9:List Str:=["_law_script","_law_many"]
abbrev Nb:List Str:=["self","pin"]
abbrev Pf:List Str:=["F","one","other"]
abbrev rh:List Str:=["_law_script","_law_pins_here","_law_bars_here"]
abbrev TH:List Str:=["_law_top","_law_bottom"]
abbrev rg:List Str:=["_law_pins_here","_law_bar","_law_motion"]
abbrev XH:List Str:=["_law_style","_law_at","_law_k"]
abbrev QS:List Str:=["top","bottom"]
abbrev rf:List Str:=["_law_pins_here","_law_bars_here"]
abbrev S8:List Str:=["lines","many"]
abbrev qZ:List Str:=["_law_load_here","_law_motion"]
abbrev q5:List Str:=["_law_script","_law_bars_here"]
abbrev XG:List Str:=["_law_cell","_law_many"]
abbrev XF:List Str:=["_law_bar","_law_other"]
abbrev pK:List Str:=["self","name","x","y","hold"]
abbrev SJ:List Str:=["F","numbers"]
abbrev vn:List Str:=["_law_script","_law_sides"]
abbrev Qf:List Str:=["_law_one"]
abbrev vk:List Str:=["line","lead","column"]
abbrev vi:List Str:=["F","firm","bar_rows"]
abbrev vh:List Str:=["rows","due","many"]
abbrev ve:List Str:=["F","grips","pulls"]
abbrev Xf:List Str:=["self","x","y"]
abbrev vc:List Str:=["F","grips","load"]
abbrev Tv:List Str:=["F","draws"]
abbrev Xe:List Str:=["rows","many"]
abbrev vb:List Str:=["lines","column"]
abbrev Xc:List Str:=["self","bar"]
abbrev uK:List Str:=["firm","longer"]
abbrev XY:List Str:=["F","grips"]
abbrev zaP:List Str:=["whole","other","times","less"]
abbrev uJ:List Str:=["F","motion"]
abbrev XN:List Str:=["numbers"]
abbrev s_:List Str:=["_law_many"]
abbrev zaT:List Str:=["share","whole"]
abbrev XM:List Str:=["_law_k"]
abbrev XJ:List Str:=["_law_x"]
def sq {N P:ς}{sc:Scope}(a:sc.kind=.function:=by exact rfl)(b:sc.isCoroutine=false:=by exact rfl)(c:sc.isGenerator=false:=by exact rfl)(d:N.Nodup:=by decide+kernel)(e:N.take P.length=P:=by exact rfl)(f:∀x∈P,sc.names.lookup x=some .local\/sc.names.lookup x=some .cell:=by decide+kernel)(g:∀y∈sc.names,y.2≠.free:=by decide+kernel):av N P sc:=⟨a,b,c,d,e,f,g⟩
def pY (P:FE)(w:World){X:Cx}:Passes (aS P w) X.yO E0:=mi aS.EH
def pins {X:Cx}:Passes (aS P w) X.yO E0:=mi aS.EH
def _root_.L2.cM.mo (r:L2.cM k A)(h:j<=k:=by decide):L2.cM j A:=r.mono h
def ay (h:PE X a ta):PE X (.Subscript a (.Constant (.int i) j p1) p2) (SD (Ow X.K) ta (tC (.int i))):=Ov pH h af (fun _ _=>rfl)
def mm (h:PE X a ta):PE X (.Subscript a (.Constant (.int i) j p1) p2) (SD (SR X.K) ta (tC (.int i))):=Ov aI h af (fun _ _=>rfl)
def bl1{P:List Value->Prop}(h:∀a:Value,P [a]):∀us:List Value,us.length=1->P us|[_],_=>h _
def blS{P:List Value->Prop}{n:Nat}(h:∀a us,us.length=n->P (a::us)):∀us:List Value,us.length=n+1->P us|a::us,e=>h a us (Nat.succ.inj e)
def bl2{P:List Value->Prop}(h:∀a b:Value,P [a,b]):∀us:List Value,us.length=2->P us:=blS fun a=>bl1 (h a)
def bl3{P:List Value->Prop}(h:∀a b c:Value,P [a,b,c]):∀us:List Value,us.length=3->P us:=blS fun a=>bl2 (h a)
def bl4{P:List Value->Prop}(h:∀a b c d:Value,P [a,b,c,d]):∀us:List Value,us.length=4->P us:=blS fun a=>bl3 (h a)
def bl5{P:List Value->Prop}(h:∀a b c d e:Value,P [a,b,c,d,e]):∀us:List Value,us.length=5->P us:=blS fun a=>bl4 (h a)
def bl6{P:List Value->Prop}(h:∀a b c d e f:Value,P [a,b,c,d,e,f]):∀us:List Value,us.length=6->P us:=blS fun a=>bl5 (h a)
def bl7{P:List Value->Prop}(h:∀a b c d e f g:Value,P [a,b,c,d,e,f,g]):∀us:List Value,us.length=7->P us:=blS fun a=>bl6 (h a)
def _root_.L2.sr.DL {K:Frag}{st:Stmt}(F:L2.sr K x qual st f fd)
 (h:∀(kV doc pm:Value)(an:Κ)(cF ct:Value)(us:ρ),us.length=ps.length->bindArgs (fnOf x qual (au st) (aq st) (ae st) .none kV doc pm an cF ct) ⟨us,[]⟩=pure (ps.zip us):=by intro _ _ _ _ _ _;first|exact bl1 fun _=>rfl|exact bl2 fun _ _=>rfl|exact bl3 fun _ _ _=>rfl|exact bl4 fun _ _ _ _=>rfl|exact bl5 fun _ _ _ _ _=>rfl):Binds K fd ps []:=F.binds h
inductive oZ (K:Frag)(x:Str)(st:Stmt):Prop|mk{f:AF}{oc:Value}{od an:Κ}{uZ:Ν}{kV doc pm cF ct:Value}(a:nsIn K EW x=some (some (.ref f)))(l:K.lookup f=some ⟨oc,od,.func (fnOf x x (au st) (aq st) (ae st) .none kV doc pm an cF ct),uZ⟩)(c:codeIn K cF x=true)(k:keepIn K (.ref f)=true):oZ K x st
inductive uQ (K:Frag)(C:AF)(x q:Str)(st:Stmt):Prop|mk{f:AF}{oc:Value}{od an:Κ}{uZ:Ν}{kV doc pm cF ct:Value}(a:Lb K (.ref C) x=some (some (.ref f)))(i:Xm K (.ref f)=true)(l:K.lookup f=some ⟨oc,od,.func (fnOf x q (au st) (aq st) (ae st) .none kV doc pm an cF ct),uZ⟩)(c:codeIn K cF q=true)(k:keepIn K (.ref f)=true):uQ K C x q st
def fK {K:Frag}{mg:ι}{st:Stmt}(X:K.In h)(G:h.Ns EW mg)(H:oZ K x st)
 (b:∀(kV doc pm:Value)(an:Κ)(cF ct:Value)(us:ρ),us.length=ps.length->bindArgs (fnOf x x (au st) (aq st) (ae st) .none kV doc pm an cF ct) ⟨us,[]⟩=pure (ps.zip us):=by intro _ _ _ _ _ _;first|exact bl1 fun _=>rfl|exact bl2 fun _ _=>rfl|exact bl3 fun _ _ _=>rfl|exact bl4 fun _ _ _ _=>rfl|exact bl5 fun _ _ _ _ _=>rfl|exact bl6 fun _ _ _ _ _ _=>rfl|exact bl7 fun _ _ _ _ _ _ _=>rfl):Def K mg x st ps:=have ⟨a,l,c,k⟩:=H;Def.of (eY l c k) ((eY l c k).binds b) (mg_of X G a)
def top (i:Nat):Stmt:=PySem.Challenge.pw_trussyard_k97_whole_chains_bend.main.body.getD i (.Pass ⟨0,0,0,0⟩)
abbrev iy:Stmt:=top 16
abbrev FA:Stmt:=top 17
abbrev dE:Stmt:=top 18
abbrev cY:Stmt:=top 19
abbrev AG:Stmt:=top 20
abbrev LY:Stmt:=top 21
abbrev dy:Stmt:=top 24
abbrev LZ:Stmt:=top 25
abbrev FC:Stmt:=top 26
abbrev cN:Stmt:=top 27
abbrev L1:Stmt:=top 29
abbrev L6:Stmt:=top 30
abbrev d_:Stmt:=top 31
abbrev L7:Stmt:=top 32
abbrev L8:Stmt:=top 33
abbrev L9:Stmt:=top 34
abbrev L_:Stmt:=top 35
abbrev Ma:Stmt:=top 36
abbrev Mb:Stmt:=top 38
abbrev Mc:Stmt:=top 39
abbrev Md:Stmt:=top 40
abbrev Me:Stmt:=top 41
abbrev Mf:Stmt:=top 42
abbrev Mg:Stmt:=top 43
abbrev Mh:Stmt:=top 44
abbrev Mi:Stmt:=top 45
abbrev gY:Stmt:=top 47
abbrev fu:Stmt:=top 48
abbrev fw:Stmt:=top 49
abbrev gZ:Stmt:=top 50
abbrev fB:Stmt:=top 51
abbrev eh:Stmt:=top 52
abbrev Mj:Stmt:=top 62
abbrev Ml:Stmt:=top 63
abbrev Mm:Stmt:=top 64
abbrev Mn:Stmt:=top 65
abbrev Mp:Stmt:=top 66
abbrev Mq:Stmt:=top 67
abbrev f7:Stmt:=top 68
abbrev Mr:Stmt:=top 69
abbrev fC:Stmt:=top 70
abbrev fD:Stmt:=top 71
abbrev Ms:Stmt:=top 72
abbrev fE:Stmt:=top 73
abbrev Mt:Stmt:=top 74
abbrev Mu:Stmt:=top 75
abbrev Mv:Stmt:=top 76
abbrev Mw:Stmt:=top 77
abbrev My:Stmt:=top 78
abbrev Mz:Stmt:=top 79
abbrev MA:Stmt:=top 80
abbrev s_by:Stmt:=top 81
abbrev MD:Stmt:=top 82
abbrev MF:Stmt:=top 83
abbrev MG:Stmt:=top 84
abbrev MI:Stmt:=top 85
abbrev MJ:Stmt:=top 86
abbrev fF:Stmt:=top 87
abbrev cA:Stmt:=top 88
abbrev eI:Stmt:=top 89
abbrev oi:Stmt:=top 90
abbrev MK:Stmt:=inClass (top 56) 0
abbrev ra:Stmt:=inClass (top 56) 1
abbrev MM:Stmt:=inClass (top 56) 2
abbrev MO:Stmt:=inClass (top 56) 3
abbrev MQ:Stmt:=inClass (top 56) 4
abbrev MS:Stmt:=inClass (top 56) 7
abbrev MU:Stmt:=inClass (top 56) 8
abbrev MV:Stmt:=inClass (top 56) 9
abbrev MX:Stmt:=inClass (top 56) 10
abbrev MY:Stmt:=inClass (top 56) 11
abbrev Tg:Stmt:=inClass (top 58) 0
abbrev MZ:Stmt:=inClass (top 59) 0
abbrev M0:Stmt:=inClass (top 59) 1
abbrev M1:Stmt:=inClass (top 60) 0
section
variable {P:FE}{w:World}{K:Frag}{mg:ι}{iT:Heap}{CX:nI}
def Nm (H:Hp)(v:V)(q:Int×Int):Prop:=∃p,v=.ref p/\H p=some (.tup [.int q.1,.int q.2])
structure oj (k:Nat)(q:Int×Int):Prop where
 pos:0<q.2
 top:intBits q.1<=k
 bot:intBits q.2<=k
def aD (h:H p=none)(o:HO):ao H (upd H p o):=fun b u q=>by rwa [aj (ak q h)]
def nw (n:H l=none)(e:upd H l o=H'):ao H H'/\H' l=some o:=by subst e;show ⟨aD n o,ah⟩
local macro_rules|`(tactic|intros $l:ident $n:ident $h:ident $s:ident $e:ident)=>`(tactic|(intro $l:ident $n:ident;generalize eX:upd _ $l _=$h;have ⟨$s,$e⟩:=nw $n eX))
def tN (hb:b≠0)(h1:intBits t<=k)(h2:intBits b<=k):oj k (low t b):=
 ⟨lD hb,α7 (mH hb) h1,α7 (mI hb) h2⟩
def gives (H:Hp)(Q:VK)(q:Int×Int):Prop:=∀(p:AF)(H':Hp),ao H H' ->H' p=some (.tup [.int q.1,.int q.2])->Q (.ref p) H'
inductive jj (vs:η)(H:Hp)(Q:VK)(E_:XK):Prop
|mk (a b:Int)(_:vs=[.int a,.int b])(_:Q (.int (gz a b)) H)
def addQ (x y:Int×Int):Int×Int:=low (x.1*y.2+y.1*x.2) (x.2*y.2)
def subQ (x y:Int×Int):Int×Int:=low (x.1*y.2-y.1*x.2) (x.2*y.2)
def mulQ (x y:Int×Int):Int×Int:=low (x.1*y.1) (x.2*y.2)
def om (hx:oj k x)(hy:oj l y):x.2*y.2≠0:=LJ (Oo hx.pos hy.pos)
def iF {a b:V}:i7 [a,b] 0=some a:=rfl
def gL {a b:V}:i7 [a,b] 1=some b:=rfl
def Nm.kept (h:Nm H v q)(hD:H D=some (.lst ys))(k:bL D H H'):Nm H' v q:=by
 obtain ⟨p,e,z⟩:=h;show ⟨p,e,k p _ (fun e=>by erw [e,hD] at z) z⟩
inductive Ln (H:Hp)(v:V)(l:ξ):Prop
|mk (p:_)(_:v=.ref p)(_:H p=some (.lst (l.map V.int)))
def Ln.lh (h:Ln H v l)(s:ao H H'):Ln H' v l:=by
 obtain ⟨p,e,k⟩:=h;show ⟨p,e,s _ _ k⟩
def u4 (H:Hp)(us:η)(ls:ζ):Prop:=us.length=ls.length/\∀(i:Nat)(u:V)(l:ξ),us[i]?=some u->ls[i]?=some l->Ln H u l
theorem u4.lh (h:u4 H us ls)(s:ao H H'):u4 H' us ls:=⟨h.1,fun i u l e1 e2=>(h.2 i u l e1 e2).lh s⟩
def wo {l:ξ}(h:j<l.length):i7 (l.map V.int) (j:Int)=some (.int (l.getD j 0)):=bq (by rw [Wp,gE h,LW,gE h];rfl)
def getD_mem {l:ξ}(e:l[j]?=some x):l.getD j 0=x:=by rw [LW,e];rfl
def Bd (b:Nat)(l:ξ):Prop:=∀j,(l.getD j 0).natAbs<=2^b
def Bd.mem (h:Bd b l)(hx:x∈l):x.natAbs<=2^b:=by
 obtain ⟨i,hi⟩:=FZ hx;rw [<-getD_mem hi];exact h i
def Bd.up (h:Bd b l)(hc:b<=c):Bd c l:=fun j=>sN (h j) hc
def JV:av ["one","other","left"] EN (ae LY):=sq
def abd (D:Def K mg "greatest_shared" LY EN)(wu:mg "abs"=none):Fn P w K mg iT CX 1 "greatest_shared" EN jj:=by
 refine D.oo JV fun H hr h=>?_;obtain ⟨a,b,rfl,q⟩:=h
 show ⟨_,(aa (yZ FF (bO nE (pv 1) af) (aa (aC 2 JV.nd (aw fN (pv 0) (pv 1))) (aa (aC 0 JV.nd (pv 1)) (ag (aC 1 JV.nd (pv 2)))))) (ag (aF (aU y_ rfl wu VO (aZ (pv 0)))))),?_⟩
 refine y6 (fun Y H'=>JS fun (x y:Int) (l:ψ)=>Y=[some (.int x),some (.int y),l]/\H'=H/\LI x y=LI a b) (fun Y _=>match Y with|[_,some (.int y),_]=>y.natAbs|_=>0) ⟨a,b,none,rfl,rfl,rfl⟩ ?_ ?_
 ·rintro Y H' ⟨x,y,l,rfl,rfl,g⟩
  show ⟨_,rfl,rfl,_,rfl,?_⟩;refine bG (fun c=>?_) (fun c=>?_)
  ·let hy:y≠0:=by
    intro z;subst z;simp at c
   show ⟨_,rfl,_,rfl,_,_,rfl,rfl,hy,_,rfl,_,rfl,⟨_,_,_,rfl,rfl,by rwa [zo]⟩,vT hy⟩
  ·let hy:y=0:=by
    have:=SO.mpr c;simp at this;exact this
   subst hy;show ⟨_,rfl,x,rfl,?_⟩
   let e:(if x<0 then -x else x)=gz a b:=by
    rw [ajn] at g;unfold gz;rw [<-g];split<;>omega
   rwa [e]
 ·rintro Y H' Q1 Q2 h ⟨v,e1,e2,k,ek,z⟩
  show ⟨v,e1,e2,k,ek,h _ _ z⟩
inductive fG (vs:η)(H:Hp)(Q:VK)(E_:XK):Prop
|mk (t b:Int)(_:vs=[.int t,.int b])(_:b≠0)(_:gives H Q (low t b))
def PD:av ["top","bottom","shared"] QS (ae AG):=sq
def abe (ht:P.given.tree=none)(D:Def K mg "lowest_terms" AG QS)(FD:ac P w K mg iT 1 "greatest_shared" EN jj):ac P w K mg iT 33 "lowest_terms" QS fG:=by
 refine D.op PD fun f cF A mB s H vs Q E hr h=>?_;obtain ⟨t,b,rfl,hb,q⟩:=h
 let abf:∃tt,rj (j_ (aS P w) P w K mg iT ["top","bottom","shared"] "lowest_terms" (ae AG) f cF A mB s H E).yO ((aq AG).drop 2) tt/\∀g:Int,g=sg t b->tt {nx:=fun _ H'=>Q .dc H',rt:=Q} [some (.int t),some (.int b),some (.int g)] H:=by
  show ⟨_,(ag (aF (aK (aE (aw (ip ht (Ty.cM.py hr dL) rfl rfl rfl rfl rfl) (pv 0) (pv 2)) (aw (ip ht (Ty.cM.py hr dL) rfl rfl rfl rfl rfl) (pv 1) (pv 2)))))),?_⟩;rintro g rfl;let c:=sy (t:=t) hb;show ⟨_,rfl,_,rfl,_,_,rfl,rfl,c,_,rfl,_,rfl,_,_,rfl,rfl,c,qU,fun p hp=>?_⟩;exact q p _ (aD hp _) ah
 obtain ⟨t2,p2,q2⟩:=abf;show ⟨_,(aa (aC 2 PD.nd (aJ FD hr (aE (pv 0) (pv 1)))) (aa (bF (bO IF (pv 1) af) (ag (aC 2 PD.nd (mh iV (pv 2)))) aX) p2)),_,rfl,_,rfl,t,b,rfl,_,rfl,_,_,rfl,rfl,_,rfl,?_⟩;refine bG (fun c=>?_) (fun c=>?_)
 ·show ⟨_,rfl,_,rfl,q2 _ ?_⟩
  let c':b<0:=Lc c;unfold sg;rw [ox c']
 ·refine q2 _ ?_
  let c':¬ b<0:=of_decide_eq_false (SO.mpr c);unfold sg;rw [ni c']
inductive XR (K:Frag)(vs:η)(H:Hp)(Q:VK)(E_:XK):Prop
|mk (a:AF)(qs:ο)(T B:Nat)(_:vs=[.ref a])(_:aid K H a qs)(_:(∀q∈qs,Sm T B q))(_:T<=20000)(_:B*qs.length<=100000)(_:B<=8000)(_:qs.length<=1000)(_:∀(p l:AF)(ts:ξ)(b:Int)(H':Hp),ao H H' ->H l=none->H' p=some (.tup [.ref l,.int b])->H' l=some (.lst (ts.map V.int))->0<b->b.natAbs<=2^(B*qs.length)->qA ts qs b->(∀t∈ts,t.natAbs<=2^(T+B*qs.length))->Q (.ref p) H')
def JW:av ["row","bottom","number"] ["row"] (ae Md):=sq
def abg (D:Def K mg "whole_row" Md ["row"])(FD:ac P w K mg iT 1 "greatest_shared" EN jj):ac P w K mg iT 2 "whole_row" ["row"] (XR K):=by
 refine D.oo JW fun H hr h=>?_;obtain ⟨a,qs,T,B,rfl,⟨us,hS,hN⟩,sm,hT,hB,hB1,hl,q⟩:=h
 show ⟨_,(aa (aC 1 JW.nd af) (aa (ba FF rfl (bh (pv 0)) (bM 2 JW.nd) (ag (aC 1 JW.nd (aw bu (aw kg (pv 1) (aJ FD hr (aE (pv 1) (ay (pv 2))))) (ay (pv 2)))))) (ag (aF (aK (aE (fe (tn:=["number"]) (fr:=["bottom"]) (oV:=[1]) (bh (pv 0)) (aw bu (bg (dQ (K:=K) rfl) (pv 0) af) (aw kg (pv 1) (bg (dQ (K:=K) rfl) (pv 0) af)))) (pv 1))))))),?_⟩;sleep 2
 let hlu:=hN.1
 let qat:∀{i:Nat} {u:V},us[i]?=some u->∃q,qs[i]?=some q/\iY K H u q/\Sm T B q:=fun {i u} e=>by
  let hi:i<us.length:=(be.mp e).1;let e2:qs[i]?=some (qs[i]'ce):=gE ce;show ⟨_,e2,hN.2 i u _ e e2,sm _ (SK _)⟩
 show ⟨_,rfl,a,rfl,⟨_,hS⟩,let I:bn:=fun i Y H'=>NK fun (b:Int) (o:ψ)=>Y=[ap a,some (.int b),o]/\H'=H/\0<b/\b.natAbs<=2^(B*i)/\∀j,j<i->∀q,qs[j]?=some q->q.2 ∣ b;bP (K:=K) (a:=a) (xs:=us) I ⟨1,none,rfl,rfl,dL,by simp,fun j h=>DZ h (Sn _)⟩ (fun i Y H' _ ⟨b,o,_,e,_⟩=>by rwa [e]) ?_ ?_⟩
 ·rintro i u Y H' hu ⟨b,o,rfl,rfl,hb,hs,hd⟩
  obtain ⟨n,en,⟨p,rfl,hp⟩,sn⟩:=qat hu;let hi:i<qs.length:=(be.mp en).1;let nb:n.2.natAbs<=2^B:=sn.bot;obtain ⟨l1,l2,l3,l4⟩:=agq hb sn.pos;let gp:=w8 (t:=b) (b:=n.2) (by have:=sn.pos;omega);let gl:=aap (t:=b) (b:=n.2) (by have:=sn.pos;omega)
  let sz:(b.fdiv (gz b n.2)*n.2).natAbs<=2^(B*(i+1)):=by
   refine BJ l4 ?_;rw [Nat.mul_succ,Ud];exact M8 hs nb
  let bi:B*i<=100000:=BJ (Nat.mul_le_mul_left B ce) hB;let g1:gz b n.2 ∣ b:=WT ..;show ⟨_,rfl,_,rfl,_,rfl,p,_,_,_,rfl,rfl,hp,gL,b,n.2,rfl,_,_,rfl,rfl,⟨ce,BJ (lH (BJ gl nb) (Of B)) ce⟩,_,rfl,p,_,_,_,rfl,rfl,hp,gL,_,_,rfl,rfl,rJ (BJ (jb ce g1) hs) nb ce ce,_,_,rfl,rfl,l1,sz,fun j hj q' e'=>?_⟩
  rcases W7.mp hj with z|z
  ·exact Int.dvd_trans (hd j z q' e') l2
  ·subst z
   erw [en] at e';exact l3
 ·rintro Y H' ⟨b,o,rfl,rfl,hb,hs,hd⟩
  rw [hlu] at hs hd;show ⟨_,rfl,a,rfl,⟨_,hS⟩,fun D nD=>?_⟩;refine fY (ph:=[some (.int b)]) (K:=K) (a:=a) (xs:=us) (fun i v _=>∃q,qs[i]?=some q/\v=.int (q.1*b.fdiv q.2)) nD (by rw [hlu];exact FX hl dL) (fun H2 s2=>s2.seq hS) (fun _ _ _ _ _ _ _ h=>h) ?_ ?_
  ·intro i u H2 R hu s2 k
   obtain ⟨n,en,⟨p,rfl,hp⟩,sn⟩:=qat hu;let hp2:=Ty.ao.bZ s2 hp;let dv:=hd i (be.mp en).1 n en;let n0:n.2≠0:=by have:=sn.pos;omega
   show ⟨_,rfl,p,_,_,_,rfl,rfl,hp2,iF,_,rfl,_,rfl,p,_,_,_,rfl,rfl,hp2,gL,_,_,rfl,rfl,⟨n0,BJ (lH sn.bot (Of B)) ce⟩,_,_,rfl,rfl,rJ sn.top (BJ (jb n0 dv) hs) ce ce,k _ _ (ao.refl _) ⟨n,en,rfl⟩⟩
  ·intro ys H2 hy jC s2 hD
   let ey:ys=(qs.map fun n=>n.1*b.fdiv n.2).map V.int:=by
    refine OC fun i=>?_;by_cases hi:i<ys.length
    ·let e1:ys[i]?=some ys[i]:=gE hi
     obtain ⟨n,en,ev⟩:=jC i _ e1;rw [e1,ev,Wp,Wp,en];rfl
    ·rw [FJ ce,FJ (by simp;omega)]
   show ⟨_,rfl,qU,fun p np=>?_⟩;let s3:=aD np (.tup [.ref D,.int b]);refine q p D (qs.map fun n=>n.1*b.fdiv n.2) b _ (s2.trans s3) nD ah (s3 _ _ (by rw [hD,ey])) hb hs ⟨by simp,fun i t n e1 e2=>?_⟩ (fun t ht=>?_)
   ·rw [Wp,e2] at e1
    have VR :n.1*b.fdiv n.2=t:=GU e1;rw [<-VR];exact afd (sm n (DW e2)).pos (hd i (be.mp e2).1 n e2)
   ·obtain ⟨n,hn,rfl⟩:=AY.mp ht
    obtain ⟨i,hi⟩:=FZ hn;let n0:n.2≠0:=by have:=(sm n hn).pos;omega
    exact xk (sm n hn).top (BJ (jb n0 (hd i (be.mp hi).1 n hi)) hs)
structure Dv (l l':ξ):Prop where
 len:l'.length=l.length
 fac:∃g:Int,g≠0/\∀j,g*l'.getD j 0=l.getD j 0
def XS (l:ξ):Prop:=Prm l\/∀j,l.getD j 0=0
def aiD {l:ξ}(h:∀j,d ∣ l.getD j 0){i:Nat}(e:l[i]?=some x):d ∣ x:=by
 rw [<-getD_mem e];exact h i
inductive pZ (vs:η)(H:Hp)(Q:VK)(E_:XK):Prop
|mk (v:V)(l:ξ)(_:vs=[v])(_:Ln H v l)(_:l.length<=1000)(_:∀v' l' H',ao H H' ->Ln H' v' l' ->Dv l l' ->XS l' ->(v'=v\/∃p,v'=.ref p/\H p=none)->Q v' H')
def aec (l:ξ):Dv l l:=⟨rfl,1,dL,fun j=>Int.one_mul _⟩
def JX:av ["line","shared","whole"] ["line"] (ae Mi):=sq
def abh (ht:P.given.tree=none)(D:Def K mg "divided" Mi ["line"])(FD:ac P w K mg iT 1 "greatest_shared" EN jj):ac P w K mg iT 33 "divided" ["line"] pZ:=by
 refine D.op JX fun f cF A mB s H vs Q E hr h=>?_;obtain ⟨v,l,rfl,⟨a,rfl,ha⟩,hn,q⟩:=h;let lh:XS l->Q (.ref a) H:=fun pz=>q _ l H (ao.refl H) ⟨a,rfl,ha⟩ (aec l) pz (.inl rfl)
 show ⟨_,(aa (aC 1 JX.nd af) (aa (ba FF rfl (bh (pv 0)) (bM 2 JX.nd) (aa (aC 1 JX.nd (aJ FD hr (aE (pv 2) (pv 1)))) (ag (bF (bO fk (pv 1) af) (ag (aF (pv 0))) aX)))) (ag (aF (yW (bO IG (pv 1) af) (fe (tn:=["whole"]) (fr:=["shared"]) (oV:=[1]) (bh (pv 0)) (aw (ip ht (Ty.cM.py hr dL) rfl rfl rfl rfl rfl) (pv 0) (pv 1))) (pv 0)))))),?_⟩;sleep 2
 show ⟨_,rfl,a,rfl,⟨_,aR.of ha⟩,let I:bn:=fun i Y H'=>NK fun (g:Int) (o:ψ)=>Y=[ap a,some (.int g),o]/\H'=H/\0<=g/\(∀j,j<i->∀x,l[j]?=some x->g ∣ x)/\(∀d:Int,(∀j,j<i->∀x,l[j]?=some x->d ∣ x)->d ∣ g)/\(0<i->g≠1);bP (K:=K) (a:=a) (xs:=l.map V.int) I ⟨0,none,rfl,rfl,dL,(fun j h=>DZ h (Sn _)),(fun d _=>Int.dvd_zero d),fun h=>DZ h (Pm _)⟩ (fun i Y H' _ ⟨g,o,_,e,_⟩=>by rw [e];exact aR.of ha) ?_ ?_⟩
 ·rintro i u Y H' hu ⟨g,o,rfl,rfl,g0,hg,hd,_⟩
  rw [Wp] at hu;obtain ⟨x,ex,rfl⟩:=LA.mp hu;let d1:gz x g ∣ x:=WT ..;let d2:gz x g ∣ g:=WW ..;let p0:0<=gz x g:=Int.natCast_nonneg _;show ⟨_,rfl,_,rfl,x,g,rfl,_,rfl,rfl,_,rfl,?_⟩;refine bG (fun z=>⟨_,rfl,lh (.inl fun d Rj =>?_)⟩) (fun z=>?_)
  ·let z':gz x g=1:=by simpa using Lc z
   let h1:d ∣ gz x g:=aj4 (aiD Rj ex) (hd d fun j _ y ey=>aiD Rj ey);rw [z'] at h1;have:=IY.mpr h1;simpa using this
  show ⟨_,_,rfl,rfl,p0,fun j hj y ey=>?_,fun d h=>?_,fun _ e=>z (by rw [e];rfl)⟩
  ·rcases W7.mp hj with z|z
   ·exact Int.dvd_trans d2 (hg j z y ey)
   ·subst z
    erw [ex] at ey;exact d1
  ·exact aj4 (h i (Of _) x ex) (hd d fun j hj y ey=>h j (Yn hj) y ey)
 ·rintro Y H' ⟨g,o,rfl,rfl,g0,hg,hd,hg1⟩
  rw [ir] at hg hd hg1;show ⟨_,rfl,_,_,rfl,rfl,_,rfl,bG (fun c=>?_) (fun c=>⟨_,rfl,lh (.inr fun j=>?_)⟩)⟩;rotate_left
  ·let c':¬ (1:Int)<g:=fun z=>c (La z)
   by_cases hj:j<l.length
   ·let gz:g=0:=by
     have:=hg1 ce;omega
    let ej:l[j]?=some l[j]:=gE hj;have:=hg j hj _ ej;rw [gz] at this;rw [getD_mem ej];exact Int.zero_dvd.mp this
   ·rw [LW,FJ ce]
    rfl
  let g1:(1:Int)<g:=Lc c;let gn:g≠0:=ce
  show ⟨_,rfl,a,rfl,⟨_,aR.of ha⟩,fun D nD=>?_⟩;refine fY (ph:=[some (.int g)]) (K:=K) (a:=a) (xs:=l.map V.int) (fun i v _=>∃x,l[i]?=some x/\v=.int (x.fdiv g)) nD (by rw [ir];exact FX hn dL) (fun H2 s2=>aR.of (s2 _ _ ha)) (fun _ _ _ _ _ _ _ h=>h) ?_ ?_
  ·intro i u H2 R hu s2 k
   rw [Wp] at hu;obtain ⟨x,ex,rfl⟩:=LA.mp hu;show ⟨_,rfl,_,rfl,_,_,rfl,rfl,gn,k _ _ (ao.refl _) ⟨x,ex,rfl⟩⟩
  ·intro ys H2 hy jC s2 hD
   rw [ir] at hy
   let ey:ys=(l.map fun x=>x.fdiv g).map V.int:=by
    refine OC fun i=>?_;by_cases hi:i<ys.length
    ·let e1:ys[i]?=some ys[i]:=gE hi
     obtain ⟨x,ex,ev⟩:=jC i _ e1;rw [e1,ev,Wp,Wp,ex];rfl
    ·rw [FJ ce,FJ (by simp;omega)]
   let fac:∀j,g*(l.map fun x=>x.fdiv g).getD j 0=l.getD j 0:=fun j=>by
    by_cases hj:j<l.length
    ·let ej:l[j]?=some l[j]:=gE hj
     rw [getD_mem (l:=l.map fun x=>x.fdiv g) (x:=l[j].fdiv g) (by rw [Wp,ej];rfl),getD_mem ej];exact (cR gn (hg j hj _ ej)).symm
    ·rw [LW,LW,FJ (by simp;omega),FJ ce]
     simp
   refine q _ (l.map fun x=>x.fdiv g) H2 s2 ⟨D,rfl,by rw [hD,ey]⟩ ⟨by simp,g,gn,fac⟩ (.inl fun d Rj =>?_) (.inr ⟨D,rfl,nD⟩)
   let h1:d*g ∣ g:=hd (d*g) fun j hj x ex=>by
    rw [<-getD_mem ex,<-fac j,S'];exact Int.mul_dvd_mul_left g (Rj j)
   obtain ⟨k,hk⟩:=h1
   let h2:g*(d*k)=g*1:=by
    rw [Int.mul_one];rw [<-Xz,S' g d];exact hk.symm
   let h3:=Int.eq_of_mul_eq_mul_left gn h2;let h4:d ∣ 1:=⟨k,h3.symm⟩;simpa using IY.mpr h4
inductive p_ (vs:η)(H:Hp)(Q:VK)(E_:XK):Prop
|mk (u v:V)(l m:ξ)(c b1 b2:Nat)(_:vs=[u,v,.int (c:Int)])(_:Ln H u l)(_:Ln H v m)(_:m.length=l.length)(_:c<l.length)(_:l.length<=1000)(_:m.getD c 0≠0)(_:Bd b1 l)(_:Bd b2 m)(_:b1<=29000000)(_:b2<=29000000)(_:∀v' l' H',ao H H' ->Ln H' v' l' ->u3 l m l' c->Bd (b1+b2+1) l' ->(l'=l\/XS l')->(v'=u\/∃p,v'=.ref p/\H p=none)->Q v' H')
def aeb (ha:a≠0):a=gz a b*a.fdiv (gz a b)/\b=gz a b*b.fdiv (gz a b)/\gz a b≠0/\a.fdiv (gz a b)≠0/\(a.fdiv (gz a b)).natAbs<=a.natAbs/\(b.fdiv (gz a b)).natAbs<=b.natAbs:=by
 let gn:gz a b≠0:=by
  intro z;let z':((LI a b:Nat):Int)=0:=z;have:LI a b=0:=ce
  exact ha (Int.gcd_eq_zero_iff.mp this).1
 let d1:gz a b ∣ a:=WT ..;let d2:gz a b ∣ b:=WW ..;let e1:=cR gn d1;show ⟨e1,cR gn d2,gn,fun z=>?_,jb gn d1,jb gn d2⟩;rw [z,Uc] at e1;exact ha e1
def aeL {l m:ξ}{ys:η}(hl:m.length=l.length)(hy:ys.length=l.length)(h:∀(i:Nat)(v:V),ys[i]?=some v->∃x y,l[i]?=some x/\m[i]?=some y/\v=.int (t*x-u*y)):ys=(O0 (fun x y=>t*x-u*y) l m).map V.int:=by
 refine OC fun i=>?_;by_cases hi:i<ys.length
 ·let e1:ys[i]?=some ys[i]:=gE hi
  obtain ⟨x,y,ex,ey,ev⟩:=h i _ e1;rw [e1,ev,Wp,Yc,ex,ey];rfl
 ·rw [FJ ce,FJ (by simp;omega)]
def ad8 {l m:ξ}(hl:m.length=l.length)(j:Nat):(O0 (fun x y=>t*x-u*y) l m).getD j 0=t*l.getD j 0-u*m.getD j 0:=by
 by_cases hj:j<l.length
 ·let e1:l[j]?=some l[j]:=gE hj
  let e2:m[j]?=some (m[j]'ce):=gE ce;rw [getD_mem e1,getD_mem e2];exact getD_mem (by rw [Yc,e1,e2])
 ·rw [LW,LW,LW,FJ (by simp;omega),FJ ce,FJ ce]
  simp
def JY:av ["line","lead","column","shared","times","less"] vk (ae Mh):=sq
def abi (ht:P.given.tree=none)(D:Def K mg "cleared" Mh vk)(gM:mg "zip"=none)(FD:ac P w K mg iT 1 "greatest_shared" EN jj)(aiw:ac P w K mg iT 33 "divided" ["line"] pZ):ac P w K mg iT 34 "cleared" vk p_:=by
 refine D.oo JY fun H hr h=>?_;obtain ⟨u,v,l,m,c,b1,b2,rfl,⟨a,rfl,ha⟩,⟨a',rfl,ha'⟩,hl,hc,hn,hm,B1,B2,hb1,hb2,q⟩:=h
 show ⟨_,(aa (bF (bO fk (bg aI (pv 0) (pv 2)) af) (ag (aF (pv 0))) aX) (aa (aC 3 JY.nd (aJ FD hr (aE (bg aI (pv 1) (pv 2)) (bg aI (pv 0) (pv 2))))) (aa (aC 4 JY.nd (aw (ip ht (Ty.cM.py hr dL) rfl rfl rfl rfl rfl) (bg aI (pv 1) (pv 2)) (pv 3))) (aa (aC 5 JY.nd (aw (ip ht (Ty.cM.py hr dL) rfl rfl rfl rfl rfl) (bg aI (pv 0) (pv 2)) (pv 3))) (ag (aF (aJ aiw hr (aZ (Py (tn:=["whole","other"]) (fr:=["times","less"]) (oV:=[4,5]) (xi rfl gM (aE (pv 0) (pv 1))) (fun _ _ _ _=>(xj (K:=K) (n:=2) rfl rfl (aY (gN (i:=0) (show (zaP:List Str).Nodup from by decide+kernel) rfl (Pj rfl)) (aY (gN (i:=1) (show (zaP:List Str).Nodup from by decide+kernel) rfl (Pj rfl)) df)))) (fun _ _ _ _=>sI) (aw fh (aw bu (pv 2) (pv 0)) (aw bu (pv 3) (pv 1)))))))))))),?_⟩;sleep 4
 let ea:=wo (l:=l) hc;let em:=wo (l:=m) (j:=c) ce;show ⟨_,rfl,_,rfl,a,_,_,_,rfl,rfl,aR.of ha,ea,rfl,_,rfl,?_⟩;refine bG (fun z=>?_) (fun z=>?_)
 ·let z':l.getD c 0=0:=by simpa using Lc z
  show ⟨_,rfl,q _ l H (ao.refl H) ⟨a,rfl,ha⟩ ⟨rfl,z',1,1,0,dL,dL,fun j=>ce⟩ (B1.up ce) (.inl rfl) (.inl rfl)⟩
 ·obtain ⟨f1,f2,f3,f4,f5,f6⟩:=aeb (a:=m.getD c 0) (b:=l.getD c 0) hm
  show ⟨_,rfl,_,rfl,a',_,_,_,rfl,rfl,aR.of ha',em,_,rfl,_,rfl,a,_,_,_,rfl,rfl,aR.of ha,ea,_,_,rfl,_,rfl,_,rfl,a',_,_,_,rfl,rfl,aR.of ha',em,_,rfl,_,_,rfl,rfl,f3,_,rfl,_,rfl,a,_,_,_,rfl,rfl,aR.of ha,ea,_,rfl,_,_,rfl,rfl,f3,_,rfl,_,rfl,a,a',rfl,⟨_,aR.of ha⟩,⟨_,aR.of ha'⟩,fun D1 n1=>?_⟩;let st:((m.getD c 0).fdiv (gz (m.getD c 0) (l.getD c 0))).natAbs<=2^b2:=BJ f5 (B2 c);let su:((l.getD c 0).fdiv (gz (m.getD c 0) (l.getD c 0))).natAbs<=2^b1:=BJ f6 (B1 c);refine zA (ph:=[some (.int ((m.getD c 0).fdiv (gz (m.getD c 0) (l.getD c 0)))),some (.int ((l.getD c 0).fdiv (gz (m.getD c 0) (l.getD c 0))))]) (K:=K) (xs:=l.map V.int) (ys:=m.map V.int) (fun i v _=>∃x y,l[i]?=some x/\m[i]?=some y/\v=.int ((m.getD c 0).fdiv (gz (m.getD c 0) (l.getD c 0))*x-(l.getD c 0).fdiv (gz (m.getD c 0) (l.getD c 0))*y)) n1 (by rw [ir];exact FX hn dL) (by simpa using hl) (fun H2 s2=>aR.of (s2 _ _ ha)) (fun H2 s2=>aR.of (s2 _ _ ha')) (fun _ _ _ _ _ _ _ h=>h) ?_ ?_
  ·intro i x y H2 R ex ey s2 k
   rw [Wp] at ex ey;obtain ⟨x',DI,rfl⟩:=LA.mp ex;obtain ⟨y',NJ,rfl⟩:=LA.mp ey;show ⟨_,rfl,_,rfl,_,_,rfl,rfl,rJ st (B1.mem (DW DI)) ce ce,_,rfl,_,rfl,_,_,rfl,rfl,rJ su (B2.mem (DW NJ)) ce ce,_,_,rfl,rfl,k _ _ (ao.refl _) ⟨x',y',DI,NJ,rfl⟩⟩
  ·intro ys H2 hy jC s2 hD
   rw [ir] at hy;let ey:=aeL hl hy jC;show ⟨_,_,rfl,⟨D1,rfl,by rw [hD,ey]⟩,by simp;omega,fun v' l' H3 s3 L3 dv pz fr=>?_⟩;obtain ⟨g,gn,hg⟩:=dv.fac;let Ro:∀j,g*l'.getD j 0=(m.getD c 0).fdiv (gz (m.getD c 0) (l.getD c 0))*l.getD j 0-(l.getD c 0).fdiv (gz (m.getD c 0) (l.getD c 0))*m.getD j 0:=fun j=>by rw [hg j,ad8 hl]
   refine q v' l' H3 (s2.trans s3) L3 ⟨by rw [dv.len];simp [hl],?_,g,_,_,gn,f4,Ro⟩ (fun j=>?_) (.inr pz) ?_
   ·let e:=Ro c
    let z2:(m.getD c 0).fdiv (gz (m.getD c 0) (l.getD c 0))*l.getD c 0-(l.getD c 0).fdiv (gz (m.getD c 0) (l.getD c 0))*m.getD c 0=0:=by
     generalize gz (m.getD c 0) (l.getD c 0)=G at*;generalize (m.getD c 0).fdiv G=t at*;generalize (l.getD c 0).fdiv G=u at*;rw [f1,f2];grind
    rw [z2] at e
    rcases Sl.mp e with y|y
    ·exact DZ y gn
    ·exact y
   ·let b:(g*l'.getD j 0).natAbs<=2^(b1+b2+1):=by
     rw [Ro j,Int.sub_eq_add_neg];refine aia (sN (xk st (B1 j)) ce) ?_;rw [ai6];exact xk su (B2 j)
    exact BJ (eZ gn) b
   ·rcases fr with z|⟨p,e,n⟩
    ·exact .inr ⟨D1,z,n1⟩
    ·exact .inr ⟨p,e,s2.free n⟩
inductive xv (K:Frag)(vs:η)(H:Hp)(Q:VK)(E_:XK):Prop
|mk (a:AF)(us:η)(ls:List (List Int:_))(c:Nat)(_:vs=[.ref a,.int (c:Int)])(_:aR K H a us)(_:u4 H us ls)(_:(∀l∈ls,c<l.length))(_:(∀(i:Nat)(l:ξ)(H':Hp),ao H H' ->ls[i]?=some l->l.getD c 0≠0->Q (.int (i:Int)) H'))(_:((∀l∈ls,l.getD c 0=0)->∀H',ao H H' ->Q .dc H'))
def u4.at (h:u4 H us ls){i:Nat}(e:us[i]?=some u):∃l,ls[i]?=some l/\Ln H u l:=by
 let hi:i<us.length:=(be.mp e).1;let hl:=h.1;let e2:ls[i]?=some (ls[i]'ce):=gE ce;show ⟨_,e2,h.2 i u _ e e2⟩
def u4.at' (h:u4 H us ls){i:Nat}{l:ξ}(e:ls[i]?=some l):∃u,us[i]?=some u/\Ln H u l:=by
 let hi:i<ls.length:=(be.mp e).1;let hl:=h.1;let e2:us[i]?=some (us[i]'ce):=gE ce;show ⟨_,e2,h.2 i _ l e2 e⟩
def PJ:av ["lines","column","at","line"] vb (ae Mg):=sq
def abj (D:Def K mg "first_not_nought" Mg vb)(fH:mg "enumerate"=none):ac P w K mg iT 1 "first_not_nought" vb (xv K):=by
 refine D.oo PJ fun H hr h=>?_;obtain ⟨a,us,ls,c,rfl,hS,L,hc,q1,q2⟩:=h;let lu:=L.1
 show ⟨_,(aa (ba FF rfl (aeq rfl fH (aZ (pv 0))) (fL rfl (aY (bM 2 PJ.nd) (aY (bM 3 PJ.nd) df))) (ag (bF (bO nE (bg aI (pv 3) (pv 1)) af) (ag (aF (pv 2))) aX))) (ag (aF rW))),?_⟩
 show ⟨_,rfl,a,rfl,⟨_,hS⟩,let I:bn:=fun i Y H'=>∃o1 o2:Option V,Y=[ap a,some (.int (c:Int)),o1,o2]/\ao H H'/\∀j,j<i->∀l,ls[j]?=some l->l.getD c 0=0;zN (K:=K) (a:=a) (xs:=us) I ⟨none,none,rfl,ao.refl H,fun j h=>DZ h (Sn _)⟩ (fun i Y H' _ ⟨o1,o2,_,s1,_⟩=>s1.seq hS) ?_ ?_⟩
 ·rintro i u Y H' p hu ⟨o1,o2,rfl,s1,z⟩ np
  obtain ⟨l,el,b,rfl,hb⟩:=L.at hu;let s2:=s1.trans (aD np (.tup [.int (i:Int),.ref b]));let hcl:=hc l (DW el);show ⟨p,_,rfl,bE.of ah,rfl,_,_,rfl,_,_,rfl,rfl,_,rfl,_,rfl,b,_,_,_,rfl,rfl,aR.of (s2 _ _ hb),wo hcl,rfl,_,rfl,?_⟩;refine bG (fun y=>?_) (fun y=>?_)
  ·let y':l.getD c 0≠0:=by simpa using y
   show ⟨_,rfl,q1 i l _ s2 el y'⟩
  ·let y':l.getD c 0=0:=by simpa using y
   show ⟨_,_,rfl,s2,fun j hj l' e'=>?_⟩
   rcases W7.mp hj with w|w
   ·exact z j w l' e'
   ·subst w
    erw [el] at e';exact y'
 ·rintro Y H' ⟨o1,o2,rfl,s1,z⟩
  refine q2 (fun l hl=>?_) H' s1;obtain ⟨j,hj⟩:=FZ hl;exact z j (by have:=(be.mp hj).1;omega) l hj
structure Red (os:ζ)(L c b:Nat)(nd:π)(lv:ζ):Prop where
 vf:∀x∈nd,x.2.length=L
 mM:∀l∈lv,l.length=L
 cols:∀x∈nd,x.1<c
 asc:(nd.map (·.1)).Pairwise (· < ·)
 here:∀x∈nd,x.2.getD x.1 0≠0
 off:∀x∈nd,∀y∈nd,x.1≠y.1->x.2.getD y.1 0=0
 low:∀x∈nd,∀j,j<x.1->x.2.getD j 0=0
 zero:∀l∈lv,∀j,j<c->l.getD j 0=0
 AI:∀x∈nd,pM os x.2
 oq:∀l∈lv,pM os l
 sol:∀z,((∀x∈nd,ev x.2 z=0)/\(∀l∈lv,ev l z=0)) ↔ ∀o∈os,ev o z=0
 Rr:∀x∈nd,Bd b x.2
 PK:∀l∈lv,Bd b l
 cnt:nd.length+lv.length=os.length
def Red.start {os:ζ}(hL:∀o∈os,o.length=L)(hb:∀o∈os,Bd b o):Red os L 0 b [] os where
 vf:=by simp
 mM:=hL
 cols:=by simp
 asc:=by simp
 here:=by simp
 off:=by simp
 low:=by simp
 zero:=fun _ _ j h=>DZ h (Sn _)
 AI:=by simp
 oq:=fun l h=>zL h
 sol:=fun z=>by simp
 Rr:=by simp
 PK:=hb
 cnt:=by simp
def Red.skip {os:ζ}(h:Red os L c b nd lv)(hz:∀l∈lv,l.getD c 0=0):Red os L (c+1) b nd lv where
 vf:=h.vf
 mM:=h.mM
 cols:=fun x hx=>Yn (h.cols x hx)
 asc:=h.asc
 here:=h.here
 off:=h.off
 low:=h.low
 zero:=fun l hl j hj=>by
  rcases W7.mp hj with z|z
  ·exact h.zero l hl j z
  ·subst z
   exact hz l hl
 AI:=h.AI
 oq:=h.oq
 sol:=h.sol
 Rr:=h.Rr
 PK:=h.PK
 cnt:=h.cnt
structure Made (os:ζ)(AV:ξ)(c b:Nat)(xs ys:ζ):Prop where
 len:ys.length=xs.length
 to:∀(i:Nat)(x:ξ),xs[i]?=some x->∃y,ys[i]?=some y/\u3 x AV y c/\Bd b y
def Made.ex {os:ζ}(h:Made os AV c b xs ys){y:ξ}(hy:y∈ys):∃x∈xs,u3 x AV y c/\Bd b y:=by
 obtain ⟨i,hi⟩:=FZ hy;let hl:=h.len;let jU:i<ys.length:=(be.mp hi).1;let e:xs[i]?=some (xs[i]'ce):=gE ce;obtain ⟨y',e',r⟩:=h.to i _ e;erw [hi] at e';show ⟨_,DW e,r⟩
def Made.all {os:ζ}(h:Made os AV c b xs ys){x:ξ}(hx:x∈xs):∃y∈ys,u3 x AV y c/\Bd b y:=by
 obtain ⟨i,hi⟩:=FZ hx;obtain ⟨y,e,r⟩:=h.to i x hi;show ⟨y,DW e,r⟩
def Red.step {os:ζ}{lv EZ rest:ζ}{AV:ξ}(h:Red os L c b nd lv)(iz:AV∈lv)(tq:∀l∈rest,l∈lv)(OB:∀l∈lv,l=AV\/l∈rest)(hlen:rest.length+1=lv.length)
  (hc:AV.getD c 0≠0) (ML:Made os AV c (2*b+1) rest EZ) (hk:lY.map (·.1)=nd.map (·.1)) (MN:Made os AV c (2*b+1) (nd.map (·.2)) (lY.map (·.2))):Red os L (c+1) (2*b+1) (lY ++[(c,AV)]) EZ :=by
 let ll:=h.mM AV iz;let lz:=h.zero AV iz;let hl':lY.length=nd.length:=by simpa using pj Oq hk
 let pairs:∀x' ∈lY,∃x∈nd,x.1=x'.1/\u3 x.2 AV x'.2 c/\Bd (2*b+1) x'.2:=by
  intro x' Rl;obtain ⟨i,hi⟩:=FZ Rl;let jU:i<lY.length:=(be.mp hi).1;let e:nd[i]?=some (nd[i]'ce):=gE ce;let e1:(lY.map (·.1))[i]?=(nd.map (·.1))[i]? :=by rw [hk]
  rw [Wp,Wp,hi,e] at e1;obtain ⟨y,e2,r⟩:=MN.to i (nd[i]'ce).2 (by rw [Wp,e];rfl);rw [Wp,hi] at e2;simp at e1 e2;subst e2;show ⟨_,DW e,e1.symm,r⟩
 let back:∀x∈nd,∃x' ∈lY,x'.1=x.1/\u3 x.2 AV x'.2 c:=by
  intro x hx;obtain ⟨i,hi⟩:=FZ hx;let jU:i<nd.length:=(be.mp hi).1;let e:lY[i]?=some (lY[i]'ce):=gE ce;let e1:(lY.map (·.1))[i]?=(nd.map (·.1))[i]? :=by rw [hk]
  rw [Wp,Wp,hi,e] at e1;obtain ⟨y,e2,r⟩:=MN.to i x.2 (by rw [Wp,hi];rfl);rw [Wp,e] at e2;simp at e1 e2;show ⟨_,DW e,e1,by rw [e2];exact r.1⟩
 let Tn:∀x∈lY ++[(c,AV)],x∈lY \/x=(c,AV):=fun x hx=>by simpa using hx
 exact {
  vf:=fun x hx=>by
   rcases Tn x hx with z|z
   ·obtain ⟨y,hy,_,k,_⟩:=pairs x z
    rw [k.len];exact h.vf y hy
   ·subst z
    exact ll
  mM:=fun l hl=>by
   obtain ⟨x,hx,k,_⟩:=ML.ex hl;rw [k.len];exact h.mM x (tq x hx)
  cols:=fun x hx=>by
   rcases Tn x hx with z|z
   ·obtain ⟨y,hy,e,_⟩:=pairs x z
    rw [<-e];exact Yn (h.cols y hy)
   ·subst z
    exact Of _
  asc:=by
   rw [GV,hk,List.pairwise_append];show ⟨h.asc,by simp,fun a ha b' fZ =>?_⟩;obtain ⟨x,hx,rfl⟩:=AY.mp ha;have:b'=c:=by simpa using fZ
   subst this;exact h.cols x hx
  here:=fun x hx=>by
   rcases Tn x hx with z|z
   ·obtain ⟨y,hy,e,k,_⟩:=pairs x z
    rw [<-e];exact k.at (lz _ (h.cols y hy)) (h.here y hy)
   ·subst z
    exact hc
  off:=fun x hx y hy ne=>by
   rcases Tn x hx with z|z<;>rcases Tn y hy with u|u
   ·obtain ⟨x0,hx0,e0,k0,_⟩:=pairs x z
    obtain ⟨y0,M3,e1,_⟩:=pairs y u;rw [<-e1];exact k0.zero (h.off x0 hx0 y0 M3 (by rwa [e0,e1])) (lz _ (h.cols y0 M3))
   ·subst u
    obtain ⟨x0,hx0,e0,k0,_⟩:=pairs x z;exact k0.OX
   ·subst z
    obtain ⟨y0,M3,e1,_⟩:=pairs y u;rw [<-e1];exact lz _ (h.cols y0 M3)
   ·subst z
    subst u;exact DZ rfl ne
  low:=fun x hx j hj=>by
   rcases Tn x hx with z|z
   ·obtain ⟨y,hy,e,k,_⟩:=pairs x z
    rw [<-e] at hj;exact k.zero (h.low y hy j hj) (lz j (zq hj (h.cols y hy)))
   ·subst z
    exact lz j hj
  zero:=fun l hl j hj=>by
   obtain ⟨x,hx,k,_⟩:=ML.ex hl
   rcases W7.mp hj with z|z
   ·exact k.zero (h.zero x (tq x hx) j z) (lz j z)
   ·subst z
    exact k.OX
  AI:=fun x hx=>by
   rcases Tn x hx with z|z
   ·obtain ⟨y,hy,_,k,_⟩:=pairs x z
    exact k.comb (h.AI y hy) (h.oq AV iz)
   ·subst z
    exact h.oq AV iz
  oq:=fun l hl=>by
   obtain ⟨x,hx,k,_⟩:=ML.ex hl;exact k.comb (h.oq x (tq x hx)) (h.oq AV iz)
  sol:=fun z=>by
   rw [<-h.sol z];constructor
   ·rintro ⟨a1,a2⟩
    let az:ev AV z=0:=a1 (c,AV) ga;show ⟨fun x hx=>?_,fun l hl=>?_⟩
    ·obtain ⟨x',Rl,_,k⟩:=back x hx
     exact (k.ev (by rw [ll,h.vf x hx]) az).mp (a1 x' (by simp [Rl]))
    ·rcases OB l hl with u|u
     ·rw [u]
      exact az
     ·obtain ⟨y,hy,k,_⟩:=ML.all u
      exact (k.ev (by rw [ll,h.mM l hl]) az).mp (a2 y hy)
   ·rintro ⟨a1,a2⟩
    let az:=a2 AV iz;show ⟨fun x hx=>?_,fun l hl=>?_⟩
    ·rcases Tn x hx with u|u
     ·obtain ⟨y,hy,_,k,_⟩:=pairs x u
      exact (k.ev (by rw [ll,h.vf y hy]) az).mpr (a1 y hy)
     ·subst u
      exact az
    ·obtain ⟨x,hx,k,_⟩:=ML.ex hl
     exact (k.ev (by rw [ll,h.mM x (tq x hx)]) az).mpr (a2 x (tq x hx))
  Rr:=fun x hx=>by
   rcases Tn x hx with z|z
   ·obtain ⟨y,hy,_,_,k⟩:=pairs x z
    exact k
   ·subst z
    exact (h.PK AV iz).up ce
  PK:=fun l hl=>by
   obtain ⟨x,hx,_,k⟩:=ML.ex hl;exact k
  cnt:=by
   let a:=ML.len;let b:=h.cnt;rw [EM,hl'];simp
   omega}
def wz (H:Hp)(AA:γ)(nd:π):Prop:=AA.length=nd.length/\∀(i:Nat)(kv:Key×V)(x:Nat×List Int),AA[i]?=some kv->nd[i]?=some x->kv.1=.inl (x.1:Int)/\Ln H kv.2 x.2
theorem wz.lh (h:wz H AA nd)(s:ao H H'):wz H' AA nd:=⟨h.1,fun i kv x e1 e2=>⟨(h.2 i kv x e1 e2).1,(h.2 i kv x e1 e2).2.lh s⟩⟩
def Ln.put (h:Ln H v l)(e:H d=some (.dK AA)):Ln (upd H d o) v l:=by
 obtain ⟨p,e1,k⟩:=h;show ⟨p,e1,by rw [aj (fun z=>by erw [z,e] at k)];exact k⟩
theorem u4.put (h:u4 H us ls)(e:H d=some (.dK AA)):u4 (upd H d o) us ls:=⟨h.1,fun i u l e1 e2=>(h.2 i u l e1 e2).put e⟩
theorem wz.put (h:wz H AA nd)(e:H d=some (.dK kv2)):wz (upd H d o) AA nd:=⟨h.1,fun i kv x e1 e2=>⟨(h.2 i kv x e1 e2).1,(h.2 i kv x e1 e2).2.put e⟩⟩
def ou (s:ao H H')(n:H d=none):ao H (upd H' d o):=fun b o' e=>by
 rw [aj (fun z=>by erw [z,n] at e)];exact s _ _ e
def wz.at (h:wz H AA nd){i:Nat}(e:nd[i]?=some x):∃v,AA[i]?=some (.inl (x.1:Int),v)/\Ln H v x.2:=by
 let hi:i<nd.length:=(be.mp e).1;let hl:=h.1;let e2:AA[i]?=some (AA[i]'ce):=gE ce;obtain ⟨a,b⟩:=h.2 i _ x e2 e;show ⟨(AA[i]'ce).2,by rw [e2,<-a],b⟩
def wz.keys (h:wz H AA nd):AA.map (·.1)=nd.map (fun x=>(Qh (x.1:Int):Key)):=by
 refine OC fun i=>?_;let hl:=h.1;rw [Wp,Wp];by_cases hi:i<nd.length
 ·let e:nd[i]?=some nd[i]:=gE hi
  obtain ⟨v,e2,_⟩:=h.at e;rw [e,e2];rfl
 ·rw [FJ ce,FJ ce]
  rfl
theorem jD :∀{AA:γ} {i:Nat},(AA.map (·.1)).Nodup->AA[i]?=some (k,v)->bI AA k=some v
 | [],_,_,e=>by simp at e
 | p::r,0,_,e=>by
  cases e;exact bY (p:=(k,v)) rfl
 | p::r,i+1,n,e=>by
  rw [DV,M9] at n;let e':r[i]?=some (k,v):=by simpa using e
  let ne:¬ p.1=k:=fun z=>n.1 (by rw [z];exact AY.mpr ⟨(k,v),DW e',rfl⟩);rw [bH ne];exact jD n.2 e'
theorem JZ :∀{AA:γ},k∉AA.map (·.1)->bI AA k=none
 | [],_=>rfl
 | p::r,h=>by
  let h':k≠p.1/\k∉r.map (·.1):=by simpa using h
  rw [bH (fun z=>h'.1 z.symm)];exact JZ h'.2
theorem map_put :∀{AA:γ} {i:Nat},(AA.map (·.1)).Nodup->AA[i]?=some (k,v)->AA.map (fun kv=>if kv.1=k then (kv.1,v') else kv)=AA.set i (k,v')
 | [],_,_,e=>by simp at e
 | p::r,0,n,e=>by
  rw [DV,M9] at n;cases e
  let hr:r.map (fun kv=>if kv.1=k then (kv.1,v') else kv)=r:=by
   refine (LD (fun q hq=>?_)).trans (List.map_id r);let ne:¬ q.1=k:=fun z=>n.1 (by show k∈_;rw [<-z];exact AY.mpr ⟨q,hq,rfl⟩);rw [ni ne];rfl
  rw [DV,hr,ox rfl,List.set_cons_zero]
 | p::r,i+1,n,e=>by
  rw [DV,M9] at n;let e':r[i]?=some (k,v):=by simpa using e
  let ne:¬ p.1=k:=fun z=>n.1 (by rw [z];exact AY.mpr ⟨(k,v),DW e',rfl⟩);rw [DV,ni ne,map_put n.2 e',List.set_cons_succ]
def ad3 {AA:γ}(n:(AA.map (·.1)).Nodup)(e:AA[i]?=some (k,v)):putK AA k v'=AA.set i (k,v'):=by
 unfold putK;rw [jc,jD n e];exact map_put n e
theorem wz.set (h:wz H AA nd){i c:Nat}(hv:Ln H v l):wz H (AA.set i (.inl (c:Int),v)) (nd.set i (c,l)):=by
 let hl:=h.1;show ⟨by simp [hl],fun j kv x e1 e2=>?_⟩;rw [Pp] at e1 e2;by_cases z:i=j
 ·subst z
  rw [ox rfl] at e1 e2;by_cases hi:i<AA.length
  ·rw [ox hi] at e1
   rw [ox ce] at e2;cases e1;cases e2;show ⟨rfl,hv⟩
  ·rw [ni hi] at e1
   cases e1
 ·rw [ni z] at e1 e2
  exact h.2 j kv x e1 e2
def wz.snoc (h:wz H AA nd){c:Nat}(hv:Ln H v l):wz H (AA++[(.inl (c:Int),v)]) (nd++[(c,l)]):=by
 let hl:=h.1;show ⟨by simp [hl],fun j kv x e1 e2=>?_⟩;by_cases z:j<AA.length
 ·rw [LR z] at e1
  rw [LR ce] at e2;exact h.2 j kv x e1 e2
 ·rw [Lg ce] at e1 e2
  rw [<-hl] at e2;by_cases y:j-AA.length=0
  ·rw [y] at e1 e2
   cases e1;cases e2;show ⟨rfl,hv⟩
  ·rw [FJ (by simp;omega)] at e1
   cases e1
theorem keys_nodup:∀{nd:π},(nd.map (·.1)).Pairwise (· < ·)->(nd.map (fun x=>(Qh (x.1:Int):Key))).Nodup
 | [],_=>by simp
 | x::r,h=>by
  rw [DV,List.pairwise_cons] at h;rw [DV,M9];show ⟨fun z=>?_,keys_nodup h.2⟩;obtain ⟨y,hy,e⟩:=AY.mp z;let e':(y.1:Int)=x.1:=ajS e;have:=h.1 y.1 (AY.mpr ⟨y,hy,rfl⟩);omega
def bb (b k:Nat):Nat:=(k+1)*(b+11)
def xw (b:Nat)(h:k<=m):bb b k<=bb b m:=Lu _ ce
def xx (b k:Nat):b<=bb b k:=by
 unfold bb;rw [OP,z_];omega
def Red.piv {os:ζ}(R:Red os L c b nd lv):NH nd:=⟨R.asc.imp fun h e=>ce,R.here,R.off⟩
def Pr (os:ζ)(l:ξ):Prop:=l∈os\/XS l
def Red.small {os:ζ}(R:Red os L c b nd lv)(O:NI os nd lv ps qs)(hb:∀o∈os,Bd b0 o)(hk:nd.length<=k)(Tp:k<=1000)(pN:∀x∈nd,Pr os x.2)(pL:∀l∈lv,Pr os l):Red os L c (bb b0 k) nd lv:=by
 let le:∀{n:Nat},n<=(nd.length+1)*((2*(nd.length+1)*2^b0)^nd.length*2^b0)->n<=2^bb b0 k:=fun {n} h=>BJ h (BJ (zai ce) (Na dL (Lu _ ce)));let z:∀{n:Nat},n=0->n<=2^bb b0 k:=fun {n} h=>by rw [h];exact LS _
 refine {R with Rr:=fun x hx j=>?_,PK:=fun l hl j=>?_}
 ·rcases pN x hx with h|h|h
  ·exact BJ (hb _ h j) (Na dL (xx _ _))
  ·exact le (O.need R.piv hx hb h j)
  ·exact z (by rw [h j];rfl)
 ·rcases pL l hl with h|h|h
  ·exact BJ (hb _ h j) (Na dL (xx _ _))
  ·obtain ⟨i,ei⟩:=FZ hl
   exact le (O.left R.piv ei (fun x hx=>R.zero l hl x.1 (R.cols x hx)) hb h j)
  ·exact z (by rw [h j];rfl)
def lO {i:Nat}(h:i<=xs.length):gO xs none (some (i:Int))=xs.take i:=by
 unfold gO;rw [HT.rq,HT.zj,IA h];rfl
def g8 {i:Nat}(h:i<=xs.length):gO xs (some (i:Int)) none=xs.drop i:=by
 unfold gO;rw [HT.rq,HT.zj,IA h];exact PZ ga
theorem Red.up {os:ζ}(h:Red os L c b nd lv)(hb:b<=b'):Red os L c b' nd lv:={h with Rr:=fun x hx=>(h.Rr x hx).up hb,PK:=fun x hx=>(h.PK x hx).up hb}
def u4.erase (h:u4 H us ls)(j:Nat):u4 H (us.eraseIdx j) (ls.eraseIdx j):=by
 let hl:=h.1;show ⟨by rw [YI,YI,hl],fun i u l e1 e2=>?_⟩;rw [IE] at e1 e2;by_cases z:i<j
 ·rw [ox z] at e1 e2
  exact h.2 _ _ _ e1 e2
 ·rw [ni z] at e1 e2
  exact h.2 _ _ _ e1 e2
theorem qa {Z β:Type}{P:Nat->Z->β->Prop}:∀(xs:List Z),(∀i x,xs[i]?=some x->∃y,P i x y)->∃ys:List β,ys.length=xs.length/\∀i x y,xs[i]?=some x->ys[i]?=some y->P i x y
 | [],_=>⟨[],rfl,fun i x y e=>by simp at e⟩
 | x::xs,h=>by
  obtain ⟨y,hy⟩:=h 0 x rfl;obtain ⟨ys,hl,hp⟩:=qa (P:=fun i=>P (i+1)) xs (fun i x e=>h (i+1) x (by simpa using e));show ⟨y::ys,by simp [hl],fun i x' y' e1 e2=>?_⟩;cases i with
  | zero=>
   cases e1;cases e2;exact hy
  | succ i=>exact hp i x' y' (by simpa using e1) (by simpa using e2)
inductive qb (K:Frag)(vs:η)(H:Hp)(Q:VK)(E_:XK):Prop
|mk (a:AF)(us:η)(os:List (List Int:_))(L m b:Nat)(_:vs=[.ref a,.int (m:Int)])(_:aR K H a us)(_:u4 H us os)(_:(∀o∈os,o.length=L))(_:m<=L)(_:L<=1000)(_:os.length<=1000)(_:(∀o∈os,Bd b o))(_:bb b (min m os.length)<=29000000)(_:∀(p d a':AF)(AA:γ)(qF :η)(nd:π)(lv:ζ)(H':Hp),ao H H' ->H d=none->H p=none->H' p=some (.tup [.ref d,.ref a'])->H' d=some (.dK AA)->aR K H' a' qF ->wz H' AA nd->u4 H' qF lv->Red os L m (bb b (min m os.length)) nd lv->Q (.ref p) H')
def qG:av ["lines","many","needed","left","column","at","lead","place"] S8 (ae Mf):=sq
def abk (D:Def K mg "reduced" Mf S8)(aV:mg "range"=none)(cZ:mg "list"=none)(aiz:ac P w K mg iT 1 "first_not_nought" vb (xv K))(abl:ac P w K mg iT 34 "cleared" vk p_):ac P w K mg iT 35 "reduced" S8 (qb K):=by
 refine D.oo qG fun H hr h=>?_;obtain ⟨a,us,os,L,m,b,rfl,hS,hL,hlen,hm,XT,ho,hB,hb,q⟩:=h
 show ⟨_,(aa (aC 2 qG.nd dw) (aa (aC 3 qG.nd (pv 0)) (aa (ba FF rfl (bB rfl aV (aZ (pv 1))) (bM 4 qG.nd) (aa (aC 5 qG.nd (aJ aiz hr (aE (pv 3) (pv 4)))) (aa (bF (bO Oj (pv 5) rW) (ag ajb) aX) (aa (aC 6 qG.nd (bg aI (pv 3) (pv 5))) (aa (kE (i:=3) (tn:=["line"]) (fr:=["lead","column"]) (oV:=[6,4]) qG.nd (bh (aw ie (bX dP (pv 3) cQ (cH (pv 5))) (bX dP (pv 3) (cH (aw bT (pv 5) af)) cQ))) (tK abl hr (bU (pv 0) (pv 1) (pv 2)))) (aa (ba FF rfl (bh (dq (iq rfl) rfl cZ mJ (aZ (pv 2)))) (bM 7 qG.nd) (ag (dC (bQ hr) (pv 2) (pv 7) (aJ abl hr (bU (dR (bQ hr) (pv 2) (pv 7) (fun _ _=>rfl)) (pv 6) (pv 4))) rfl))) (ag (dC (bQ hr) (pv 2) (pv 4) (pv 6) rfl)))))))) (ag (aF (aK (aE (pv 2) (pv 3)))))))),?_⟩;sleep 3
 refine fun d Zu=>?_;let s0:ao H (upd H d (.dK [])):=aD Zu _;show ⟨_,rfl,_,rfl,_,rfl,ce,ce,?_⟩
 refine let I:bn:=fun i Y H'=>Ex9 fun (al:AF) (tQ:η) (AA:γ) (nd:π) (lv:ζ) (o4 o5 o6 o7:ψ)=>Y=[ap a,some (.int (m:Int)),ap d,ap al,o4,o5,o6,o7]/\ao H H'/\H' d=some (.dK AA)/\aR K H' al tQ/\u4 H' tQ lv/\wz H' AA nd/\nd.length<=i/\Red os L i (bb b (min m os.length)) nd lv/\(∃ps qs,NI os nd lv ps qs)/\(∀x∈nd,Pr os x.2)/\∀l∈lv,Pr os l;cL (lo:=0) (n:=m) I
  ⟨a,us,[],[],os,none,none,none,none,rfl,s0,ah,s0.seq hS,hL.lh s0,⟨rfl,by simp⟩,D' _,(Red.start hlen hB).up (xx _ _),⟨[],os,NI.start os⟩,ga,fun l hl=>.inl hl⟩ ?_ ?_
 ·rintro i Y H1 hi ⟨al,tQ,AA,nd,lv,o4,o5,o6,o7,rfl,s1,hd,PM,M7,hN,hni,R,⟨ps,qs,O⟩,pN,pL⟩
  show ⟨_,rfl,_,rfl,al,tQ,lv,i,by rw [Lh];rfl,PM,M7,fun l hl=>by rw [R.mM l hl];omega,fun j AV H2 s2 ej hj=>?_,fun hz H2 s2=>?_⟩
  ·let hjl:j<lv.length:=(be.mp ej).1
   let hul:=M7.1;let cnt:=R.cnt;let hbk:=hb;let hd2:=s2 _ _ hd;let V1:=s2.seq PM;let V3:=M7.lh s2;let hN2:=hN.lh s2;obtain ⟨u,eu,hu⟩:=V3.at' ej;let iz:AV∈lv:=DW ej;show ⟨_,rfl,rfl,_,rfl,bG (fun z=>by simp at z) (fun _=>?_)⟩;show ⟨_,rfl,_,rfl,al,_,_,_,rfl,rfl,V1,bq eu,_,rfl,_,rfl,_,rfl,al,tQ,rfl,V1,fun p1 n1=>?_⟩;let t1:=aD n1 (.lst (gO tQ none (some (j:Int))));show ⟨_,rfl,_,rfl,_,_,rfl,rfl,_,rfl,al,tQ,rfl,t1.seq V1,fun p2 n2=>?_⟩;let t2:=aD n2 (.lst (gO tQ (some ((j:Int)+1)) none))
   let abm:gO tQ none (some (j:Int))++gO tQ (some ((j:Int)+1)) none=tQ.eraseIdx j:=by
    rw [lO ce,show ((j:Int)+1)=((j+1:Nat):Int) from by omega,g8 ce,List.eraseIdx_eq_take_drop_succ]
   let aiA:(gO tQ none (some (j:Int))).length+(gO tQ (some ((j:Int)+1)) none).length<=AZ:=by
    rw [<-EM,abm];exact BJ (BJ (aiJ ..) (show tQ.length<=1000 by omega)) dL
   show ⟨p1,p2,_,_,rfl,rfl,t2 _ _ ah,ah,aiA,fun p3 n3=>?_⟩;let t3:=aD n3 (.lst (gO tQ none (some (j:Int))++gO tQ (some ((j:Int)+1)) none));show ⟨p3,rfl,⟨_,aR.of ah⟩,fun D nD=>?_⟩;let tt:=(t1.trans t2).trans t3;let hE:=(V3.lh tt).erase j;let hu3:=hu.lh tt;let er:(tQ.eraseIdx j).length<=1000:=BJ (aiJ ..) (show tQ.length<=1000 by omega);refine sQ (ph:=[some u,some (.int ((0:Int)+i))]) (K:=K) (a:=p3) (xs:=tQ.eraseIdx j) (fun k v H=>∃x y p,(lv.eraseIdx j)[k]?=some x/\v=.ref p/\p≠D/\H p=some (.lst (y.map V.int))/\u3 x AV y i/\Bd (2*bb b (min m os.length)+1) y/\(y=x\/XS y)) nD (FX er dL) (fun H3 s3=>aR.of (s3 _ _ (by rw [ah,abm]))) ?_ ?_ ?_
   ·rintro k v H3 H4 ys hD3 ks ⟨x,y,p,e1,e2,e3,e4,e5⟩
    show ⟨x,y,p,e1,e2,e3,ks _ _ e3 e4,e5⟩
   ·rintro k x H3 RR ex s3 ⟨ys0,aiB⟩ kk
    obtain ⟨l,el,hl⟩:=hE.at ex;let LB:l∈lv:=IQ (DW el);let hll:=R.mM l LB;let hld:=R.mM AV iz;show ⟨_,rfl,_,rfl,_,rfl,x,u,l,AV,i,bb b (min m os.length),bb b (min m os.length),by rw [Lh];rfl,hl.lh s3,hu3.lh s3,by rw [hll,hld],ce,ce,hj,R.PK l LB,R.PK AV iz,hbk,hbk,fun v' l' H4 s4 L4 cl bd pz fr=>?_⟩;obtain ⟨p,e1,e2⟩:=L4;refine kk v' H4 s4 ⟨l,l',p,el,e1,?_,e2,cl,by rwa [Nat.two_mul],pz⟩
    rcases fr with z|⟨p',z,n⟩
    ·obtain ⟨px',z1,z2⟩:=hl
     erw [z1,e1] at z;exact ak z2 nD
    ·rw [e1] at z
     cases z;exact fun y=>by erw [y,aiB] at n
   ·intro ys H3 hy jC s3 hD
    obtain ⟨EZ,hl',hp⟩:=qa (P:=fun k v y=>∃x p,(lv.eraseIdx j)[k]?=some x/\v=.ref p/\p≠D/\H3 p=some (.lst (y.map V.int))/\u3 x AV y i/\Bd (2*bb b (min m os.length)+1) y/\(y=x\/XS y)) ys (fun k v e=>by
     obtain ⟨x,y,p,r⟩:=jC k v e
     show ⟨y,x,p,r⟩)
    let hLn:u4 H3 ys EZ :=⟨hl'.symm,fun k v y e1 e2=>by
     obtain ⟨x,p,_,e,_,r,_⟩:=hp k v y e1 e2
     show ⟨p,e,r⟩⟩
    let les:(tQ.eraseIdx j).length=(lv.eraseIdx j).length:=hE.1
    let ML:Made os AV i (2*bb b (min m os.length)+1) (lv.eraseIdx j) EZ :=⟨ce,fun k x e=>by
     let hk:k<(lv.eraseIdx j).length:=(be.mp e).1;let e1:ys[k]?=some (ys[k]'ce):=gE ce;let e2:EZ[k]?=some (EZ[k]'ce):=gE ce;obtain ⟨x',p,r1,_,_,_,r2,r3,_⟩:=hp k _ _ e1 e2;erw [e] at r1
     show ⟨_,e2,r2,r3⟩⟩
    let PL:∀l∈EZ,Pr os l:=fun l hl=>by
     obtain ⟨k,ek⟩:=FZ hl;let hk:k<EZ.length:=(be.mp ek).1;let e1:ys[k]?=some (ys[k]'ce):=gE ce;obtain ⟨x',p,r1,_,_,_,_,_,r4⟩:=hp k _ _ e1 ek
     rcases r4 with z|z
     ·rw [z]
      exact pL x' (IQ (DW r1))
     ·exact .inr z
    let AB:=tt.trans s3;let V4:=AB _ _ hd2;let hN3:=hN2.lh AB;let hu4:=hu3.lh s3;show ⟨_,rfl,d,AA,rfl,Rd.of V4,fun l3 n3=>?_⟩;let t4:=aD n3 (.lst (AA.map fun kv=>kV kv.1));show ⟨l3,rfl,⟨_,aR.of ah⟩,?_⟩;let dl:d≠l3:=ak V4 n3
    refine let I:bn:=fun t Y H'=>JS fun (o7:ψ) (lZ :γ) (lY :π)=>Y=[ap a,some (.int (m:Int)),ap d,ap D,some (.int ((0:Int)+i)),some (.int (j:Int)),some u,o7]/\ao H H'/\H' d=some (.dK lZ)/\H' l3=some (.lst (AA.map fun kv=>kV kv.1))/\H' D=some (.lst ys)/\u4 H' ys EZ /\Ln H' u AV/\wz H' lZ lY /\lY.map (·.1)=nd.map (·.1)/\ ∀(k:Nat)(x:Nat×List Int),nd[k]?=some x->∃y,lY[k]?=some (x.1,y)/\(t<=k->y=x.2)/\(k<t->(u3 x.2 AV y i/\Bd (2*bb b (min m os.length)+1) y)/\(y=x.2\/XS y));bP (K:=K) (a:=l3) (xs:=AA.map fun kv=>kV kv.1) I
     ⟨_,AA,nd,rfl,((s1.trans s2).trans AB).trans t4,t4 _ _ V4,ah,t4 _ _ hD,hLn.lh t4,hu4.lh t4,hN3.lh t4,rfl,fun k x e=>⟨x.2,e,fun _=>rfl,fun z=>DZ z (Sn _)⟩⟩ (fun t Y H' _ h=>by
      obtain ⟨_,_,_,_,_,_,h,_⟩:=h
      exact aR.of h) ?_ ?_
    ·rintro t u7 Y H4 hu7 ⟨o7,lZ,lY,rfl,s4,DM,hl4,hD4,hL4,hu5,Rt,XU,Zv⟩
     rw [Wp] at hu7;obtain ⟨kv,tR,rfl⟩:=LA.mp hu7;let htl:t<AA.length:=(be.mp tR).1;let hnl:=hN.1;let ex:nd[t]?=some (nd[t]'ce):=gE ce;obtain ⟨x,hx⟩:∃x,nd[t]?=some x:=⟨_,ex⟩;obtain ⟨kx,hxm⟩:kv.1=.inl (x.1:Int)/\x∈nd:=⟨(hN3.2 t kv x tR hx).1,DW hx⟩;obtain ⟨y,ey,y1,_⟩:=Zv t x hx;let y2:=y1 (D' _);subst y2;obtain ⟨v,ev,hv⟩:=Rt.at ey
     let nk:(lZ.map (·.1)).Nodup:=by
      rw [Rt.keys];exact keys_nodup (by rw [XU];exact R.asc)
     let vat:=jD nk ev;let hxl:=R.vf x hxm;let hld:=R.mM AV iz
     let dg:cW H4 d (kV kv.1) (some v):=by
      rw [kx,<-vat];exact cW.k DM
     show ⟨_,rfl,_,rfl,d,v,rfl,dg,_,rfl,_,rfl,v,u,x.2,AV,i,bb b (min m os.length),bb b (min m os.length),by rw [Lh];rfl,hv,hu5,by rw [hxl,hld],ce,ce,hj,R.Rr x hxm,R.PK AV iz,hbk,hbk,fun v' l' H5 s5 L5 cl bd pz fr=>?_⟩;let XW:=s5 _ _ DM;let l4':=Rt.1;let l5':lY.length=nd.length:=by simpa using pj Oq XU
     show ⟨_,rfl,_,rfl,d,_,rfl,je.k XW (FX (show lZ.length<=1000 by omega) dL),?_⟩;rw [kx,ad3 nk ev];let dn:d≠D:=fun z=>by erw [z,hD4] at DM
     show ⟨_,lZ.set t (.inl (x.1:Int),v'),lY.set t (x.1,l'),rfl,ou (s4.trans s5) Zu,ah,by rw [aj (FT dl)];exact s5 _ _ hl4,by rw [aj (FT dn)];exact s5 _ _ hD4,(hL4.lh s5).put XW,(hu5.lh s5).put XW,((Rt.lh s5).set L5).put XW,?_,fun k x' ek=>?_⟩
     ·rw [List.map_set,XU]
      refine OC fun k=>?_;rw [Pp];by_cases z:t=k
      ·subst z
       rw [ox rfl,ox (by simp;omega),Wp,hx];rfl
      ·rw [ni z]
     ·obtain ⟨y',NJ,a1,a2⟩:=Zv k x' ek
      by_cases z:t=k
      ·subst z
       erw [hx] at ek;show ⟨l',by rw [Pp,ox rfl,ox ce],fun w=>ce,fun _=>⟨⟨cl,by rwa [Nat.two_mul]⟩,pz⟩⟩
      ·show ⟨y',by rwa [Pp,ni z],fun w=>a1 ce,fun w=>a2 ce⟩
    ·rintro Y H4 ⟨o7,lZ,lY,rfl,s4,DM,hl4,hD4,hL4,hu5,Rt,XU,Zv⟩
     let l4':=Rt.1;let l5':lY.length=nd.length:=by simpa using pj Oq XU
     let hnl:=hN.1;rw [ir] at Zv
     let MN:Made os AV i (2*bb b (min m os.length)+1) (nd.map (·.2)) (lY.map (·.2)):=⟨by simp [l5'],fun k x e=>by
      rw [Wp] at e;obtain ⟨x0,e0,rfl⟩:=LA.mp e;let hk:k<nd.length:=(be.mp e0).1;obtain ⟨y,ey,_,a2⟩:=Zv k x0 e0
      show ⟨y,by rw [Wp,ey];rfl,(a2 ce).1⟩⟩
     let hno:bI lZ (.inl ((0:Int)+i))=none:=JZ (fun z=>by
      rw [Rt.keys] at z;obtain ⟨x',Rl,e⟩:=AY.mp z;let e1:(x'.1:Int)=0+i:=ajS e;have:x'.1∈nd.map (·.1):=by rw [<-XU];exact AY.mpr ⟨x',Rl,rfl⟩
      obtain ⟨x,hx,e2⟩:=AY.mp this;have:=R.cols x hx
      omega)
     show ⟨_,rfl,_,rfl,_,rfl,d,_,rfl,je.k (k:=.inl ((0:Int)+i)) DM (FX (show lZ.length<=1000 by omega) dL),?_⟩;rw [dI u hno];let dn:d≠D:=fun z=>by erw [z,hD4] at DM
     let aiE:∀l∈lv.eraseIdx j,l∈lv:=fun l h=>IQ h
     let aiF:∀l∈lv,l=AV\/l∈lv.eraseIdx j:=fun l h=>by
      obtain ⟨k,ek⟩:=FZ h
      rcases Nat.lt_trichotomy k j with z|z|z
      ·exact .inr (DW (i:=k) (by rwa [IE,ox z]))
      ·subst z
       erw [ej] at ek;exact .inl rfl
      ·exact .inr (DW (i:=k-1) (by rwa [IE,ni ce,show k-1+1=k by omega]))
     let XX:(lv.eraseIdx j).length+1=lv.length:=by rw [YI,ox hjl];omega
     let R2:=R.step iz aiE aiF XX hj ML XU MN
     obtain ⟨ps',Pq,O2⟩:=O.step R.piv ej (fun x hx=>R.zero AV iz x.1 (R.cols x hx)) hj ML.len (fun k x e=>by
      obtain ⟨y,ey,k1,_⟩:=ML.to k x e
      show ⟨y,ey,k1⟩) l5' fun k x e=>by
      obtain ⟨y,ey,k1,_⟩:=MN.to k x e;show ⟨y,ey,k1⟩
     let PN:∀x∈lY ++[(i,AV)],Pr os x.2:=fun x hx=>by
      rcases FR.mp hx with z|z
      ·obtain ⟨k,ek⟩:=FZ z
       let hk:k<lY.length:=(be.mp ek).1;obtain ⟨x0,e0⟩:∃x0,nd[k]?=some x0:=⟨_,gE ce⟩;obtain ⟨y,ey,_,a2⟩:=Zv k x0 e0;erw [ek] at ey
       rcases (a2 ce).2 with u|u
       ·show Pr os y
        rw [u];exact pN x0 (DW e0)
       ·exact .inr u
      ·rw [GQ.mp z]
       exact pL AV iz
     let abq:=R2.cnt;let R3:=R2.small O2 hB (k:=min m os.length) (by rw [EM] at abq ⊢;simp at abq ⊢;omega) ce PN PL;show ⟨D,ys,_,lY ++[(i,AV)],EZ,_,_,_,_,rfl,ou s4 Zu,ah,aR.of (by rwa [aj (FT dn)]),hL4.put DM,(by rw [Lh];exact (Rt.snoc hu5).put DM),by simp;omega,R3,⟨ps',Pq,O2⟩,PN,PL⟩
  ·show ⟨_,rfl,rfl,_,rfl,bG (fun _=>?_) (fun z=>by simp at z)⟩
   show ⟨al,tQ,AA,nd,lv,_,_,_,_,rfl,s1.trans s2,s2 _ _ hd,s2.seq PM,M7.lh s2,hN.lh s2,ce,R.skip hz,⟨ps,qs,O⟩,pN,pL⟩
 ·rintro Y H1 ⟨al,tQ,AA,nd,lv,o4,o5,o6,o7,rfl,s1,hd,PM,M7,hN,hni,R,⟨ps,qs,O⟩,pN,pL⟩
  show ⟨_,rfl,_,rfl,qU,fun p np=>?_⟩;let sp:=aD np (.tup [.ref d,.ref al]);let cnt:=R.cnt;exact q p d al AA tQ nd lv _ (s1.trans sp) Zu (s1.free np) ah (sp _ _ hd) (sp.seq PM) (hN.lh sp) (M7.lh sp) R
def J_ (hb:b≠0)(h1:t.natAbs<=2^T)(h2:b.natAbs<=2^B):Sm T B (low t b):=⟨lD hb,rC hb,BJ (mH hb) h1,BJ (mI hb) h2⟩
def oy {l:ξ}(h:l.length<=j):l.getD j 0=0:=by
 rw [LW,FJ h];rfl
def AJ (m t:Nat)(nd:π)(qs:ο):Prop:=qs.length=m/\(∀i,i<t->∀x,nd[i]?=some x->qs[x.1]?=some (low (x.2.getD m 0) (x.2.getD x.1 0)))/\∀j,j<m->(∀i,i<t->∀x,nd[i]?=some x->x.1≠j)->qs[j]?=some (0,1)
def AJ.sm {os:ζ}(R:Red os (m+1) m b nd lv)(F:AJ m nd.length nd qs):∀q∈qs,Sm b b q:=by
 intro q hq;obtain ⟨j,hj⟩:=FZ hq;let hjm:j<m:=by have:=(be.mp hj).1;rw [<-F.1];exact this
 by_cases c:∃(i:Nat)(x:Nat×List Int),nd[i]?=some x/\x.1=j
 ·obtain ⟨i,x,e,rfl⟩:=c
  let hi:i<nd.length:=(be.mp e).1;let h1:=F.2.1 i hi x e;erw [hj] at h1;let hm:=DW e;exact J_ (R.here x hm) (R.Rr x hm m) (R.Rr x hm x.1)
 ·let h1:=F.2.2 j hjm (fun i _ x e z=>c ⟨i,x,e,z⟩)
  erw [hj] at h1;show ⟨dL,dL,LS _,BL⟩
theorem AJ.sol {os:ζ}(R:Red os (m+1) m b nd lv)(F:AJ m nd.length nd qs)(hz:∀l∈lv,l.getD m 0=0):∀o∈os,ev o (qC (qs.map vl))=0:=by
 let ql:=F.1
 let zl:∀j q,qs[j]?=some q->qC (qs.map vl) j=vl q:=fun j q e=>by
  let hj:j<qs.length:=(be.mp e).1;unfold qC;rw [ox (by rwa [ir]),LW,Wp,e];rfl
 let zm:qC (qs.map vl) m= -1:=by
  unfold qC;rw [ni (by rw [ir];omega)]
 refine (R.sol _).mp ⟨fun x hx=>?_,fun l hl=>?_⟩
 ·obtain ⟨i,e⟩:=FZ hx
  let hi:i<nd.length:=(be.mp e).1;let hc:=R.cols x hx;let hh:=R.here x hx;let h1:=F.2.1 i hi x e;let zc:=zl _ _ h1;rw [mL hh] at zc
  let lj:∀j,j≠x.1->j≠m->((x.2.getD j 0:Int):Rat)*qC (qs.map vl) j=0:=by
   intro j n1 n2;by_cases hj:j<m
   ·by_cases c:∃(i:Nat)(x:Nat×List Int),nd[i]?=some x/\x.1=j
    ·obtain ⟨i',y,e',rfl⟩:=c
     rw [R.off x hx y (DW e') (FT n1)];simp
    ·let h2:=F.2.2 j hj (fun i _ x e z=>c ⟨i,x,e,z⟩)
     rw [zl _ _ h2];unfold vl;simp;grind
   ·rw [oy (by rw [R.vf x hx];omega)]
    simp
  let sp:qC (qs.map vl)=fun i=>(if i=m then 0 else qC (qs.map vl) i)+(if i=m then -1 else 0):=by
   funext i;by_cases z:i=m
   ·rw [ox z,ox z,z,zm]
    grind
   ·rw [ni z,ni z]
    grind
  rw [sp,OU]
  let a1:=xo x.2 (fun i=>if i=m then 0 else qC (qs.map vl) i) x.1 (fun j hj=>by
   by_cases z:j=m
   ·simp [z]
   ·rw [ni z]
    exact lj j hj z)
  let a2:=xo x.2 (fun i=>if i=m then (-1:Rat) else 0) m (fun j hj=>by rw [ni hj];simp);rw [a1,a2];rw [ni ce,ox rfl,zc];let hh':=cz hh;grind
 ·refine xm l _ (fun j=>?_)
  have:l.getD j 0=0:=by
   by_cases h1:j<m
   ·exact R.zero l hl j h1
   ·by_cases h2:j=m
    ·rw [h2]
     exact hz l hl
    ·exact oy (by rw [R.mM l hl];omega)
  rw [this];simp
def AJ.put {os:ζ}(R:Red os (m+1) m b nd lv)(F:AJ m t nd qs)(e:nd[t]?=some x):AJ m (t+1) nd (qs.set x.1 (low (x.2.getD m 0) (x.2.getD x.1 0))):=by
 let ql:=F.1;let hx:=R.cols x (DW e)
 let dis:∀i y,i<t->nd[i]?=some y->y.1≠x.1:=fun i y hi ey=>by
  let a:=aip.mp R.asc i t (by rw [ir];exact (be.mp ey).1) (by rw [ir];exact (be.mp e).1) hi;simp only [List.getElem_map] at a;let e1:=(be.mp ey).2;let e2:=(be.mp e).2;rw [e1,e2] at a;omega
 show ⟨by simp [ql],fun i hi y ey=>?_,fun j hj h=>?_⟩
 ·rcases W7.mp hi with z|z
  ·rw [Pp,ni (FT (dis i y z ey))]
   exact F.2.1 i z y ey
  ·subst z
   erw [e] at ey;rw [Pp,ox rfl,ox ce]
 ·rw [Pp,ni (h t (Of _) x e)]
  exact F.2.2 j hj (fun i hi y ey=>h i (Yn hi) y ey)
def zaO (h:j<n):EE n (j:Int)=some j:=by
 unfold EE;simp;omega
def bE.putL (h:bE K H a xs)(e:H d=some (.lst ys)):bE K (upd H d o) a xs:=by
 rcases h with (h|⟨o',h⟩)|h
 ·exact .inl (.inl (by rw [aj (fun z=>by erw [z,e] at h)];exact h))
 ·exact .inl (.inr ⟨o',by rw [aj (fun z=>by erw [z,e] at h)];exact h⟩)
 ·exact .inr h
inductive mN (K:Frag)(vs:η)(H:Hp)(Q:VK)(E_:XK):Prop
|mk (a:AF)(us:η)(os:List (List Int:_))(m b:Nat)(_:vs=[.ref a,.int (m:Int)])(_:aR K H a us)(_:u4 H us os)(_:(∀o∈os,o.length=m+1))(_:m<=900)(_:os.length<=900)(_:(∀o∈os,Bd b o))(_:bb b (min m os.length)<=29000000)(_:(∀(l:ξ)(H':Hp),ao H H' ->l.length=m+1->pM os l->(∀j,j<m->l.getD j 0=0)->l.getD m 0≠0->Q .dc H'))(_:(∀(x:AF)(qF :η)(qs:ο)(H':Hp),ao H H' ->H x=none->H' x=some (.lst qF)->cP K H' qF qs->qs.length=m->(∀q∈qs,Sm (bb b (min m os.length)) (bb b (min m os.length)) q)->(∀o∈os,ev o (qC (qs.map vl))=0)->Q (.ref x) H'))
def AK:av ["lines","many","told","x","column","line"] S8 (ae Me):=sq
def abr (hN:∀H:Hp,bE K H aN [.int 0,.int 1])(kF:mg "NOUGHT"=some (.ref aN))(D:Def K mg "solution_of" Me S8)(PQ:mg "any"=none)(aiG:ac P w K mg iT 35 "reduced" S8 (qb K))(tS:ac P w K mg iT 33 "lowest_terms" QS fG):ac P w K mg iT 36 "solution_of" S8 (mN K):=by
 refine D.oo AK fun H hr h=>?_;obtain ⟨a,us,os,m,b,rfl,hS,hL,hlen,hm,ho,hB,hb,q1,q2⟩:=h
 show ⟨_,(aa (aC 2 AK.nd (aJ aiG hr (aE (pv 0) (pv 1)))) (aa (bF (fg (aU (adQ rfl) rfl PQ aaR (aZ (fe (tn:=["line"]) (fr:=["many"]) (oV:=[1]) (bh (ay (pv 2))) (jw nE (bg (gj (K:=K) rfl) (pv 0) (pv 1)) af (j9 _)))))) (ag (aF rW)) aX) (aa (aC 3 AK.nd (aw w4 (b9 (aZ (d5 (v:=.ref aN) rfl kF rfl))) (pv 1))) (aa (ba FF rfl (n_ (ay (pv 2))) (fL rfl (aY (bM 4 AK.nd) (aY (bM 5 AK.nd) df))) (ag (mD (aJ tS hr (aE (bg aI (pv 5) (pv 1)) (bg aI (pv 5) (pv 4)))) (rX (pv 3) (pv 4) set_list)))) (ag (aF (pv 3))))))),?_⟩;sleep 4
 show ⟨_,rfl,_,rfl,a,us,os,m+1,m,b,rfl,hS,hL,hlen,ce,ce,ce,hB,hb,fun p d a' AA qF nd lv H1 s1 Zu np hp hd PM hN1 XT R=>?_⟩;let lu:=XT.1;let cnt:=R.cnt;show ⟨_,rfl,p,_,_,_,rfl,rfl,bE.of hp,gL,a',rfl,⟨_,PM⟩,fun D1 n1=>?_⟩;refine fY (ph:=[some (.int (m:Int))]) (K:=K) (a:=a') (xs:=qF) (fun k v _=>∃l,lv[k]?=some l/\v=.bl (decide (l.getD m 0≠0))) n1 (FX (show qF.length<=1000 by omega) dL) (fun H2 s2=>s2.seq PM) (fun _ _ _ _ _ _ _ h=>h) ?_ ?_
 ·intro k x H2 RR ex s2 kk
  obtain ⟨l,el,b',rfl,fZ⟩:=XT.at ex;let hll:=R.mM l (DW el);show ⟨_,rfl,_,rfl,b',_,_,_,rfl,rfl,aR.of (s2 _ _ fZ),wo ce,rfl,kk _ _ (ao.refl _) ⟨l,el,?_⟩⟩;simp
 ·intro ys H2 hy jC s2 hD
  let ey:ys=(lv.map fun l=>decide (l.getD m 0≠0)).map V.bl:=by
   refine OC fun i=>?_;by_cases hi:i<ys.length
   ·let e1:ys[i]?=some ys[i]:=gE hi
    obtain ⟨l,el,e⟩:=jC i _ e1;rw [e1,e,Wp,Wp,el];rfl
   ·rw [FJ ce,FJ (by simp;omega)]
  subst ey;show ⟨D1,_,rfl,aR.of hD,_,rfl,?_⟩;let pU:=s1.trans s2;refine bG (fun c=>?_) (fun c=>?_)
  ·obtain ⟨b',fZ,hb1⟩:=BP.mp c
   obtain ⟨l,hl,rfl⟩:=AY.mp fZ;let hn:l.getD m 0≠0:=Lc hb1;exact q1 l H2 pU (R.mM l hl) (R.oq l hl) (R.zero l hl) hn
  ·let hz:∀l∈lv,l.getD m 0=0:=fun l hl=>by
    by_cases z:l.getD m 0=0
    ·exact z
    ·exact DZ (BP.mpr ⟨true,AY.mpr ⟨l,hl,La z⟩,rfl⟩) c
   show ⟨z1L,fun p3 n3=>?_⟩;let s3:=aD n3 (.lst [V.ref aN]);show ⟨_,rfl,p3,_,_,rfl,rfl,ah,ce,ce,BJ (show 1*(m:Int).toNat<=1000 by omega) dL,fun x n4=>?_⟩;let s4:=aD n4 (.lst (GH (m:Int).toNat [V.ref aN]).flatten);let Ru:=(pU.trans s3).trans s4;let nx:H x=none:=(pU.trans s3).free n4;let er:(GH (m:Int).toNat [V.ref aN]).flatten=GH m (V.ref aN):=by simp
   let hp4:=s4 _ _ (s3 _ _ (s2 _ _ hp));let DM:=s4 _ _ (s3 _ _ (s2 _ _ hd));let Rt:=((hN1.lh s2).lh s3).lh s4;let dx:d≠x:=ak (s3 _ _ (s2 _ _ hd)) n4;show ⟨_,rfl,p,_,_,_,rfl,rfl,bE.of hp4,iF,d,AA,rfl,DM,fun o=>?_⟩
   refine let I:bn:=fun t Y H'=>LX fun (o4 o5:ψ) (PV:η) (qs:ο)=>Y=[ap a,some (.int (m:Int)),ap p,ap x,o4,o5]/\ao H H'/\H' d=some (.eQ o (.dK AA))/\H' x=some (.lst PV)/\cP K H' PV qs/\wz H' AA nd/\AJ m t nd qs;lJ (d:=d) (o:=o) (AA:=AA) I
    ⟨none,none,GH m (V.ref aN),GH m (0,1),rfl,ou Ru Zu,ah,by rw [aj (FT dx),ah,er],⟨by simp,fun i u q' e1 e2=>?_⟩,Rt.put DM,⟨by simp,fun i hi=>DZ hi (Sn _),fun j hj _=>by rw [S6,ox hj]⟩⟩ (fun t Y H' _ h=>by
     obtain ⟨_,_,_,_,_,_,h,_⟩:=h
     exact h) ?_ ?_
   ·rw [S6] at e1 e2
    by_cases z:i<m
    ·rw [ox z] at e1 e2
     cases e1;cases e2;show ⟨aN,rfl,hN _⟩
    ·rw [ni z] at e1
     cases e1
   ·rintro t k v Y H5 p7 tR ⟨o4,o5,PV,qs,rfl,s5,XW,hx5,Tq,hN5,F⟩ n7
    let ht:t<AA.length:=(be.mp tR).1;let hl5:=hN5.1;obtain ⟨c,ec⟩:∃c,nd[t]?=some c:=⟨_,gE ce⟩;obtain ⟨k1,k2⟩:=hN5.2 t _ c tR ec;let k1':k=.inl (c.1:Int):=k1;subst k1';obtain ⟨b',eb,fZ⟩:=k2;have XZ :v=.ref b':=eb;subst XZ;let hcm:=DW ec;let hcl:=R.vf c hcm;let hcc:=R.cols c hcm;let s7:=aD n7 (.tup [kV (.inl (c.1:Int)),.ref b']);let hb7:=s7 _ _ fZ;show ⟨p7,_,rfl,bE.of ah,rfl,_,_,rfl,_,_,rfl,rfl,_,rfl,_,rfl,b',_,_,_,rfl,rfl,aR.of hb7,wo ce,_,rfl,_,rfl,b',_,_,_,rfl,rfl,aR.of hb7,wo ce,_,_,rfl,R.here c hcm,fun p8 H8 s8 e8=>?_⟩;let Tr:=s7.trans s8;let hx8:=Tr _ _ hx5;let l2:=Tq.1;let xn:∀{b0:AF} {o0:HO},H b0=some o0->b0≠x:=fun e=>ak e nx;let dx8:=Tr _ _ XW;show ⟨_,rfl,_,rfl,x,PV,_,c.1,rfl,rfl,hx8,zaO (by rwa [l2,F.1]),?_⟩;show ⟨_,_,PV.set c.1 (.ref p8),qs.set c.1 (low (c.2.getD m 0) (c.2.getD c.1 0)),rfl,ou (s5.trans Tr) nx,by rwa [aj dx],ah,?_,?_,F.put R ec⟩
    ·let iT:cP K H8 (PV.set c.1 (.ref p8)) (qs.set c.1 (low (c.2.getD m 0) (c.2.getD c.1 0))):=(Tq.lh Tr).set ⟨p8,rfl,bE.of e8⟩
     show ⟨iT.1,fun i u q' e1 e2=>?_⟩;obtain ⟨p9,e9,h9⟩:=iT.2 i u q' e1 e2;show ⟨p9,e9,bE.putL h9 hx8⟩
    ·let iT:=hN5.lh Tr
     show ⟨iT.1,fun i kv y e1 e2=>⟨(iT.2 i kv y e1 e2).1,?_⟩⟩;obtain ⟨p9,e9,h9⟩:=hN1.2 i kv y e1 e2 |>.2
     show ⟨p9,e9,?_⟩
     let px9:p9≠x:=fun z=>by
      have:=(s3 _ _ (s2 _ _ h9));erw [z,n4] at this
     rw [aj px9];obtain ⟨p10,e10,h10⟩:=(iT.2 i kv y e1 e2).2;erw [e9] at e10;exact h10
   ·rintro Y H5 ⟨o4,o5,PV,qs,rfl,s5,XW,hx5,Tq,hN5,F⟩
    let hl5:=hN5.1;rw [hl5] at F;show ⟨_,rfl,q2 x PV qs H5 s5 nx hx5 Tq F.1 (F.sm R) (F.sol R hz)⟩
def jW (H:Hp)(r:AF)(ls:χ)(cg:Ζ):Prop:=H r=some (.lst (ls.map V.ref))/\ls.length=cg.length/\∀(i:Nat)(l:AF)(vs:η),ls[i]?=some l->cg[i]?=some vs->H l=some (.lst vs)
def jW.lh (h:jW H r ls cg)(s:ao H H'):jW H' r ls cg:=⟨s _ _ h.1,h.2.1,fun i l vs e1 e2=>s _ _ (h.2.2 i l vs e1 e2)⟩
def Shape (T B m:Nat)(f9:Β):Prop:=∀qs∈f9,qs.length=m/\∀q∈qs,Sm T B q
def iA (K:Frag)(H:Hp)(cg:Ζ)(f9:Β):Prop:=cg.length=f9.length/\∀(i:Nat)(vs:η)(qs:ο),cg[i]?=some vs->f9[i]?=some qs->cP K H vs qs
theorem iA.lh (h:iA K H cg f9)(s:ao H H'):iA K H' cg f9:=⟨h.1,fun i vs qs e1 e2=>(h.2 i vs qs e1 e2).lh s⟩
def PX {Z:Type}{xs:List Z}{x y:Z}(e:(xs++[x])[j]?=some y):(j<xs.length/\xs[j]?=some y)\/(j=xs.length/\x=y):=by
 by_cases c:j<xs.length
 ·rw [LR c] at e
  exact .inl ⟨c,e⟩
 ·rw [Lg ce] at e
  by_cases z:j-xs.length=0
  ·rw [z] at e
   exact .inr ⟨ce,GU e⟩
  ·rw [FJ (by simp;omega)] at e
   cases e
def jW.snoc (h:jW H r ls cg)(nr:r∉ls)(hD:H D=some (.lst us))(nD:D≠r):jW (upd H r (.lst (ls.map V.ref++[.ref D]))) r (ls++[D]) (cg++[us]):=by
 obtain ⟨m1,m2,m3⟩:=h;show ⟨by rw [ah,GV];rfl,by simp [m2],fun j l vs e1 e2=>?_⟩
 rcases PX e1 with ⟨c1,d1⟩|⟨c1,d1⟩<;>rcases PX e2 with ⟨c2,d2⟩|⟨c2,d2⟩
 ·let ne:l≠r:=fun z=>nr (by rw [<-z];exact DW d1)
  rw [aj ne];exact m3 j l vs d1 d2
 ·omega
 ·omega
 ·subst d1 d2
  rwa [aj nD]
def jW.row (h:jW H r ls cg){i:Nat}{vs:η}(e:cg[i]?=some vs):∃l,ls[i]?=some l/\H l=some (.lst vs):=by
 let hi:i<cg.length:=(be.mp e).1;let l1:=h.2.1;let e1:ls[i]?=some (ls[i]'ce):=gE ce;show ⟨_,e1,h.2.2 i _ _ e1 e⟩
def qc (cg:Ζ)(j:Nat):List V:=cg.map fun vs=>vs.getD j .dc
def jQ (cg:Ζ)(m:Nat):List (List V):=(FG m).map fun j=>qc cg j
inductive tV (vs:η)(H:Hp)(Q:VK)(E_:XK):Prop
|mk (r:AF)(ls:χ)(cg:List (List V:_))(m:Int)(_:vs=[.ref r,.int m])(_:jW H r ls cg)(_:0<=m)(_:m<=1000)(_:ls.length<=1000)(_:(∀vs∈cg,m<=(vs.length:Int)))(_:∀c cs H',ao H H' ->jW H' c cs (jQ cg m.toNat)->Q (.ref c) H')
inductive oz (vs:η)(H:Hp)(Q:VK)(E_:XK):Prop
|mk (r:AF)(ls:χ)(cg:List (List V:_))(m:Int)(_:vs=[.ref r,.int m])(_:jW H r ls cg)(_:0<=m)(_:m<=1000)(_:ls.length<=1000)(_:(∀vs∈cg,m<=(vs.length:Int)))(_:∀c cs H',ao H H' ->H c=none->(∀l∈cs,H l=none)->jW H' c cs (jQ cg m.toNat)->Q (.ref c) H')
def PY:av ["rows","many","columns","column"] Xe (ae Mc):=sq
def abu (D:Def K mg "turned" Mc Xe)(aV:mg "range"=none):ac P w K mg iT 1 "turned" Xe oz:=by
 refine D.op PY fun f cF A mB s H vs Q E hr h=>?_;obtain ⟨r,ls,cg,m,rfl,M,m0,m1,hn,hv,q⟩:=h
 show ⟨_,(aa (aC 2 PY.nd (b9 jx)) (aa (ba FF rfl (bB rfl aV (aZ (pv 1))) (bM 3 PY.nd) (ag (b_ (qw TF Ti Th ft (pv 2) (aZ (fe (tn:=["row"]) (fr:=["column"]) (oV:=[3]) (bh (pv 0)) (bg (gj (K:=K) rfl) (pv 0) (pv 1)))))))) (ag (aF (pv 2))))),?_⟩;sleep 2
 let l1:=M.2.1;show ⟨z0L,fun c nc=>?_⟩;show ⟨_,rfl,_,rfl,ce,ce,?_⟩;refine let I:bn:=fun i Y H'=>NK fun (o:ψ) (cs:χ)=>Y=[ap r,some (.int m),ap c,o]/\ao H H'/\jW H' c cs (jQ cg i)/\c∉cs/\∀l∈cs,H l=none;cL (lo:=0) (n:=m.toNat) I ⟨none,[],rfl,aD nc _,⟨ah,rfl,fun i l vs e=>by simp at e⟩,by simp,fun l h=>by cases h⟩ ?_ ?_
 ·rintro i Y H' hi ⟨o,cs,rfl,s1,C,ncs,nws⟩
  let M':=M.lh s1;show ⟨_,rfl,.inl ⟨rfl,_,aR.of C.1⟩,_,rfl,r,rfl,⟨_,aR.of M'.1⟩,fun D nD=>?_⟩;refine fY (ph:=[some (.int ((0:Int)+i))]) (K:=K) (a:=r) (xs:=ls.map V.ref) (fun k v _=>∃vs,cg[k]?=some vs/\v=vs.getD i .dc) nD (by rw [ir];exact FX hn dL) (fun H2 s2=>aR.of (s2 _ _ M'.1)) (fun _ _ _ _ _ _ _ h=>h) ?_ ?_
  ·intro k u H2 R hu s2 kk
   rw [Wp] at hu;obtain ⟨l,el,rfl⟩:=LA.mp hu;let hk:k<ls.length:=(be.mp el).1;let ev:cg[k]?=some (cg[k]'ce):=gE ce;let hl:=M'.2.2 k l _ el ev
   let hi':i<(cg[k]'ce).length:=by
    have:=hv _ (DW ev);omega
   let ea:i7 (cg[k]'ce) ((0:Int)+(i:Int))=some ((cg[k]'ce).getD i .dc):=by
    rw [Lh];exact bq (by rw [gE hi',LW,gE hi'];rfl)
   show ⟨_,rfl,_,rfl,l,_,_,_,rfl,rfl,aR.of (s2 _ _ hl),ea,kk _ _ (ao.refl _) ⟨_,ev,rfl⟩⟩
  ·intro ys H2 hy jC s2 hD
   rw [ir] at hy
   let ey:ys=qc cg i:=by
    refine OC fun k=>?_;unfold qc;by_cases hk:k<ys.length
    ·let e1:ys[k]?=some ys[k]:=gE hk
     obtain ⟨vs,ev,e2⟩:=jC k _ e1;rw [e1,e2,Wp,ev];rfl
    ·rw [FJ ce,FJ (by simp;omega)]
   subst ey;let lc:cs.length=i:=by have:=C.2.1;simpa [jQ] using this
   let nDc:D≠c:=fun z=>by erw [z,C.1] at nD
   let fc:∀b o,H b=some o->b≠c:=fun b o e=>ak e nc;show ⟨c,_,_,rfl,rfl,s2 _ _ C.1,by rw [ir,lc];exact FX (show i<=1000 by omega) dL,?_⟩;show ⟨_,cs++[D],rfl,fun b o e=>?_,?_,fun z=>?_,fun l hl=>?_⟩
   ·rw [aj (fc b o e)]
    exact s2 _ _ (s1 _ _ e)
   ·let e:jQ cg (i+1)=jQ cg i++[qc cg i]:=by simp [jQ,BM]
    rw [e];exact (C.lh s2).snoc ncs hD nDc
   ·rcases FR.mp z with y|y
    ·exact ncs y
    ·exact nDc (GQ.mp y).symm
   ·rcases FR.mp hl with y|y
    ·exact nws l y
    ·rw [GQ.mp y]
     exact s1.free nD
 ·rintro Y H' ⟨o,cs,rfl,s1,C,ncs,nws⟩
  show ⟨_,rfl,q c cs H' s1 nc nws C⟩
def ac0 (F:Fn P w K mg iT CX k x ps oz):Fn P w K mg iT CX k x ps tV:=by
 obtain ⟨f,fd,G,r⟩:=F.ex;show ⟨f,fd,G.imp fun vs H Q E h=>?_,r⟩;obtain ⟨r,ls,cg,m,e,h1,h2,h3,h4,h5,q⟩:=h;show ⟨r,ls,cg,m,e,h1,h2,h3,h4,h5,fun c cs H' s _ _ M=>q c cs H' s M⟩
def de (f9:Β)(j:Nat):List (Int×Int):=f9.map fun qs=>qs.getD j (0,1)
def afK (sh:Shape T B m f9)(hj:j<m):∀q∈de f9 j,Sm T B q:=fun q hq=>by
 unfold de at hq;obtain ⟨qs,hqs,rfl⟩:=AY.mp hq;obtain ⟨hl,hs⟩:=sh qs hqs;rw [LW,gE ce];exact hs _ (SK _)
def Bd.of (h:∀t∈l,t.natAbs<=2^b):Bd b l:=fun j=>by
 by_cases hj:j<l.length
 ·let e:l[j]?=some l[j]:=gE hj
  rw [getD_mem e];exact h _ (SK hj)
 ·rw [oy ce]
  exact LS _
abbrev Wl:=List Int×Int×AF×AF
def WlP (T B m:Nat)(qs:ο)(d:Int×Int)(w:Wl):Prop:=qA w.1 (qs++[d]) w.2.1/\0<w.2.1/\w.2.1.natAbs<=2^(B*(m+1))/\∀t∈w.1,t.natAbs<=2^(T+B*(m+1))
def ad9 {NL:ζ}(h:∀l∈NL,l.length=n)(hj:j<n):qc (NL.map fun l=>l.map V.int) j=(NL.map fun l=>l.getD j 0).map V.int:=by
 unfold qc;rw [EB,EB];refine LD fun l hl=>?_;let hlen:=h l hl;let e:l[j]?=some (l[j]'ce):=gE ce;show (l.map V.int).getD j .dc=.int (l.getD j 0);rw [getD_mem e,LW,Wp,e];rfl
theorem tX (j:Nat):∀{ws:List Wl} {ss ys:ο} {cs:ο},ss.length=ws.length->ys.length=ws.length->cs.length=ws.length->
  (∀(i:Nat)(w:Wl)(s y:Int×Int),ws[i]?=some w->ss[i]?=some s->ys[i]?=some y->vl y=vl s*w.2.1)->(∀(i:Nat)(w:Wl)(c:Int×Int),ws[i]?=some w->cs[i]?=some c->((w.1.getD j 0:Int):Rat)=vl c*w.2.1)->iI ys cs=fP (ss.map vl) (ws.map (·.1)) j
 | [],[],[],[],_,_,_,_,_=>by simp [iI,fP]
 | w::ws,s::ss,y::ys,c::cs,h1,h2,h3,h4,h5=>by
  let ih:=tX j (ws:=ws) (ss:=ss) (ys:=ys) (cs:=cs) (by simpa using h1) (by simpa using h2) (by simpa using h3) (fun i w s y e1 e2 e3=>h4 (i+1) w s y (by simpa using e1) (by simpa using e2) (by simpa using e3)) (fun i w c e1 e2=>h5 (i+1) w c (by simpa using e1) (by simpa using e2));let a:=h4 0 w s y rfl rfl rfl;let b:=h5 0 w c rfl rfl;let ed:iI (y::ys) (c::cs)=vl y*vl c+iI ys cs:=by simp [iI]
  simp only [DV,fP];rw [ed,ih,a,b];grind
 | [],_::_,_,_,h,_,_,_,_=>by simp at h
 | [],[],_::_,_,_,h,_,_,_=>by simp at h
 | [],[],[],_::_,_,_,h,_,_=>by simp at h
 | _::_,[],_,_,h,_,_,_,_=>by simp at h
 | _::_,_::_,[],_,_,h,_,_,_=>by simp at h
 | _::_,_::_,_::_,[],_,_,h,_,_=>by simp at h
def DN (m:Nat)(NL:ζ):List (List Int):=(FG m).map (fun j=>(NL.map fun l=>l.getD j 0)++[0])++[(NL.map fun l=>l.getD m 0)++[1]]
def xy {o:ξ}(h:o∈DN m NL):∃k,k<m+1/\o=(NL.map fun l=>l.getD k 0)++[if k=m then 1 else 0]/\True:=by
 unfold DN at h
 rcases FR.mp h with z|z
 ·obtain ⟨j,hj,rfl⟩:=AY.mp z
  let hj':j<m:=OW.mp hj;show ⟨j,ce,by rw [ni ce],trivial⟩
 ·show ⟨m,ce,by rw [ox rfl];exact GQ.mp z,trivial⟩
def afI (h:k<m+1):(NL.map fun l=>l.getD k 0)++[if k=m then 1 else 0]∈DN m NL:=by
 unfold DN;by_cases z:k=m
 ·subst z
  rw [ox rfl];simp
 ·rw [ni z]
  exact FR.mpr (.inl (AY.mpr ⟨k,OW.mpr ce,rfl⟩))
def adM {ws:List Wl}(hlen:∀l∈ws.map (·.1),l.length=m+1)(hn:ws.length=n)(c0:pM (ws.map (·.1)) l0)(h0:∀j,j<m->l0.getD j 0=0)(h0m:l0.getD m 0≠0)(c1:pM (DN m (ws.map (·.1))) l1)(l1l:l1.length=n+1)(h1:∀j,j<n->l1.getD j 0=0)(hp:∀o∈DN m (ws.map (·.1)),o.length=n+1):l1.getD n 0=0:=by
 obtain ⟨y0,ly,ey⟩:=c0;have aBr :=cz h0m;let ly':(y0.map fun a=>a*(1 / ((l0.getD m 0:Int):Rat))).length=(ws.map (·.1)).length:=by simp [ly]
 let all:∀o∈DN m (ws.map (·.1)),ev o (qC (y0.map fun a=>a*(1 / ((l0.getD m 0:Int):Rat))))=0:=by
  intro o ho;obtain ⟨k,hk,rfl,_⟩:=xy ho;rw [EO k _ (ws.map (·.1)) _ ly',tf,<-ey k];by_cases z:k=m
  ·subst z
   rw [ox rfl];let e':((1:Int):Rat)=1:=by simp
   rw [e'];grind
  ·rw [ni z,h0 k ce]
   simp;grind
 let e:=aed (n:=n+1) c1 ce (fun o ho=>by rw [hp o ho];exact D' _) all
 rw [xo l1 _ n (fun j hj=>by
  by_cases z:j<n
  ·rw [h1 j z]
   simp
  ·rw [oy ce]
   simp)] at e
 let zn:qC (y0.map fun a=>a*(1 / ((l0.getD m 0:Int):Rat))) n= -1:=by
  unfold qC;rw [ni (by rw [ly',ir];omega)]
 rw [zn] at e;have:((l1.getD n 0:Int):Rat)=0:=by grind
 exact_mod_cast this
def adt {d:Int×Int}(h:qA ts (qs++[d]) b)(hj:j<qs.length):((ts.getD j 0:Int):Rat)=vl (qs.getD j (0,1))*b:=by
 let l:=h.1;rw [EM] at l;simp at l;let e1:ts[j]?=some (ts[j]'ce):=gE ce;let e2:qs[j]?=some qs[j]:=gE hj;have:=h.2 j _ _ e1 (by rwa [LR hj]);rw [getD_mem e1,LW,e2];exact this
def adC {d:Int×Int}(h:qA ts (qs++[d]) b)(hm:qs.length=m):((ts.getD m 0:Int):Rat)=vl d*b:=by
 let l:=h.1;rw [EM] at l;simp at l;let e1:ts[m]?=some (ts[m]'ce):=gE ce;have:=h.2 m _ d e1 (by rw [Lg ce,hm];simp);rw [getD_mem e1];exact this
inductive rL (K:Frag)(vs:η)(H:Hp)(Q:VK)(E_:XK):Prop
|mk (r dl:AF)(m:Nat)(ls:χ)(cg:List (List V:_))(f9:Β)(dus:η)(ds:ο)(T B α:Nat)(_:vs=[.ref r,.ref dl,.int (m:Int)])(_:jW H r ls cg)(_:iA K H cg f9)(_:H dl=some (.lst dus))(_:cP K H dus ds)(_:ds.length=f9.length)(_:Shape T B m f9)(_:(∀d∈ds,Sm T B d))(_:m<=100)(_:f9.length<=100)(_:T<=20000)(_:B*(m+1)<=100000)(_:B<=8000)(_:bb (T+B*(m+1)) (min (m+1) f9.length)<=α)(_:α<=29000000)(_:(∀(p x:AF)(us:η)(xs:ο)(H':Hp),ao H H' ->H' p=some (.tup [.str "solved",.ref x])->H' x=some (.lst us)->cP K H' us xs->xs.length=m->(∀q∈xs,Sm α α q)->(∀(i:Nat)(qs:ο)(d:Int×Int),f9[i]?=some qs->ds[i]?=some d->iI qs xs=vl d)->Q (.ref p) H'))(_:(∀(p y:AF)(us:η)(ys:ο)(H':Hp),ao H H' ->H' p=some (.tup [.str "paper",.ref y])->H' y=some (.lst us)->cP K H' us ys->ys.length=f9.length->(∀q∈ys,Sm (α+B*(m+1)) α q)->(∀j,j<m->iI ys (de f9 j)=0)->iI ys ds=1->Q (.ref p) H'))
def tY:av ["rows","due","many","wholes","lines","x","columns","papers","shares"] vh (ae Mb):=sq
def abv (D:Def K mg "solve_rows" Mb vh)(gM:mg "zip"=none)(a_:mg "len"=none)(aiM:ac P w K mg iT 2 "whole_row" ["row"] (XR K))(abw:ac P w K mg iT 36 "solution_of" S8 (mN K))(X2:ac P w K mg iT 1 "turned" Xe tV)(tS:ac P w K mg iT 33 "lowest_terms" QS fG):
  ac P w K mg iT 37 "solve_rows" vh (rL K):=by
 refine D.op tY fun f cF A mB s H vs Q E hr h=>?_;obtain ⟨r,dl,m,ls,cg,f9,dus,ds,T,B,α,rfl,M,NN,hdl,ND,hds,sh,sd,hm,hn,hT,hB,hB1,hZ,hZ1,q1,q2⟩:=h
 show ⟨_,(aa (Pz (i:=3) (tn:=["row","number"]) (fr:=[]) (oV:=[]) tY.nd (xi rfl gM (aE (pv 0) (pv 1))) (fun _ _ _ _=>(xj (K:=K) (n:=2) rfl rfl (aY (gN (i:=0) (show (["row","number"]:List Str).Nodup from by decide+kernel) rfl (Pj rfl)) (aY (gN (i:=1) (show (["row","number"]:List Str).Nodup from by decide+kernel) rfl (Pj rfl)) df)))) (fun _ _ _ _=>sI) (tK aiM hr (aZ (aw ie (pv 0) (b9 (aZ (pv 1))))))) (aa (kE (i:=4) (tn:=["whole"]) (fr:=[]) (oV:=[]) tY.nd (bh (pv 3)) (bg (dQ (K:=K) rfl) (pv 0) af)) (aa (aC 5 tY.nd (aJ abw hr (aE (pv 4) (pv 2)))) (aa (bF (bO zac (pv 5) rW) (ag (aF (aK (aE h_ (pv 5))))) aX) (aa (aC 6 tY.nd (aJ X2 hr (aE (pv 4) (aw bT (pv 2) af)))) (aa (aC 7 tY.nd (aw ie (fe (tn:=["column"]) (fr:=[]) (oV:=[]) (bh (bX dP (pv 6) cQ (cH (pv 2)))) (aw ie (pv 0) (b9 (aZ af)))) (b9 (aZ (aw ie (bg aI (pv 6) (pv 2)) (b9 (aZ af))))))) (aa (aC 8 tY.nd (aJ abw hr (aE (pv 7) (aU aQ rfl a_ cS (aZ (pv 4)))))) (ag (aF (aK (aE h_ (Py (tn:=zaT) (fr:=[]) (oV:=[]) (xi rfl gM (aE (pv 8) (pv 3))) (fun _ _ _ _=>(xj (K:=K) (n:=2) rfl rfl (aY (gN (i:=0) (show (zaT:List Str).Nodup from by decide+kernel) rfl (Pj rfl)) (aY (gN (i:=1) (show (zaT:List Str).Nodup from by decide+kernel) rfl (Pj rfl)) df)))) (fun _ _ _ _=>sI) (tK tS hr (aE (aw iK (bg (dQ (K:=K) rfl) (pv 0) af) (bg (dQ (K:=K) rfl) (pv 1) af)) (bg (dQ (K:=K) rfl) (pv 0) af))))))))))))))),?_⟩;sleep 6
 let l1:=M.2.1;let l2:=NN.1;let l3:=ND.1;show ⟨_,rfl,_,rfl,r,dl,rfl,⟨_,aR.of M.1⟩,⟨_,aR.of hdl⟩,fun D1 n1=>?_⟩;refine zae (ph:=[]) (K:=K) (xs:=ls.map V.ref) (ys:=dus) (fun i v H=>∃w:Wl,v=.ref w.2.2.2/\w.2.2.1≠D1/\H w.2.2.2=some (.tup [.ref w.2.2.1,.int w.2.1])/\H w.2.2.1=some (.lst (w.1.map V.int))/\∀qs d,f9[i]?=some qs->ds[i]?=some d->WlP T B m qs d w) n1 (by rw [ir];exact FX (show ls.length<=1000 by omega) dL) (by rw [ir];omega) (fun H2 s2=>aR.of (s2 _ _ M.1)) (fun H2 s2=>aR.of (s2 _ _ hdl)) ?_ ?_ ?_
 ·rintro i v H2 H3 ys hD ks ⟨w,e1,e2,e3,e4,e5⟩
  show ⟨w,e1,e2,ks _ _ (fun z=>by erw [z,hD] at e3) e3,ks _ _ e2 e4,e5⟩
 ·rintro i x y H2 RR ex ey s2 ⟨ys0,hD0⟩ kk
  rw [Wp] at ex;obtain ⟨l,el,rfl⟩:=LA.mp ex;let hi:i<ls.length:=(be.mp el).1;obtain ⟨qs,eq⟩:∃qs,f9[i]?=some qs:=⟨_,gE ce⟩;obtain ⟨vs,ev⟩:∃vs,cg[i]?=some vs:=⟨_,gE ce⟩;let hl:=M.2.2 i l vs el ev;let hq:=NN.2 i vs qs ev eq;obtain ⟨d,ed,nd⟩:=ND.at ey;obtain ⟨lq,sq⟩:=sh qs (DW eq);let lvs:=hq.1;show ⟨_,rfl,_,rfl,z1L,fun p1 np1=>?_⟩;let t1:=aD np1 (.lst [y]);show ⟨l,p1,vs,_,rfl,rfl,t1 _ _ (s2 _ _ hl),ah,BJ (show vs.length+1<=1000 by omega) dL,fun p2 np2=>?_⟩;let t2:=aD np2 (.lst (vs++[y]));let t12:=t1.trans t2;show ⟨p2,qs++[d],T,B,rfl,⟨_,aR.of ah,(cP.snoc ((hq.lh s2).lh t12) ((nd.lh s2).lh t12))⟩,fun q' vM =>?_,hT,by rwa [EM,lq],hB1,by rw [EM,lq];show m+1<=1000;omega,fun p3 l3' ts b H3 s3 nl hp3 hl3 hb V5 wh hts=>?_⟩
  ·rcases FR.mp vM with z|z
   ·exact sq q' z
   ·rw [GQ.mp z]
    exact sd d (DW ed)
  ·refine kk _ _ (t12.trans s3) ⟨(ts,b,l3',p3),rfl,fun z=>?_,hp3,hl3,fun Pq d' e1 e2=>?_⟩
   ·have:=t12 _ _ hD0
    erw [show l3'=D1 from z,this] at nl
   ·rw [eq] at e1
    rw [ed] at e2;cases e1;cases e2;rw [EM,lq] at V5 hts;show ⟨wh,hb,V5,hts⟩
 ·intro zs H2 hz jC s2 hD1
  rw [ir] at hz;obtain ⟨ws,lw,hw⟩:=qa (P:=fun i v (w:Wl)=>v=.ref w.2.2.2/\w.2.2.1≠D1/\H2 w.2.2.2=some (.tup [.ref w.2.2.1,.int w.2.1])/\H2 w.2.2.1=some (.lst (w.1.map V.int))/\∀qs d,f9[i]?=some qs->ds[i]?=some d->WlP T B m qs d w) zs jC
  let ez:zs=ws.map (fun w=>V.ref w.2.2.2):=by
   refine OC fun i=>?_;rw [Wp];by_cases hi:i<zs.length
   ·let e1:zs[i]?=some zs[i]:=gE hi
    let e2:ws[i]?=some (ws[i]'ce):=gE ce;let h:=(hw i _ _ e1 e2).1;rw [e1,e2,h];rfl
   ·rw [FJ ce,FJ ce]
    rfl
  subst ez;let Ts:ws.length=f9.length:=ce
  let Zw:∀(i:Nat)(w:Wl),ws[i]?=some w->H2 w.2.2.2=some (.tup [.ref w.2.2.1,.int w.2.1])/\H2 w.2.2.1=some (.lst (w.1.map V.int))/\∀qs d,f9[i]?=some qs->ds[i]?=some d->WlP T B m qs d w:=fun i w e=>(hw i _ w (by rw [Wp,e];rfl) e).2.2
  let wp:∀(i:Nat)(w:Wl),ws[i]?=some w->∃qs d,f9[i]?=some qs/\ds[i]?=some d/\WlP T B m qs d w:=fun i w e=>by
   let hi:i<ws.length:=(be.mp e).1;obtain ⟨qs,eq⟩:∃qs,f9[i]?=some qs:=⟨_,gE ce⟩;obtain ⟨d,ed⟩:∃d,ds[i]?=some d:=⟨_,gE ce⟩;show ⟨qs,d,eq,ed,(Zw i w e).2.2 qs d eq ed⟩
  let Tt:∀l∈ws.map (·.1),l.length=m+1:=fun l hl=>by
   obtain ⟨w,X3,rfl⟩:=AY.mp hl;obtain ⟨i,e⟩:=FZ X3;obtain ⟨qs,d,eq,_,wh,_⟩:=wp i w e;have:=wh.1;rwa [EM,(sh qs (DW eq)).1] at this
  let wbd:∀l∈ws.map (·.1),Bd (T+B*(m+1)) l:=fun l hl=>by
   obtain ⟨w,X3,rfl⟩:=AY.mp hl;obtain ⟨i,e⟩:=FZ X3;obtain ⟨qs,d,eq,_,_,_,_,h⟩:=wp i w e;exact Bd.of h
  let hlm:(ws.map (·.1)).length=f9.length:=by rwa [ir]
  show ⟨_,rfl,D1,rfl,⟨_,aR.of hD1⟩,fun D2 n2=>?_⟩;refine fY (ph:=[]) (K:=K) (a:=D1) (xs:=ws.map (fun w=>V.ref w.2.2.2)) (fun k v _=>∃w,ws[k]?=some w/\v=.ref w.2.2.1) n2 (by rw [ir];exact FX (show ws.length<=1000 by omega) dL) (fun H3 s3=>aR.of (s3 _ _ hD1)) (fun _ _ _ _ _ _ _ h=>h) ?_ ?_
  ·intro k x H3 RR ex s3 kk
   rw [Wp] at ex;obtain ⟨w,ew,rfl⟩:=LA.mp ex;show ⟨_,rfl,w.2.2.2,_,_,_,rfl,rfl,bE.of (s3 _ _ (Zw k w ew).1),iF,kk _ _ (ao.refl _) ⟨w,ew,rfl⟩⟩
  intro ys H3 hy abx s3 hD2
  let ey:ys=(ws.map (fun w=>w.2.2.1)).map V.ref:=by
   refine OC fun i=>?_;rw [ir] at hy;by_cases hi:i<ys.length
   ·let e1:ys[i]?=some ys[i]:=gE hi
    obtain ⟨w,e2,e3⟩:=abx i _ e1;rw [e1,e3,Wp,Wp,e2];rfl
   ·rw [FJ ce,FJ (by simp;omega)]
  subst ey
  let hLl:u4 H3 ((ws.map (fun w=>w.2.2.1)).map V.ref) (ws.map (·.1)):=⟨by simp,fun i u l e1 e2=>by
   rw [Wp,Wp] at e1;rw [Wp] at e2;cases e:ws[i]? with
   | none=>erw [e] at e2
   | some w=>
    rw [e] at e1 e2;cases e1;cases e2
    show ⟨w.2.2.1,rfl,s3 _ _ (Zw i w e).2.1⟩⟩
  let hMm:jW H3 D2 (ws.map (fun w=>w.2.2.1)) ((ws.map (·.1)).map fun l=>l.map V.int):=⟨hD2,by simp,fun i l vs e1 e2=>by
   rw [Wp] at e1;rw [Wp,Wp] at e2;cases e:ws[i]? with
   | none=>erw [e] at e2
   | some w=>
    rw [e] at e1 e2;cases e1;cases e2
    exact s3 _ _ (Zw i w e).2.1⟩
  let mn:bb (T+B*(m+1)) (min m (ws.map (·.1)).length)<=α:=BJ (xw _ (by rw [hlm];omega)) hZ;let s23:=s2.trans s3;show ⟨_,rfl,_,rfl,D2,_,ws.map (·.1),m,T+B*(m+1),rfl,aR.of hD2,hLl,Tt,ce,ce,wbd,BJ mn hZ1,fun l0 H4 s4 l0l cm l00 l0m=>?_,fun x qF xs H4 s4 nx hx nxs lxs sxs sol=>?_⟩
  ·show ⟨_,rfl,rfl,_,rfl,bG (fun z=>by simp at z) (fun _=>?_)⟩
   let M4:=hMm.lh s4;show ⟨_,rfl,_,rfl,_,_,rfl,rfl,D2,ws.map (fun w=>w.2.2.1),_,(m:Int)+1,rfl,M4,ce,ce,by rw [ir];omega,fun vs hvs=>?_,fun c cs H5 s5 M5=>?_⟩
   ·obtain ⟨l,hl,rfl⟩:=AY.mp hvs
    rw [ir,Tt l hl];omega
   let lcs:cs.length=m+1:=by
    have:=M5.2.1;unfold jQ at this;simp at this;omega
   let col:∀k,k<m+1->∃l,cs[k]?=some l/\H5 l=some (.lst (((ws.map (·.1)).map fun l=>l.getD k 0).map V.int)):=fun k hk=>by
    let e:(jQ ((ws.map (·.1)).map fun l=>l.map V.int) ((m:Int)+1).toNat)[k]?=some (((ws.map (·.1)).map fun l=>l.getD k 0).map V.int):=by
     rw [<-ad9 Tt hk];unfold jQ;rw [Wp,Np ce];rfl
    exact M5.row e
   show ⟨_,rfl,_,rfl,_,rfl,c,_,rfl,aR.of M5.1,fun p6 n6=>?_⟩;let t6:=aD n6 (.lst (gO (cs.map V.ref) none (some (m:Int))));show ⟨p6,rfl,⟨_,aR.of ah⟩,fun D6 nD6=>?_⟩;let lcl:((ws.map (·.1)).map fun l=>l.getD 0 0).length<=100:=by simp;omega
   refine sQ (ph:=[]) (K:=K) (a:=p6) (xs:=(cs.map V.ref).take m) (fun k v H=>∃p,v=.ref p/\p≠D6/\H p=some (.lst ((List.map (fun l:List Int=>l.getD k 0) (ws.map (fun w:Wl=>w.1))++[(0:Int)]).map V.int))) nD6 (FX (show ((cs.map V.ref).take m).length<=1000 by simp;omega) dL) (fun H7 s7=>aR.of (s7 _ _ (by rw [ah,lO (by simp;omega)]))) ?_ ?_ ?_
   ·rintro k v H7 H8 ys hD ks ⟨p,e1,e2,e3⟩
    show ⟨p,e1,e2,ks _ _ e2 e3⟩
   ·rintro k x H7 RR ex s7 ⟨ys0,M3⟩ kk
    let hk:k<m:=by have:=(be.mp ex).1;simp at this;omega
    obtain ⟨l,el,hl⟩:=col k ce;erw [List.getElem?_take,ox hk,Wp,el] at ex;show ⟨_,rfl,z1L,fun pz nz=>?_⟩;let tz:=aD nz (.lst [.int 0]);show ⟨l,pz,_,_,rfl,rfl,tz _ _ (s7 _ _ (t6 _ _ hl)),ah,BJ (show _<=1000 by simp;omega) dL,fun pn nn=>?_⟩;let tn:=aD nn (.lst (((ws.map (·.1)).map fun l=>l.getD k 0).map V.int++[.int 0]));refine kk _ _ (tz.trans tn) ⟨pn,rfl,fun z=>?_,by rw [ah,GV];rfl⟩;have:=tz _ _ M3;erw [z,this] at nn
   intro Rv H7 hy6 aby s7 hD6;let ly6:Rv.length=m:=by rw [hy6];simp;omega
   let t67:=t6.trans s7;obtain ⟨lm,elm,aiR⟩:=col m ce;show ⟨_,rfl,_,rfl,c,_,_,_,rfl,rfl,aR.of (t67 _ _ M5.1),bq (by rw [Wp,elm];rfl),z1L,fun pz nz=>?_⟩;let tz:=aD nz (.lst [.int 1]);show ⟨lm,pz,_,_,rfl,rfl,tz _ _ (t67 _ _ aiR),ah,BJ (show _<=1000 by simp;omega) dL,fun pn nn=>?_⟩;let tn:=aD nn (.lst (((ws.map (·.1)).map fun l=>l.getD m 0).map V.int++[.int 1]));show ⟨z1L,fun pL nL=>?_⟩;let tL:=aD nL (.lst [V.ref pn]);let tzL:=(tz.trans tn).trans tL;show ⟨D6,pL,Rv,_,rfl,rfl,tzL _ _ hD6,ah,BJ (show Rv.length+1<=1000 by omega) dL,fun pP nP=>?_⟩;let tP:=aD nP (.lst (Rv++[V.ref pn]));let s7P:=tzL.trans tP;let hpn:=tP _ _ (tL _ _ (ah (H:=upd H7 pz (.lst [.int 1])) (a:=pn) (o:=.lst (((ws.map (·.1)).map fun l=>l.getD m 0).map V.int++[.int 1]))));let eP:upd (upd (upd (upd H7 pz (.lst [.int 1])) pn (.lst (((ws.map (·.1)).map fun l=>l.getD m 0).map V.int++[.int 1]))) pL (.lst [V.ref pn])) pP (.lst (Rv++[V.ref pn])) pP=some (.lst (Rv++[V.ref pn])):=ah
   let aiS:∀(k:Nat)(v:V),Rv[k]?=some v->Ln H7 v (((ws.map (·.1)).map fun l=>l.getD k 0)++[0]):=fun k v e=>by
    obtain ⟨p,e1,_,e3⟩:=aby k v e;show ⟨p,e1,e3⟩
   let s5P:=t67.trans s7P;generalize upd (upd (upd (upd H7 pz (.lst [.int 1])) pn (.lst (((ws.map (·.1)).map fun l=>l.getD m 0).map V.int++[.int 1]))) pL (.lst [V.ref pn])) pP (.lst (Rv++[V.ref pn]))=H9 at*
   let aiT:u4 H9 (Rv++[V.ref pn]) (DN m (ws.map (·.1))):=by
    show ⟨by simp [DN,ly6],fun k u l e1 e2=>?_⟩;unfold DN at e2;by_cases hk:k<m
    ·rw [LR ce] at e1
     erw [LR (by simpa using hk),Wp,Np hk] at e2;exact (aiS k u e1).lh s7P
    ·rw [Lg ce] at e1
     rw [Lg (by simp;omega)] at e2;by_cases hkm:k=m
     ·subst hkm
      rw [show k-Rv.length=0 by omega] at e1;rw [show k-((FG k).map fun j=>((ws.map (·.1)).map fun l=>l.getD j 0)++[0]).length=0 by simp] at e2;cases e1;cases e2;show ⟨pn,rfl,by rw [hpn,GV];rfl⟩
     ·rw [FJ (by simp;omega)] at e1
      cases e1
   let ppl:∀o∈DN m (ws.map (·.1)),o.length=f9.length+1:=fun o ho=>by
    rcases xy ho with ⟨k,hk,e⟩
    rw [e.1];simp [Ts]
   let ppb:∀o∈DN m (ws.map (·.1)),Bd (T+B*(m+1)) o:=fun o ho=>by
    rcases xy ho with ⟨k,hk,e,hc⟩
    rw [e];refine Bd.of fun t ht=>?_
    rcases FR.mp ht with z|z
    ·obtain ⟨l,hl,rfl⟩:=AY.mp z
     exact wbd l hl k
    ·rw [GQ.mp z]
     refine BJ ?_ (BL (n:=T+B*(m+1)));split<;>decide
   let lpp:(DN m (ws.map (·.1))).length=m+1:=by simp [DN]
   let mn2:bb (T+B*(m+1)) (min f9.length (DN m (ws.map (·.1))).length)<=α:=BJ (xw _ (by rw [lpp];omega)) hZ;let s39:=(s4.trans s5).trans s5P;show ⟨_,rfl,_,rfl,D2,_,rfl,.inl (aR.of (s39 _ _ hD2)),pP,_,DN m (ws.map (·.1)),f9.length,T+B*(m+1),by simp [Ts],aR.of eP,aiT,ppl,ce,ce,ppb,BJ mn2 hZ1,fun l1 Rm EI l1l cm1 l10 l1m=>?_,fun x2 PV ss Rm EI nx2 hx2 nss lss sss vg=>?_⟩
   ·exact DZ (adM Tt Ts cm l00 l0m cm1 l1l l10 ppl) l1m
   let csm:∀k,k<m+1->fP (ss.map vl) (ws.map (·.1)) k=if k=m then 1 else 0:=fun k hk=>by
    let e:=vg _ (afI hk);rw [EO k _ (ws.map (·.1)) (ss.map vl) (by simp [Ts,lss])] at e;by_cases z:k=m
    ·rw [ox z] at e ⊢
     let e':((1:Int):Rat)=1:=by simp
     rw [e'] at e;grind
    ·rw [ni z] at e ⊢
     let e':((0:Int):Rat)=0:=by simp
     rw [e'] at e;grind
   let X4:=s39.trans EI;let abA:=X4 _ _ (s3 _ _ hD1);let aBR:=nss.1;show ⟨_,rfl,_,rfl,x2,D1,rfl,⟨_,aR.of hx2⟩,⟨_,aR.of abA⟩,fun D9 n9=>?_⟩;refine zA (ph:=[]) (K:=K) (xs:=PV) (ys:=ws.map (fun w=>V.ref w.2.2.2)) (fun k v H=>∃w q,ws[k]?=some w/\ss[k]?=some q/\Nm H v (low (q.1*w.2.1) q.2)) n9 (FX (show PV.length<=1000 by omega) dL) (by rw [ir];omega) (fun OJ DJ=>aR.of (DJ _ _ hx2)) (fun OJ DJ=>aR.of (DJ _ _ abA)) ?_ ?_ ?_
   ·rintro k v OJ H12 ys hD ks ⟨w,q,e1,e2,e3⟩
    show ⟨w,q,e1,e2,e3.kept hD ks⟩
   ·intro k x y OJ RR ex ey DJ kk
    obtain ⟨q,X5,ps,rfl,hps⟩:=nss.at ex;rw [Wp] at ey;obtain ⟨w,ew,rfl⟩:=LA.mp ey;obtain ⟨qs,d,eqs,eds,wh,wb,wbs,_⟩:=wp k w ew;let sq:=sss q (DW X5);let hw1:=DJ _ _ (X4 _ _ (s3 _ _ (Zw k w ew).1));let abC:=Ty.ao.bZ DJ hps;show ⟨_,rfl,ps,_,_,_,rfl,rfl,abC,iF,_,rfl,w.2.2.2,_,_,_,rfl,rfl,bE.of hw1,gL,_,_,rfl,rfl,gu (sN sq.top mn2) wbs ce,_,rfl,ps,_,_,_,rfl,rfl,abC,gL,_,_,rfl,by have:=sq.pos;omega,fun p8 H8 s8 e8=>kk _ _ s8 ⟨w,q,ew,X5,p8,rfl,e8⟩⟩
   intro us9 OJ h9 abD DJ hD9;show ⟨qU,fun p12 n12=>?_⟩;let pU:=aD n12 (.tup [.str "paper",.ref D9]);let yat:∀(k:Nat)(w:Wl)(q:Int×Int),ws[k]?=some w->ss[k]?=some q->(O0 (fun (w:Wl) (q:Int×Int)=>low (q.1*w.2.1) q.2) ws ss)[k]?=some (low (q.1*w.2.1) q.2):=fun k w q e1 e2=>by rw [Yc,e1,e2]
   let P1:(O0 (fun (w:Wl) (q:Int×Int)=>low (q.1*w.2.1) q.2) ws ss).length=f9.length:=by simp [Ts,lss]
   let vly:∀(k:Nat)(w:Wl)(q y:Int×Int),ws[k]?=some w->ss[k]?=some q->(O0 (fun (w:Wl) (q:Int×Int)=>low (q.1*w.2.1) q.2) ws ss)[k]?=some y->vl y=vl q*w.2.1:=fun k w q y e1 e2 e3=>by
    erw [yat k w q e1 e2] at e3;let sq:=sss q (DW e2);rw [mL (by have:=sq.pos;omega)];unfold vl;push_cast;grind
   refine q2 p12 D9 us9 (O0 (fun (w:Wl) (q:Int×Int)=>low (q.1*w.2.1) q.2) ws ss) _ (((s23.trans X4).trans DJ).trans pU) ah (pU _ _ hD9) ⟨by rw [h9,P1];omega,fun k u y e1 e2=>?_⟩ P1 (fun y hy=>?_) (fun j hj=>?_) ?_
   ·obtain ⟨w,q,ew,X5,p,e,hp⟩:=abD k u e1
    erw [yat k w q ew X5] at e2;show ⟨p,e,bE.of (pU _ _ hp)⟩
   ·obtain ⟨k,hk⟩:=FZ hy
    let hkl:k<f9.length:=by rw [<-P1];exact (be.mp hk).1
    obtain ⟨w,ew⟩:∃w,ws[k]?=some w:=⟨_,gE ce⟩;obtain ⟨q,X5⟩:∃q,ss[k]?=some q:=⟨_,gE ce⟩;erw [yat k w q ew X5] at hk;obtain ⟨qs,d,eqs,eds,wh,wb,wbs,_⟩:=wp k w ew;let sq:=sss q (DW X5);exact J_ (by have:=sq.pos;omega) (xk (sN sq.top mn2) wbs) (sN sq.bot mn2)
   ·rw [tX j (ws:=ws) (ss:=ss) ce (by rw [P1,Ts]) (by simp [de,Ts]) vly ?_,csm j ce,ni ce]
    intro k w cq ew ec;obtain ⟨qs,d,eqs,eds,wh,_⟩:=wp k w ew;unfold de at ec;erw [Wp,eqs] at ec;exact adt wh (by rwa [(sh qs (DW eqs)).1])
   ·rw [tX m (ws:=ws) (ss:=ss) ce (by rw [P1,Ts]) ce vly ?_,csm m ce,ox rfl]
    intro k w cq ew ec;obtain ⟨qs,d,eqs,eds,wh,_⟩:=wp k w ew;erw [ec] at eds;exact adC wh (sh qs (DW eqs)).1
  ·show ⟨_,rfl,rfl,_,rfl,bG (fun _=>?_) (fun z=>by simp at z)⟩
   show ⟨_,rfl,qU,fun p5 n5=>?_⟩;let s5:=aD n5 (.tup [.str "solved",.ref x]);refine q1 p5 x qF xs _ ((s23.trans s4).trans s5) ah (s5 _ _ hx) (nxs.lh s5) lxs (fun q hq=>(sxs q hq).up mn mn) (fun i qs d eq ed=>?_);let hi:i<f9.length:=(be.mp eq).1;obtain ⟨w,ew⟩:∃w,ws[i]?=some w:=⟨_,gE ce⟩;obtain ⟨wh,wb,_⟩:=(Zw i w ew).2.2 qs d eq ed;let e0:=sol w.1 (AY.mpr ⟨w,DW ew,rfl⟩);rw [zO wh (by rw [lxs,(sh qs (DW eq)).1])] at e0;let wb':=cz (b:=w.2.1) ce;grind
inductive jE (K:Frag)(f:Int×Int->Int×Int->Int×Int)(vs:η)(H:Hp)(Q:VK)(E_:XK):Prop
|mk (u v:V)(x y:Int×Int)(_:vs=[u,v])(_:iY K H u x)(_:iY K H v y)(_:oj 8000000 x)(_:oj 8000000 y)(_:gives H Q (f x y))
def ads:av EN EN (ae iy):=sq
def adW (hM:sH CX)(D:Def K mg "sum_of" iy EN)(tS:Fn P w K mg iT CX 33 "lowest_terms" QS fG):Fn P w K mg iT CX 34 "sum_of" EN (jE K addQ):=by
 refine D.op ads fun f cF A mB s H vs Q E hr h=>?_;obtain ⟨u,v,x,y,rfl,⟨p1,rfl,h1⟩,⟨p2,rfl,h2⟩,k1,k2,q⟩:=h;let px:=mi (X:=j_ CX P w K mg iT EN "sum_of" (ae iy) f cF A mB s H E) hM;show ⟨_,(ag (aF (kq tS hr.mo px (aE (aw bT (aw bu (ay (pv 0)) (ay (pv 1))) (aw bu (ay (pv 1)) (ay (pv 0)))) (aw bu (ay (pv 0)) (ay (pv 1))))))),?_⟩;let b1:=k1.top;let b2:=k1.bot;let b3:=k2.top;let b4:=k2.bot;let c:∀{i j:Int},intBits i<=8000000->intBits j<=8000000->nX i j:=fun a b=>⟨BJ a dL,BJ b dL⟩;show ⟨_,rfl,p1,_,_,_,rfl,rfl,h1,iF,_,rfl,p2,_,_,_,rfl,rfl,h2,gL,_,_,rfl,rfl,c b1 b4,_,rfl,p2,_,_,_,rfl,rfl,h2,iF,_,rfl,p1,_,_,_,rfl,rfl,h1,gL,_,_,rfl,rfl,c b3 b2,_,_,rfl,rfl,_,rfl,p1,_,_,_,rfl,rfl,h1,gL,_,rfl,p2,_,_,_,rfl,rfl,h2,gL,_,_,rfl,rfl,c b2 b4,_,_,rfl,om k1 k2,q⟩
def abG:av EN EN (ae FA):=sq
def abH (hM:sH CX)(D:Def K mg "difference_of" FA EN)(tS:Fn P w K mg iT CX 33 "lowest_terms" QS fG):Fn P w K mg iT CX 34 "difference_of" EN (jE K subQ):=by
 refine D.op abG fun f cF A mB s H vs Q E hr h=>?_;obtain ⟨u,v,x,y,rfl,⟨p1,rfl,h1⟩,⟨p2,rfl,h2⟩,k1,k2,q⟩:=h;let px:=mi (X:=j_ CX P w K mg iT EN "difference_of" (ae FA) f cF A mB s H E) hM;show ⟨_,(ag (aF (kq tS hr.mo px (aE (aw fh (aw bu (ay (pv 0)) (ay (pv 1))) (aw bu (ay (pv 1)) (ay (pv 0)))) (aw bu (ay (pv 0)) (ay (pv 1))))))),?_⟩;let b1:=k1.top;let b2:=k1.bot;let b3:=k2.top;let b4:=k2.bot;let c:∀{i j:Int},intBits i<=8000000->intBits j<=8000000->nX i j:=fun a b=>⟨BJ a dL,BJ b dL⟩;show ⟨_,rfl,p1,_,_,_,rfl,rfl,h1,iF,_,rfl,p2,_,_,_,rfl,rfl,h2,gL,_,_,rfl,rfl,c b1 b4,_,rfl,p2,_,_,_,rfl,rfl,h2,iF,_,rfl,p1,_,_,_,rfl,rfl,h1,gL,_,_,rfl,rfl,c b3 b2,_,_,rfl,rfl,_,rfl,p1,_,_,_,rfl,rfl,h1,gL,_,rfl,p2,_,_,_,rfl,rfl,h2,gL,_,_,rfl,rfl,c b2 b4,_,_,rfl,om k1 k2,q⟩
def zaF:av EN EN (ae dE):=sq
def zaE (hM:sH CX)(D:Def K mg "product_of" dE EN)(tS:Fn P w K mg iT CX 33 "lowest_terms" QS fG):Fn P w K mg iT CX 34 "product_of" EN (jE K mulQ):=by
 refine D.op zaF fun f cF A mB s H vs Q E hr h=>?_;obtain ⟨u,v,x,y,rfl,⟨p1,rfl,h1⟩,⟨p2,rfl,h2⟩,k1,k2,q⟩:=h;let px:=mi (X:=j_ CX P w K mg iT EN "product_of" (ae dE) f cF A mB s H E) hM;show ⟨_,(ag (aF (kq tS hr.mo px (aE (aw bu (ay (pv 0)) (ay (pv 1))) (aw bu (ay (pv 0)) (ay (pv 1))))))),?_⟩;let b1:=k1.top;let b2:=k1.bot;let b3:=k2.top;let b4:=k2.bot;let c:∀{i j:Int},intBits i<=8000000->intBits j<=8000000->nX i j:=fun a b=>⟨BJ a dL,BJ b dL⟩;show ⟨_,rfl,p1,_,_,_,rfl,rfl,h1,iF,_,rfl,p2,_,_,_,rfl,rfl,h2,iF,_,_,rfl,rfl,c b1 b3,_,rfl,p1,_,_,_,rfl,rfl,h1,gL,_,rfl,p2,_,_,_,rfl,rfl,h2,gL,_,_,rfl,rfl,c b2 b4,_,_,rfl,om k1 k2,q⟩
inductive iZ (K:Frag)(f:Rat->Rat->Rat)(vs:η)(H:Hp)(Q:VK)(E_:XK):Prop
|mk (u v:V)(x y:Rat)(_:vs=[u,v])(_:dh K H u x)(_:dh K H v y)(_:Sz 8000000 x)(_:Sz 8000000 y)(_:gives H Q (qr (f x y)))
def kH (h:Sz k r):oj k (qr r):=⟨cX r,h.top,h.bot⟩
def aey (F:Fn P w K mg iT CX k x ps (jE K addQ)):Fn P w K mg iT CX k x ps (iZ K fun a b=>a+b):=by
 obtain ⟨f,fd,G,r⟩:=F.ex;show ⟨f,fd,G.imp fun vs H Q E h=>?_,r⟩;obtain ⟨u,v,a,b,e,h1,h2,k1,k2,q⟩:=h;show ⟨u,v,qr a,qr b,e,h1,h2,kH k1,kH k2,?_⟩;unfold addQ;rwa [O_]
def aew (F:Fn P w K mg iT CX k x ps (jE K subQ)):Fn P w K mg iT CX k x ps (iZ K fun a b=>a-b):=by
 obtain ⟨f,fd,G,r⟩:=F.ex;show ⟨f,fd,G.imp fun vs H Q E h=>?_,r⟩;obtain ⟨u,v,a,b,e,h1,h2,k1,k2,q⟩:=h;show ⟨u,v,qr a,qr b,e,h1,h2,kH k1,kH k2,?_⟩;unfold subQ;rwa [Pa]
def aeC (F:Fn P w K mg iT CX k x ps (jE K mulQ)):Fn P w K mg iT CX k x ps (iZ K fun a b=>a*b):=by
 obtain ⟨f,fd,G,r⟩:=F.ex;show ⟨f,fd,G.imp fun vs H Q E h=>?_,r⟩;obtain ⟨u,v,a,b,e,h1,h2,k1,k2,q⟩:=h;show ⟨u,v,qr a,qr b,e,h1,h2,kH k1,kH k2,?_⟩;unfold mulQ;rwa [Pb]
def P2 (K:Frag)(H:Hp)(Q:VK)(p:Rat×Rat):Prop:=∀(v:V)(H':Hp),ao H H' ->i8 K H' v p->Q v H'
inductive xA (K:Frag)(f:Rat->Rat->Rat)(vs:η)(H:Hp)(Q:VK)(E_:XK):Prop
|mk (u v:V)(x y:Rat×Rat)(_:vs=[u,v])(_:i8 K H u x)(_:i8 K H v y)(_:Sz 8000000 x.1)(_:Sz 8000000 x.2)(_:Sz 8000000 y.1)(_:Sz 8000000 y.2)(_:P2 K H Q (f x.1 y.1,f x.2 y.2))
def abI:av EN EN (ae FC):=sq
def abJ (hM:sH CX)(D:Def K mg "pair_difference" FC EN)(abK:Fn P w K mg iT CX 34 "difference_of" EN (iZ K fun a b=>a-b)):Fn P w K mg iT CX 35 "pair_difference" EN (xA K fun a b=>a-b):=by
 refine D.op abI fun f cF A mB s H vs Q E hr h=>?_;obtain ⟨u,v,x,y,rfl,⟨p1,a1,a2,rfl,h1,n1,n2⟩,⟨p2,b1,b2,rfl,h2,m1,m2⟩,k1,k2,l1,l2,q⟩:=h;let px:=mi (X:=(j_ (aS P w) P w K mg iT EN "pair_difference" (ae FC) f cF A mB s H E)) hM;show ⟨_,(ag (aF (aK (aE (kq abK hr.mo px (aE (ay (pv 0)) (ay (pv 1)))) (kq abK hr.mo px (aE (ay (pv 0)) (ay (pv 1)))))))),_,rfl,p1,_,_,_,rfl,rfl,h1,iF,_,rfl,p2,_,_,_,rfl,rfl,h2,iF,a1,b1,_,_,rfl,n1,m1,k1,l1,fun c1 H1 s1 e1=>?_⟩;show ⟨_,rfl,p1,_,_,_,rfl,rfl,Ty.ao.bZ s1 h1,gL,_,rfl,p2,_,_,_,rfl,rfl,Ty.ao.bZ s1 h2,gL,a2,b2,_,_,rfl,n2.lh s1,m2.lh s1,k2,l2,fun c2 H2 s2 e2=>?_⟩;show ⟨qU,fun c3 n3=>?_⟩;let s3:=aD n3 (.tup [.ref c1,.ref c2]);exact q (.ref c3) _ (fun b o z=>s3 _ _ (s2 _ _ (s1 _ _ z))) ⟨c3,_,_,rfl,bE.of ah,⟨c1,rfl,bE.of (s3 _ _ (s2 _ _ e1))⟩,⟨c2,rfl,bE.of (s3 _ _ e2)⟩⟩
def abL (x y:Rat×Rat):Rat:=x.1*y.1+x.2*y.2
inductive P5 (K:Frag)(vs:η)(H:Hp)(Q:VK)(E_:XK):Prop
|mk (u v:V)(x y:Rat×Rat)(_:vs=[u,v])(_:i8 K H u x)(_:i8 K H v y)(_:Sz 3900000 x.1)(_:Sz 3900000 x.2)(_:Sz 3900000 y.1)(_:Sz 3900000 y.2)(_:gives H Q (qr (abL x y)))
def zat:av EN EN (ae cN):=sq
def zaq (hM:sH CX)(D:Def K mg "pair_product" cN EN)(kI:Fn P w K mg iT CX 34 "sum_of" EN (iZ K fun a b=>a+b))(cI:Fn P w K mg iT CX 34 "product_of" EN (iZ K fun a b=>a*b)):Fn P w K mg iT CX 35 "pair_product" EN (P5 K):=by
 refine D.op zat fun f cF A mB s H vs Q E hr h=>?_;obtain ⟨u,v,x,y,rfl,⟨p1,a1,a2,rfl,h1,n1,n2⟩,⟨p2,b1,b2,rfl,h2,m1,m2⟩,k1,k2,l1,l2,q⟩:=h;let px:=mi (X:=(j_ (aS P w) P w K mg iT EN "pair_product" (ae cN) f cF A mB s H E)) hM;show ⟨_,(ag (aF (kq kI hr.mo px (aE (kq cI hr.mo px (aE (ay (pv 0)) (ay (pv 1)))) (kq cI hr.mo px (aE (ay (pv 0)) (ay (pv 1)))))))),_,rfl,p1,_,_,_,rfl,rfl,h1,iF,_,rfl,p2,_,_,_,rfl,rfl,h2,iF,a1,b1,_,_,rfl,n1,m1,k1.up dL,l1.up dL,fun c1 H1 s1 e1=>?_⟩;show ⟨_,rfl,p1,_,_,_,rfl,rfl,Ty.ao.bZ s1 h1,gL,_,rfl,p2,_,_,_,rfl,rfl,Ty.ao.bZ s1 h2,gL,a2,b2,_,_,rfl,n2.lh s1,m2.lh s1,k2.up dL,l2.up dL,fun c2 H2 s2 e2=>?_⟩;show ⟨.ref c1,.ref c2,_,_,rfl,⟨c1,rfl,bE.of (s2 _ _ e1)⟩,⟨c2,rfl,bE.of e2⟩,(k1.mul l1).up dL,(k2.mul l2).up dL,fun c3 H3 s3 e3=>?_⟩;exact q c3 H3 (fun b o z=>s3 _ _ (s2 _ _ (s1 _ _ z))) e3
inductive xB (K:Frag)(C:AF)(vs:η)(H:Hp)(Q:VK)(E_:XK):Prop
|mk (a dx:AF)(_:vs=[.ref a])(_:H a=some (.ins C dx []))(_:∀(pP pW pB:AF)(H':Hp),bL a H H' ->H pP=none->H pW=none->H pB=none->gX K H' C a dx pP pW pB [] [] [] [] []->Q .dc H')
def zag :fM "pin_places" x []=([("pin_places",x)]:List (Str×V)):=rfl
def zaJ :fM "pin_ways" y [("pin_places",x)]=([("pin_places",x),("pin_ways",y)]:List (Str×V)):=by
 simp only [fM];rw [ni dL]
def aja :fM "bar_ends" z [("pin_places",x),("pin_ways",y)]=([("pin_places",x),("pin_ways",y),("bar_ends",z)]:List (Str×V)):=by
 simp only [fM];rw [ni dL,ni dL]
def abM:av LH LH (ae MK):=sq
def abN (F:sr K "__init__" "Frame.__init__" MK f fd)(fc:O7 K C):ad P w K mg iT 1 f fd LH (xB K C):=by
 refine ix F abM fun H hr h=>?_;obtain ⟨a,dx,rfl,ha,q⟩:=h
 show ⟨_,(aa (wW (pv 0) dw rfl) (aa (wW (pv 0) dw rfl) (ag (wW (pv 0) dw rfl)))),?_⟩
 intro pP nP;let aP:a≠pP:=ak ha nP;show ⟨_,rfl,a,C,dx,_,rfl,(by rwa [aj aP]),fc.cls,fc.pl,(by show 0<1000;decide),?_⟩;rw [zag];generalize e1:upd (upd H pP (.dK [])) a (.ins C dx [("pin_places",.ref pP)])=H1;let o1:H1 a=some (.ins C dx [("pin_places",.ref pP)]):=by rw [<-e1,ah]
 let p1:H1 pP=some (.dK []):=by rw [<-e1,aj (FT aP),ah]
 let k1:∀b o,b≠a->H b=some o->H1 b=some o:=fun b o n e=>by rwa [<-e1,aj n,aj (ak e nP)]
 intro pW nW;let aW:a≠pW:=ak o1 nW;show ⟨_,rfl,a,C,dx,_,rfl,(by rwa [aj aW]),fc.cls,fc.wy,(by show 1<1000;decide),?_⟩;rw [zaJ];generalize e2:upd (upd H1 pW (.dK [])) a (.ins C dx [("pin_places",.ref pP),("pin_ways",.ref pW)])=H2;let PW:pP≠pW:=ak p1 nW;let o2:H2 a=some (.ins C dx [("pin_places",.ref pP),("pin_ways",.ref pW)]):=by rw [<-e2,ah]
 let w2:H2 pW=some (.dK []):=by rw [<-e2,aj (FT aW),ah]
 let k2:∀b o,b≠a->H1 b=some o->H2 b=some o:=fun b o n e=>by rwa [<-e2,aj n,aj (ak e nW)]
 intro pB nB;let aB:a≠pB:=ak o2 nB;let p2:=k2 _ _ (FT aP) p1;show ⟨_,rfl,a,C,dx,_,rfl,(by rwa [aj aB]),fc.cls,fc.br,(by show 2<1000;decide),?_⟩;rw [aja];let PB:pP≠pB:=ak p2 nB;let WB:pW≠pB:=ak w2 nB;let k3:∀b o,b≠a->H2 b=some o->(upd (upd H2 pB (.dK [])) a (.ins C dx [("pin_places",.ref pP),("pin_ways",.ref pW),("bar_ends",.ref pB)])) b=some o:=fun b o n e=>by rwa [aj n,aj (ak e nB)]
 let f1:∀b,b≠a->H1 b=none->H b=none:=fun b n e=>by
  cases z:H b with
  | none=>rfl
  | some o=>erw [k1 b o n z] at e
 let f2:∀b,b≠a->H2 b=none->H b=none:=fun b n e=>by
  cases z:H b with
  | none=>rfl
  | some o=>erw [k2 b o n (k1 b o n z)] at e
 refine q pP pW pB _ (fun b o n e=>k3 b o n (k2 b o n (k1 b o n e))) nP (f1 _ (FT aW) nW) (f2 _ (FT aB) nB) ⟨ah,k3 _ _ (FT aP) p2,k3 _ _ (FT aW) w2,?_,PW,PB,WB,.nil,.nil⟩;rw [aj (FT aB),ah]
inductive jF (K:Frag)(C:AF)(vs:η)(H:Hp)(Q:VK)(E_:XK):Prop
|mk (a dx pP pW pB:AF)(ps:Θ)(bs:Α)(kP kW kB:γ)(_:vs=[.ref a])(_:gX K H C a dx pP pW pB ps bs kP kW kB)(_:∀(l:AF)(H':Hp),ao H H' ->H l=none->H' l=some (.lst ((bs.map (·.1)).map V.str))->Q (.ref l) H')
def abO:av LH LH (ae MU):=sq
def abP (F:sr K "bars" "Frame.bars" MU f fd)(fc:O7 K C)(cZ:mg "list"=none):ad P w K mg iT 1 f fd LH (jF K C):=by
 refine ix F abO fun H hr h=>?_;obtain ⟨a,dx,pP,pW,pB,ps,bs,kP,kW,kB,rfl,R,q⟩:=h;show ⟨_,(ag (aF (dq (iq rfl) rfl cZ mJ (aZ (eV (pv 0) rfl))))),_,rfl,a,C,dx,_,_,rfl,R.obj,fc.cls,fc.br,rfl,pB,kB,rfl,.inl R.br,fun l nl=>?_⟩;refine q l _ (aD nl _) nl ?_;rw [ah]
 let e:kB.map (fun kv=>kV kv.1)=(bs.map (·.1)).map V.str:=by
  let z:kB.map (fun kv=>kV kv.1)=(kB.map (·.1)).map kV:=by rw [EB];rfl
  rw [z,R.tu,EB];rfl
 rw [e]
inductive jG (K:Frag)(C:AF)(vs:η)(H:Hp)(Q:VK)(E_:XK):Prop
|mk (a dx pP pW pB:AF)(ps:Θ)(bs:Α)(kP kW kB:γ)(_:vs=[.ref a])(_:gX K H C a dx pP pW pB ps bs kP kW kB)(_:∀(l:AF)(H':Hp),ao H H' ->H l=none->H' l=some (.lst ((ps.map (·.1)).map V.str))->Q (.ref l) H')
def abQ:av LH LH (ae MS):=sq
def abR (F:sr K "pins" "Frame.pins" MS f fd)(fc:O7 K C)(cZ:mg "list"=none):ad P w K mg iT 1 f fd LH (jG K C):=by
 refine ix F abQ fun H hr h=>?_;obtain ⟨a,dx,pP,pW,pB,ps,bs,kP,kW,kB,rfl,R,q⟩:=h;show ⟨_,(ag (aF (dq (iq rfl) rfl cZ mJ (aZ (eV (pv 0) rfl))))),_,rfl,a,C,dx,_,_,rfl,R.obj,fc.cls,fc.pl,rfl,pP,kP,rfl,.inl R.pl,fun l nl=>?_⟩;refine q l _ (aD nl _) nl ?_;rw [ah]
 let e:kP.map (fun kv=>kV kv.1)=(ps.map (·.1)).map V.str:=by
  let z:kP.map (fun kv=>kV kv.1)=(kP.map (·.1)).map kV:=by rw [EB];rfl
  rw [z,R.JJ,EB];rfl
 rw [e]
inductive f_ (K:Frag)(C:AF)(vs:η)(H:Hp)(Q:VK)(E_:XK):Prop
|mk (a dx pP pW pB:AF)(ps:Θ)(bs:Α)(kP kW kB:γ)(x:Str)(_:vs=[.ref a,.str x])(_:gX K H C a dx pP pW pB ps bs kP kW kB)(_:x∈ps.map (·.1))(_:Q .dc H)
def abS:av Nb Nb (ae MQ):=sq
def abT (F:sr K "check_pin" "Frame.check_pin" MQ f fd)(fc:O7 K C):ad P w K mg iT 1 f fd Nb (f_ K C):=by
 refine ix F abS fun H hr h=>?_;obtain ⟨a,dx,pP,pW,pB,ps,bs,kP,kW,kB,x,rfl,R,hx,q⟩:=h;show ⟨_,(ag (bF (wO (vZ (bQ hr) (pv 1) (eV (pv 0) rfl))) (ag (dm)) aX)),_,rfl,_,rfl,a,C,dx,_,_,rfl,R.obj,fc.cls,fc.pl,rfl,pP,_,rfl,cW.k (k:=.inr x) R.pl,_,rfl,?_⟩;rwa [R.pin x,La hx]
inductive rM (K:Frag)(C:AF)(vs:η)(H:Hp)(Q:VK)(E_:XK):Prop
|mk (a dx pP pW pB:AF)(ps:Θ)(bs:Α)(kP kW kB:γ)(x:Str)(p:Pt)(_:vs=[.ref a,.str x])(_:gX K H C a dx pP pW pB ps bs kP kW kB)(_:(ps.map (·.1)).Nodup)(_:(x,p)∈ps)(_:∀v,Spot K H v p->Q v H)
def abU:av Nb Nb (ae MV):=sq
def abV (F:sr K "place" "Frame.place" MV f fd)(fc:O7 K C)(MC:am P w K mg iT 1 C "check_pin" Nb (f_ K C)):ad P w K mg iT 2 f fd Nb (rM K C):=by
 refine ix F abU fun H hr h=>?_;obtain ⟨a,dx,pP,pW,pB,ps,bs,kP,kW,kB,x,p,rfl,R,nd,hx,q⟩:=h
 show ⟨_,(aa (b_ (fO (k:=1) (pv 0) hr.mo (JT P w) (aZ (pv 1)))) (ag (aF (dR (bQ hr) (eV (pv 0) rfl) (pv 1) (fun _ _=>rfl))))),?_⟩
 show ⟨_,rfl,a,C,dx,_,_,_,rfl,R.obj,rfl,MC,_,rfl,a,dx,pP,pW,pB,ps,bs,kP,kW,kB,x,rfl,R,AY.mpr ⟨_,hx,rfl⟩,?_⟩;obtain ⟨v,ev,hv⟩:=R.place nd hx;show ⟨_,rfl,a,C,dx,_,_,rfl,R.obj,fc.cls,fc.pl,rfl,_,rfl,pP,v,rfl,(by rw [<-ev];exact cW.k (k:=.inr x) R.pl),q v hv⟩
inductive tZ (K:Frag)(C:AF)(vs:η)(H:Hp)(Q:VK)(E_:XK):Prop
|mk (a dx pP pW pB:AF)(ps:Θ)(bs:Α)(kP kW kB:γ)(x one lj:Str)(_:vs=[.ref a,.str x])(_:gX K H C a dx pP pW pB ps bs kP kW kB)(_:(bs.map (·.1)).Nodup)(_:(x,one,lj)∈bs)(_:∀p,Rd H p (.tup [.str one,.str lj])->Q (.ref p) H)
def abW:av Xc Xc (ae MY):=sq
def abX (F:sr K "ends" "Frame.ends" MY f fd)(fc:O7 K C):ad P w K mg iT 1 f fd Xc (tZ K C):=by
 refine ix F abW fun H hr h=>?_;obtain ⟨a,dx,pP,pW,pB,ps,bs,kP,kW,kB,x,one,lj,rfl,R,nd,hx,q⟩:=h
 show ⟨_,(aa (bF (wO (vZ (bQ hr) (pv 1) (eV (pv 0) rfl))) (ag (dm)) aX) (ag (aF (dR (bQ hr) (eV (pv 0) rfl) (pv 1) (fun _ _=>rfl))))),?_⟩
 let hm:x∈bs.map (·.1):=AY.mpr ⟨_,hx,rfl⟩;show ⟨_,rfl,_,rfl,a,C,dx,_,_,rfl,R.obj,fc.cls,fc.br,rfl,pB,_,rfl,cW.k (k:=.inr x) R.br,_,rfl,?_⟩;rw [R.bar x,La hm];obtain ⟨p,ev,hv⟩:=R.ends nd hx;show ⟨_,rfl,a,C,dx,_,_,rfl,R.obj,fc.cls,fc.br,rfl,_,rfl,pB,.ref p,rfl,(by rw [<-ev];exact cW.k (k:=.inr x) R.br),q p hv⟩
inductive t_ (K:Frag)(C:AF)(vs:η)(H:Hp)(Q:VK)(E_:XK):Prop
|mk (a dx pP pW pB:AF)(ps:Θ)(bs:Α)(kP kW kB:γ)(pw:Τ)(x:Str)(ws:Ο)(_:vs=[.ref a,.str x])(_:gX K H C a dx pP pW pB ps bs kP kW kB)(_:DK K H pw kW)(_:(pw.map (·.1)).Nodup)(_:(x,ws)∈pw)(_:x∈ps.map (·.1))(_:∀(l:AF)(us:η)(H':Hp),ao H H' ->H l=none->H' l=some (.lst us)->q_ K H' us ws->Q (.ref l) H')
def abY:av Nb Nb (ae MX):=sq
def abZ (F:sr K "ways" "Frame.ways" MX f fd)(fc:O7 K C)(cZ:mg "list"=none)(MC:am P w K mg iT 1 C "check_pin" Nb (f_ K C)):ad P w K mg iT 2 f fd Nb (t_ K C):=by
 refine ix F abY fun H hr h=>?_;obtain ⟨a,dx,pP,pW,pB,ps,bs,kP,kW,kB,pw,x,ws,rfl,R,W,nd,hx,hp,q⟩:=h
 show ⟨_,(aa (b_ (fO (k:=1) (pv 0) hr.mo (JT P w) (aZ (pv 1)))) (ag (aF (dq sM rfl cZ mJ (aZ (dR (bQ hr) (eV (pv 0) rfl) (pv 1) (fun _ _=>rfl))))))),?_⟩
 show ⟨_,rfl,a,C,dx,_,_,_,rfl,R.obj,rfl,MC,_,rfl,a,dx,pP,pW,pB,ps,bs,kP,kW,kB,x,rfl,R,hp,?_⟩;obtain ⟨v,ev,l,us,el,hl,pt⟩:=jB W nd hx;let el':v=.ref l:=el;subst el';show ⟨_,rfl,a,C,dx,_,_,rfl,R.obj,fc.cls,fc.wy,rfl,_,rfl,pW,.ref l,rfl,(by rw [<-ev];exact cW.k (k:=.inr x) R.wy),l,us,rfl,aR.of hl,fun l2 n2=>q l2 us _ (aD n2 _) n2 ah (pt.lh (aD n2 _))⟩
def X9 (K:Frag)(H:Hp)(Q:VK)(ws:Ο):Prop:=∀(l:AF)(us:η)(H':Hp),ao H H' ->H l=none->H' l=some (.lst us)->q_ K H' us ws->Q (.ref l) H'
def rN (h:(qr x).1=0):x=0:=by
 have:=dY x;unfold vl at this;rw [h] at this;let z:=EU (r:=x);let e:((0:Int):Rat)=0:=by rfl
 rw [e] at this;grind
inductive xC (K:Frag)(C:AF)(vs:η)(H:Hp)(Q:VK)(E_:XK):Prop
|mk (a dx:AF)(ux uy:V)(x y:Rat)(_:vs=[.ref a,ux,uy])(_:H a=some (.ins C dx []))(_:dh K H ux x)(_:dh K H uy y)(_:¬ (x=0/\y=0))(_:∀p,H p=none->Q .dc (upd (upd H p (.tup [ux,uy])) a (.ins C dx [("way",.ref p)])))
def ab0:av Xf Xf (ae MZ):=sq
def ab1 (F:sr K "__init__" "Roller.__init__" MZ f fd)(cl:zf K C)(nw:ia K C "way"):ad P w K mg iT 1 f fd Xf (xC K C):=by
 refine ix F ab0 fun H hr h=>?_;obtain ⟨a,dx,ux,uy,x,y,rfl,ha,⟨p1,rfl,h1⟩,⟨p2,rfl,h2⟩,nz,q⟩:=h;let sz:(2:Nat)<=AZ:=dL
 show ⟨_,(aa (bF (PW.pt (N9 (bO fk (ay (pv 1)) af) (ah0 (bO fk (ay (pv 2)) af)))) (ag (dm)) aX) (ag (wW (pv 0) (aK (aE (pv 1) (pv 2))) rfl))),?_⟩
 show ⟨_,rfl,p1,_,_,_,rfl,rfl,h1,iF,rfl,_,rfl,?_⟩;refine bG (fun c1=>?_) (fun c1=>?_)
 ·let e1:(qr x).1=0:=by simpa using Lc c1
  show ⟨_,rfl,p2,_,_,_,rfl,rfl,h2,iF,rfl,_,rfl,?_⟩;refine bG (fun c2=>?_) (fun c2=>?_)
  ·let e2:(qr y).1=0:=by simpa using Lc c2
   exact DZ ⟨rN e1,rN e2⟩ nz
  ·show ⟨_,rfl,_,rfl,sz,fun p hp=>⟨_,rfl,a,C,dx,[],rfl,(by rwa [aj (ak ha hp)]),cl,nw,(by show 0<1000;decide),q p hp⟩⟩
 ·refine Xb ?_
  show ⟨_,rfl,_,rfl,sz,fun p hp=>⟨_,rfl,a,C,dx,[],rfl,(by rwa [aj (ak ha hp)]),cl,nw,(by show 0<1000;decide),q p hp⟩⟩
inductive oA (K:Frag)(C:AF)(vs:η)(H:Hp)(Q:VK)(E_:XK):Prop
|mk (a dx p:AF)(w:Rat×Rat)(_:vs=[.ref a])(_:H a=some (.ins C dx [("way",.ref p)]))(_:i8 K H (.ref p) w)(_:X9 K H Q [w])
def ab2:av LH LH (ae M0):=sq
def ab3 (F:sr K "ways" "Roller.ways" M0 f fd)(cl:zf K C)(nw:ia K C "way"):ad P w K mg iT 1 f fd LH (oA K C):=by
 refine ix F ab2 fun H hr h=>?_;obtain ⟨a,dx,p,w,rfl,ha,hw,q⟩:=h;show ⟨_,(ag (aF (b9 (aZ (eV (pv 0) rfl))))),_,rfl,a,C,dx,_,.ref p,rfl,ha,cl,nw,ga,z1L,fun l hl=>?_⟩;exact q l [.ref p] _ (aD hl _) hl ah (.cons (hw.lh (aD hl _)) .nil)
inductive oB (K:Frag)(vs:η)(H:Hp)(Q:VK)(E_:XK):Prop
|mk (a:AF)(_:vs=[.ref a])(_:X9 K H Q [(1,0),(0,1)])
def P6:qr 1=(1,1):=by
 have:=tE 1;simpa using this
def jk:qr 0=(0,1):=by
 have:=tE 0;simpa using this
def V6 (ea:qr a=x)(eb:qr b=y)(h:H p=some (.tup [.ref p1,.ref p2]))(h1:H p1=some (.tup [.int x.1,.int x.2]))(h2:H p2=some (.tup [.int y.1,.int y.2])):i8 K H (.ref p) (a,b):=
 ⟨p,.ref p1,.ref p2,rfl,bE.of h,⟨p1,rfl,by rw [ea];exact bE.of h1⟩,⟨p2,rfl,by rw [eb];exact bE.of h2⟩⟩
def ab4:av LH LH (ae M1):=sq
def ab5 (F:sr K "ways" "Fixed.ways" M1 f fd):ad P w K mg iT 1 f fd LH (oB K):=by
 refine ix F ab4 fun H hr h=>?_;obtain ⟨a,rfl,q⟩:=h;let sz:(2:Nat)<=AZ:=dL
 show ⟨_,(ag (aF (b9 (aE (aK (aE (aK (aE af af)) (aK (aE af af)))) (aK (aE (aK (aE af af)) (aK (aE af af)))))))),sz,fun p1 n1=>?_⟩;let s1:=aD n1 (.tup [.int 1,.int 1]);let e1:upd H p1 (.tup [.int 1,.int 1]) p1=some (.tup [.int 1,.int 1]):=ah;generalize upd H p1 (.tup [.int 1,.int 1])=H1 at s1 e1 ⊢;show ⟨sz,fun p2 n2=>?_⟩;let s2:=aD n2 (.tup [.int 0,.int 1]);let e2:upd H1 p2 (.tup [.int 0,.int 1]) p2=some (.tup [.int 0,.int 1]):=ah;generalize upd H1 p2 (.tup [.int 0,.int 1])=H2 at s2 e2 ⊢;show ⟨sz,fun p3 n3=>?_⟩;let s3:=aD n3 (.tup [.ref p1,.ref p2]);let e3:upd H2 p3 (.tup [.ref p1,.ref p2]) p3=some (.tup [.ref p1,.ref p2]):=ah;generalize upd H2 p3 (.tup [.ref p1,.ref p2])=H3 at s3 e3 ⊢;show ⟨sz,fun p4 n4=>?_⟩;let s4:=aD n4 (.tup [.int 0,.int 1]);let e4:upd H3 p4 (.tup [.int 0,.int 1]) p4=some (.tup [.int 0,.int 1]):=ah;generalize upd H3 p4 (.tup [.int 0,.int 1])=H4 at s4 e4 ⊢;show ⟨sz,fun p5 n5=>?_⟩;let s5:=aD n5 (.tup [.int 1,.int 1]);let e5:upd H4 p5 (.tup [.int 1,.int 1]) p5=some (.tup [.int 1,.int 1]):=ah;generalize upd H4 p5 (.tup [.int 1,.int 1])=H5 at s5 e5 ⊢;show ⟨sz,fun p6 n6=>?_⟩;let s6:=aD n6 (.tup [.ref p4,.ref p5]);let e6:upd H5 p6 (.tup [.ref p4,.ref p5]) p6=some (.tup [.ref p4,.ref p5]):=ah;generalize upd H5 p6 (.tup [.ref p4,.ref p5])=H6 at s6 e6 ⊢;show ⟨sz,fun l nl=>?_⟩;let s7:=aD nl (.lst [.ref p3,.ref p6]);let e7:upd H6 l (.lst [.ref p3,.ref p6]) l=some (.lst [.ref p3,.ref p6]):=ah;generalize upd H6 l (.lst [.ref p3,.ref p6])=H7 at s7 e7 ⊢;let P7:=s1.trans (s2.trans (s3.trans (s4.trans (s5.trans s6))));let w1:i8 K H7 (.ref p3) (1,0):=V6 P6 jk (s7 _ _ (s6 _ _ (s5 _ _ (s4 _ _ e3)))) (s7 _ _ (s6 _ _ (s5 _ _ (s4 _ _ (s3 _ _ (s2 _ _ e1)))))) (s7 _ _ (s6 _ _ (s5 _ _ (s4 _ _ (s3 _ _ e2)))));let w2:i8 K H7 (.ref p6) (0,1):=V6 jk P6 (s7 _ _ e6) (s7 _ _ (s6 _ _ (s5 _ _ e4))) (s7 _ _ (s6 _ _ e5));exact q l [.ref p3,.ref p6] H7 (P7.trans s7) (P7.free nl) e7 (.cons w1 (.cons w2 .nil))
def V7 (P:FE)(w:World)(K:Frag)(mg:ι)(iT:Heap)(H:Hp)(hv:V)(ws:Ο):Prop:=(hv=.dc/\ws=[])\/∃(h Ch dxh:AF)(Zx:List (Str×V))(psh:ς)(sph:Sp),hv=.ref h/\H h=some (.ins Ch dxh Zx)/\Zx.lookup ("ways":Str)=none/\am P w K mg iT 2 Ch "ways" psh sph/\(∀H1,H1 h=some (.ins Ch dxh Zx)->a9 H H1->∀Q',X9 K H1 Q' ws->sph [.ref h] H1 Q' E0)
inductive f' (P:FE)(w:World)(K:Frag)(mg:ι)(iT:Heap)(C:AF)(vs:η)(H:Hp)(Q:VK)(E_:XK):Prop
|mk (a dx pP pW pB:AF)(ps:Θ)(bs:Α)(kP kW kB:γ)(pw:Τ)(x:Str)(u v hv:V)(p:Pt)(ws:Ο)(_:vs=[.ref a,.str x,u,v,hv])(_:gX K H C a dx pP pW pB ps bs kP kW kB)(_:DK K H pw kW)(_:pw.map (·.1)=ps.map (·.1))(_:iY K H u p.1)(_:iY K H v p.2)(_:x∉ps.map (·.1))(_:(∀z∈ps,z.2≠p))(_:ps.length<24)(_:V7 P w K mg iT H hv ws)(_:∀(H':Hp)(P8 zX :γ),(∀b o,b≠pP->b≠pW->H b=some o->H' b=some o)->gX K H' C a dx pP pW pB (ps++[(x,p)]) bs P8 zX kB->DK K H' (pw++[(x,ws)]) zX ->Q .dc H')
def P9:av ["self","name","x","y","hold","pin","spot"] pK (ae ra):=sq
def ab7 (F:XB K "put_pin" "Frame.put_pin" ra f fd)(fc:O7 K C)(X_:mg "MOST_PINS"=some (.int 24 tkP))(a_:mg "len"=none)(cZ:mg "list"=none):ad P w K mg iT 3 f fd pK (f' P w K mg iT C):=by
 refine afj F P9 (fun vs H Q E h=>?_) (fun cF A mB s H vs Q E hr h=>?_)
 ·obtain ⟨a,dx,pP,pW,pB,ps,bs,kP,kW,kB,pw,x,u,v,hv,p,ws,rfl,_⟩:=h
  rfl
 obtain ⟨a,dx,pP,pW,pB,ps,bs,kP,kW,kB,pw,x,u,v,hvv,p,ws,rfl,R,W,ew,hu,hv,hx,hs,hl,hH,q⟩:=h
 show ⟨_,(aa (bF (wO (OS (bQ hr) (pv 1) (eV (pv 0) rfl))) (ag (dm)) aX) (aa (jA (ba FF rfl (n_ (eV (pv 0) rfl)) (fL rfl (aY (bM 5 P9.nd) (aY (bM 6 P9.nd) df))) (ag (bF (bO (rE hr.units) (pv 6) (aK (aE (pv 2) (pv 3)))) (ag (dm)) aX)))) (aa (bF (bO VD (aU pO rfl a_ cS (aZ (eV (pv 0) rfl))) (d5 (v:=.int 24) rfl X_ ⟨_,rfl⟩)) (ag (dm)) aX) (aa (dC (bQ hr) (eV (pv 0) rfl) (pv 1) (aK (aE (pv 2) (pv 3))) rfl) (ag (dC (bQ hr) (eV (pv 0) rfl) (pv 1) (yW (bO Oj (pv 4) rW) (b9 jx) (dq sM rfl cZ mJ (aZ (d9 (k:=2) (pv 4) hr.mo (pY P w))))) rfl)))))),?_⟩;sleep 4
 show ⟨_,rfl,_,rfl,a,C,dx,_,_,rfl,R.obj,fc.cls,fc.pl,rfl,pP,_,rfl,cW.k (k:=.inr x) R.pl,_,rfl,?_⟩;rw [R.pin x,PH hx];let lk:kP.length=ps.length:=(GJ R.rp).symm;show ⟨_,rfl,a,C,dx,_,_,rfl,R.obj,fc.cls,fc.pl,rfl,pP,kP,rfl,R.pl,fun o=>?_⟩;let k0:bL pP H (upd H pP (.eQ o (.dK kP))):=fun b o' n e=>by rwa [aj n]
 refine let I:bn:=fun t Y H'=>NK fun (o2 o3:ψ)=>Y=[ap a,some (.str x),some u,some v,some hvv,o2,o3]/\bL pP H H'/\H' pP=some (.eQ o (.dK kP));lJ (d:=pP) (o:=o) (AA:=kP) I ⟨none,none,rfl,k0,ah⟩ (fun t Y H' _ h=>by
   obtain ⟨_,_,_,_,h⟩:=h
   exact h) ?_ ?_
 ·rintro t k y Y H6 p7 tR ⟨o2,o3,rfl,k6,AL⟩ n7
  obtain ⟨z,ez,hz1,hz2⟩:=aG (gw R.rp) tR;have aiZ :k=.inr z.1:=hz1;subst aiZ
  let s6:a9 H H6:=fun b xs r=>by
   rcases r with r|⟨o',r⟩
   ·exact .inl (k6 _ _ (fun e=>by erw [e,R.pl] at r) r)
   ·exact .inr ⟨o',k6 _ _ (fun e=>by erw [e,R.pl] at r) r⟩
  let s7:=aD n7 (.tup [kV (.inr z.1),y]);let s67:a9 H (upd H6 p7 (.tup [kV (.inr z.1),y])):=s6.trans (.of s7);show ⟨p7,_,rfl,bE.of ah,rfl,_,_,rfl,_,_,rfl,rfl,_,rfl,_,rfl,_,rfl,qU,fun t8 n8=>?_⟩;let s8:=aD n8 (.tup [u,v]);let Tr:a9 H (upd (upd H6 p7 (.tup [kV (.inr z.1),y])) t8 (.tup [u,v])):=s67.trans (.of s8);show ⟨jg z.2,jg p,.inl ⟨(Spot.aH hz2 Tr).is,(Spot.is (p:=p) ⟨t8,u,v,rfl,bE.of ah,hu.aH Tr,hv.aH Tr⟩)⟩,aii _ _,adH _,?_⟩;rw [aet];show ⟨_,rfl,bG (fun c=>DZ (Lc c) (hs z (DW ez))) (fun _=>?_)⟩;show ⟨_,_,rfl,fun b o' n e=>s8 _ _ (s7 _ _ (k6 b o' n e)),s8 _ _ (s7 _ _ AL)⟩
 ·rintro Y H1 ⟨o2,o3,rfl,k1,P_⟩
  show ⟨pP,o,kP,P_,fun o' u' z=>(by have z':H pP=some (.eQ o' u'):=z;erw [R.pl] at z'),?_⟩
  let s2:ao H (upd H1 pP (.dK kP)):=fun b o' e=>by
   by_cases n:b=pP
   ·subst n
    rw [R.pl] at e;rwa [ah]
   ·rw [aj n]
    exact k1 b o' n e
  generalize upd H1 pP (.dK kP)=H2 at s2 ⊢;let R2:=R.lh s2;show ⟨_,rfl,a,C,dx,_,_,rfl,R2.obj,fc.cls,fc.pl,rfl,pP,kP,rfl,.inl R2.pl,_,_,rfl,rfl,_,rfl,?_⟩;refine bG (fun c=>?_) (fun _=>?_)
  ·let c':(24:Int)<=(kP.length:Int):=Lc c
   omega
  show ⟨_,rfl,_,rfl,qU,fun t nt=>?_⟩;let s3:=aD nt (.tup [u,v]);let R3:=R2.lh s3;let hu3:=(hu.lh s2).lh s3;let hv3:=(hv.lh s2).lh s3;show ⟨_,rfl,a,C,dx,_,_,rfl,R3.obj,fc.cls,fc.pl,rfl,_,rfl,pP,_,rfl,je.k (k:=.inr x) R3.pl (FX (show kP.length<=1000 by omega) dL),?_⟩;let e:putK kP (.inr x) (.ref t)=kP++[(.inr x,.ref t)]:=dI _ (bW (by rw [R.JJ];exact fun z=>hx (iM.mp z)));rw [e];let R4:=R3.XD (x:=x) (p:=p) (t:=t) ⟨t,u,v,rfl,bE.of ah,hu3,hv3⟩;let k4:∀b o,b≠pP->H b=some o->(upd (upd H2 t (.tup [u,v])) pP (.dK (kP++[(.inr x,.ref t)]))) b=some o:=fun b o n e=>by rw [aj n];exact s3 _ _ (s2 _ _ e)
  generalize upd (upd H2 t (.tup [u,v])) pP (.dK (kP++[(.inr x,.ref t)]))=H4 at R4 k4 ⊢
  let lw:kW.length=ps.length:=by
   let e1:kW.length=pw.length:=(GJ W).symm;let e2:=pj Oq ew;rw [ir,ir] at e2;omega
  let t4:a9 H H4:=fun b xs r=>by
   rcases r with r|⟨o',r⟩
   ·exact .inl (k4 _ _ (fun e=>by erw [e,R.pl] at r) r)
   ·exact .inr ⟨o',k4 _ _ (fun e=>by erw [e,R.pl] at r) r⟩
  let W4:DK K H4 pw kW:=Paired.cV W fun _ _ z=>⟨z.1,by
   obtain ⟨l,us,e1,e2,e3⟩:=z.2
   show ⟨l,us,e1,k4 _ _ (fun e=>by erw [e,R.pl] at e2) e2,e3.aH t4⟩⟩
  show ⟨_,rfl,rfl,_,rfl,?_⟩
  rcases hH with ⟨rfl,rfl⟩|⟨h,Ch,dxh,Zx,psh,sph,rfl,hh,hlk,MH,IK⟩
  ·refine bG (fun _=>?_) (fun c=>DZ dL c)
   show ⟨by show 0<=AZ;decide,fun l2 n6=>?_⟩;let s6:=aD n6 (.lst []);let R6:=R4.lh s6;let W6:=W4.lh s6;show ⟨_,rfl,a,C,dx,_,_,rfl,R6.obj,fc.cls,fc.wy,rfl,_,rfl,pW,_,rfl,je.k (k:=.inr x) R6.wy (FX (show kW.length<=1000 by omega) dL),?_⟩;let ek:putK kW (.inr x) (.ref l2)=kW++[(.inr x,.ref l2)]:=dI _ (bW (by rw [W.keys,ew];exact fun z=>hx (iM.mp z)));rw [ek];let ne6:l2≠pW:=fun z=>by have h:=R6.wy;erw [<-z,ah] at h
   exact q _ _ _ (fun b o n1 n2 e=>by rw [aj n2];exact s6 _ _ (k4 b o n1 e)) (R6.JK _) (Tx (W6.dict R6.wy) ⟨rfl,l2,[],rfl,by rw [aj ne6,ah],.nil⟩)
  let h4:H4 h=some (.ins Ch dxh Zx):=k4 _ _ (fun e=>by erw [e,R.pl] at hh) hh;refine bG (fun c=>DZ (Lc c) (fun z=>nomatch z)) (fun _=>?_);show ⟨_,rfl,h,Ch,dxh,Zx,psh,sph,rfl,h4,hlk,MH,IK H4 h4 t4 _ fun l1 us H5 s5 n5 e5 p5=>?_⟩;show ⟨l1,us,rfl,aR.of e5,fun l2 n6=>?_⟩;let s6:=aD n6 (.lst us);let R6:=(R4.lh s5).lh s6;let W6:=(W4.lh s5).lh s6;show ⟨_,rfl,a,C,dx,_,_,rfl,R6.obj,fc.cls,fc.wy,rfl,_,rfl,pW,_,rfl,je.k (k:=.inr x) R6.wy (FX (show kW.length<=1000 by omega) dL),?_⟩;let ek:putK kW (.inr x) (.ref l2)=kW++[(.inr x,.ref l2)]:=dI _ (bW (by rw [W.keys,ew];exact fun z=>hx (iM.mp z)));rw [ek];let AM:ao H4 (upd H5 l2 (.lst us)):=fun b o z=>s6 _ _ (s5 _ _ z);refine q _ _ _ (fun b o n1 n2 e=>by rw [aj n2];exact AM _ _ (k4 b o n1 e)) (R6.JK _) ?_;let ne6:l2≠pW:=fun z=>by have h:=R6.wy;erw [<-z,ah] at h
  exact Tx (W6.dict R6.wy) ⟨rfl,l2,us,rfl,by rw [aj ne6,ah],(p5.lh s6).aH (.dict R6.wy)⟩
inductive jH (K:Frag)(C:AF)(vs:η)(H:Hp)(Q:VK)(E_:XK):Prop
|mk (a dx pP pW pB:AF)(ps:Θ)(bs:Α)(kP kW kB:γ)(x one lj:Str)(_:vs=[.ref a,.str x,.str one,.str lj])(_:gX K H C a dx pP pW pB ps bs kP kW kB)(_:x∉bs.map (·.1))(_:one∈ps.map (·.1))(_:lj∈ps.map (·.1))(_:one≠lj)(_:bs.length<60)(_:Q .dc H)
def ab8:av SA SA (ae MO):=sq
def ab9 (F:sr K "check_bar" "Frame.check_bar" MO f fd)(fc:O7 K C)(X':mg "MOST_BARS"=some (.int 60 tkB))(a_:mg "len"=none)
  (MC:am P w K mg iT 1 C "check_pin" Nb (f_ K C)):ad P w K mg iT 2 f fd SA (jH K C):=by
 refine ix F ab8 fun H hr h=>?_;obtain ⟨a,dx,pP,pW,pB,ps,bs,kP,kW,kB,x,one,lj,rfl,R,hx,h1,h2,ne,hl,q⟩:=h
 show ⟨_,(aa (bF (wO (OS (bQ hr) (pv 1) (eV (pv 0) rfl))) (ag (dm)) aX) (aa (b_ (fO (k:=1) (pv 0) hr.mo (JT P w) (aZ (pv 2)))) (aa (b_ (fO (k:=1) (pv 0) hr.mo (JT P w) (aZ (pv 3)))) (aa (bF (bO fk (pv 2) (pv 3)) (ag (dm)) aX) (ag (bF (bO VD (aU pO rfl a_ cS (aZ (eV (pv 0) rfl))) (d5 (v:=.int 60) rfl X' ⟨_,rfl⟩)) (ag (dm)) aX)))))),?_⟩
 show ⟨_,rfl,_,rfl,a,C,dx,_,_,rfl,R.obj,fc.cls,fc.br,rfl,pB,_,rfl,cW.k (k:=.inr x) R.br,_,rfl,?_⟩;rw [R.bar x,PH hx];show ⟨_,rfl,a,C,dx,_,_,_,rfl,R.obj,rfl,MC,_,rfl,a,dx,pP,pW,pB,ps,bs,kP,kW,kB,one,rfl,R,h1,_,rfl,a,C,dx,_,_,_,rfl,R.obj,rfl,MC,_,rfl,a,dx,pP,pW,pB,ps,bs,kP,kW,kB,lj,rfl,R,h2,_,rfl,_,rfl,rfl,_,rfl,bG (fun c=>DZ (by simpa [nK] using c) ne) (fun _=>?_)⟩;let lk:kB.length=bs.length:=(GJ R.rb).symm;show ⟨_,rfl,a,C,dx,_,_,rfl,R.obj,fc.cls,fc.br,rfl,pB,kB,rfl,.inl R.br,_,_,rfl,rfl,_,rfl,bG (fun c=>?_) (fun _=>q)⟩;let c':(60:Int)<=(kB.length:Int):=Lc c;omega
inductive oC (K:Frag)(C:AF)(vs:η)(H:Hp)(Q:VK)(E_:XK):Prop
|mk (a dx pP pW pB:AF)(ps:Θ)(bs:Α)(kP kW kB:γ)(x one lj:Str)(_:vs=[.ref a,.str x,.str one,.str lj])(_:gX K H C a dx pP pW pB ps bs kP kW kB)(_:x∉bs.map (·.1))(_:one∈ps.map (·.1))(_:lj∈ps.map (·.1))(_:one≠lj)(_:bs.length<60)(_:∀(H':Hp)(kB':γ),bL pB H H' ->gX K H' C a dx pP pW pB ps (bs++[(x,one,lj)]) kP kW kB' ->Q .dc H')
def ab':av SA SA (ae MM):=sq
def aca (F:sr K "put_bar" "Frame.put_bar" MM f fd)(fc:O7 K C)
  (MC:am P w K mg iT 2 C "check_bar" SA (jH K C)):ad P w K mg iT 3 f fd SA (oC K C):=by
 refine aeH F ab' (fun vs H Q E h=>?_) (fun cF A mB s H vs Q E hr h=>?_)
 ·obtain ⟨a,dx,pP,pW,pB,ps,bs,kP,kW,kB,x,one,lj,rfl,_⟩:=h
  rfl
 obtain ⟨a,dx,pP,pW,pB,ps,bs,kP,kW,kB,x,one,lj,rfl,R,hx,h1,h2,ne,hl,q⟩:=h
 show ⟨_,(aa (b_ (fO (k:=2) (pv 0) hr.mo (pY P w) (bU (pv 1) (pv 2) (pv 3)))) (ag (dC (bQ hr) (eV (pv 0) rfl) (pv 1) (aK (aE (pv 2) (pv 3))) rfl))),?_⟩
 show ⟨_,rfl,a,C,dx,_,_,_,rfl,R.obj,rfl,MC,_,rfl,_,rfl,_,rfl,a,dx,pP,pW,pB,ps,bs,kP,kW,kB,x,one,lj,rfl,R,hx,h1,h2,ne,hl,_,rfl,_,rfl,qU,fun t nt=>?_⟩;let s:=aD nt (.tup [.str one,.str lj]);let R':=R.lh s;let lk:kB.length=bs.length:=(GJ R.rb).symm;show ⟨_,rfl,a,C,dx,_,_,rfl,R'.obj,fc.cls,fc.br,rfl,_,rfl,pB,_,rfl,je.k (k:=.inr x) R'.br (FX (show kB.length<=1000 by omega) dL),?_⟩;let e:putK kB (.inr x) (.ref t)=kB++[(.inr x,.ref t)]:=dI _ (bW (by rw [R.tu];exact fun z=>hx (iM.mp z)));rw [e];refine q _ _ (fun b o n z=>?_) (R'.XC (.inl ah));rw [aj n];exact s _ _ z
def jm (p q:aA):Rat×Rat:=(q.sp.1-p.sp.1,q.sp.2-p.sp.2)
inductive J' (K:Frag)(C:AF)(vs:η)(H:Hp)(Q:VK)(E_:XK):Prop
|mk (a:AF)(pX:ν)(gV:τ)(p q:aA)(_:vs=[.ref a,.str p.nm,.str q.nm])(_:xp K H C a pX gV)(_:dJ pX gV)(_:p∈pX)(_:q∈pX)(_:P2 K H Q (jm p q))
def V8 {pX:ν}(h:(pX.map (·.nm)).Nodup):((pX.map fun p=>(p.nm,Pd p.sp)).map (·.1)).Nodup:=by
 rwa [EB]
def V9 {pX:ν}(h:(pX.map (·.nm)).Nodup):((pX.map fun p=>(p.nm,p.ws)).map (·.1)).Nodup:=by
 rwa [EB]
def V_ {gV:τ}(h:(gV.map (·.nm)).Nodup):((gV.map fun b=>(b.nm,b.one.nm,b.lj.nm)).map (·.1)).Nodup:=by
 rwa [EB]
def acb:av Pf Pf (ae LZ):=sq
def acd (D:Def K mg "arm_between" LZ Pf)(MP:am P w K mg iT 2 C "place" Nb (rM K C))(Ya:ac P w K mg iT 35 "pair_difference" EN (xA K fun a b=>a-b)):ac P w K mg iT 36 "arm_between" Pf (J' K C):=by
 refine D.oo acb fun H hr h=>?_;obtain ⟨a,pX,gV,p,q,rfl,R,g,hp,hq,k⟩:=h;obtain ⟨dx,pP,pW,pB,kP,kW,kB,R,W⟩:=R.ex;show ⟨_,(ag (aF (aJ Ya hr (aE (fO (k:=2) (pv 0) hr.mo (JT P w) (aZ (pv 2))) (fO (k:=2) (pv 0) hr.mo (JT P w) (aZ (pv 1))))))),_,rfl,a,C,dx,_,_,_,rfl,R.obj,rfl,MP,_,rfl,a,dx,pP,pW,pB,_,_,kP,kW,kB,q.nm,Pd q.sp,rfl,R,V8 g.np,AY.mpr ⟨q,hq,rfl⟩,fun v1 h1=>?_⟩;show ⟨_,rfl,a,C,dx,_,_,_,rfl,R.obj,rfl,MP,_,rfl,a,dx,pP,pW,pB,_,_,kP,kW,kB,p.nm,Pd p.sp,rfl,R,V8 g.np,AY.mpr ⟨p,hp,rfl⟩,fun v2 h2=>?_⟩;let z1:=g.sz q hq;let z2:=g.sz p hp;show ⟨v1,v2,q.sp,p.sp,rfl,h1,h2,z1.1.up dL,z1.2.1.up dL,z2.1.up dL,z2.2.1.up dL,k⟩
def mv (M:θ)(x:Str):Rat×Rat:=(M x).getD (0,0)
def cC (F:θ)(pX:ν):List (Int×Int):=pX.flatMap fun p=>[qr (mv F p.nm).1,qr (mv F p.nm).2]
theorem cT (F:θ):∀pX:List aA,(cC F pX).length=2*pX.length
 | []=>rfl
 | p::ps=>by
  have:=cT F ps;unfold cC at this ⊢;rw [LU,EM,this];simp;omega
def acq (F:θ)(ps:ν)(p:aA):cC F (ps++[p])=cC F ps++[qr (mv F p.nm).1,qr (mv F p.nm).2]:=by
 unfold cC;rw [TY];simp
def fW (x:Str)(w:Rat×Rat):Str->Option (Rat×Rat):=fun y=>if y=x then some w else none
def cE (b:aL):Str->Option (Rat×Rat):=fun y=>if y=b.one.nm then some (jm b.one b.lj) else if y=b.lj.nm then some (jm b.lj b.one) else none
def qd (pX:ν)(p:aA):List (List (Int×Int)):=p.ws.map fun w=>cC (fW p.nm w) pX
def gx (pX:ν)(gV:τ):List (List (Int×Int)):=(pX.flatMap fun p=>qd pX p)++gV.map fun b=>cC (cE b) pX
structure iO (K:Frag)(H:Hp)(r:AF)(ls:χ)(cg:Ζ)(f9:Β):Prop where
 jY:jW H r ls cg
 num:iA K H cg f9
 nr:r∉ls
theorem iO.lh (h:iO K H r ls cg f9)(s:ao H H'):iO K H' r ls cg f9:=⟨h.jY.lh s,h.num.lh s,h.nr⟩
def abz (h:iA K H cg f9)(n:cP K H us qs):iA K H (cg++[us]) (f9++[qs]):=by
 show ⟨by simp [h.1],fun i u q' e1 e2=>?_⟩;let l:=h.1;by_cases c:i<cg.length
 ·rw [LR c] at e1
  rw [LR ce] at e2;exact h.2 i u q' e1 e2
 ·rw [Lg ce] at e1 e2
  by_cases z:i-cg.length=0
  ·rw [z] at e1
   rw [show i-f9.length=0 by omega] at e2;cases e1;cases e2;exact n
  ·rw [FJ (by simp;omega)] at e1
   cases e1
def aj9 {H:Hp}{ls:χ}{cg:Ζ}(hl:ls.length=cg.length)(h:∀(i:Nat)(l:AF)(vs:η),ls[i]?=some l->cg[i]?=some vs->H l=some (.lst vs))(e:H l=some (.lst us)):
  ∀(i:Nat)(l':AF)(vs:η),(ls++[l])[i]?=some l' ->(cg++[us])[i]?=some vs->H l'=some (.lst vs):=fun i l' vs e1 e2=>by
 by_cases c:i<ls.length
 ·rw [LR c] at e1
  rw [LR ce] at e2;exact h i l' vs e1 e2
 ·rw [Lg ce] at e1 e2
  by_cases z:i-ls.length=0
  ·rw [z] at e1
   rw [show i-cg.length=0 by omega] at e2;cases e1;cases e2;exact e
  ·rw [FJ (by simp;omega)] at e1
   cases e1
def iO.push (h:iO K H r ls cg f9)(e:H l=some (.lst us))(ne:l≠r)(n:cP K H us qs):
  iO K (upd H r (.lst (ls.map V.ref++[.ref l]))) r (ls++[l]) (cg++[us]) (f9++[qs]):=by
 let st:a9 H (upd H r (.lst (ls.map V.ref++[.ref l]))):=.list h.jY.1
 let hm:∀(i:Nat)(l':AF)(vs:η),ls[i]?=some l' ->cg[i]?=some vs->(upd H r (.lst (ls.map V.ref++[.ref l]))) l'=some (.lst vs):=fun i l' vs e1 e2=>by
  rw [aj (fun z:l'=r=>h.nr (by rw [<-z];exact DW e1))];exact h.jY.2.2 i l' vs e1 e2
 show ⟨⟨by rw [ah,GV];rfl,by simp [h.jY.2.1],aj9 h.jY.2.1 hm (by rwa [aj ne])⟩,?_,?_⟩
 ·exact abz ⟨h.num.1,fun i vs qs e1 e2=>(h.num.2 i vs qs e1 e2).aH st⟩ (n.aH st)
 ·intro z
  rcases FR.mp z with z|z
  ·exact h.nr z
  ·exact ne (GQ.mp z).symm
inductive jn (K:Frag)(C:AF)(vs:η)(H:Hp)(Q:VK)(E_:XK):Prop
|mk (a d:AF)(pX:ν)(gV:τ)(AA:γ)(F:θ)(_:vs=[.ref a,.ref d])(_:xp K H C a pX gV)(_:pX.length<=100)(_:H d=some (.dK AA))(_:Pe K H AA F)(_:∀(l:AF)(us:η)(H':Hp),ao H H' ->H l=none->H' l=some (.lst us)->cP K H' us (cC F pX)->Q (.ref l) H')
def iP (pX:ν):((pX.map fun p=>(p.nm,Pd p.sp)).map (·.1))=pX.map (·.nm):=by rw [EB];rfl
def Qa:av ["F","draws","row","pin"] Tv (ae L1):=sq
def ace (hM:∀H:Hp,i8 K H (.ref aM) (0,0))(FH:mg "NO_MOVE"=some (.ref aM))(D:Def K mg "pair_row" L1 Tv)(MP:am P w K mg iT 1 C "pins" LH (jG K C)):ac P w K mg iT 2 "pair_row" Tv (jn K C):=by
 refine D.oo Qa fun H hr h=>?_;obtain ⟨a,d,pX,gV,AA,F,rfl,R,lp,hd,hP,q⟩:=h
 show ⟨_,(aa (aC 2 Qa.nd (b9 jx)) (aa (ba FF rfl (bh (d9 (k:=1) (pv 0) hr.mo (JT P w))) (bM 3 Qa.nd) (ag (b_ (qw TF PySem.F.slot_list_extend PySem.F.type_list_extend agE (pv 2) (aZ (gm (bQ hr) (pv 1) (pv 3) (d5 (v:=.ref aM) rfl FH rfl) ⟨rfl,rfl,rfl,rfl⟩)))))) (ag (aF (pv 2))))),?_⟩
 show ⟨z0L,?_⟩;intros l nl H1 s1 el;let R1:=R.lh s1;obtain ⟨dx,pP,pW,pB,kP,kW,kB,F1,W1⟩:=R1.ex;show ⟨_,rfl,a,C,dx,_,_,_,rfl,F1.obj,rfl,MP,a,dx,pP,pW,pB,_,_,kP,kW,kB,rfl,F1,fun lp H2 s2 NM yS=>?_⟩;rw [iP] at yS;let qe:=s1.trans s2;let Yb:lp≠l:=fun z=>by erw [z,el] at NM
 show ⟨lp,rfl,⟨_,aR.of yS⟩,let I:bn:=fun i Y H'=>NK fun (o3:ψ) (us:η)=>Y=[ap a,ap d,ap l,o3]/\ao H H'/\H' lp=some (.lst ((pX.map (·.nm)).map V.str))/\H' l=some (.lst us)/\cP K H' us (cC F (pX.take i));bP (K:=K) (a:=lp) (xs:=(pX.map (·.nm)).map V.str) I ⟨none,[],rfl,qe,yS,s2 _ _ el,⟨rfl,fun i u q e=>by simp at e⟩⟩ (fun i Y H' _ h=>by
   obtain ⟨_,_,_,_,h,_⟩:=h
   exact aR.of h) ?_ ?_⟩
 ·rintro i z Y H4 hi ⟨o3,us,rfl,s4,l4,e4,n4⟩
  rw [Wp,Wp] at hi;obtain ⟨x,hx,rfl⟩:=LA.mp hi;obtain ⟨p,hp,rfl⟩:=LA.mp hx;let il:i<pX.length:=(be.mp hp).1;let d4:=s4 _ _ hd;let g1:i8 K H4 ((bI AA (.inr p.nm)).getD (.ref aM)) (mv F p.nm):=(hP.lh s4).zR (hM H4);obtain ⟨b,u1,u2,eb,hb,h1,h2⟩:=g1
  let lu:us.length<=200:=by
   have:=n4.1;rw [cT,FU] at this;omega
  show ⟨_,rfl,.inl ⟨rfl,_,aR.of e4⟩,_,rfl,d,rfl,.inl ⟨_,.inl d4⟩,_,rfl,_,cW.k (k:=.inr p.nm) d4,l,b,us,[u1,u2],rfl,by rw [eb],e4,hb,by simp;omega,?_⟩;let st:a9 H4 (upd H4 l (.lst (us++[u1,u2]))):=.list e4;show ⟨_,us++[u1,u2],rfl,fun c o z=>?_,?_,ah,?_⟩
  ·rw [aj (ak z nl)]
   exact s4 _ _ z
  ·rw [aj Yb]
   exact l4
  ·rw [take_snoc hp,acq]
   let a1:=cP.snoc (K:=K) (n4.aH st) (dh.aH h1 st);let a2:=cP.snoc (K:=K) a1 (dh.aH h2 st);simpa using a2
 ·rintro Y H4 ⟨o3,us,rfl,s4,l4,e4,n4⟩
  rw [ir,ir,Lq] at n4;show ⟨_,rfl,q l us H4 s4 nl e4 n4⟩
inductive qf (K:Frag)(C:AF)(vs:η)(H:Hp)(Q:VK)(E_:XK):Prop
|mk (a d:AF)(pX:ν)(gV:τ)(AA:γ)(F:θ)(_:vs=[.ref a,.ref d])(_:xp K H C a pX gV)(_:pX.length<=100)(_:H d=some (.dK AA))(_:Pe K H AA F)(_:(∀kv∈AA,∃x∈pX.map (·.nm),kv.1=.inr x))(_:∀(l:AF)(us:η)(H':Hp),ao H H' ->H l=none->H' l=some (.lst us)->cP K H' us (cC F pX)->Q (.ref l) H')
def Qb:av ["F","load","pins","pin"] ["F","load"] (ae L6):=sq
def acf (D:Def K mg "load_row" L6 ["F","load"])(MP:am P w K mg iT 1 C "pins" LH (jG K C))(Qc:ac P w K mg iT 2 "pair_row" Tv (jn K C)):ac P w K mg iT 3 "load_row" ["F","load"] (qf K C):=by
 refine D.oo Qb fun H hr h=>?_;obtain ⟨a,d,pX,gV,AA,F,rfl,R,lp,hd,hP,hk,q⟩:=h
 show ⟨_,(aa (aC 2 Qb.nd (d9 (k:=1) (pv 0) hr.mo (JT P w))) (aa (jA (ba FF rfl (aeI (pv 1)) (bM 3 Qb.nd) (ag (bF (wQ nO (pv 3) (pv 2) rfl) (ag (dm)) aX)))) (ag (aF (aJ Qc hr (aE (pv 0) (pv 1))))))),?_⟩
 obtain ⟨dx,pP,pW,pB,kP,kW,kB,F1,W1⟩:=R.ex;show ⟨_,rfl,a,C,dx,_,_,_,rfl,F1.obj,rfl,MP,a,dx,pP,pW,pB,_,_,kP,kW,kB,rfl,F1,fun l H1 s1 nl el=>?_⟩;rw [iP] at el;let P_:=s1 _ _ hd;show ⟨_,rfl,d,AA,rfl,P_,fun o=>?_⟩;let ld:l≠d:=fun z=>by erw [z,P_] at el
 refine let I:bn:=fun t Y H'=>∃(o2:ψ),Y=[ap a,ap d,ap l,o2]/\H'=upd H1 d (.eQ o (.dK AA));zP (d:=d) (o:=o) (AA:=AA) I ⟨none,rfl,rfl⟩ (fun t Y H' _ h=>by
   obtain ⟨_,_,rfl⟩:=h
   exact ah) ?_ ?_
 ·rintro t k y Y H6 tR ⟨o2,rfl,rfl⟩
  obtain ⟨x,hx,ex⟩:=hk _ (DW tR);have DI :k=.inr x:=ex;subst DI;show ⟨_,rfl,_,rfl,l,_,rfl,.inl (aR.of (by rwa [aj ld])),rfl,we _,_,rfl,bG (fun c=>?_) (fun _=>⟨_,rfl,rfl⟩)⟩;let c':(!Zn (.str x) ((pX.map (·.nm)).map V.str))=true:=c;erw [tw,La hx] at c'
 ·rintro Y H6 ⟨o2,rfl,rfl⟩
  show ⟨d,o,AA,ah,fun o' u' z=>(by have z':H d=some (.eQ o' u'):=z;erw [hd] at z'),?_⟩
  let s2:ao H (upd (upd H1 d (.eQ o (.dK AA))) d (.dK AA)):=fun b o' e=>by
   by_cases n:b=d
   ·subst n
    rw [hd] at e;rwa [ah]
   ·rw [aj n,aj n]
    exact s1 _ _ e
  generalize upd (upd H1 d (.eQ o (.dK AA))) d (.dK AA)=H2 at s2 ⊢;show ⟨_,rfl,_,rfl,a,d,pX,gV,AA,F,rfl,R.lh s2,lp,s2 _ _ hd,hP.lh s2,fun l' us H3 s3 n3 e3 nm=>?_⟩;exact q l' us H3 (s2.trans s3) (s2.free n3) e3 nm
inductive ua (K:Frag)(C:AF)(vs:η)(H:Hp)(Q:VK)(E_:XK):Prop
|mk (a:AF)(pX:ν)(gV:τ)(b:aL)(_:vs=[.ref a,.str b.one.nm,.str b.lj.nm])(_:xp K H C a pX gV)(_:dJ pX gV)(_:b.one∈pX)(_:b.lj∈pX)(_:b.one.nm≠b.lj.nm)(_:∀(l:AF)(us:η)(H':Hp),ao H H' ->H l=none->H' l=some (.lst us)->cP K H' us (cC (cE b) pX)->Q (.ref l) H')
def agJ (k:Key)(v:V):dD [] [(k,v)]=[(k,v)]:=rfl
def agG (v u:V)(h:k≠j):dD [] [(k,v),(j,u)]=[(k,v),(j,u)]:=by
 show putK [(k,v)] j u=_;rw [dI]
 ·rfl
 ·rw [bH h]
  rfl
def acg:av Pf Pf (ae L7):=sq
def ach (D:Def K mg "bar_row" L7 Pf)(Tz:ac P w K mg iT 36 "arm_between" Pf (J' K C))(Qc:ac P w K mg iT 2 "pair_row" Tv (jn K C)):ac P w K mg iT 37 "bar_row" Pf (ua K C):=by
 refine D.oo acg fun H hr h=>?_;obtain ⟨a,pX,gV,b,rfl,R,g,m1,m2,ne,q⟩:=h;show ⟨_,(ag (aF (aJ Qc hr (aE (pv 0) (aes (sX (pv 1) (aJ Tz hr (bU (pv 0) (pv 1) (pv 2))) (sX (pv 2) (aJ Tz hr (bU (pv 0) (pv 2) (pv 1))) aex)) rfl rfl (ajP _ _) dL))))),_,rfl,fun d nd=>?_⟩;let s1:=aD nd (.dK []);let e1:(upd H d (.dK [])) d=some (.dK []):=ah;generalize upd H d (.dK [])=H1 at s1 e1 ⊢;show ⟨_,rfl,_,rfl,_,rfl,_,rfl,a,pX,gV,b.one,b.lj,rfl,R.lh s1,g,m1,m2,fun v1 H2 s2 h2=>?_⟩;show ⟨_,rfl,_,rfl,_,rfl,_,rfl,a,pX,gV,b.lj,b.one,rfl,(R.lh s1).lh s2,g,m2,m1,fun v2 H3 s3 h3=>?_⟩;let e3:=s3 _ _ (s2 _ _ e1);show ⟨e3,[(.inr b.one.nm,v1),(.inr b.lj.nm,v2)],rfl,(by show 2<=15;decide),?_⟩;rw [agG _ _ (fun z=>ne (Lr z))];let st:a9 H3 (upd H3 d (.dK [(.inr b.one.nm,v1),(.inr b.lj.nm,v2)])):=.dict e3;let e4:(upd H3 d (.dK [(.inr b.one.nm,v1),(.inr b.lj.nm,v2)])) d=some (.dK [(.inr b.one.nm,v1),(.inr b.lj.nm,v2)]):=ah
 let s4:ao H (upd H3 d (.dK [(.inr b.one.nm,v1),(.inr b.lj.nm,v2)])):=fun c o z=>by
  rw [aj (ak z nd)];exact s3 _ _ (s2 _ _ (s1 _ _ z))
 generalize upd H3 d (.dK [(.inr b.one.nm,v1),(.inr b.lj.nm,v2)])=H4 at st e4 s4 ⊢;show ⟨a,d,pX,gV,_,cE b,rfl,R.lh s4,BJ g.lp dL,e4,fun x=>?_,fun l us H5 s5 n5 e5 nm=>q l us H5 (s4.trans s5) (s4.free n5) e5 nm⟩;by_cases c1:x=b.one.nm
 ·subst c1
  exact .inr ⟨v1,jm b.one b.lj,bY rfl,by unfold cE;rw [ox rfl],(h2.lh s3).aH st⟩
 ·by_cases c2:x=b.lj.nm
  ·subst c2
   exact .inr ⟨v2,jm b.lj b.one,by rw [bH (fun z=>c1 (Lr z).symm),bY rfl],by unfold cE;rw [ni c1,ox rfl],h3.aH st⟩
  ·exact .inl ⟨by rw [bH (fun z=>c1 (Lr z).symm),bH (fun z=>c2 (Lr z).symm)];rfl,by unfold cE;rw [ni c1,ni c2]⟩
inductive mQ (K:Frag)(C:AF)(vs:η)(H:Hp)(Q:VK)(E_:XK):Prop
|mk (a:AF)(pX:ν)(gV:τ)(_:vs=[.ref a])(_:xp K H C a pX gV)(_:dJ pX gV)(_:∀(r:AF)(ls:χ)(cg:Ζ)(H':Hp),ao H H' ->H r=none->iO K H' r ls cg (gx pX gV)->Q (.ref r) H')
def rO (gV:τ):((gV.map fun b=>(b.nm,b.one.nm,b.lj.nm)).map (·.1))=gV.map (·.nm):=by rw [EB];rfl
def oE (pX:ν)(h:∀p∈pX,p.ws.length<=2):(pX.flatMap fun p=>p.ws).length<=2*pX.length:=by
 induction pX with
 | nil=>simp
 | cons p ps ih=>
  let h1:=h p GG;let h2:=ih fun q hq=>h q (F' _ hq);rw [LU,EM,Lw];omega
def gy (all pX:ν):(pX.flatMap fun p=>qd all p).length=(pX.flatMap fun p=>p.ws).length:=by
 induction pX with
 | nil=>rfl
 | cons p ps ih=>
  rw [LU,LU,EM,EM,ih];unfold qd;rw [ir]
def zam (pX:ν)(gV:τ):(gx pX gV).length=(pX.flatMap fun p=>p.ws).length+gV.length:=by
 unfold gx;rw [EM,gy,ir]
def wA:av ["F","rows","pin","way","bar","two"] ["F"] (ae L8):=sq
def aci (D:Def K mg "draw_rows" L8 ["F"])(MP:am P w K mg iT 1 C "pins" LH (jG K C))(MW:am P w K mg iT 2 C "ways" Nb (t_ K C))(MB:am P w K mg iT 1 C "bars" LH (jF K C))(ME:am P w K mg iT 1 C "ends" Xc (tZ K C))
  (Qc:ac P w K mg iT 2 "pair_row" Tv (jn K C)) (ai2:ac P w K mg iT 37 "bar_row" Pf (ua K C)):ac P w K mg iT 38 "draw_rows" ["F"] (mQ K C):=by
 refine D.op wA fun f cF A mB s H vs Q E hr h=>?_;obtain ⟨a,pX,gV,rfl,R,g,q⟩:=h
 show ⟨_,(aa (aC 1 wA.nd (b9 jx)) (aa (ba FF rfl (bh (d9 (k:=1) (pv 0) hr.mo (pY P w))) (bM 2 wA.nd) (ag (ba FF rfl (bh (fO (k:=2) (pv 0) hr.mo (pY P w) (aZ (pv 2)))) (bM 3 wA.nd) (ag (b_ (qw TF Ti Th ft (pv 1) (aZ (aJ Qc hr (aE (pv 0) (aes (sX (pv 2) (pv 3) aex) rfl rfl (ajP _ _) dL)))))))))) (aa (ba FF rfl (bh (d9 (k:=1) (pv 0) hr.mo (pY P w))) (bM 4 wA.nd) (aa (aC 5 wA.nd (fO (k:=1) (pv 0) hr.mo (pY P w) (aZ (pv 4)))) (ag (b_ (qw TF Ti Th ft (pv 1) (aZ (aJ ai2 hr (bU (pv 0) (ay (pv 5)) (ay (pv 5)))))))))) (ag (aF (pv 1)))))),?_⟩;sleep 3
 show ⟨z0L,?_⟩;intros r nr H1 s1 er;let big:(100:Nat)<=AZ:=dL
 let wl:=oE pX g.lw;let gl:=g.lp;let R0:iO K H1 r [] [] []:=⟨⟨er,rfl,fun i l vs e=>by simp at e⟩,⟨rfl,fun i vs qs e=>by simp at e⟩,by simp⟩;let R1:=R.lh s1;obtain ⟨dx,pP,pW,pB,kP,kW,kB,F1,W1⟩:=R1.ex;show ⟨_,rfl,a,C,dx,_,_,_,rfl,F1.obj,rfl,MP,a,dx,pP,pW,pB,_,_,kP,kW,kB,rfl,F1,fun lp H2 s2 NM yS=>?_⟩;rw [iP] at yS;let qe:=s1.trans s2;let Yb:lp≠r:=fun z=>by erw [z,er] at NM
 show ⟨lp,rfl,⟨_,aR.of yS⟩,let I:bn:=fun i Y H'=>LX fun (o2 o3:ψ) (ls:χ) (cg:Ζ)=>Y=[ap a,ap r,o2,o3,none,none]/\ao H H'/\H' lp=some (.lst ((pX.map (·.nm)).map V.str))/\iO K H' r ls cg ((pX.take i).flatMap fun p=>qd pX p);bP (K:=K) (a:=lp) (xs:=(pX.map (·.nm)).map V.str) I ⟨none,none,[],[],rfl,qe,yS,R0.lh s2⟩ (fun i Y H' _ h=>by
   obtain ⟨_,_,_,_,_,_,h,_⟩:=h
   exact aR.of h) ?_ ?_⟩
 ·rintro i z Y H4 hi ⟨o2,o3,ls,cg,rfl,s4,l4,RR⟩
  rw [Wp,Wp] at hi;obtain ⟨x,hx,rfl⟩:=LA.mp hi;obtain ⟨p,hp,rfl⟩:=LA.mp hx;let mp:p∈pX:=DW hp;let R4:=R.lh s4;obtain ⟨dx,pP,pW,pB,kP,kW,kB,F4,W4⟩:=R4.ex;let mpn:p.nm∈(pX.map fun p=>(p.nm,Pd p.sp)).map (·.1):=by rw [iP];exact AY.mpr ⟨p,mp,rfl⟩
  show ⟨_,rfl,a,C,dx,_,_,_,rfl,F4.obj,rfl,MW,_,rfl,a,dx,pP,pW,pB,_,_,kP,kW,kB,_,p.nm,p.ws,rfl,F4,W4,V9 g.np,AY.mpr ⟨p,mp,rfl⟩,mpn,fun m us H5 s5 n5 e5 p5=>?_⟩;let lu:us.length=p.ws.length:=GJ p5;let FI:=s4.trans s5;let mr:m≠r:=fun z=>by erw [z,RR.jY.1] at n5
  show ⟨m,rfl,⟨_,aR.of e5⟩,let I:bn:=fun j Y H'=>JS fun (o3:ψ) (ls:χ) (cg:Ζ)=>Y=[ap a,ap r,some (.str p.nm),o3,none,none]/\ao H H'/\H' lp=some (.lst ((pX.map (·.nm)).map V.str))/\H' m=some (.lst us)/\q_ K H' us p.ws/\iO K H' r ls cg (((pX.take i).flatMap fun p=>qd pX p)++(p.ws.take j).map fun w=>cC (fW p.nm w) pX);bP (K:=K) (a:=m) (xs:=us) I ⟨o3,ls,cg,rfl,FI,s5 _ _ l4,e5,p5,by simpa using RR.lh s5⟩ (fun j Y H' _ h=>by
    obtain ⟨_,_,_,_,_,_,h,_⟩:=h
    exact aR.of h) ?_ ?_⟩
  ·rintro j u Y H6 hu ⟨o3,ls,cg,rfl,s6,l6,e6,p6,AN⟩
   obtain ⟨w,ew,hw⟩:=aG p6 hu;let jl:=(be.mp hu).1;show ⟨_,rfl,.inl ⟨rfl,_,aR.of AN.jY.1⟩,_,rfl,fun d nd=>?_⟩;let t1:=aD nd (.dK []);let d1:(upd H6 d (.dK [])) d=some (.dK []):=ah;generalize upd H6 d (.dK [])=H7 at t1 d1 ⊢;show ⟨_,rfl,_,rfl,d1,[(.inr p.nm,u)],rfl,(by show 1<=15;decide),?_⟩;rw [agJ];let st:a9 H7 (upd H7 d (.dK [(.inr p.nm,u)])):=.dict d1;let d8:(upd H7 d (.dK [(.inr p.nm,u)])) d=some (.dK [(.inr p.nm,u)]):=ah
   let t8:ao H6 (upd H7 d (.dK [(.inr p.nm,u)])):=fun c o z=>by
    rw [aj (ak z nd)];exact t1 _ _ z
   let hw8:=(hw.lh t1).aH st;generalize upd H7 d (.dK [(.inr p.nm,u)])=H8 at d8 t8 hw8 ⊢;let s8:=s6.trans t8;show ⟨a,d,pX,gV,_,fW p.nm w,rfl,R.lh s8,BJ g.lp dL,d8,fun x=>?_,fun l qF H9 t9 n9 e9 nm=>?_⟩
   ·by_cases c1:x=p.nm
    ·subst c1
     exact .inr ⟨u,w,bY rfl,by unfold fW;rw [ox rfl],hw8⟩
    ·exact .inl ⟨by rw [bH (fun z=>c1 (Lr z).symm)];rfl,by unfold fW;rw [ni c1]⟩
   let t69:=t8.trans t9;let Zy:=AN.lh t69;let lr:l≠r:=fun z=>by erw [z,t8 _ _ AN.jY.1] at n9
   let lss:ls.length<=18:=by
    let h1:=AN.jY.2.1;let h2:=AN.num.1;rw [EM,ir,FU,gy] at h2
    let h3:((pX.take i).flatMap fun p=>p.ws).length+p.ws.length<=(pX.flatMap fun p=>p.ws).length:=by
     let e:pX=pX.take i++p::pX.drop (i+1):=by
      let lt:=(be.mp hp).1;let e2:=(be.mp hp).2;rw [<-e2,aiU,IX]
     let e3:=pj (fun l:List aA=>(l.flatMap fun p=>p.ws).length) e;simp only [TY,LU,EM] at e3;omega
    omega
   show ⟨r,_,_,rfl,rfl,Zy.jY.1,(by rw [ir];omega),?_⟩;let RN:=Zy.push e9 lr nm;let tr:a9 H9 (upd H9 r (.lst (ls.map V.ref++[.ref l]))):=.list Zy.jY.1;let kk:∀b o,b≠r->H6 b=some o->(upd H9 r (.lst (ls.map V.ref++[.ref l]))) b=some o:=fun b o n e=>by rw [aj n];exact t69 _ _ e
   show ⟨_,ls++[l],cg++[qF],rfl,fun b o e=>?_,kk _ _ Yb l6,kk _ _ mr e6,(p6.lh t69).aH tr,?_⟩
   ·exact kk _ _ (ak e nr) (s6 _ _ e)
   ·rw [take_snoc ew,GV,<-BH]
    exact RN
  ·rintro Y H6 ⟨o3,ls,cg,rfl,s6,l6,e6,p6,AN⟩
   show ⟨_,_,ls,cg,rfl,s6,l6,?_⟩;rw [lu,Lq] at AN;rw [take_snoc hp,TY];simpa [qd] using AN
 ·rintro Y H4 ⟨o2,o3,ls,cg,rfl,s4,l4,RR⟩
  rw [ir,ir,Lq] at RR;let R4:=R.lh s4;obtain ⟨dx,pP,pW,pB,kP,kW,kB,F4,W4⟩:=R4.ex;show ⟨_,rfl,a,C,dx,_,_,_,rfl,F4.obj,rfl,MB,a,dx,pP,pW,pB,_,_,kP,kW,kB,rfl,F4,fun lb H5 s5 nlb Ye=>?_⟩;rw [rO] at Ye;let bne:lb≠r:=fun z=>by erw [z,RR.jY.1] at nlb
  show ⟨lb,rfl,⟨_,aR.of Ye⟩,let I:bn:=fun i Y H'=>LX fun (o4 o5:ψ) (ls:χ) (cg:Ζ)=>Y=[ap a,ap r,o2,o3,o4,o5]/\ao H H'/\H' lb=some (.lst ((gV.map (·.nm)).map V.str))/\iO K H' r ls cg ((pX.flatMap fun p=>qd pX p)++(gV.take i).map fun b=>cC (cE b) pX);bP (K:=K) (a:=lb) (xs:=(gV.map (·.nm)).map V.str) I ⟨none,none,ls,cg,rfl,s4.trans s5,Ye,by simpa using RR.lh s5⟩ (fun i Y H' _ h=>by
    obtain ⟨_,_,_,_,_,_,h,_⟩:=h
    exact aR.of h) ?_ ?_⟩
  ·rintro i z Y H6 hi ⟨o4,o5,ls,cg,rfl,s6,l6,AN⟩
   rw [Wp,Wp] at hi;obtain ⟨x,hx,rfl⟩:=LA.mp hi;obtain ⟨b,hb,rfl⟩:=LA.mp hx;let mb:b∈gV:=DW hb;let il:=(be.mp hb).1;let R6:=R.lh s6;obtain ⟨dx,pP,pW,pB,kP,kW,kB,F6,W6⟩:=R6.ex;show ⟨_,rfl,a,C,dx,_,_,_,rfl,F6.obj,rfl,ME,_,rfl,a,dx,pP,pW,pB,_,_,kP,kW,kB,b.nm,b.one.nm,b.lj.nm,rfl,F6,V_ g.nb,AY.mpr ⟨b,mb,rfl⟩,fun p rd=>?_⟩;let tp:bE K H6 p [.str b.one.nm,.str b.lj.nm]:=.inl rd;obtain ⟨m1,m2,m3⟩:=g.ends b mb;show ⟨_,rfl,.inl ⟨rfl,_,aR.of AN.jY.1⟩,_,rfl,_,rfl,p,_,_,_,rfl,rfl,tp,iF,_,rfl,p,_,_,_,rfl,rfl,tp,gL,a,pX,gV,b,rfl,R6,g,m1,m2,m3,fun l qF H9 t9 n9 e9 nm=>?_⟩;let Zy:=AN.lh t9;let lr:l≠r:=fun z=>by erw [z,AN.jY.1] at n9
   let lss:ls.length<=44:=by
    let h1:=AN.jY.2.1;let h2:=AN.num.1;rw [EM,ir,FU,gy] at h2;have:=g.lb;omega
   show ⟨r,_,_,rfl,rfl,Zy.jY.1,(by rw [ir];omega),?_⟩;let RN:=Zy.push e9 lr nm;let kk:∀c o,c≠r->H6 c=some o->(upd H9 r (.lst (ls.map V.ref++[.ref l]))) c=some o:=fun c o n e=>by rw [aj n];exact t9 _ _ e
   show ⟨_,_,ls++[l],cg++[qF],rfl,fun c o e=>kk _ _ (ak e nr) (s6 _ _ e),kk _ _ bne l6,?_⟩;rwa [take_snoc hb,GV,<-BH]
  ·rintro Y H6 ⟨o4,o5,ls,cg,rfl,s6,l6,AN⟩
   rw [ir,ir,Lq] at AN;show ⟨_,rfl,q r ls cg H6 s6 nr AN⟩
def zak {i j:Nat}(h:i<=j)(hj:j<=xs.length):gO xs (some (i:Int)) (some (j:Int))=(xs.drop i).take (j-i):=by
 unfold gO;rw [HT.rq,HT.rq,IA hj,IA (show i<=xs.length by omega)]
theorem gP :∀{l:List Z} {m:List β} (n:Nat),Paired R l m->Paired R (l.drop n) (m.drop n)
 | _,_,0,h=>h
 | _,_,_+1,.nil=>.nil
 | _,_,n+1,.cons _ t=>gP n t
theorem jI :∀{l:List Z} {m:List β} (n:Nat),Paired R l m->Paired R (l.take n) (m.take n)
 | _,_,0,_=>.nil
 | _,_,_+1,.nil=>.nil
 | _,_,n+1,.cons h t=>.cons h (jI n t)
def aT (pX:ν):Nat:=(pX.flatMap fun p=>p.ws).length
def ub (ps:ν)(p:aA):aT (ps++[p])=aT ps+p.ws.length:=by
 unfold aT;rw [TY,EM];simp
def aau (h:pX[i]?=some p):aT (pX.take i)+p.ws.length<=aT pX:=by
 let e:pX=pX.take i++p::pX.drop (i+1):=by
  let lt:=(be.mp h).1;let e2:=(be.mp h).2;rw [<-e2,aiU,IX]
 let e3:=pj (fun l:List aA=>(l.flatMap fun p=>p.ws).length) e;simp only [TY,LU,EM] at e3;unfold aT;omega
structure PPR (K:Frag)(H H':Hp)(pX:ν)(gV:τ)(dT dU:AF)(kT kU:γ)(T:Μ)(U:Δ)(L:Str->AF):Prop where
 nT:H dT=none
 nU:H dU=none
 ne:dT≠dU
 hT:H' dT=some (.dK kT)
 hU:H' dU=some (.dK kU)
 TB:kT.map (·.1)=gV.map (fun b=>(EX b.nm:Key))
 Yf:kU.map (·.1)=pX.map (fun p=>(EX p.nm:Key))
 tT:∀b∈gV,∃v,bI kT (.inr b.nm)=some v/\dh K H' v (T b.nm)
 tU:∀p∈pX,∃vs,bI kU (.inr p.nm)=some (.ref (L p.nm))/\H (L p.nm)=none/\H' (L p.nm)=some (.lst vs)/\Paired (dh K H') vs (U p.nm)
 lU:∀p∈pX,(U p.nm).length=p.ws.length
 inj:∀p∈pX,∀q∈pX,L p.nm=L q.nm->p.nm=q.nm
structure PuR (K:Frag)(H H':Hp)(pX:ν)(dU:AF)(kU:γ)(U:Δ)(L:Str->AF):Prop where
 nU:H dU=none
 hU:H' dU=some (.dK kU)
 Yf:kU.map (·.1)=pX.map (fun p=>(EX p.nm:Key))
 tU:∀p∈pX,∃vs,bI kU (.inr p.nm)=some (.ref (L p.nm))/\H (L p.nm)=none/\H' (L p.nm)=some (.lst vs)/\Paired (dh K H') vs (U p.nm)
 lU:∀p∈pX,(U p.nm).length=p.ws.length
 inj:∀p∈pX,∀q∈pX,L p.nm=L q.nm->p.nm=q.nm
inductive Yg (K:Frag)(C:AF)(vs:η)(H:Hp)(Q:VK)(E_:XK):Prop
|mk (a nl:AF)(pX:ν)(gV:τ)(us:η)(rs:Ι)(_:vs=[.ref a,.ref nl])(_:xp K H C a pX gV)(_:dJ pX gV)(_:H nl=some (.lst us))(_:Paired (dh K H) us rs)(_:rs.length=aT pX)(_:∀(U:Δ)(L:Str->AF)(p dT dU:AF)(kU:γ)(H':Hp),ao H H' ->rs=(pX.flatMap fun p=>U p.nm)->H' p=some (.tup [.ref dT,.ref dU])->PuR K H H' pX dU kU U L->Q (.ref p) H')
def ady {ps:ν}{U W:Δ}(h:∀p∈ps,U p.nm=W p.nm):(ps.flatMap fun p=>U p.nm)=ps.flatMap fun p=>W p.nm:=by
 induction ps with
 | nil=>rfl
 | cons p ps ih=>
  rw [LU,LU,h p GG,ih fun q hq=>h q (F' _ hq)]
def ud:av ["F","numbers","pushes","at","pin","behind","pulls"] SJ (ae L9):=sq
def acj (D:Def K mg "pulls_and_pushes" L9 SJ)(a_:mg "len"=none)(qg:mg "dict"=none)(gM:mg "zip"=none)(MP:am P w K mg iT 1 C "pins" LH (jG K C))(MW:am P w K mg iT 2 C "ways" Nb (t_ K C))(MB:am P w K mg iT 1 C "bars" LH (jF K C)):
  ac P w K mg iT 3 "pulls_and_pushes" SJ (Yg K C):=by
 refine D.op ud fun f cF A mB s H vs Q E hr h=>?_;obtain ⟨a,nl,pX,gV,us,rs,rfl,R,g,hn,hu,hl,q⟩:=h;let lu:us.length=rs.length:=GJ hu;let wl:aT pX<=2*pX.length:=oE pX g.lw;let gl:=g.lp;let gb:=g.lb
 show ⟨_,(aa (aC 2 ud.nd dw) (aa (aC 3 ud.nd af) (aa (ba FF rfl (bh (d9 (k:=1) (pv 0) hr.mo (pY P w))) (bM 4 ud.nd) (aa (aC 5 ud.nd (aw bT (pv 3) (aU aQ rfl a_ cS (aZ (fO (k:=2) (pv 0) hr.mo (pY P w) (aZ (pv 4))))))) (aa (dC (bQ hr) (pv 2) (pv 4) (bX dP (pv 1) (cH (pv 3)) (cH (pv 5))) rfl) (ag (aC 3 ud.nd (pv 5)))))) (aa (aC 6 ud.nd (agv rfl rfl qg rfl gM (aE (d9 (k:=1) (pv 0) hr.mo (pY P w)) (bX dP (pv 1) (cH (pv 3)) cQ)))) (ag (aF (aK (aE (pv 6) (pv 2))))))))),?_⟩;sleep 4
 intro dU nU;let s1:=aD nU (.dK []);let e1:(upd H dU (.dK [])) dU=some (.dK []):=ah;generalize upd H dU (.dK [])=H1 at s1 e1 ⊢;let R1:=R.lh s1;obtain ⟨dx,pP,pW,pB,kP,kW,kB,F1,W1⟩:=R1.ex;show ⟨_,rfl,a,C,dx,_,_,_,rfl,F1.obj,rfl,MP,a,dx,pP,pW,pB,_,_,kP,kW,kB,rfl,F1,fun lp H2 s2 NM yS=>?_⟩;rw [iP] at yS;let qe:=s1.trans s2;let Yb:lp≠dU:=fun z=>by erw [z,e1] at NM
 show ⟨lp,rfl,⟨_,aR.of yS⟩,let I:bn:=fun i Y H'=>Ex5 fun (o4 o5:ψ) (kU:γ) (U:Δ) (L:Str->AF)=>Y=[ap a,ap nl,ap dU,some (.int (aT (pX.take i):Int)),o4,o5,none]/\ao H H'/\H' lp=some (.lst ((pX.map (·.nm)).map V.str))/\H' dU=some (.dK kU)/\kU.map (·.1)=(pX.take i).map (fun p=>(EX p.nm:Key))/\((pX.take i).flatMap fun p=>U p.nm)=rs.take (aT (pX.take i))/\ (∀p∈pX.take i,∃vs,bI kU (.inr p.nm)=some (.ref (L p.nm))/\H (L p.nm)=none/\H' (L p.nm)=some (.lst vs)/\Paired (dh K H') vs (U p.nm))/\(∀p∈pX.take i,(U p.nm).length=p.ws.length)/\(∀p∈pX.take i,∀q∈pX.take i,L p.nm=L q.nm->p.nm=q.nm);bP (K:=K) (a:=lp) (xs:=(pX.map (·.nm)).map V.str) I
   ⟨none,none,[],fun _=>[],fun _=>0,rfl,qe,yS,s2 _ _ e1,rfl,rfl,by simp,by simp,by simp⟩ (fun i Y H' _ h=>by
   obtain ⟨_,_,_,_,_,_,_,h,_⟩:=h
   exact aR.of h) ?_ ?_⟩
 ·rintro i z Y H4 hi ⟨o4,o5,kU,U,L,rfl,s4,l4,e4,ks,fl,tU,lU,inj⟩
  rw [Wp,Wp] at hi;obtain ⟨x,hx,rfl⟩:=LA.mp hi;obtain ⟨p,hp,rfl⟩:=LA.mp hx;let mp:p∈pX:=DW hp;let il:i<pX.length:=(be.mp hp).1;let R4:=R.lh s4;obtain ⟨dx,pP,pW,pB,kP,kW,kB,F4,W4⟩:=R4.ex;let mpn:p.nm∈(pX.map fun p=>(p.nm,Pd p.sp)).map (·.1):=by rw [iP];exact AY.mpr ⟨p,mp,rfl⟩
  show ⟨_,rfl,_,rfl,a,C,dx,_,_,_,rfl,F4.obj,rfl,MW,_,rfl,a,dx,pP,pW,pB,_,_,kP,kW,kB,_,p.nm,p.ws,rfl,F4,W4,V9 g.np,AY.mpr ⟨p,mp,rfl⟩,mpn,fun m vs H5 s5 n5 e5 p5=>?_⟩;let lv:vs.length=p.ws.length:=GJ p5;show ⟨m,_,rfl,.inl (aR.of e5),_,_,rfl,rfl,?_⟩;let tk:=take_snoc hp;let wn:aT (pX.take (i+1))=aT (pX.take i)+p.ws.length:=by rw [tk,ub]
  let wt:=aau hp;let eb:(aT (pX.take i):Int)+((vs.length:Nat):Int)=((aT (pX.take (i+1)):Nat):Int):=by rw [wn,lv];omega
  let Yh:=s4.trans s5;let Tq:=Yh _ _ hn;dsimp only;rw [eb];show ⟨_,rfl,_,rfl,_,rfl,_,rfl,_,rfl,nl,_,rfl,aR.of Tq,?_⟩;rw [zak ce ce];intros m2 n6 H6 s6 e6;let e46:=s6 _ _ (s5 _ _ e4)
  let lk:kU.length<=9:=by
   let z:=pj Oq ks;rw [ir,ir,FU] at z;omega
  show ⟨_,rfl,_,rfl,dU,_,rfl,je.k (k:=.inr p.nm) e46 (FX (show kU.length<=1000 by omega) dL),?_⟩
  let fresh:(EX p.nm:Key)∉kU.map (·.1):=by
   rw [ks];intro z;obtain ⟨b',fZ,XZ⟩:=AY.mp z;exact iu (nm:=aA.nm) g.np hp fZ (Lr XZ)
  let pk:putK kU (.inr p.nm) (.ref m2)=kU++[(.inr p.nm,.ref m2)]:=dI _ (bW fresh);let t6:a9 H6 (upd H6 dU (.dK (putK kU (.inr p.nm) (.ref m2)))):=.dict e46;let AM:=s5.trans s6;let md:m2≠dU:=fun z=>by erw [z,s5 _ _ e4] at n6
  let kk:∀b o,b≠dU->H4 b=some o->(upd H6 dU (.dK (putK kU (.inr p.nm) (.ref m2)))) b=some o:=fun b o n e=>by rw [aj n];exact AM _ _ e
  let ne:∀p' ∈pX.take i,p'.nm≠p.nm:=fun p' iG =>iu (nm:=aA.nm) g.np hp iG
  have xD :∀p' ∈pX.take (i+1),p' ∈pX.take i\/p'=p:=fun p' iG =>by
   rw [tk] at iG
   rcases FR.mp iG with h|h
   ·exact .inl h
   ·exact .inr (GQ.mp h)
  let hold:∀p' ∈pX.take i,∃o,H4 (L p'.nm)=some o:=fun p' iG =>by
   obtain ⟨vs,_,_,h,_⟩:=tU p' iG;show ⟨_,h⟩
  obtain ⟨U',hU1,hU2⟩:∃U':Str->List Rat,U' p.nm=(rs.drop (aT (pX.take i))).take p.ws.length/\∀x,x≠p.nm->U' x=U x:=⟨fun x=>if x=p.nm then (rs.drop (aT (pX.take i))).take p.ws.length else U x,ox rfl,fun x h=>ni h⟩;obtain ⟨L',XT,V3⟩:∃L':Str->AF,L' p.nm=m2/\∀x,x≠p.nm->L' x=L x:=⟨fun x=>if x=p.nm then m2 else L x,ox rfl,fun x h=>ni h⟩;show ⟨_,rfl,_,_,putK kU (.inr p.nm) (.ref m2),U',L',rfl,fun b o e=>?_,kk _ _ Yb l4,ah,?_,?_,fun p' iG =>?_,fun p' iG =>?_,fun p' iG q' vM =>?_⟩
  ·rw [aj (ak e nU)]
   exact AM _ _ (s4 _ _ e)
  ·rw [pk,GV,ks,tk,GV]
   rfl
  ·rw [tk,TY,ub]
   rw [ady (U:=U') (W:=U) fun p' iG =>hU2 _ (ne p' iG),fl];simp only [LU,ajQ,WL,hU1];rw [List.take_add]
  ·rw [kr]
   rcases xD p' iG with h|h
   ·rw [ni (fun z=>ne p' h (Lr z)),V3 _ (ne p' h),hU2 _ (ne p' h)]
    obtain ⟨oF,h1,h2,h3,h4⟩:=tU p' h;show ⟨oF,h1,h2,kk _ _ (fun z=>by erw [z,e4] at h3) h3,Paired.cV h4 fun _ _ z=>(z.lh AM).aH t6⟩
   ·subst h
    rw [ox rfl,XT,hU1];show ⟨_,rfl,(s4.trans s5).free n6,by rwa [aj md],?_⟩;let a1:=jI (aT (pX.take (i+1))-aT (pX.take i)) (gP (aT (pX.take i)) hu);let a2:aT (pX.take (i+1))-aT (pX.take i)=p'.ws.length:=ce
    rw [a2] at a1 ⊢;exact Paired.cV a1 fun _ _ z=>((z.lh s4).lh AM).aH t6
  ·rcases xD p' iG with h|h
   ·rw [hU2 _ (ne p' h)]
    exact lU p' h
   ·subst h
    rw [hU1,FU,SN];omega
  ·rcases xD p' iG with h|h<;>rcases xD q' vM with h'|h'
   ·rw [V3 _ (ne p' h),V3 _ (ne q' h')]
    exact inj p' h q' h'
   ·subst h'
    rw [V3 _ (ne p' h),XT];intro z;obtain ⟨o,ho⟩:=hold p' h;erw [z,s5.free n6] at ho
   ·subst h
    rw [V3 _ (ne q' h'),XT];intro z;obtain ⟨o,ho⟩:=hold q' h';erw [<-z,s5.free n6] at ho
   ·intro _
    rw [h,h']
 ·rintro Y H4 ⟨o4,o5,kU,U,L,rfl,s4,l4,e4,ks,fl,tU,lU,inj⟩
  rw [ir,ir,Lq] at ks fl tU lU inj;let R4:=R.lh s4;obtain ⟨dx,pP,pW,pB,kP,kW,kB,F4,W4⟩:=R4.ex;show ⟨_,rfl,a,C,dx,_,_,_,rfl,F4.obj,rfl,MB,a,dx,pP,pW,pB,_,_,kP,kW,kB,rfl,F4,fun lb H5 s5 nlb Ye=>?_⟩;rw [rO] at Ye;let Yh:=s4.trans s5;show ⟨_,rfl,_,rfl,_,rfl,nl,_,rfl,aR.of (Yh _ _ hn),?_⟩;let hw:aT pX<=us.length:=ce
  rw [ir,ir,Lq,g8 hw];intros m2 n6 H6 s6 e6
  let eks:(gV.map (·.nm)).map V.str=(gV.map fun b=>(EX b.nm:Key)).map kV:=by
   rw [EB,EB];rfl
  rw [eks] at Ye;show ⟨lb,m2,gV.map fun b=>(EX b.nm:Key),us.drop (aT pX),rfl,s6 _ _ Ye,e6,by rw [ir];omega,fun dT H7 s7 n7 e7=>?_⟩;show ⟨_,rfl,_,rfl,qU,?_⟩;intros pt n8 H8 s8 e8;let s58:=(s5.trans s6).trans (s7.trans s8);let DO:=s4.trans s58;let er:rs=pX.flatMap fun p=>U p.nm:=by rw [fl,PZ ce]
  refine q U L pt dT dU kU H8 DO er e8 ⟨nU,s58 _ _ e4,ks,fun p hp=>?_,lU,inj⟩;obtain ⟨oF,a1,a2,a3,a4⟩:=tU p hp;show ⟨oF,a1,a2,s58 _ _ a3,Paired.cV a4 fun _ _ z=>z.lh s58⟩
inductive ue (K:Frag)(C:AF)(vs:η)(H:Hp)(Q:VK)(E_:XK):Prop
|mk (a nl:AF)(pX:ν)(gV:τ)(us:η)(rs:Ι)(_:vs=[.ref a,.ref nl])(_:xp K H C a pX gV)(_:dJ pX gV)(_:H nl=some (.lst us))(_:Paired (dh K H) us rs)(_:rs.length=2*pX.length)(_:∀(M:υ)(d:AF)(kM:γ)(H':Hp),ao H H' ->rs=(pX.flatMap fun p=>[(M p.nm).1,(M p.nm).2])->H d=none->H' d=some (.dK kM)->kM.map (·.1)=pX.map (fun p=>(EX p.nm:Key))->(∀p∈pX,∃t v1 v2,bI kM (.inr p.nm)=some (.ref t)/\H' t=some (.tup [v1,v2])/\dh K H' v1 (M p.nm).1/\dh K H' v2 (M p.nm).2)->Q (.ref d) H')
def adu {ps:ν}{U W:υ}(h:∀p∈ps,U p.nm=W p.nm):(ps.flatMap fun p=>[(U p.nm).1,(U p.nm).2])=ps.flatMap fun p=>[(W p.nm).1,(W p.nm).2]:=by
 induction ps with
 | nil=>rfl
 | cons p ps ih=>
  rw [LU,LU,h p GG,ih fun q hq=>h q (F' _ hq)]
def Kq:av ["F","numbers","motion","at","pin"] SJ (ae L_):=sq
def acm (D:Def K mg "motion_from" L_ SJ)(fH:mg "enumerate"=none)(MP:am P w K mg iT 1 C "pins" LH (jG K C)):
  ac P w K mg iT 2 "motion_from" SJ (ue K C):=by
 refine D.oo Kq fun H hr h=>?_;obtain ⟨a,nl,pX,gV,us,rs,rfl,R,g,hn,hu,hl,q⟩:=h;let lu:us.length=rs.length:=GJ hu;let gl:=g.lp
 show ⟨_,(aa (aC 2 Kq.nd dw) (aa (ba FF rfl (aeq rfl fH (aZ (d9 (k:=1) (pv 0) hr.mo (JT P w)))) (fL rfl (aY (bM 3 Kq.nd) (aY (bM 4 Kq.nd) df))) (ag (dC (bQ hr) (pv 2) (pv 4) (aK (aE (bg aI (pv 1) (aw bu af (pv 3))) (bg aI (pv 1) (aw bT (aw bu af (pv 3)) af)))) rfl))) (ag (aF (pv 2))))),?_⟩;sleep 2
 intro d nd;let s1:=aD nd (.dK []);let e1:(upd H d (.dK [])) d=some (.dK []):=ah;generalize upd H d (.dK [])=H1 at s1 e1 ⊢;let R1:=R.lh s1;obtain ⟨dx,pP,pW,pB,kP,kW,kB,F1,W1⟩:=R1.ex;show ⟨_,rfl,a,C,dx,_,_,_,rfl,F1.obj,rfl,MP,a,dx,pP,pW,pB,_,_,kP,kW,kB,rfl,F1,fun lp H2 s2 NM yS=>?_⟩;rw [iP] at yS;let qe:=s1.trans s2;let Yb:lp≠d:=fun z=>by erw [z,e1] at NM
 show ⟨lp,rfl,⟨_,aR.of yS⟩,let I:bn:=fun i Y H'=>LX fun (o3 o4:ψ) (kM:γ) (M:υ)=>Y=[ap a,ap nl,ap d,o3,o4]/\ao H H'/\H' lp=some (.lst ((pX.map (·.nm)).map V.str))/\H' d=some (.dK kM)/\kM.map (·.1)=(pX.take i).map (fun p=>(EX p.nm:Key))/\((pX.take i).flatMap fun p=>[(M p.nm).1,(M p.nm).2])=rs.take (2*i)/\ (∀p∈pX.take i,∃t v1 v2,bI kM (.inr p.nm)=some (.ref t)/\H' t=some (.tup [v1,v2])/\dh K H' v1 (M p.nm).1/\dh K H' v2 (M p.nm).2);zN (K:=K) (a:=lp) (xs:=(pX.map (·.nm)).map V.str) I
   ⟨none,none,[],fun _=>(0,0),rfl,qe,yS,s2 _ _ e1,rfl,rfl,by simp⟩ (fun i Y H' _ h=>by
   obtain ⟨_,_,_,_,_,_,h,_⟩:=h
   exact aR.of h) ?_ ?_⟩
 ·rintro i z Y H4 p9 hi ⟨o3,o4,kM,M,rfl,s4,l4,e4,ks,fl,tM⟩ n9
  rw [Wp,Wp] at hi;obtain ⟨x,hx,rfl⟩:=LA.mp hi;obtain ⟨p,hp,rfl⟩:=LA.mp hx;let il:i<pX.length:=(be.mp hp).1;let t9:=aD n9 (.tup [.int (i:Int),.str p.nm]);let e9:(upd H4 p9 (.tup [.int (i:Int),.str p.nm])) p9=some (.tup [.int (i:Int),.str p.nm]):=ah;generalize upd H4 p9 (.tup [.int (i:Int),.str p.nm])=H5 at t9 e9 ⊢;show ⟨p9,_,rfl,bE.of e9,rfl,_,_,rfl,_,_,rfl,rfl,?_⟩;let Yh:=s4.trans t9;let Tq:=Yh _ _ hn;let l1:2*i<us.length:=ce
  let l2:2*i+1<us.length:=ce
  let c2:nX 2 (i:Int):=⟨by decide+kernel,BJ (X0 ce ce) dL⟩
  let a1:i7 us (2*(i:Int))=some us[2*i]:=by
   have:=bq (xs:=us) (j:=2*i) (gE l1);rwa [show ((2*i:Nat):Int)=2*(i:Int) by omega] at this
  let a2:i7 us (2*(i:Int)+1)=some us[2*i+1]:=by
   have:=bq (xs:=us) (j:=2*i+1) (gE l2);rwa [show ((2*i+1:Nat):Int)=2*(i:Int)+1 by omega] at this
  show ⟨_,rfl,_,rfl,_,_,rfl,rfl,c2,nl,_,_,_,rfl,rfl,aR.of Tq,a1,_,rfl,_,rfl,_,_,rfl,rfl,c2,_,_,rfl,rfl,nl,_,_,_,rfl,rfl,aR.of Tq,a2,qU,?_⟩;intros t n6 H6 s6 e6;let e46:=s6 _ _ (t9 _ _ e4)
  let lk:kM.length<=9:=by
   let z:=pj Oq ks;rw [ir,ir,FU] at z;omega
  show ⟨_,rfl,_,rfl,d,_,rfl,je.k (k:=.inr p.nm) e46 (FX (show kM.length<=1000 by omega) dL),?_⟩
  let fresh:(EX p.nm:Key)∉kM.map (·.1):=by
   rw [ks];intro z;obtain ⟨b',fZ,XZ⟩:=AY.mp z;exact iu (nm:=aA.nm) g.np hp fZ (Lr XZ)
  let pk:putK kM (.inr p.nm) (.ref t)=kM++[(.inr p.nm,.ref t)]:=dI _ (bW fresh);let t6:a9 H6 (upd H6 d (.dK (putK kM (.inr p.nm) (.ref t)))):=.dict e46;let AM:=t9.trans s6;let td:t≠d:=fun z=>by erw [z,t9 _ _ e4] at n6
  let kk:∀b o,b≠d->H4 b=some o->(upd H6 d (.dK (putK kM (.inr p.nm) (.ref t)))) b=some o:=fun b o n e=>by rw [aj n];exact AM _ _ e
  let ne:∀p' ∈pX.take i,p'.nm≠p.nm:=fun p' iG =>iu (nm:=aA.nm) g.np hp iG;let tk:=take_snoc hp;obtain ⟨r1,er1,hr1⟩:=aG hu (gE l1);obtain ⟨r2,er2,hr2⟩:=aG hu (gE l2);obtain ⟨M',hM1,hM2⟩:∃M':Str->Rat×Rat,M' p.nm=(r1,r2)/\∀x,x≠p.nm->M' x=M x:=⟨fun x=>if x=p.nm then (r1,r2) else M x,ox rfl,fun x h=>ni h⟩;show ⟨_,_,putK kM (.inr p.nm) (.ref t),M',rfl,fun b o e=>?_,kk _ _ Yb l4,ah,?_,?_,fun p' iG =>?_⟩
  ·rw [aj (ak e nd)]
   exact AM _ _ (s4 _ _ e)
  ·rw [pk,GV,ks,tk,GV]
   rfl
  ·rw [tk,TY,adu (U:=M') (W:=M) fun p' iG =>hM2 _ (ne p' iG),fl]
   simp only [LU,ajQ,WL,hM1];rw [show 2*(i+1)=2*i+1+1 by omega,Ot,Ot,er1,er2];simp
  ·rw [kr]
   rw [tk] at iG
   rcases FR.mp iG with h|h
   ·rw [ni (fun z=>ne p' h (Lr z)),hM2 _ (ne p' h)]
    obtain ⟨t',v1,v2,h1,h2,h3,h4⟩:=tM p' h;show ⟨t',v1,v2,h1,kk _ _ (fun z=>by erw [z,e4] at h2) h2,(h3.lh AM).aH t6,(h4.lh AM).aH t6⟩
   ·rw [GQ.mp h,ox rfl,hM1]
    show ⟨t,_,_,rfl,by rwa [aj td],((hr1.lh Yh).lh s6).aH t6,((hr2.lh Yh).lh s6).aH t6⟩
 ·rintro Y H4 ⟨o3,o4,kM,M,rfl,s4,l4,e4,ks,fl,tM⟩
  rw [ir,ir] at ks fl tM;rw [Lq] at ks fl tM;rw [<-hl,Lq] at fl;show ⟨_,rfl,q M d kM H4 s4 fl.symm nd e4 ks tM⟩
def dt (a b:Rat×Rat):Rat:=a.1*b.1+a.2*b.2
def sP (as bs:Ι):Rat:=(O0 (·*·) as bs).sum
def gc (bs:Ι):sP [] bs=0:=by simp [sP]
def cB (a b:Rat)(as bs:Ι):sP (a::as) (b::bs)=a*b+sP as bs:=by simp [sP]
theorem gf:∀{a c:Ι} (b d:Ι),a.length=c.length->sP (a++b) (c++d)=sP a c+sP b d
 | [],[],b,d,_=>by
  rw [aiW,aiW,gc];grind
 | x::a,y::c,b,d,h=>by
  rw [Yi,Yi,cB,cB,gf b d (by simpa using h)];grind
 | [],_::_,_,_,h=>by simp at h
 | _::_,[],_,_,h=>by simp at h
theorem lQ:∀(ys cs:ο),iI ys cs=sP (ys.map vl) (cs.map vl)
 | [],_=>by simp [iI,sP]
 | _::_,[]=>by simp [iI,sP]
 | y::ys,c::cs=>by rw [ab6,DV,DV,cB,lQ ys cs]
theorem rP (F:θ)(M:υ):∀pX:List aA,sP ((cC F pX).map vl) (pX.flatMap fun p=>[(M p.nm).1,(M p.nm).2])=(pX.map fun p=>dt (mv F p.nm) (M p.nm)).sum
 | []=>by simp [cC,sP]
 | p::ps=>by
  let ih:=rP F M ps;unfold cC at ih ⊢;rw [LU,LU,GV,gf _ _ ga,ih];simp only [DV,LP,dY,cB,gc,GN];unfold dt;grind
def adS {pX:ν}(nd:(pX.map (·.nm)).Nodup)(hp:p∈pX){f:Μ}(h:∀q∈pX,q.nm≠p.nm->f q.nm=0):(pX.map fun q=>f q.nm).sum=f p.nm:=by
 induction pX with
 | nil=>simp at hp
 | cons q ps ih=>
  rw [DV,M9] at nd;rw [DV,GN]
  let zero:∀(l:ν),(∀r∈l,f r.nm=0)->(l.map fun q=>f q.nm).sum=0:=fun l hl=>by
   induction l with
   | nil=>simp
   | cons r l ihl=>
    rw [DV,GN,hl r GG,ihl fun s hs=>hl s (F' _ hs)];grind
  by_cases e:q.nm=p.nm
  ·rw [e,zero ps fun r hr=>h r (F' _ hr) fun z=>nd.1 (by rw [e,<-z];exact AY.mpr ⟨r,hr,rfl⟩)]
   grind
  ·rw [h q GG e]
   have iG :p∈ps:=by
    rcases LN.mp hp with z|z
    ·exact DZ (by rw [z]) e
    ·exact z
   rw [ih nd.2 iG fun r hr=>h r (F' _ hr)];grind
def mR (x:Str)(w:Rat×Rat)(y:Str):mv (fW x w) y=if y=x then w else (0,0):=by
 unfold mv fW;by_cases e:y=x
 ·rw [ox e,ox e]
  rfl
 ·rw [ni e,ni e]
  rfl
def lR (m:Rat×Rat):dt (0,0) m=0:=by
 unfold dt;grind
def xE {pX:ν}(nd:(pX.map (·.nm)).Nodup)(hp:p∈pX)(w:Rat×Rat)(M:υ):(pX.map fun q=>dt (mv (fW p.nm w) q.nm) (M q.nm)).sum=dt w (M p.nm):=by
 rw [adS nd hp (f:=fun x=>dt (mv (fW p.nm w) x) (M x)) fun q _ e=>by rw [mR,ni e];exact lR _];rw [mR,ox rfl]
theorem sum_add (f g:aA->Rat):∀l:List aA,(l.map fun q=>f q+g q).sum=(l.map f).sum+(l.map g).sum
 | []=>by
  simp only [LP,Nc];grind
 | p::l=>by
  rw [DV,GN,sum_add f g l,DV,DV,GN,GN];grind
def dZ (M:υ)(b:aL):Rat:=dt (jm b.one b.lj) ((M b.lj.nm).1-(M b.one.nm).1,(M b.lj.nm).2-(M b.one.nm).2)
def ag7 (b:aL)(h:b.one.nm≠b.lj.nm)(x:Str)(m:Rat×Rat):dt (mv (cE b) x) m=dt (mv (fW b.one.nm (jm b.one b.lj)) x) m+dt (mv (fW b.lj.nm (jm b.lj b.one)) x) m:=by
 rw [mR,mR];unfold mv cE;by_cases c1:x=b.one.nm
 ·rw [ox c1,ox c1,ni (fun z=>h (c1.symm.trans z)),lR]
  show dt (jm b.one b.lj) m=_;grind
 ·rw [ni c1,ni c1,lR]
  by_cases c2:x=b.lj.nm
  ·rw [ox c2,ox c2]
   show dt (jm b.lj b.one) m=_;grind
  ·rw [ni c2,ni c2,lR]
   show dt (0,0) m=_;rw [lR];grind
def Kr {pX:ν}(nd:(pX.map (·.nm)).Nodup)(b:aL)(h1:b.one∈pX)(h2:b.lj∈pX)(h:b.one.nm≠b.lj.nm)(M:υ):(pX.map fun q=>dt (mv (cE b) q.nm) (M q.nm)).sum= -(dZ M b):=by
 let e:(pX.map fun q=>dt (mv (cE b) q.nm) (M q.nm))=pX.map fun q=>dt (mv (fW b.one.nm (jm b.one b.lj)) q.nm) (M q.nm)+dt (mv (fW b.lj.nm (jm b.lj b.one)) q.nm) (M q.nm):=LD fun q _=>ag7 b h _ _;rw [e,sum_add,xE nd h1,xE nd h2];unfold dZ dt jm;grind
structure FL (pX:ν)(gV:τ)(M:υ):Prop where
 Qe:∀p∈pX,∀w∈p.ws,dt w (M p.nm)=0
 gV:∀b∈gV,dZ M b=0
def qH (pX:ν)(L:θ)(M:υ):Rat:=(pX.map fun p=>dt (mv L p.nm) (M p.nm)).sum
def fQ (gV:τ)(T:Μ)(U:Δ)(p:aA)(c:Rat×Rat->Rat):Rat:=sP (U p.nm) (p.ws.map c)+(gV.map fun b=>T b.nm*c (mv (cE b) p.nm)).sum
def iB (pX:ν)(gV:τ)(T:Μ)(U:Δ)(L:θ):Prop:=∀p∈pX,fQ gV T U p (·.1)+(mv L p.nm).1=0/\fQ gV T U p (·.2)+(mv L p.nm).2=0
theorem iQ:∀(as:Ι) {Z:Type} (l:List Z),sP as (l.map fun _=>(0:Rat))=0
 | [],_,_=>gc _
 | _::_,_,[]=>by simp [sP]
 | a::as,_,x::l=>by
  rw [DV,cB,iQ as l];grind
theorem Ks {U:Δ}(c0:c (0,0)=0)(p:aA):∀(ps:ν),(ps.map (·.nm)).Nodup->(∀q∈ps,(U q.nm).length=q.ws.length)->(∀q∈ps,q.nm=p.nm->q=p)->
  sP (ps.flatMap fun q=>U q.nm) (ps.flatMap fun q=>q.ws.map fun w=>c (mv (fW q.nm w) p.nm))=if p.nm∈ps.map (·.nm) then sP (U p.nm) (p.ws.map c) else 0
 | [],_,_,_=>by simp [sP]
 | q::ps,nd,hl,inj=>by
  rw [DV,M9] at nd;let ih:=Ks c0 p ps nd.2 (fun r hr=>hl r (F' _ hr)) fun r hr=>inj r (F' _ hr);rw [LU,LU,gf _ _ (by rw [hl q GG,ir]),ih,DV];by_cases e:q.nm=p.nm
  ·let eq:q=p:=inj q GG e
   subst eq;let ec:(q.ws.map fun w=>c (mv (fW q.nm w) q.nm))=q.ws.map c:=LD fun w _=>by rw [mR,ox rfl]
   rw [ni nd.1,ox GG,ec];grind
  ·let ec:(q.ws.map fun w=>c (mv (fW q.nm w) p.nm))=q.ws.map fun _=>(0:Rat):=LD fun w _=>by rwa [mR,ni (fun z=>e z.symm)]
   rw [ec,iQ];by_cases hm:p.nm∈ps.map (·.nm)
   ·rw [ox hm,ox (F' _ hm)]
    grind
   ·rw [ni hm,ni (fun z=>by
     rcases LN.mp z with z|z
     ·exact e z.symm
     ·exact hm z)]
    grind
theorem FN {Z:Type}(f g:Z->Rat):∀l:List Z,sP (l.map f) (l.map g)=(l.map fun x=>f x*g x).sum
 | []=>by simp [sP]
 | x::l=>by rw [DV,DV,cB,FN f g l,DV,GN]
def ad5 {pX:ν}{gV:τ}{T:Μ}{U:Δ}{c:Rat×Rat->Rat}(c0:c (0,0)=0)(nd:(pX.map (·.nm)).Nodup)(hl:∀q∈pX,(U q.nm).length=q.ws.length)(hp:p∈pX)(y:Rat):
  sP ((pX.flatMap fun q=>U q.nm)++gV.map (fun b=>T b.nm)++[y]) (((pX.flatMap fun q=>q.ws.map fun w=>c (mv (fW q.nm w) p.nm))++gV.map fun b=>c (mv (cE b) p.nm))++[c (mv L p.nm)])=fQ gV T U p c+y*c (mv L p.nm):=by
 let l1:(pX.flatMap fun q=>U q.nm).length=(pX.flatMap fun q=>q.ws.map fun w=>c (mv (fW q.nm w) p.nm)).length:=by
  clear hp nd
  induction pX with
  | nil=>rfl
  | cons q ps ih=>rw [LU,LU,EM,EM,ih fun r hr=>hl r (F' _ hr),hl q GG,ir]
 rw [gf _ _ (by rw [EM,EM,l1,ir,ir]),gf _ _ l1,Ks c0 p pX nd hl fun q hq e=>aeB (nm:=aA.nm) nd hq hp e,ox (AY.mpr ⟨p,hp,rfl⟩),FN,cB,gc];unfold fQ;grind
theorem xF (F:θ):∀{pX:ν} {k:Nat} {p:aA},pX[k]?=some p->vl ((cC F pX).getD (2*k) (0,1))=(mv F p.nm).1/\vl ((cC F pX).getD (2*k+1) (0,1))=(mv F p.nm).2
 | q::ps,0,p,h=>by
  cases h;unfold cC;rw [LU];show ⟨dY _,dY _⟩
 | q::ps,k+1,p,h=>by
  let ih:=xF F (pX:=ps) (k:=k) (p:=p) (by simpa using h);unfold cC at ih ⊢;rwa [LU]
def agg (pX:ν)(gV:τ)(L:θ){k:Nat}(h:pX[k]?=some p)(j:Nat)(c:Rat×Rat->Rat)(hj:∀F,vl ((cC F pX).getD j (0,1))=c (mv F p.nm)):
  (de (gx pX gV++[cC L pX]) j).map vl=((pX.flatMap fun q=>q.ws.map fun w=>c (mv (fW q.nm w) p.nm))++gV.map fun b=>c (mv (cE b) p.nm))++[c (mv L p.nm)]:=by
 let flat:∀ps:List aA,((ps.flatMap fun q=>qd pX q).map fun qs=>vl (qs.getD j (0,1)))=ps.flatMap fun q=>q.ws.map fun w=>c (mv (fW q.nm w) p.nm):=fun ps=>by
  induction ps with
  | nil=>rfl
  | cons q ps ih=>
   rw [LU,LU,GV,ih];congr 1;unfold qd;rw [EB];exact LD fun w _=>hj _
 unfold de gx;rw [EB,GV,GV,DV,LP];congr 1
 ·congr 1
  ·exact flat pX
  ·rw [EB]
   exact LD fun b _=>hj _
 ·rw [<-hj]
  rfl
def eJ (h:1<=k):Sz k 0:=by
 have:=tG (i:=0) (k:=k) (by simpa using aiY k) h;simpa using this
structure Zb (n:Nat)(r:Rat):Prop where
 top:(qr r).1.natAbs<=2^n
 bot:(qr r).2.natAbs<=2^n
def V' (h:Sm T B q):q=qr (vl q):=zY h.pos h.low
def Wa (h:Sz k r)(h2:k<=58):Sm 58 58 (qr r):=
 ⟨cX r,tD r,Pk (Lf (intBits_le_iff.mp h.top) (Na dL h2)),Pk (Lf (intBits_le_iff.mp h.bot) (Na dL h2))⟩
def Ku (h:∀x,Sz 58 (mv F x).1/\Sz 58 (mv F x).2)(pX:ν):∀q∈cC F pX,Sm 58 58 q:=fun q hq=>by
 unfold cC at hq;obtain ⟨p,_,hq⟩:=Qy.mp hq;let z:=h p.nm
 rcases LN.mp hq with e|hq
 ·rw [e]
  exact Wa z.1 (D' _)
 ·rw [GQ.mp hq]
  exact Wa z.2 (D' _)
def ag4 {w:Rat×Rat}(h:Sz 58 w.1/\Sz 58 w.2)(y:Str):Sz 58 (mv (fW x w) y).1/\Sz 58 (mv (fW x w) y).2:=by
 rw [mR];by_cases c:y=x
 ·rw [ox c]
  exact h
 ·rw [ni c]
  show ⟨eJ dL,eJ dL⟩
def FO (g:dJ pX gV)(hb:b∈gV)(y:Str):Sz 58 (mv (cE b) y).1/\Sz 58 (mv (cE b) y).2:=by
 obtain ⟨m1,m2,_⟩:=g.ends b hb;let z1:=g.sz _ m1;let z2:=g.sz _ m2;unfold mv cE;by_cases c1:y=b.one.nm
 ·rw [ox c1]
  show ⟨(z2.1.sub z1.1).up dL,(z2.2.1.sub z1.2.1).up dL⟩
 ·rw [ni c1]
  by_cases c2:y=b.lj.nm
  ·rw [ox c2]
   show ⟨(z1.1.sub z2.1).up dL,(z1.2.1.sub z2.2.1).up dL⟩
  ·rw [ni c2]
   show ⟨eJ dL,eJ dL⟩
def mS (g:dJ pX gV):∀qs∈gx pX gV,qs.length=2*pX.length/\∀q∈qs,Sm 58 58 q:=fun qs hq=>by
 unfold gx at hq
 rcases FR.mp hq with h|h
 ·obtain ⟨p,hp,h⟩:=Qy.mp h
  unfold qd at h;obtain ⟨w,hw,rfl⟩:=AY.mp h;let z:=(g.sz p hp).2.2 w hw;show ⟨cT _ _,Ku (ag4 ⟨z.1.up dL,z.2.up dL⟩) pX⟩
 ·obtain ⟨b,hb,rfl⟩:=AY.mp h
  show ⟨cT _ _,Ku (FO g hb) pX⟩
theorem oG :∀{us:η} {qs:ο},cP K H us qs->(∀q∈qs,Sm T B q)->Paired (dh K H) us (qs.map vl)
 | [],[],_,_=>.nil
 | u::us,q::qs,h,hs=>by
  refine .cons ?_ (oG ⟨by simpa using h.1,fun i u q e1 e2=>h.2 (i+1) u q (by simpa using e1) (by simpa using e2)⟩ fun r hr=>hs r (F' _ hr));let n:=h.2 0 u q rfl rfl;show iY K H u (qr (vl q));rwa [<-V' (hs q GG)]
 | [],_::_,h,_=>(nomatch h.1)
 | _::_,[],h,_=>(nomatch h.1)
structure MoR (K:Frag)(H H':Hp)(pX:ν)(d:AF)(kM:γ)(M:υ):Prop where
 nM:H d=none
 hM:H' d=some (.dK kM)
 keys:kM.map (·.1)=pX.map (fun p=>(EX p.nm:Key))
 tM:∀p∈pX,∃t v1 v2,bI kM (.inr p.nm)=some (.ref t)/\H' t=some (.tup [v1,v2])/\dh K H' v1 (M p.nm).1/\dh K H' v2 (M p.nm).2
def dS {Z:Type}{l:List Z}(h:l.Nodup){i j:Nat}{x:Z}(hi:l[i]?=some x)(hj:l[j]?=some x):i=j:=by
 obtain ⟨i1,i2⟩:=be.mp hi;obtain ⟨j1,j2⟩:=be.mp hj;exact (ajJ h).mp (i2.trans j2.symm)
theorem g9 :∀{us:η} {zs:List Z},us.length=zs.length->(∀(i:Nat)(u:V),us[i]?=some u->∃z,zs[i]?=some z/\R u z)->Paired R us zs
 | [],[],_,_=>.nil
 | u::us,z::zs,l,h=>by
  obtain ⟨z',e,hz⟩:=h 0 u rfl;cases e;exact .cons hz (g9 (by simpa using l) fun i u e=>h (i+1) u (by simpa using e))
theorem uf {Z β:Type}(f:Z->β->Rat)(bs:List β):∀as:List Z,(as.map fun a=>(bs.map fun b=>f a b).sum).sum=(bs.map fun b=>(as.map fun a=>f a b).sum).sum
 | []=>by
  induction bs with
  | nil=>rfl
  | cons b bs ih=>
   rw [DV,GN,<-ih];simp only [LP,Nc];grind
 | a::as=>by
  rw [DV,GN,uf f bs as];clear uf
  induction bs with
  | nil=>
   simp only [LP,Nc];grind
  | cons b bs ih=>
   simp only [DV,GN] at ih ⊢;grind
theorem lV {Z:Type}(t:Rat)(f:Z->Rat):∀l:List Z,(l.map fun a=>t*f a).sum=t*(l.map f).sum
 | []=>by
  simp only [LP,Nc];grind
 | a::l=>by
  rw [DV,GN,DV,GN,lV t f l];grind
theorem sum_neg {Z:Type}(f:Z->Rat):∀l:List Z,(l.map fun a=> -(f a)).sum= -(l.map f).sum
 | []=>by
  simp only [LP,Nc];grind
 | a::l=>by
  rw [DV,GN,DV,GN,sum_neg f l];grind
theorem Wb (m:Rat×Rat):∀(us:Ι)(ws:Ο),sP us (ws.map (·.1))*m.1+sP us (ws.map (·.2))*m.2=sP us (ws.map fun w=>dt w m)
 | [],_=>by
  simp only [gc];grind
 | _::_,[]=>by
  simp [sP];grind
 | u::us,w::ws=>by
  let ih:=Wb m us ws;simp only [DV,cB];unfold dt at ih ⊢;grind
theorem Kv (T:Μ)(p:aA)(m:Rat×Rat):∀gV:List aL,(gV.map fun b=>T b.nm*(mv (cE b) p.nm).1).sum*m.1+(gV.map fun b=>T b.nm*(mv (cE b) p.nm).2).sum*m.2=(gV.map fun b=>T b.nm*dt (mv (cE b) p.nm) m).sum
 | []=>by
  simp only [LP,Nc];grind
 | b::gV=>by
  let ih:=Kv T p m gV;simp only [DV,GN];unfold dt at ih ⊢;grind
def zap {ws:Ο}(us:Ι)(h:∀w∈ws,dt w m=0):sP us (ws.map fun w=>dt w m)=0:=by
 have:(ws.map fun w=>dt w m)=ws.map fun _=>(0:Rat):=LD h;rw [this];exact iQ us ws
def TJ (g:dJ pX gV)(h:iB pX gV T U L)(hw:∀p∈pX,∀w∈p.ws,dt w (M p.nm)=0):qH pX L M=(gV.map fun b=>T b.nm*dZ M b).sum:=by
 let e1:∀p∈pX,dt (mv L p.nm) (M p.nm)= -((gV.map fun b=>T b.nm*dt (mv (cE b) p.nm) (M p.nm)).sum):=fun p hp=>by
  obtain ⟨r1,r2⟩:=h p hp;unfold fQ at r1 r2;let a:=Wb (M p.nm) (U p.nm) p.ws;rw [zap _ (hw p hp)] at a;let b:=Kv T p (M p.nm) gV;rw [<-b];unfold dt;grind
 unfold qH;rw [LD e1,sum_neg,uf (fun (p:aA) (b:aL)=>T b.nm*dt (mv (cE b) p.nm) (M p.nm)) gV pX]
 let e2:∀b∈gV,(pX.map fun p=>T b.nm*dt (mv (cE b) p.nm) (M p.nm)).sum= -(T b.nm*dZ M b):=fun b hb=>by
  obtain ⟨m1,m2,m3⟩:=g.ends b hb;rw [lV (T b.nm) (fun p:aA=>dt (mv (cE b) p.nm) (M p.nm)) pX,Kr g.np b m1 m2 m3];grind
 rw [LD e2,sum_neg];grind
def zaC (g:dJ pX gV)(h:iB pX gV T U L)(mo:FL pX gV M)(w:qH pX L M=1):False:=by
 let e:=TJ g h mo.Qe
 have:(gV.map fun b=>T b.nm*dZ M b)=gV.map fun b=>0*T b.nm:=LD fun b hb=>by
  rw [mo.gV b hb];grind
 rw [this,lV 0 (fun b:aL=>T b.nm)] at e;grind
inductive xG (K:Frag)(vs:η)(H:Hp)(Q:VK)(E_:XK):Prop
|mk (l:AF)(us:η)(rs:Ι)(_:vs=[.ref l])(_:H l=some (.lst us))(_:Paired (dh K H) us rs)(_:us.length<=100)(_:∀(l':AF)(qF :η)(H':Hp),ao H H' ->H' l'=some (.lst qF)->Paired (dh K H') qF (rs.map fun r=> -r)->Q (.ref l') H')
def acn:av XN XN (ae Ma):=sq
def aco (D:Def K mg "signs_turned" Ma XN):ac P w K mg iT 1 "signs_turned" XN (xG K):=by
 refine D.oo acn fun H hr h=>?_;obtain ⟨l,us,rs,rfl,hl,pp,ln,q⟩:=h;let lu:=GJ pp;show ⟨_,(ag (aF (fe (tn:=["number"]) (fr:=[]) (oV:=[]) (bh (pv 0)) (aK (aE (mh iV (bg (dQ (K:=K) rfl) (pv 0) af)) (bg (dQ (K:=K) rfl) (pv 0) af)))))),_,rfl,l,rfl,⟨_,aR.of hl⟩,fun D1 n1=>?_⟩;refine fY (ph:=[]) (K:=K) (a:=l) (xs:=us) (fun i v H'=>∃r,rs[i]?=some r/\dh K H' v (-r)) n1 (FX ln dL) (fun H2 s2=>aR.of (s2 _ _ hl)) (fun i v H6 H7 ys e ks ⟨r,h1,h2⟩=>⟨r,h1,h2.aH (a9.ks e ks)⟩) ?_ ?_
 ·intro i u H2 R hu s2 k
  obtain ⟨r,er,hr⟩:=aG pp hu;obtain ⟨p,rfl,hq⟩:iY K H2 u (qr r):=hr.lh s2;show ⟨_,rfl,p,_,_,_,rfl,rfl,hq,iF,_,rfl,_,rfl,p,_,_,_,rfl,rfl,hq,gL,qU,?_⟩;intros p3 n3 H3 s3 e3;refine k _ _ s3 ⟨r,er,p3,rfl,?_⟩;rw [ET];exact bE.of e3
 ·intro ys H2 ly hy s2 hD
  refine q D1 ys H2 s2 hD (g9 (by rw [ly,lu,ir]) fun i v e=>?_);obtain ⟨r,er,hr⟩:=hy i v e;show ⟨-r,by rw [Wp,er];rfl,hr⟩
inductive kJ (K:Frag)(C:AF)(vs:η)(H:Hp)(Q:VK)(E_:XK):Prop
|mk (a dx pP pW pB d:AF)(ps:Θ)(bs:Α)(kP kW kB AA:γ)(_:vs=[.ref a,.ref d])(_:gX K H C a dx pP pW pB ps bs kP kW kB)(_:H d=some (.dK AA))(_:(∀kv∈AA,∃x∈bs.map (·.1),kv.1=.inr x))(_:bs.length<=60)(_:∀H',ao H H' ->Q .dc H')
def i0:av ["F","told","bars","bar"] ["F","told"] (ae d_):=sq
def zaD (D:Def K mg "check_bars" d_ ["F","told"])(MB:am P w K mg iT 1 C "bars" LH (jF K C)):ac P w K mg iT 2 "check_bars" ["F","told"] (kJ K C):=by
 refine D.oo i0 fun H hr h=>?_;obtain ⟨a,dx,pP,pW,pB,d,ps,bs,kP,kW,kB,AA,rfl,R,hd,hk,hl,q⟩:=h
 show ⟨_,(aa (aC 2 i0.nd (d9 (k:=1) (pv 0) hr.mo (JT P w))) (ag (jA (ba FF rfl (aeI (pv 1)) (bM 3 i0.nd) (ag (bF (wQ nO (pv 3) (pv 2) rfl) (ag (dm)) aX)))))),?_⟩
 show ⟨_,rfl,a,C,dx,_,_,_,rfl,R.obj,rfl,MB,a,dx,pP,pW,pB,ps,bs,kP,kW,kB,rfl,R,fun l H1 s1 nl el=>?_⟩;let P_:=s1 _ _ hd;show ⟨_,rfl,d,AA,rfl,P_,fun o=>?_⟩;let k0:bL d H1 (upd H1 d (.eQ o (.dK AA))):=fun b o' n e=>by rwa [aj n]
 let ld:l≠d:=fun z=>by erw [z,P_] at el
 refine let I:bn:=fun t Y H'=>∃(o2:ψ),Y=[ap a,ap d,ap l,o2]/\H'=upd H1 d (.eQ o (.dK AA));zP (d:=d) (o:=o) (AA:=AA) I ⟨none,rfl,rfl⟩ (fun t Y H' _ h=>by
   obtain ⟨_,_,rfl⟩:=h
   exact ah) ?_ ?_
 ·rintro t k y Y H6 tR ⟨o2,rfl,rfl⟩
  obtain ⟨x,hx,ex⟩:=hk _ (DW tR);have DI :k=.inr x:=ex;subst DI;show ⟨_,rfl,_,rfl,l,_,rfl,.inl (aR.of (by rwa [aj ld])),rfl,we _,_,rfl,bG (fun c=>?_) (fun _=>⟨_,rfl,rfl⟩)⟩;let c':(!Zn (.str x) ((bs.map (·.1)).map V.str))=true:=c;erw [tw,La hx] at c'
 ·rintro Y H6 ⟨o2,rfl,rfl⟩
  show ⟨d,o,AA,ah,fun o' u' z=>(by have z':H d=some (.eQ o' u'):=z;erw [hd] at z'),q _ fun b o' e=>?_⟩;by_cases n:b=d
  ·subst n
   rw [hd] at e;rwa [ah]
  ·rw [aj n,aj n]
   exact s1 _ _ e
theorem qh :∀{qT:List Z} {qS:List β} {a:Z} {b:β},Paired F qT qS->F a b->Paired F (qT++[a]) (qS++[b])
 | _,_,_,_,.nil,h=>.cons h .nil
 | _,_,_,_,.cons h t,h'=>.cons h (qh t h')
def fS (G:ω)(x:Str):Int×Int:=(G x).getD (1,1)
def fi (G:ω)(x:Str):Int×Int:=(G x).getD (0,1)
inductive jJ (K:Frag)(C:AF)(vs:η)(H:Hp)(Q:VK)(E_:XK):Prop
|mk (a dx pP pW pB d:AF)(ps:Θ)(bs:Α)(kP kW kB AA:γ)(G:ω)(_:vs=[.ref a,.ref d])(_:gX K H C a dx pP pW pB ps bs kP kW kB)(_:H d=some (.dK AA))(_:yR K H AA G)(_:(∀kv∈AA,∃x∈bs.map (·.1),kv.1=.inr x))(_:bs.length<=60)(_:(bs.map (·.1)).Nodup)(_:(∀x,0<(fS G x).1))(_:∀(e:AF)(lZ :γ)(H':Hp),ao H H' ->H e=none->H' e=some (.dK lZ)->Paired (fun (kv:Key×V) x=>kv.1=.inr x/\iY K H' kv.2 (fS G x)) lZ (bs.map (·.1))->Q (.ref e) H')
def gQ:av ["F","grips","firm","bar","grip"] XY (ae fw):=sq
def ako (hO:∀H:Hp,bE K H aO [.int 1,.int 1])(Yk:mg "ONE"=some (.ref aO))(D:Def K mg "all_grips" fw XY)(MB:am P w K mg iT 1 C "bars" LH (jF K C))
  (xI:ac P w K mg iT 2 "check_bars" ["F","told"] (kJ K C)):ac P w K mg iT 3 "all_grips" XY (jJ K C):=by
 refine D.oo gQ fun H hr h=>?_;obtain ⟨a,dx,pP,pW,pB,d,ps,bs,kP,kW,kB,AA,G,rfl,R,hd,hG,hk,hl,nd,hp,q⟩:=h
 show ⟨_,(aa (b_ (aJ xI hr (aE (pv 0) (pv 1)))) (aa (aC 2 gQ.nd dw) (aa (ba FF rfl (bh (d9 (k:=1) (pv 0) hr.mo (JT P w))) (bM 3 gQ.nd) (aa (aC 4 gQ.nd (gm (bQ hr) (pv 1) (pv 3) (d5 (v:=.ref aO) rfl Yk rfl) ⟨rfl,rfl,rfl,rfl⟩)) (aa (bF (bO Oi (ay (pv 4)) af) (ag (dm)) aX) (ag (dC (bQ hr) (pv 2) (pv 3) (pv 4) rfl))))) (ag (aF (pv 2)))))),?_⟩;sleep 3
 show ⟨_,rfl,_,rfl,a,dx,pP,pW,pB,d,ps,bs,kP,kW,kB,AA,rfl,R,hd,hk,hl,fun H1 s1=>?_⟩;intro e ne;let s2:=aD ne (.dK []);let pU:ao H (upd H1 e (.dK [])):=fun b o z=>s2 _ _ (s1 _ _ z);let R2:=R.lh pU;let e2:(upd H1 e (.dK [])) e=some (.dK []):=ah
 let ne':H e=none:=by
  cases z:H e with
  | none=>rfl
  | some o=>erw [s1 _ _ z] at ne
 generalize upd H1 e (.dK [])=H2 at pU R2 e2 ⊢;show ⟨_,rfl,a,C,dx,_,_,_,rfl,R2.obj,rfl,MB,a,dx,pP,pW,pB,ps,bs,kP,kW,kB,rfl,R2,fun l H3 s3 nl el=>?_⟩
 show ⟨l,rfl,⟨_,aR.of el⟩,let I:bn:=fun i Y H'=>JS fun (o3 o4:ψ) (vm :γ)=>Y=[ap a,ap d,ap e,o3,o4]/\ao H H'/\H' l=some (.lst ((bs.map (·.1)).map V.str))/\H' e=some (.dK vm)/\Paired (fun (kv:Key×V) x=>kv.1=.inr x/\iY K H' kv.2 (fS G x)) vm ((bs.map (·.1)).take i);bP (K:=K) (a:=l) (xs:=(bs.map (·.1)).map V.str) I ⟨none,none,[],rfl,fun b o z=>s3 _ _ (pU _ _ z),el,s3 _ _ e2,.nil⟩ (fun i Y H' _ h=>by
   obtain ⟨_,_,_,_,_,h,_⟩:=h
   exact aR.of h) ?_ ?_⟩
 ·rintro i z Y H4 hi ⟨o3,o4,vm,rfl,s4,l4,e4,Zz⟩
  let ai8:=GJ Zz;rw [FU,ir] at ai8;rw [Wp] at hi;obtain ⟨x,ex,rfl⟩:=LA.mp hi;let hil:i<(bs.map (·.1)).length:=(be.mp ex).1;rw [ir] at hil;let hx:x∈bs.map (·.1):=DW ex;let d4:=s4 _ _ hd;let G4:=hG.lh s4;let O4:iY K H4 (.ref aO) (1,1):=⟨aO,rfl,hO H4⟩;let g4:=G4.zR (x:=x) O4;show ⟨_,rfl,d,rfl,.inl ⟨_,.inl d4⟩,_,rfl,_,cW.k (k:=.inr x) d4,?_⟩;obtain ⟨p,ep,hp4⟩:=id g4;rw [ep];show ⟨_,rfl,p,_,_,_,rfl,rfl,hp4,iF,_,_,rfl,rfl,_,rfl,?_⟩;let pos:0<((G x).getD (1,1)).1:=hp x;refine bG (fun c=>DZ (Lc c) ce) (fun _=>?_);show ⟨_,rfl,_,rfl,_,rfl,e,_,rfl,je.k (k:=.inr x) e4 (FX (show vm.length<=1000 by omega) dL),?_⟩
  let fresh:(EX x:Key)∉vm.map (·.1):=fun z=>by
   obtain ⟨kv,O3,tR⟩:=AY.mp z;obtain ⟨j,ej⟩:=FZ O3;obtain ⟨y,ey,e1,_⟩:=aG Zz ej;rw [e1] at tR;let ex2:y=x:=Lr tR;rw [ex2] at ey
   let hj:j<i:=by
    have:=(be.mp ey).1;rw [FU] at this;omega
   rw [SQ hj] at ey;have:=(Ta (by have:=(be.mp ey).1;exact this) nd).mp (ey.trans ex.symm);omega
  show ⟨_,_,_,rfl,fun b o z=>?_,?_,ah,?_⟩
  ·rw [aj (ak z ne')]
   exact s4 _ _ z
  ·rw [aj (fun z=>by erw [z,e4] at l4)]
   exact l4
  ·rw [dI _ (bW fresh),Ot,ex]
   let t4:a9 H4 (upd H4 e (.dK (vm ++[(.inr x,.ref p)]))):=.dict e4;refine qh (Paired.cV Zz fun _ _ z=>⟨z.1,z.2.aH t4⟩) ⟨rfl,?_⟩;exact (show iY K H4 (.ref p) (fS G x) from (by rwa [<-ep])).aH t4
 ·rintro Y H4 ⟨o3,o4,vm,rfl,s4,l4,e4,Zz⟩
  rw [PZ ga] at Zz;show ⟨_,rfl,q e vm H4 s4 ne' e4 Zz⟩
def TK (M:θ)(b:aL):Rat:=abL (jm b.one b.lj) ((mv M b.lj.nm).1-(mv M b.one.nm).1,(mv M b.lj.nm).2-(mv M b.one.nm).2)
inductive Qg (K:Frag)(C:AF)(vs:η)(H:Hp)(Q:VK)(E_:XK):Prop
|mk (a d:AF)(pX:ν)(gV:τ)(AA:γ)(M:θ)(_:vs=[.ref a,.ref d])(_:xp K H C a pX gV)(_:dJ pX gV)(_:H d=some (.dK AA))(_:Pe K H AA M)(_:(∀x,Sz 1800000 (mv M x).1/\Sz 1800000 (mv M x).2))(_:∀(e:AF)(lZ :γ)(H':Hp),ao H H' ->H e=none->H' e=some (.dK lZ)->lZ.map (·.1)=gV.map (fun b=>(EX b.nm:Key))->(∀b∈gV,∃v,bI lZ (.inr b.nm)=some v/\dh K H' v (TK M b))->Q (.ref e) H')
def dN:av ["F","motion","longer","bar","two","apart"] uJ (ae dy):=sq
def zao (hM:∀H:Hp,i8 K H (.ref aM) (0,0))(FH:mg "NO_MOVE"=some (.ref aM))(D:Def K mg "lengthenings" dy uJ)(MB:am P w K mg iT 1 C "bars" LH (jF K C))(ME:am P w K mg iT 1 C "ends" Xc (tZ K C))
  (Tz:ac P w K mg iT 36 "arm_between" Pf (J' K C)) (Ya:ac P w K mg iT 35 "pair_difference" EN (xA K fun a b=>a-b)) (ug:ac P w K mg iT 35 "pair_product" EN (P5 K)):
  ac P w K mg iT 37 "lengthenings" uJ (Qg K C):=by
 refine D.oo dN fun H hr h=>?_;obtain ⟨a,d,pX,gV,AA,M,rfl,R,g,hd,hP,zM,q⟩:=h
 show ⟨_,(aa (aC 2 dN.nd dw) (aa (ba FF rfl (bh (d9 (k:=1) (pv 0) hr.mo (JT P w))) (bM 3 dN.nd) (aa (aC 4 dN.nd (fO (k:=1) (pv 0) hr.mo (JT P w) (aZ (pv 3)))) (aa (aC 5 dN.nd (aJ Ya hr (aE (gm (bQ hr) (pv 1) (ay (pv 4)) (d5 (v:=.ref aM) rfl FH rfl) ⟨rfl,rfl,rfl,rfl⟩) (gm (bQ hr) (pv 1) (ay (pv 4)) (d5 (v:=.ref aM) rfl FH rfl) ⟨rfl,rfl,rfl,rfl⟩)))) (ag (dC (bQ hr) (pv 2) (pv 3) (aJ ug hr (aE (aJ Tz hr (bU (pv 0) (ay (pv 4)) (ay (pv 4)))) (pv 5))) rfl))))) (ag (aF (pv 2))))),?_⟩;sleep 2
 intro e ne;let s1:=aD ne (.dK []);let e1:(upd H e (.dK [])) e=some (.dK []):=ah;generalize upd H e (.dK [])=H1 at s1 e1 ⊢;let R1:=R.lh s1;obtain ⟨dx,pP,pW,pB,kP,kW,kB,F1,W1⟩:=R1.ex;show ⟨_,rfl,a,C,dx,_,_,_,rfl,F1.obj,rfl,MB,a,dx,pP,pW,pB,_,_,kP,kW,kB,rfl,F1,fun l H2 s2 nl el=>?_⟩;let TL:((gV.map fun b=>(b.nm,b.one.nm,b.lj.nm)).map (·.1))=gV.map (·.nm):=by rw [EB];rfl
 rw [TL] at el
 show ⟨l,rfl,⟨_,aR.of el⟩,let I:bn:=fun i Y H'=>LX fun (o3 o4 o5:ψ) (vm :γ)=>Y=[ap a,ap d,ap e,o3,o4,o5]/\ao H H'/\H' l=some (.lst ((gV.map (·.nm)).map V.str))/\H' e=some (.dK vm)/\vm.map (·.1)=(gV.take i).map (fun b=>(EX b.nm:Key))/\ ∀b∈gV.take i,∃v,bI vm (.inr b.nm)=some v/\dh K H' v (TK M b);bP (K:=K) (a:=l) (xs:=(gV.map (·.nm)).map V.str) I ⟨none,none,none,[],rfl,fun b o z=>s2 _ _ (s1 _ _ z),el,s2 _ _ e1,rfl,fun b hb=>by simp at hb⟩ (fun i Y H' _ h=>by
   obtain ⟨_,_,_,_,_,_,h,_⟩:=h
   exact aR.of h) ?_ ?_⟩
 ·rintro i z Y H4 hi ⟨o3,o4,o5,vm,rfl,s4,l4,e4,ks,tl⟩
  rw [Wp,Wp] at hi;obtain ⟨x,hx,rfl⟩:=LA.mp hi;obtain ⟨b,hb,rfl⟩:=LA.mp hx;let il:i<gV.length:=(be.mp hb).1;let mb:b∈gV:=DW hb;obtain ⟨m1,m2,m3⟩:=g.ends b mb;let R4:=R.lh s4;obtain ⟨dx,pP,pW,pB,kP,kW,kB,F4,W4⟩:=R4.ex;show ⟨_,rfl,a,C,dx,_,_,_,rfl,F4.obj,rfl,ME,_,rfl,a,dx,pP,pW,pB,_,_,kP,kW,kB,b.nm,b.one.nm,b.lj.nm,rfl,F4,V_ g.nb,AY.mpr ⟨b,mb,rfl⟩,fun p rd=>?_⟩;let tp:bE K H4 p [.str b.one.nm,.str b.lj.nm]:=.inl rd;let d4:=s4 _ _ hd;let P4:=hP.lh s4;show ⟨_,rfl,d,rfl,.inl ⟨_,.inl d4⟩,_,rfl,p,_,_,_,rfl,rfl,tp,gL,_,cW.k (k:=.inr b.lj.nm) d4,_,rfl,d,rfl,.inl ⟨_,.inl d4⟩,_,rfl,p,_,_,_,rfl,rfl,tp,iF,_,cW.k (k:=.inr b.one.nm) d4,?_⟩;let g1:i8 K H4 ((bI AA (.inr b.lj.nm)).getD (.ref aM)) (mv M b.lj.nm):=P4.zR (hM H4);let g2:i8 K H4 ((bI AA (.inr b.one.nm)).getD (.ref aM)) (mv M b.one.nm):=P4.zR (hM H4);generalize (bI AA (.inr b.lj.nm)).getD (.ref aM)=v1 at g1 ⊢;generalize (bI AA (.inr b.one.nm)).getD (.ref aM)=v2 at g2 ⊢;let z1:=zM b.lj.nm;let z2:=zM b.one.nm;show ⟨v1,v2,_,_,rfl,g1,g2,z1.1.up dL,z1.2.up dL,z2.1.up dL,z2.2.up dL,fun v3 H5 s5 h5=>?_⟩;let R5:=R4.lh s5;let tp5:=Ty.ao.bZ s5 tp;show ⟨_,rfl,_,rfl,p,_,_,_,rfl,rfl,tp5,iF,_,rfl,p,_,_,_,rfl,rfl,tp5,gL,a,pX,gV,b.one,b.lj,rfl,R5,g,m1,m2,fun v6 H6 s6 h6=>?_⟩;let y1:=g.sz _ m1;let y2:=g.sz _ m2;show ⟨_,rfl,v6,v3,_,_,rfl,h6,h5.lh s6,(y2.1.sub y1.1).up dL,(y2.2.1.sub y1.2.1).up dL,(z1.1.sub z2.1).up dL,(z1.2.sub z2.2).up dL,fun c7 H7 s7 h7=>?_⟩;let e7:=s7 _ _ (s6 _ _ (s5 _ _ e4))
  let lk:vm.length<=26:=by
   let z:=pj Oq ks;rw [ir,ir,FU] at z;have:=g.lb;omega
  show ⟨_,rfl,_,rfl,e,_,rfl,je.k (k:=.inr b.nm) e7 (FX (show vm.length<=1000 by omega) dL),?_⟩
  let fresh:(EX b.nm:Key)∉vm.map (·.1):=by
   rw [ks];intro z;obtain ⟨b',fZ,XZ⟩:=AY.mp z;let en:b'.nm=b.nm:=Lr XZ;obtain ⟨j,hj,ej⟩:=Ug.mp fZ;rw [AW] at ej;rw [FU] at hj;let q1:(gV.map (·.nm))[j]?=some b.nm:=by rw [Wp,gE ce,ej];show some b'.nm=_;rw [en]
   let q2:(gV.map (·.nm))[i]?=some b.nm:=by rw [Wp,hb];rfl
   have:=(Ta (by rw [ir];omega) g.nb).mp (q1.trans q2.symm);omega
  let pk:putK vm (.inr b.nm) (.ref c7)=vm ++[(.inr b.nm,.ref c7)]:=dI _ (bW fresh);let t7:a9 H7 (upd H7 e (.dK (putK vm (.inr b.nm) (.ref c7)))):=.dict e7;let s47:ao H4 H7:=fun b o z=>s7 _ _ (s6 _ _ (s5 _ _ z));let tk:gV.take (i+1)=gV.take i++[b]:=by rw [Ot,hb];rfl
  show ⟨_,_,_,_,rfl,fun c o z=>?_,?_,ah,?_,fun b' fZ =>?_⟩
  ·rw [aj (ak z ne)]
   exact s47 _ _ (s4 _ _ z)
  ·rw [aj (fun z=>by erw [z,e4] at l4)]
   exact s47 _ _ l4
  ·rw [pk,GV,ks,tk,GV]
   rfl
  ·rw [kr]
   by_cases c:b'.nm=b.nm
   ·rw [ox (by rw [c])]
    show ⟨.ref c7,rfl,?_⟩
    let eb:b'=b:=by
     obtain ⟨j,hj,ej⟩:=Ug.mp fZ;rw [AW] at ej;rw [FU] at hj;let q1:(gV.map (·.nm))[j]?=some b.nm:=by rw [Wp,gE ce,ej];show some b'.nm=_;rw [c]
     let q2:(gV.map (·.nm))[i]?=some b.nm:=by rw [Wp,hb];rfl
     let ji:=(Ta (by rw [ir];omega) g.nb).mp (q1.trans q2.symm);subst ji;rw [gE il] at hb;rw [<-ej];exact GU hb
    rw [eb];exact dh.aH ⟨c7,rfl,bE.of h7⟩ t7
   ·rw [ni (fun z=>c (Lr z))]
    rw [tk,FR] at fZ
    rcases fZ with fZ|fZ
    ·obtain ⟨v,h1,h2⟩:=tl b' fZ
     show ⟨v,h1,(h2.lh s47).aH t7⟩
    ·rw [GQ] at fZ
     exact DZ (by rw [fZ]) c
 ·rintro Y H4 ⟨o3,o4,o5,vm,rfl,s4,l4,e4,ks,tl⟩
  rw [ir,ir,Lq] at ks tl;show ⟨_,rfl,q e vm H4 s4 ne e4 ks tl⟩
def gK (pX:ν)(b:aL)(i:Nat):Rat:=vl ((cC (cE b) pX).getD i (0,1))
def yT (pX:ν)(gbs:List (Rat×aL))(i j:Nat):Rat:=(gbs.map fun x=>x.1*gK pX x.2 i*gK pX x.2 j).sum
def aiq (pX:ν)(l:List (Rat×aL))(x:Rat×aL)(i j:Nat):yT pX (l++[x]) i j=yT pX l i j+x.1*gK pX x.2 i*gK pX x.2 j:=by
 unfold yT;rw [GV,Xw,DV,LP,GN,Nc,Ua]
def ai5 (h:∀x,Sz k (mv F x).1/\Sz k (mv F x).2)(pX:ν):∀q∈cC F pX,∃r,q=qr r/\Sz k r:=fun q hq=>by
 unfold cC at hq;obtain ⟨p,_,hq⟩:=Qy.mp hq
 rcases LN.mp hq with e|hq
 ·show ⟨_,e,(h p.nm).1⟩
 ·show ⟨_,GQ.mp hq,(h p.nm).2⟩
def FP (g:dJ pX gV)(hb:b∈gV)(hi:i<2*pX.length):(cC (cE b) pX)[i]?=some (qr (gK pX b i))/\Sz 58 (gK pX b i):=by
 let hl:i<(cC (cE b) pX).length:=by rwa [cT]
 let e:=gE hl;obtain ⟨r,er,z⟩:=ai5 (FO g hb) pX _ (SK hl)
 have:gK pX b i=r:=by
  unfold gK;rw [LW,e,Option.getD_some,er,dY]
 rw [this,e,er];show ⟨rfl,z⟩
theorem FQ (hi:i<N)(hj:j<N):∀{l:List (Rat×aL)},(∀x∈l,Sz 31 x.1/\∀i,i<N->Sz 58 (gK pX x.2 i))->Sz (148*l.length+1) (yT pX l i j)
 | [],_=>eJ dL
 | x::l,h=>by
  let z:=h x GG;let ih:=FQ hi hj (l:=l) fun y hy=>h y (F' _ hy);have:=((z.1.mul (z.2 i hi)).mul (z.2 j hj)).add ih;show Sz _ (((x::l).map fun x=>x.1*gK pX x.2 i*gK pX x.2 j).sum);rw [DV,GN];exact this.up (by rw [Lw];omega)
structure Mx (K:Frag)(H:Hp)(r:AF)(ls:χ)(N:Nat)(f:Nat->Nat->Rat):Prop where
 hr:H r=some (.lst (ls.map V.ref))
 ln:ls.length=N
 nd:ls.Nodup
 row:∀i l,ls[i]?=some l->∃vs,H l=some (.lst vs)/\vs.length=N/\∀j v,vs[j]?=some v->dh K H v (f i j)
 nr:r∉ls
section
variable {H H':Hp}{r:AF}{ls:χ}{N:Nat}{f:Nat->Nat->Rat}
theorem Mx.lh (h:Mx K H r ls N f)(s:ao H H'):Mx K H' r ls N f:=⟨s _ _ h.hr,h.ln,h.nd,fun i l e=>by
 obtain ⟨vs,h1,h2,h3⟩:=h.row i l e
 show ⟨vs,s _ _ h1,h2,fun j v ev=>(h3 j v ev).lh s⟩,h.nr⟩
def Mx.put (h:Mx K H r ls N f)(ei:ls[i]?=some l)(el:H l=some (.lst vs))(hv:dh K H v x):Mx K (upd H l (.lst (vs.set j v))) r ls N (fun a b=>if a=i/\b=j then x else f a b):=by
 let t:a9 H (upd H l (.lst (vs.set j v))):=a9.ks el bL.upd;show ⟨?_,h.ln,h.nd,fun a l' e=>?_,h.nr⟩
 ·rw [aj (fun z:r=l=>h.nr (by rw [z];exact DW ei))]
  exact h.hr
 ·obtain ⟨ws,h1,h2,h3⟩:=h.row a l' e
  by_cases c:l'=l
  ·subst c
   erw [el] at h1;let ea:a=i:=dS h.nd e ei;subst ea;show ⟨_,ah,by rwa [Sv],fun b u eu=>?_⟩;rw [Pp] at eu;by_cases cb:j=b
   ·rw [ox cb] at eu
    rw [ox ⟨rfl,cb.symm⟩];split at eu
    ·cases eu
     exact hv.aH t
    ·cases eu
   ·rw [ni cb] at eu
    rw [ni (fun z=>cb z.2.symm)];exact (h3 b u eu).aH t
  ·show ⟨ws,by rwa [aj c],h2,fun b u eu=>?_⟩
   rw [ni (fun z=>c ?_)]
   ·exact (h3 b u eu).aH t
   ·rw [z.1,ei] at e
    exact (GU e).symm
end
def aa4 :i∈(FG N).filter p ↔ i<N/\p i=true:=by rw [QO,OW]
def kK {Z:Type}{A:List Z}{x i:Z}(e:A[c]?=some x):i∈A.take (c+1) ↔ i∈A.take c\/i=x:=by
 rw [Ot,e,FR];show _\/i∈[x] ↔ _;rw [GQ]
def Kw {Z:Type}{A:List Z}(nd:A.Nodup){x:Z}(e:A[c]?=some x):x∉A.take c:=fun z=>by
 obtain ⟨j,ej⟩:=FZ z
 let hj:j<c:=by
  have:=(be.mp ej).1;rw [FU] at this;omega
 rw [SQ hj] at ej;have:=dS nd ej e;omega
def Wc (h:j<n):EE n (j:Int)=some j:=by
 unfold EE;rw [ox ce,ox ce];simp
def ajL (r:Rat):(!cO [.v (.int (qr r).1),.v (.int (qr r).2)] [.v (.int 0),.v (.int 1)])=decide (r≠0):=by
 by_cases c:r=0
 ·rw [c,jk]
  simp [cO,iH,nK]
 ·have:(qr r).1≠0:=fun z=>c (rN z)
  simp [cO,iH,nK,c,this]
inductive xJ (K:Frag)(C:AF)(vs:η)(H:Hp)(Q:VK)(E_:XK):Prop
|mk (a d bR:AF)(pX:ν)(gV:τ)(AA:γ)(gs:Ι)(lsB:χ)(_:vs=[.ref a,.ref d,.ref bR])(_:xp K H C a pX gV)(_:dJ pX gV)(_:gV.length<=26)(_:H d=some (.dK AA))(_:Paired (fun (kv:Key×V) r=>dh K H kv.2 r) AA gs)(_:gs.length=gV.length)(_:(∀r∈gs,Sz 31 r))(_:H bR=some (.lst (lsB.map V.ref)))(_:lsB.length=gV.length)(_:(∀(i:Nat)(l:AF)(b:aL),lsB[i]?=some l->gV[i]?=some b->∃us,H l=some (.lst us)/\cP K H us (cC (cE b) pX)))(_:∀(r:AF)(ls:χ)(f:Nat->Nat->Rat)(H':Hp),ao H H' ->H r=none->(∀l∈ls,H l=none)->Mx K H' r ls (2*pX.length) f->(∀i j,i<2*pX.length->j<2*pX.length->f i j=yT pX (gs.zip gV) i j)->Q (.ref r) H')
def cu:av ["F","firm","bar_rows","many","rows","grip","row","acts","column","drawn","place"] vi (ae eh):=sq
def zaB (hN:∀H:Hp,bE K H aN [.int 0,.int 1])(kF:mg "NOUGHT"=some (.ref aN))(D:Def K mg "stiff_rows" eh vi)(a_:mg "len"=none)(aV:mg "range"=none)(gM:mg "zip"=none)(MP:am P w K mg iT 1 C "pins" LH (jG K C))(kI:ac P w K mg iT 34 "sum_of" EN (iZ K fun a b=>a+b))(cI:ac P w K mg iT 34 "product_of" EN (iZ K fun a b=>a*b)):
  ac P w K mg iT 35 "stiff_rows" vi (xJ K C):=by
 refine D.op cu fun f cF A mB s H vs Q E hr h=>?_;obtain ⟨a,d,bR,pX,gV,AA,gs,lsB,rfl,R,g,lb9,hd,pg,lg,zg,hB,lB,rB,q⟩:=h;let gl:=g.lp;let lk:AA.length=gs.length:=GJ pg;obtain ⟨dx,pP,pW,pB,kP,kW,kB,F1,W1⟩:=R.ex;let c2:nX 2 ((pX.length:Nat):Int):=⟨by decide+kernel,BJ (X0 ce ce) dL⟩
 show ⟨_,(aa (aC 3 cu.nd (aw bu af (aU aQ rfl a_ cS (aZ (d9 (k:=1) (pv 0) hr.mo (pY P w)))))) (aa (kE (i:=4) (tn:=["column"]) (fr:=["many"]) (oV:=[3]) cu.nd (bB rfl aV (aZ (pv 3))) (aw w4 (b9 (aZ (d5 (v:=.ref aN) rfl kF rfl))) (pv 1))) (aa (jA (ba FF rfl (aez rfl gM (pv 1) (aZ (pv 2))) (fL rfl (aY (bM 5 cu.nd) (aY (bM 6 cu.nd) df))) (aa (Pz (i:=7) (tn:=["column"]) (fr:=["row"]) (oV:=[6]) cu.nd (bB rfl aV (aZ (pv 3))) (fun _ _ _ _=>(gN (i:=0) (show (["column","row"]:List Str).Nodup from by decide+kernel) rfl (Pj rfl))) (fun _ _ _ _=>(akw (bO (aek (K:=K) rfl hr.units) (bg (gj (K:=K) rfl) (pv 1) (pv 0)) (d5 (v:=.ref aN) rfl kF rfl)))) (pv 0)) (ag (ba FF rfl (bh (pv 7)) (bM 8 cu.nd) (aa (aC 9 cu.nd (aJ cI hr (aE (pv 5) (bg aI (pv 6) (pv 8))))) (ag (ba FF rfl (bh (pv 7)) (bM 10 cu.nd) (ag (mD (aJ kI hr (aE (bg aI (bg aI (pv 4) (pv 8)) (pv 10)) (aJ cI hr (aE (pv 9) (bg aI (pv 6) (pv 10)))))) (rX (bg aI (pv 4) (pv 8)) (pv 10) set_list))))))))))) (ag (aF (pv 4)))))),?_⟩;sleep 3
 show ⟨_,rfl,a,C,dx,_,_,_,rfl,F1.obj,rfl,MP,a,dx,pP,pW,pB,_,_,kP,kW,kB,rfl,F1,fun lp H1 s1 NM yS=>?_⟩;rw [iP] at yS;show ⟨lp,_,rfl,.inl (aR.of yS),_,_,rfl,rfl,(by rwa [ir,ir]),?_⟩;let em:(2:Int)*((((pX.map (·.nm)).map V.str).length:Nat):Int)=((2*pX.length:Nat):Int):=by rw [ir,ir];omega
 rw [em];obtain ⟨N,eN⟩:∃N,N=2*pX.length:=⟨_,rfl⟩;rw [<-eN] at q ⊢;let aB':N<=18:=ce
 let big:(1000:Nat)<=AZ:=dL
 show ⟨_,rfl,(N:Int),rfl,ce,ce,fun r nr=>?_⟩;refine qE (n:=N) (ph:=[some (.int (N:Int))]) (fun ys H'=>∃ls:List AF,ys=ls.map V.ref/\ls.Nodup/\r∉ls/\∀l∈ls,H l=none/\H' l=some (.lst (GH N (.ref aN)))) nr ce ⟨[],rfl,ai9,by simp,fun l h=>by cases h⟩ ?_ ?_
 ·intro i ys H2 RR hi ly hJ s2 hD k
  obtain ⟨ls,rfl,nd,nf,hl⟩:=hJ;show ⟨z1L,?_⟩;intros l5 n5 H5 s5 e5;show ⟨_,rfl,l5,_,_,rfl,rfl,e5,ce,ce,(by simp;omega),?_⟩;intros l6 n6 H6 s6 e6;let Qi:(GH ((N:Nat):Int).toNat [V.ref aN]).flatten=GH N (V.ref aN):=by simp
  rw [Qi] at e6;let s26:=s5.trans s6;let D5:=s5 _ _ hD;refine k _ _ s26 ⟨ls++[l6],by simp,?_,?_,fun l hm=>?_⟩
  ·rw [ajE]
   show ⟨nd,by simp,fun a ha b hb z=>?_⟩;let h1:=(hl a ha).2;rw [z,GQ.mp hb] at h1;erw [s5 _ _ h1] at n6
  ·intro z
   rcases FR.mp z with z|z
   ·exact nf z
   ·rw [<-GQ.mp z,D5] at n6
    cases n6
  ·rcases FR.mp hm with z|z
   ·show ⟨(hl l z).1,?_⟩
    rw [aj (fun e:l=r=>nf (by rwa [<-e]))];exact s26 _ _ (hl l z).2
   ·let z:=GQ.mp z
    subst z;show ⟨(s1.trans (s2.trans s5)).free n6,?_⟩;rw [aj (fun e=>by erw [e,D5] at n6)];exact e6
 intro ys H3 ly hJ s3 hD;obtain ⟨ls,rfl,nd,nr',hl⟩:=hJ;let Nd:=s1.trans s3;let nr0:=s1.free nr
 let mx0:Mx K H3 r ls N (fun _ _=>0):=by
  show ⟨hD,by rw [<-ly,ir],nd,fun i l e=>⟨_,(hl l (DW e)).2,by rw [QC],fun j v ev=>?_⟩,nr'⟩;rw [S6] at ev;split at ev
  ·cases ev
   show ⟨aN,rfl,by rw [jk];exact hN _⟩
  ·cases ev
 let V4:=Nd _ _ hd;let hB3:=Nd _ _ hB;show ⟨_,rfl,d,rfl,⟨_,V4⟩,_,rfl,bR,AA,rfl,⟨_,aR.of hB3⟩,V4,fun o=>?_⟩;let ot:∀b o',b≠d->H3 b=some o' ->(upd H3 d (.eQ o (.dK AA))) b=some o':=fun b o' n e=>by rwa [aj n]
 let DM:(upd H3 d (.eQ o (.dK AA))) d=some (.eQ o (.dK AA)):=ah;generalize upd H3 d (.eQ o (.dK AA))=H4 at ot DM ⊢;let kO:∀b o',b≠d->H b=some o' ->H4 b=some o':=fun b o' n e=>ot b o' n (Nd _ _ e);let nl0:∀l∈ls,H l=none:=fun l hm=>(hl l hm).1;let dl:∀l∈ls,d≠l:=fun l hm z=>by erw [z,nl0 l hm] at hd
 let rd:r≠d:=fun z=>by erw [z,hd] at nr0
 let mx4:Mx K H4 r ls N (fun _ _=>0):=by
  let t:a9 H3 H4:=fun b xs e=>by
   rcases e with e|⟨o',e⟩
   ·exact .inl (ot _ _ (fun z=>by erw [z,V4] at e) e)
   ·exact .inr ⟨o',ot _ _ (fun z=>by erw [z,V4] at e) e⟩
  show ⟨ot _ _ rd mx0.hr,mx0.ln,mx0.nd,fun i l e=>?_,mx0.nr⟩;obtain ⟨vs,h1,h2,h3⟩:=mx0.row i l e;show ⟨vs,ot _ _ (FT (dl l (DW e))) h1,h2,fun j v ev=>(h3 j v ev).aH t⟩
 let tH:∀{H':Hp},(∀b o',b≠d->H b=some o' ->H' b=some o')->a9 H H':=fun {H'} k b xs e=>by
  rcases e with e|⟨o',e⟩
  ·exact .inl (k _ _ (fun z=>by erw [z,hd] at e) e)
  ·exact .inr ⟨o',k _ _ (fun z=>by erw [z,hd] at e) e⟩
 refine let I:bn:=fun t Y H'=>Ex7 fun (o5 o6 o7 o8 o9 Qj:ψ) (f:Nat->Nat->Rat)=>Y=[ap a,ap d,ap bR,some (.int (N:Int)),ap r,o5,o6,o7,o8,o9,Qj]/\(∀b o',b≠d->H b=some o' ->H' b=some o')/\H' d=some (.eQ o (.dK AA))/\Mx K H' r ls N f/\∀i j,i<N->j<N->f i j=yT pX ((gs.zip gV).take t) i j;agH (K:=K) (d:=d) (b:=bR) (o:=o) (AA:=AA) (ys:=lsB.map V.ref) I (by rw [ir];omega) ⟨none,none,none,none,none,none,fun _ _=>0,rfl,kO,DM,mx4,fun i j _ _=>rfl⟩ (fun i Y H' _ h=>by
   obtain ⟨_,_,_,_,_,_,_,_,k',d',_⟩:=h
   show ⟨d',aR.of (k' _ _ (fun z=>by erw [z,hd] at hB) hB)⟩) ?_ ?_
 ·rintro t k x y Y H5 p5 ek ey ⟨o5,o6,o7,o8,o9,Qj,f,rfl,kh,kd,mx,hf⟩ np
  let s5:=aD np (.tup [x,y]);let e5:(upd H5 p5 (.tup [x,y])) p5=some (.tup [x,y]):=ah;generalize upd H5 p5 (.tup [x,y])=H6 at s5 e5 ⊢
  let ht:t<gV.length:=by
   have:=(be.mp ek).1;omega
  obtain ⟨b,eb⟩:∃b,gV[t]?=some b:=⟨_,gE ht⟩;let mb:=DW eb;obtain ⟨g0,eg,ng⟩:=aG pg ek;rw [Wp] at ey;obtain ⟨l0,el0,rfl⟩:=LA.mp ey;obtain ⟨us,hl0,nus⟩:=rB t l0 b el0 eb;let ln0:us.length=N:=by rw [nus.1,cT,eN]
  let Yl:l0≠d:=fun z=>by erw [z,hd] at hl0
  let kh6:∀b o',b≠d->H b=some o' ->H6 b=some o':=fun b o' n e=>s5 _ _ (kh b o' n e);let rat:∀i,i<N->(cC (cE b) pX)[i]?=some (qr (gK pX b i))/\Sz 58 (gK pX b i):=fun i hi=>FP g mb ce
  let num:∀{H':Hp},(∀b o',b≠d->H b=some o' ->H' b=some o')->∀i,i<N->∃u,us[i]?=some u/\dh K H' u (gK pX b i):=fun {H'} kk i hi=>by
   let e:=gE (show i<us.length by omega);show ⟨_,e,(nus.2 i _ _ e (rat i hi).1).aH (tH kk)⟩
  let ngg:∀{H':Hp},(∀b o',b≠d->H b=some o' ->H' b=some o')->dh K H' x g0:=fun {H'} kk=>ng.aH (tH kk);let zg0:=zg g0 (DW eg);let gbt:(gs.zip gV)[t]?=some (g0,b):=by rw [ag9];show ⟨eg,eb⟩
  let zS:∀i j,i<N->j<N->Sz 8000000 (yT pX ((gs.zip gV).take t) i j):=fun i j hi hj=>(FQ hi hj fun z hz=>by
   obtain ⟨n,en⟩:=FZ (YH hz);rw [ag9] at en
   show ⟨zg _ (DW en.1),fun i hi=>(FP g (DW en.2) ce).2⟩).up (by rw [FU];omega)
  show ⟨p5,_,rfl,bE.of e5,rfl,_,_,rfl,_,_,rfl,rfl,_,rfl,(N:Int),rfl,ce,ce,fun lF nF=>?_⟩;refine adv (n:=N) (ph:=[some (.ref l0)]) (fun i=>decide (gK pX b i≠0)) nF ce (fun i H7 RR hi s7 kk=>?_) (fun i H7 RR rr=>⟨_,rfl,rr⟩) fun H7 s7 eF=>?_
  ·let k7:∀b o',b≠d->H b=some o' ->H7 b=some o':=fun b o' n e=>s7 _ _ (kh6 b o' n e)
   obtain ⟨u,eu,nu⟩:=num k7 i hi;show ⟨_,rfl,_,rfl,l0,us,(i:Int),u,rfl,rfl,aR.of (k7 _ _ Yl hl0),bq eu,_,_,.inl ⟨lK (q:=qr (gK pX b i)) nu,lK (q:=(0,1)) ⟨aN,rfl,hN _⟩⟩,rfl,ag0,_,rfl,?_⟩;rw [ajL];exact kk _ (ao.refl _)
  let k7:∀b o',b≠d->H b=some o' ->H7 b=some o':=fun b o' n e=>s7 _ _ (kh6 b o' n e);let mx7:=mx.lh (s5.trans s7);let d7:=s7 _ _ (s5 _ _ kd);obtain ⟨A,eA⟩:∃A,A=(FG N).filter fun i=>decide (gK pX b i≠0):=⟨_,rfl⟩;rw [<-eA] at eF;let hA:∀i,i∈A ↔ i<N/\gK pX b i≠0:=fun i=>by rw [eA,aa4,decide_eq_true_iff]
  let ndA:A.Nodup:=by rw [eA];exact aiI.filter _
  let nFl:lF∉ls:=fun z=>by
   obtain ⟨n,en⟩:=FZ z;obtain ⟨vs,h1,_⟩:=mx.row n lF en;erw [s5 _ _ h1] at nF
  obtain ⟨X,eX'⟩:∃X:Nat->Nat->Rat,∀i j,X i j=g0*gK pX b i*gK pX b j:=⟨_,fun _ _=>rfl⟩;obtain ⟨S,eS⟩:∃S:Nat->Nat->Rat,∀i j,S i j=yT pX ((gs.zip gV).take t) i j:=⟨_,fun _ _=>rfl⟩
  let upk:∀{H':Hp} {l:AF} {ob:HO},l∈ls->(∀b o',b≠d->H b=some o' ->H' b=some o')->∀b o',b≠d->H b=some o' ->(upd H' l ob) b=some o':=fun {H' l ob} hm kk b o' n e=>by
   rw [aj (fun z=>by erw [z,nl0 l hm] at e)];exact kk b o' n e
  show ⟨_,rfl,lF,rfl,⟨_,aR.of eF⟩,let I:bn:=fun c Y H'=>LX fun (o8 o9 Qj:ψ) (f:Nat->Nat->Rat)=>Y=[ap a,ap d,ap bR,some (.int (N:Int)),ap r,some x,ap l0,ap lF,o8,o9,Qj]/\(∀b o',b≠d->H b=some o' ->H' b=some o')/\H' d=some (.eQ o (.dK AA))/\H' lF=some (.lst (A.map fun i:Nat=>V.int (i:Int)))/\Mx K H' r ls N f/\∀i j,i<N->j<N->f i j=S i j+if i∈A.take c then X i j else 0;bP (K:=K) (a:=lF) (xs:=A.map fun i:Nat=>V.int (i:Int)) I ⟨_,_,_,f,rfl,k7,d7,eF,mx7,fun i j hi hj=>by rw [hf i j hi hj,eS,ni ga,Ua]⟩ (fun c Y H' _ h=>by
    obtain ⟨_,_,_,_,_,_,_,h,_⟩:=h
    exact aR.of h) ?_ ?_⟩
  ·rintro c z Y H8 hz ⟨o8,o9,Qj,f1,rfl,k8,d8,eF8,mx8,hf8⟩
   rw [Wp] at hz;obtain ⟨col,ec,rfl⟩:=LA.mp hz;let Qk:=(hA col).mp (DW ec);obtain ⟨u,eu,nu⟩:=num k8 col Qk.1;let zc:=(rat col Qk.1).2;show ⟨_,rfl,_,rfl,_,rfl,l0,us,(col:Int),u,rfl,rfl,aR.of (k8 _ _ Yl hl0),bq eu,x,u,g0,gK pX b col,rfl,ngg k8,nu,zg0.up dL,zc.up dL,fun c9 H9 s9 e9=>?_⟩;let k9:∀b o',b≠d->H b=some o' ->H9 b=some o':=fun b o' n e=>s9 _ _ (k8 b o' n e);obtain ⟨lc,elc⟩:∃l,ls[col]?=some l:=⟨_,gE (by rw [mx.ln];exact Qk.1)⟩;let mlc:=DW elc
   show ⟨_,rfl,lF,rfl,⟨_,aR.of (s9 _ _ eF8)⟩,let I:bn:=fun e Y H'=>NK fun (Qj:ψ) (f:Nat->Nat->Rat)=>Y=[ap a,ap d,ap bR,some (.int (N:Int)),ap r,some x,ap l0,ap lF,some (.int (col:Int)),ap c9,Qj]/\(∀b o',b≠d->H b=some o' ->H' b=some o')/\H' d=some (.eQ o (.dK AA))/\H' lF=some (.lst (A.map fun i:Nat=>V.int (i:Int)))/\dh K H' (.ref c9) (g0*gK pX b col)/\Mx K H' r ls N f/\∀i j,i<N->j<N->f i j=S i j+if i∈A.take c\/(i=col/\j∈A.take e) then X i j else 0;bP (K:=K) (a:=lF) (xs:=A.map fun i:Nat=>V.int (i:Int)) I ⟨_,f1,rfl,k9,s9 _ _ d8,s9 _ _ eF8,⟨c9,rfl,bE.of e9⟩,mx8.lh s9,fun i j hi hj=>by rw [hf8 i j hi hj];simp⟩ (fun e Y H' _ h=>by
     obtain ⟨_,_,_,_,_,h,_⟩:=h
     exact aR.of h) ?_ ?_⟩
   ·rintro e z Y Rm hz ⟨Qj,f2,rfl,k10,d10,Ym,TN,Ql,Qm⟩
    rw [Wp] at hz;obtain ⟨pl,ep,rfl⟩:=LA.mp hz;let qY:=(hA pl).mp (DW ep);obtain ⟨u2,eu2,nu2⟩:=num k10 pl qY.1;let zp:=(rat pl qY.1).2;obtain ⟨vs,hv,lv,nv⟩:=Ql.row col lc elc;let ev:=gE (show pl<vs.length by rw [lv];exact qY.1);let nvp:=nv pl _ ev
    let fv:f2 col pl=S col pl:=by
     rw [Qm col pl Qk.1 qY.1,ni (fun z=>?_),Ua]
     rcases z with z|z
     ·exact Kw ndA ec z
     ·exact Kw ndA ep z.2
    let er:i7 (ls.map V.ref) (col:Int)=some (.ref lc):=bq (by rw [Wp,elc];rfl);show ⟨_,rfl,_,rfl,r,_,_,_,rfl,rfl,aR.of Ql.hr,er,_,rfl,lc,vs,(pl:Int),_,rfl,rfl,aR.of hv,bq ev,_,rfl,_,rfl,_,rfl,l0,us,(pl:Int),u2,rfl,rfl,aR.of (k10 _ _ Yl hl0),bq eu2,.ref c9,u2,_,gK pX b pl,rfl,TN,nu2,(zg0.mul zc).up dL,zp.up dL,fun c11 OJ DJ e11=>?_⟩;show ⟨vs[pl],.ref c11,f2 col pl,_,rfl,nvp.lh DJ,⟨c11,rfl,bE.of e11⟩,by rw [fv,eS];exact zS col pl Qk.1 qY.1,((zg0.mul zc).mul zp).up dL,fun c12 H12 pU e12=>?_⟩;let qI:=DJ.trans pU;let acw:=Ql.lh qI;show ⟨_,rfl,_,rfl,r,_,_,_,rfl,rfl,aR.of acw.hr,er,_,rfl,lc,vs,_,pl,rfl,rfl,qI _ _ hv,by rw [lv];exact Wc qY.1,?_⟩;let k12:∀b o',b≠d->H b=some o' ->H12 b=some o':=fun b o' n e=>qI _ _ (k10 b o' n e);let mxp:=acw.put (j:=pl) elc (qI _ _ hv) ⟨c12,rfl,bE.of e12⟩;show ⟨_,_,rfl,upk mlc k12,?_,?_,?_,mxp,fun i j hi hj=>?_⟩
    ·rw [aj (dl lc mlc)]
     exact qI _ _ d10
    ·rw [aj (fun z=>nFl (by rwa [z]))]
     exact qI _ _ Ym
    ·exact (TN.lh qI).aH (a9.ks (qI _ _ hv) bL.upd)
    ·by_cases cc:i=col/\j=pl
     ·rw [ox cc,fv,cc.1,cc.2,ox (.inr ⟨rfl,(kK ep).mpr (.inr rfl)⟩),eX']
     ·rw [ni cc,Qm i j hi hj]
      let eqv:(i∈A.take c\/(i=col/\j∈A.take (e+1))) ↔ (i∈A.take c\/(i=col/\j∈A.take e)):=by
       rw [kK ep];constructor
       ·rintro (h|⟨h1,h|h⟩)
        ·exact .inl h
        ·exact .inr ⟨h1,h⟩
        ·exact DZ ⟨h1,h⟩ cc
       ·rintro (h|⟨h1,h⟩)
        ·exact .inl h
        ·exact .inr ⟨h1,.inl h⟩
      simp only [eqv]
   ·rintro Y Rm ⟨Qj,f2,rfl,k10,d10,Ym,TN,Ql,Qm⟩
    rw [ir,Lq] at Qm;show ⟨_,_,_,f2,rfl,k10,d10,Ym,Ql,fun i j hi hj=>?_⟩;rw [Qm i j hi hj];by_cases c1:i∈A.take c
    ·rw [ox (.inl c1),ox ((kK ec).mpr (.inl c1))]
    ·by_cases c2:i=col
     ·rw [ox ((kK ec).mpr (.inr c2))]
      by_cases c3:j∈A
      ·rw [ox (.inr ⟨c2,c3⟩)]
      ·rw [ni (fun z=>z.elim c1 fun z=>c3 z.2)]
       have:gK pX b j=0:=TZ fun z=>c3 ((hA j).mpr ⟨hj,z⟩);rw [eX',this,Rat.mul_zero]
     ·rw [ni (fun z=>z.elim c1 fun z=>c2 z.1),ni (fun z=>((kK ec).mp z).elim c1 c2)]
  ·rintro Y H8 ⟨o8,o9,Qj,f1,rfl,k8,d8,eF8,mx8,hf8⟩
   rw [ir,Lq] at hf8;show ⟨_,_,_,_,_,_,f1,rfl,k8,d8,mx8,fun i j hi hj=>?_⟩;rw [hf8 i j hi hj,Ot,gbt];show _=yT pX (((gs.zip gV).take t)++[(g0,b)]) i j;rw [aiq,<-eS];show _=_+g0*gK pX b i*gK pX b j;rw [<-eX'];by_cases c1:i∈A
   ·rw [ox c1]
   ·rw [ni c1]
    have:gK pX b i=0:=TZ fun z=>c1 ((hA i).mpr ⟨hi,z⟩);rw [eX',this,Rat.mul_zero,Rat.zero_mul]
 ·rintro Y H5 ⟨o5,o6,o7,o8,o9,Qj,f,rfl,kh,kd,mx,hf⟩
  show ⟨d,o,AA,kd,fun o' u' z=>(by have z':H d=some (.eQ o' u'):=z;erw [hd] at z'),?_⟩;let ln5:(gs.zip gV).take AA.length=gs.zip gV:=PZ (by rw [ajY];omega);rw [ln5] at hf;show ⟨_,rfl,q r ls f _ (fun b o' e=>?_) nr0 nl0 ?_ hf⟩
  ·by_cases n:b=d
   ·subst n
    rw [hd] at e;rwa [ah]
   ·rw [aj n]
    exact kh b o' n e
  ·let t:a9 H5 (upd H5 d (.dK AA)):=fun b xs e=>by
    rcases e with e|⟨o',e⟩
    ·exact .inl (by rw [aj (fun z=>by erw [z,kd] at e)];exact e)
    ·exact .inr ⟨o',by rw [aj (fun z=>by erw [z,kd] at e)];exact e⟩
   show ⟨by rw [aj rd];exact mx.hr,mx.ln,mx.nd,fun i l e=>?_,mx.nr⟩;obtain ⟨vs,h1,h2,h3⟩:=mx.row i l e;show ⟨vs,by rwa [aj (FT (dl l (DW e)))],h2,fun j v ev=>(h3 j v ev).aH t⟩
def l_ (pX:ν):List (List (Int×Int)):=pX.flatMap fun p=>qd pX p
def dB (pX:ν):List (List (Int×Int)):=(l_ pX).map fun qs=>qs++GH (aT pX) (0,1)
def fJ (pX:ν)(gbs:List (Rat×aL)):List (List (Int×Int)):=(FG (2*pX.length)).map fun i=>((FG (2*pX.length)).map fun j=>qr (yT pX gbs i j))++((de (l_ pX) i).map vl).map fun r=>qr (-r)
def fT (pX:ν):(l_ pX).length=aT pX:=gy pX pX
def xK (h:cP K H us qs)(h':cP K H vs rs):cP K H (us++vs) (qs++rs):=by
 let l:=h.1;show ⟨by rw [EM,EM,l,h'.1],fun i u q e1 e2=>?_⟩;by_cases c:i<us.length
 ·rw [LR c] at e1
  rw [LR ce] at e2;exact h.2 i u q e1 e2
 ·rw [Lg ce] at e1 e2
  rw [l] at e1;exact h'.2 _ u q e1 e2
def ag3 {us:η}{rs:Ι}(h:Paired (dh K H) us rs):cP K H us (rs.map qr):=⟨by rw [ir];exact GJ h,fun i u q e1 e2=>by
 obtain ⟨r,er,hr⟩:=aG h e1;erw [Wp,er] at e2
 exact hr⟩
def afb (h:iA K H cg f9)(sh:Shape T B m f9)(hj:j<m):cP K H (qc cg j) (de f9 j):=by
 show ⟨by simp [qc,de,h.1],fun i u q e1 e2=>?_⟩;unfold qc at e1;unfold de at e2;rw [Wp] at e1 e2;obtain ⟨vs,ev,rfl⟩:=LA.mp e1;obtain ⟨qs,eq,rfl⟩:=LA.mp e2;let N:=h.2 i vs qs ev eq;let hl:=(sh qs (DW eq)).1;let lN:=N.1;refine N.2 j _ _ ?_ ?_
 ·rw [LW,gE ce];rfl
 ·rw [LW,gE ce];rfl
def ac_ (n:Nat)(h:iA K H cg f9):iA K H (cg.take n) (f9.take n):=⟨by rw [FU,FU,h.1],fun i vs qs e1 e2=>by
 let hi:i<n:=by
  have:=(be.mp e1).1;rw [FU] at this;omega
 rw [SQ hi] at e1 e2
 exact h.2 i vs qs e1 e2⟩
def wB (pX:ν)(gV:τ):(gx pX gV).take (aT pX)=l_ pX:=by
 unfold gx;rw [List.take_append_of_le_length (by rw [gy];exact D' _),PZ (by rw [gy];exact D' _)];rfl
inductive mT (K:Frag)(C:AF)(vs:η)(H:Hp)(Q:VK)(E_:XK):Prop
|mk (a d:AF)(pX:ν)(gV:τ)(AA:γ)(gs:Ι)(_:vs=[.ref a,.ref d])(_:xp K H C a pX gV)(_:dJ pX gV)(_:gV.length<=26)(_:H d=some (.dK AA))(_:Paired (fun (kv:Key×V) r=>dh K H kv.2 r) AA gs)(_:gs.length=gV.length)(_:(∀r∈gs,Sz 31 r))(_:∀(r:AF)(ls:χ)(cg:Ζ)(H':Hp),ao H H' ->iO K H' r ls cg (dB pX++fJ pX (gs.zip gV))->Q (.ref r) H')
def dF:av ["F","firm","drawn","ways","rows","stiff","row","column"] ["F","firm"] (ae fB):=sq
def akn (hN:∀H:Hp,bE K H aN [.int 0,.int 1])(kF:mg "NOUGHT"=some (.ref aN))(D:Def K mg "bend_rows" fB ["F","firm"])(a_:mg "len"=none)(gM:mg "zip"=none)(ajh:ac P w K mg iT 38 "draw_rows" ["F"] (mQ K C))(xN:ac P w K mg iT 35 "stiff_rows" vi (xJ K C))(X2:ac P w K mg iT 1 "turned" Xe oz)(aji:ac P w K mg iT 1 "signs_turned" XN (xG K)):
  ac P w K mg iT 39 "bend_rows" ["F","firm"] (mT K C):=by
 refine D.op dF fun f cF A mB s H vs Q E hr h=>?_;obtain ⟨a,d,pX,gV,AA,gs,rfl,R,g,lb9,hd,pg,lg,zg,q⟩:=h;let gl:=g.lp;let lk:AA.length=gs.length:=GJ pg;let wl:aT pX<=2*pX.length:=oE pX g.lw;let ql:(gx pX gV).length=aT pX+gV.length:=zam pX gV;let big:(1000:Nat)<=AZ:=dL
 show ⟨_,(aa (aC 2 dF.nd (aJ ajh hr (aZ (pv 0)))) (aa (aC 3 dF.nd (aw fh (aU aQ rfl a_ cS (aZ (pv 2))) (aU pO rfl a_ cS (aZ (pv 1))))) (aa (kE (i:=4) (tn:=["row"]) (fr:=["ways"]) (oV:=[3]) dF.nd (bh (bX dP (pv 2) cQ (cH (pv 3)))) (aw ie (pv 0) (aw w4 (b9 (aZ (d5 (v:=.ref aN) rfl kF rfl))) (pv 1)))) (aa (aC 5 dF.nd (aJ xN hr (bU (pv 0) (pv 1) (bX dP (pv 2) (cH (pv 3)) cQ)))) (aa (ba FF rfl (xi rfl gM (aE (pv 5) (aJ X2 hr (aE (bX dP (pv 2) cQ (cH (pv 3))) (aU aQ rfl a_ cS (aZ (pv 5))))))) (fL rfl (aY (bM 6 dF.nd) (aY (bM 7 dF.nd) df))) (ag (b_ (qw TF Ti Th ft (pv 4) (aZ (aw ie (pv 6) (aJ aji hr (aZ (pv 7))))))))) (ag (aF (pv 4)))))))),?_⟩;sleep 4
 show ⟨_,rfl,a,pX,gV,rfl,R,g,fun r0 NO vo H1 s1 nr0 RR=>?_⟩;let ll0:NO.length=aT pX+gV.length:=by rw [RR.jY.2.1,RR.num.1,ql]
 let lv0:vo.length=aT pX+gV.length:=by rw [RR.num.1,ql]
 show ⟨_,rfl,r0,_,rfl,.inl (aR.of RR.jY.1),_,rfl,d,AA,rfl,.inl (s1 _ _ hd),_,_,rfl,rfl,?_⟩;let em:(((NO.map V.ref).length:Nat):Int)-((AA.length:Nat):Int)=((aT pX:Nat):Int):=by rw [ir];omega
 rw [em];obtain ⟨W,eW⟩:∃W,W=aT pX:=⟨_,rfl⟩;rw [<-eW];let acx:gO (NO.map V.ref) none (some (W:Int))=(NO.take W).map V.ref:=by rw [lO (by rw [ir];omega),List.map_take]
 let ajj:gO (NO.map V.ref) (some (W:Int)) none=(NO.drop W).map V.ref:=by rw [g8 (by rw [ir];omega),List.map_drop]
 let rowAt:∀i l,NO[i]?=some l->∃us qs,(gx pX gV)[i]?=some qs/\vo[i]?=some us/\H1 l=some (.lst us)/\cP K H1 us qs:=fun i l e=>by
  let hi:=(be.mp e).1;let e1:=gE (show i<vo.length by omega);let e2:=gE (show i<(gx pX gV).length by omega);show ⟨_,_,e2,e1,RR.jY.2.2 i l _ e e1,RR.num.2 i _ _ e1 e2⟩
 show ⟨_,rfl,_,rfl,_,rfl,r0,_,rfl,aR.of RR.jY.1,?_⟩;rw [acx];intros lS nS HS sS eS;show ⟨lS,rfl,⟨_,aR.of eS⟩,fun rD nD=>?_⟩;refine tI (ph:=[some (.int (W:Int))]) (K:=K) (a:=lS) (xs:=(NO.take W).map V.ref) (fun ys H'=>∃(ls:χ)(cg:Ζ),ys=ls.map V.ref/\iO K H' rD ls cg ((dB pX).take ys.length)) nD (by rw [ir,FU];omega) (fun H2 s2=>aR.of (s2 _ _ eS)) ⟨[],[],rfl,⟨ah,rfl,fun i l vs e=>by simp at e⟩,⟨rfl,fun i vs qs e=>by simp at e⟩,by simp⟩ ?_ ?_
 ·intro i x ys H2 RQ hx ly hJ s2 hD k
  obtain ⟨ls,cg,rfl,RJ⟩:=hJ;rw [Wp] at hx;obtain ⟨l,el,rfl⟩:=LA.mp hx
  let hi:i<W:=by
   have:=(be.mp el).1;rw [FU] at this;omega
  rw [SQ hi] at el;obtain ⟨us,qs,eq,_,hl,nu⟩:=rowAt i l el;let pU:=sS.trans s2
  let lus:us.length<=20:=by
   have:=(mS g qs (DW eq)).1;rw [nu.1,this];omega
  show ⟨_,rfl,z1L,?_⟩;intros l5 n5 H5 s5 e5;show ⟨_,rfl,l5,_,_,rfl,rfl,e5,ce,ce,(by simp;omega),?_⟩;intros l6 n6 H6 s6 e6;let Qi:(GH ((W:Nat):Int).toNat [V.ref aN]).flatten=GH W (V.ref aN):=by simp
  rw [Qi] at e6;let P7:=pU.trans (s5.trans s6);show ⟨l,l6,_,_,rfl,rfl,P7 _ _ hl,e6,(by rw [QC];omega),?_⟩;intros l7 n7 H7 s7 e7;let s17:=P7.trans s7;let Qn:=s5.trans (s6.trans s7)
  let n0:cP K H7 (GH W (V.ref aN)) (GH W (0,1)):=⟨by simp,fun i u q e1 e2=>by
   rw [S6] at e1 e2;split at e1
   ·rename_i c
    rw [ox c] at e2;cases e1;cases e2;show ⟨aN,rfl,hN _⟩
   ·cases e1⟩
  let eA:(dB pX)[i]?=some (qs++GH W (0,1)):=by
   have:(l_ pX)[i]?=some qs:=by rwa [<-wB pX gV,SQ ce]
   unfold dB;rw [Wp,this,eW];rfl
  let hl7:l7≠rD:=fun z=>by erw [z,(s5.trans s6) _ _ hD] at n7
  refine k _ _ Qn ⟨ls++[l7],cg++[us++GH W (V.ref aN)],by simp,?_⟩;let ln:ls.length=i:=by rwa [ir] at ly
  have:=(RJ.lh Qn).push e7 hl7 (xK (nu.lh s17) n0);rw [EM,ir,ahB,ln,Ot,eA];rwa [ir,ln] at this
 intro ys H2 ly hJ s2 hD;obtain ⟨ls2,ajl,rfl,RJ⟩:=hJ;let lA:(dB pX).length=W:=by unfold dB;rw [ir,fT,eW]
 rw [ly,ir,FU,PZ ce] at RJ;let pU:=sS.trans s2;let qe:=s1.trans pU;show ⟨_,rfl,_,rfl,_,rfl,_,rfl,_,rfl,r0,_,rfl,aR.of (pU _ _ RR.jY.1),?_⟩;rw [ajj];intros lT nT HT sT eT;let s0T:=qe.trans sT;let s1T:=pU.trans sT;try dsimp only [gI];show ⟨a,d,lT,pX,gV,AA,gs,NO.drop W,rfl,R.lh s0T,g,lb9,s0T _ _ hd,Paired.cV pg fun _ _ z=>z.lh s0T,lg,zg,eT,by rw [SN];omega,fun i l b el eb=>?_,fun r1 ls1 f H4 s4 n4 nl4 mx hf=>?_⟩
 ·rw [List.getElem?_drop] at el
  obtain ⟨us,qs,eq,_,hl,nu⟩:=rowAt (W+i) l el
  have:(gx pX gV)[W+i]?=some (cC (cE b) pX):=by
   unfold gx;rw [Lg (by rw [gy,eW];exact Nat.le_add_right _ _),Wp,gy,show W+i-(pX.flatMap fun p=>p.ws).length=i by rw [eW];unfold aT;omega,eb];rfl
  erw [this] at eq;show ⟨us,s1T _ _ hl,nu.lh s1T⟩
 obtain ⟨N,eN⟩:∃N,N=2*pX.length:=⟨_,rfl⟩;rw [<-eN] at mx hf;let Ru:=s1T.trans s4;let Qo:=sT.trans s4;let MT:jW H4 r0 NO vo:=RR.jY.lh Ru;show ⟨_,rfl,_,rfl,_,rfl,_,rfl,r0,_,rfl,aR.of MT.1,?_⟩;rw [acx];intros lU nU H5 sU eU;show ⟨_,rfl,r1,_,rfl,.inl (aR.of (sU _ _ mx.hr)),?_⟩;show oz [_,_] _ _ E0;let lm:(((ls1.map V.ref).length:Nat):Int)=((N:Nat):Int):=by rw [ir,mx.ln]
 let s15:=Ru.trans sU
 let M5:jW H5 lU (NO.take W) (vo.take W):=⟨eU,by rw [FU,FU,ll0,lv0],fun i l vs e1 e2=>by
  let hi:i<W:=by
   have:=(be.mp e1).1;rw [FU] at this;omega
  rw [SQ hi] at e1 e2
  exact s15 _ _ (RR.jY.2.2 i l vs e1 e2)⟩
 let N1:iA K H1 (vo.take W) (l_ pX):=by
  have:=ac_ W RR.num;rw [eW,wB] at this;rw [eW];exact this
 let shW:Shape 58 58 N (l_ pX):=fun qs hq=>by
  rw [eN];exact mS g qs (by unfold gx;exact ON _ hq)
 show ⟨lU,NO.take W,vo.take W,((N:Nat):Int),pj (fun i:Int=>[V.ref lU,V.int i]) lm,M5,ce,ce,by rw [FU];omega,fun vs hv=>?_,fun c cs H6 s6 nc6 ajq M6=>?_⟩
 ·obtain ⟨i,ei⟩:=FZ hv
  let hi:=(be.mp ei).1;let e2:=gE (show i<(l_ pX).length by rwa [<-N1.1]);let h1:=(N1.2 i vs _ ei e2).1;rw [h1,(shW _ (DW e2)).1];exact Int.le_refl _
 rw [BK] at M6;let lcs:cs.length=N:=by rw [M6.2.1];unfold jQ;rw [ir,Li]
 let P7:=s15.trans s6;let AM:=sU.trans s6;let s26:=Qo.trans AM;let mx6:=mx.lh AM;let R6:=RJ.lh s26;let rD4:=Qo _ _ RJ.jY.1;let r1D:r1≠rD:=fun z=>by erw [z,sT _ _ RJ.jY.1] at n4
 let l1D:∀l∈ls1,l≠rD:=fun l hm z=>by
  have:=nl4 l hm;erw [z,sT _ _ RJ.jY.1] at this
 let lB:(fJ pX (gs.zip gV)).length=N:=by unfold fJ;rw [ir,Li,eN]
 let rD5:=sU _ _ rD4
 let cD:∀i l,cs[i]?=some l->H6 l=some (.lst (qc (vo.take W) i)):=fun i l e=>by
  let hi:=(be.mp e).1;refine M6.2.2 i l _ e ?_;unfold jQ;rw [Wp,Np ce];rfl
 let Sr:∀i l,cs[i]?=some l->l≠rD:=fun i l e z=>by
  have:=ajq l (DW e);erw [z,rD5] at this
 let cnD:c≠rD:=fun z=>by erw [z,rD5] at nc6
 show ⟨r1,c,rfl,⟨_,aR.of mx6.hr⟩,⟨_,aR.of M6.1⟩,?_⟩
 refine let I:bn:=fun t Y H'=>LX fun (o6 o7:ψ) (ls:χ) (cg:Ζ)=>Y=[ap a,ap d,ap r0,some (.int (W:Int)),ap rD,ap r1,o6,o7]/\(∀b o,b≠rD->H6 b=some o->H' b=some o)/\iO K H' rD ls cg (dB pX++(fJ pX (gs.zip gV)).take t)/\ls.length<=W+t;zau (K:=K) (a:=r1) (b:=c) (xs:=ls1.map V.ref) (ys:=cs.map V.ref) I ⟨none,none,ls2,ajl,rfl,fun _ _ _ e=>e,by rwa [akl,WL],by rw [RJ.jY.2.1,RJ.num.1,lA];exact D' _⟩ (fun i Y H' h=>by
   obtain ⟨_,_,_,_,_,k',_⟩:=h
   show ⟨aR.of (k' _ _ r1D mx6.hr),aR.of (k' _ _ cnD M6.1)⟩) ?_ ?_
 ·rintro t x y Y H7 p7 ex ey ⟨o6,o7,ls,cg,rfl,k7,R7,ll⟩ np
  let s7:=aD np (.tup [x,y]);let e7:(upd H7 p7 (.tup [x,y])) p7=some (.tup [x,y]):=ah;generalize upd H7 p7 (.tup [x,y])=H8 at s7 e7 ⊢;rw [Wp] at ex ey;obtain ⟨l1,el1,rfl⟩:=LA.mp ex;obtain ⟨c1,ec1,rfl⟩:=LA.mp ey
  let ht:t<N:=by
   have:=(be.mp ec1).1;omega
  obtain ⟨vs1,hv1,lv1,nv1⟩:=mx6.row t l1 el1
  let tt:a9 H6 H7:=fun b xs e=>by
   rcases e with e|⟨o',e⟩
   ·exact .inl (k7 _ _ (fun z=>by erw [z,R6.jY.1] at e) e)
   ·exact .inr ⟨o',k7 _ _ (fun z=>by erw [z,R6.jY.1] at e) e⟩
  let hv8:=s7 _ _ (k7 _ _ (l1D l1 (DW el1)) hv1);let c1D:c1≠rD:=Sr t c1 ec1;let hc8:=s7 _ _ (k7 _ _ c1D (cD t c1 ec1));let R8:=R7.lh s7;let cn:cP K H1 (qc (vo.take W) t) (de (l_ pX) t):=afb N1 shW ht;let cp:Paired (dh K H8) (qc (vo.take W) t) ((de (l_ pX) t).map vl):=Paired.cV (oG (cn.lh P7) (afK shW ht)) fun _ _ z=>(z.aH tt).lh s7;show ⟨p7,_,rfl,bE.of e7,rfl,_,_,rfl,_,_,rfl,rfl,_,rfl,.inl ⟨rfl,_,aR.of R8.jY.1⟩,_,rfl,_,rfl,c1,_,_,rfl,hc8,cp,(by unfold qc;rw [ir,FU];omega),fun l9 us9 H9 s9 e9 p9=>?_⟩;show ⟨l1,l9,_,_,rfl,rfl,s9 _ _ hv8,e9,(by have:=GJ p9;rw [ir,ir] at this;unfold de at this;rw [ir,fT] at this;omega),?_⟩;intros l10 TN Rm EI e10;let R10:=R8.lh (s9.trans EI);show ⟨rD,_,_,rfl,rfl,R10.jY.1,(by rw [ir];omega),?_⟩;let ajt:l10≠rD:=fun z=>by erw [z,(R8.lh s9).jY.1] at TN
  let nv8:cP K Rm vs1 ((FG N).map fun j=>qr (yT pX (gs.zip gV) t j)):=⟨by rwa [ir,Li],fun j u qq e1 e2=>by
   rw [Wp] at e2;obtain ⟨j',ej,rfl⟩:=LA.mp e2
   let hj:j<N:=by
    have:=(be.mp e1).1;omega
   erw [Np hj] at ej;have:=nv1 j u e1;rw [hf t j ht hj] at this
   exact ((this.aH tt).lh s7).lh (s9.trans EI)⟩
  let ns9:cP K Rm us9 (((de (l_ pX) t).map vl).map fun r=>qr (-r)):=by
   have:=(ag3 p9).lh EI;rwa [EB] at this
  let eB:(fJ pX (gs.zip gV))[t]?=some (((FG N).map fun j=>qr (yT pX (gs.zip gV) t j))++((de (l_ pX) t).map vl).map fun r=>qr (-r)):=by
   unfold fJ;rw [Wp,<-eN,Np ht];rfl
  show ⟨_,_,ls++[l10],cg++[vs1++us9],rfl,fun b o n e=>?_,?_,by rw [EM,ahB];omega⟩
  ·rw [aj n]
   exact EI _ _ (s9 _ _ (s7 _ _ (k7 _ _ n e)))
  ·rw [Ot,eB,<-BH]
   exact R10.push e10 ajt (xK nv8 ns9)
 ·rintro Y H7 ⟨o6,o7,ls,cg,rfl,k7,R7,ll⟩
  rw [ir,ir,mx.ln,lcs,AD,PZ ce] at R7;show ⟨_,rfl,q rD ls cg H7 (fun b o e=>?_) R7⟩;let s06:=s1.trans P7;exact k7 _ _ (fun z=>by erw [z,(s1.trans sS).free nD] at e) (s06 _ _ e)
inductive lW (K:Frag)(vs:η)(H:Hp)(Q:VK)(E_:XK):Prop
|mk (d e:AF)(AA kL:γ)(xs:List (Str×Rat))(Ln:Μ)(_:vs=[.ref d,.ref e])(_:H d=some (.dK AA))(_:Paired (fun (kv:Key×V)(x:Str×Rat)=>kv.1=.inr x.1/\dh K H kv.2 x.2) AA xs)(_:(xs.map (·.1)).Nodup)(_:H e=some (.dK kL))(_:d≠e)(_:xs.length<=26)(_:(∀x∈xs,Sz 31 x.2/\Sz 7000000 (Ln x.1)/\∃v,bI kL (.inr x.1)=some v/\dh K H v (Ln x.1)))(_:∀(p:AF)(kT:γ)(H':Hp),ao H H' ->H p=none->H' p=some (.dK kT)->Paired (fun (kv:Key×V)(x:Str×Rat)=>kv.1=.inr x.1/\dh K H' kv.2 (x.2*Ln x.1)) kT xs->Q (.ref p) H')
def jK:av ["firm","longer","pulls","bar","grip"] uK (ae gZ):=sq
def aaS (D:Def K mg "gripped" gZ uK)(cI:ac P w K mg iT 34 "product_of" EN (iZ K fun a b=>a*b)):
  ac P w K mg iT 35 "gripped" uK (lW K):=by
 refine D.oo jK fun H hr h=>?_;obtain ⟨d,e,AA,kL,xs,Ln,rfl,hd,pk,nd,he,ne,lx,hx,q⟩:=h;let lk:AA.length=xs.length:=GJ pk
 show ⟨_,(aa (aC 2 jK.nd dw) (aa (jA (ba FF rfl (n_ (pv 0)) (fL rfl (aY (bM 3 jK.nd) (aY (bM 4 jK.nd) df))) (ag (dC (bQ hr) (pv 2) (pv 3) (aJ cI hr (aE (pv 4) (dR (bQ hr) (pv 1) (pv 3) (fun _ _=>rfl)))) rfl)))) (ag (aF (pv 2))))),?_⟩;sleep 2
 intro p np;let s1:=aD np (.dK []);let e1:(upd H p (.dK [])) p=some (.dK []):=ah;generalize upd H p (.dK [])=H1 at s1 e1 ⊢;let P_:=s1 _ _ hd;let pd:p≠d:=fun z=>by erw [z,hd] at np
 show ⟨_,rfl,d,AA,rfl,P_,fun o=>?_⟩;let k0:∀b o',b≠d->b≠p->H b=some o' ->(upd H1 d (.eQ o (.dK AA))) b=some o':=fun b o' n _ z=>by rw [aj n];exact s1 _ _ z
 let tH:∀{H':Hp},(∀b o',b≠d->b≠p->H b=some o' ->H' b=some o')->a9 H H':=fun {H'} k b xs r=>by
  rcases r with r|⟨o',r⟩
  ·exact .inl (k _ _ (fun z=>by erw [z,hd] at r) (fun z=>by erw [z,np] at r) r)
  ·exact .inr ⟨o',k _ _ (fun z=>by erw [z,hd] at r) (fun z=>by erw [z,np] at r) r⟩
 refine let I:bn:=fun t Y H'=>JS fun (o3 o4:ψ) (kT:γ)=>Y=[ap d,ap e,ap p,o3,o4]/\(∀b o',b≠d->b≠p->H b=some o' ->H' b=some o')/\H' d=some (.eQ o (.dK AA))/\H' p=some (.dK kT)/\Paired (fun (kv:Key×V) (x:Str×Rat)=>kv.1=.inr x.1/\dh K H' kv.2 (x.2*Ln x.1)) kT (xs.take t);lJ (d:=d) (o:=o) (AA:=AA) I ⟨none,none,[],rfl,k0,ah,by rwa [aj pd],.nil⟩ (fun t Y H' _ h=>by
   obtain ⟨_,_,_,_,_,h,_⟩:=h
   exact h) ?_ ?_
 ·rintro t k y Y H6 p7 tR ⟨o3,o4,kT,rfl,k6,AL,hp6,pT⟩ n7
  obtain ⟨x,ex,rfl,ny⟩:∃x,xs[t]?=some x/\k=.inr x.1/\dh K H y x.2:=by
   obtain ⟨x,ex,h1,h2⟩:=aG pk tR;show ⟨x,ex,h1,h2⟩
  let s7:=aD n7 (.tup [kV (.inr x.1),y]);let e7:(upd H6 p7 (.tup [kV (.inr x.1),y])) p7=some (.tup [kV (.inr x.1),y]):=ah;generalize upd H6 p7 (.tup [kV (.inr x.1),y])=H7 at s7 e7 ⊢;let k7:∀b o',b≠d->b≠p->H b=some o' ->H7 b=some o':=fun b o' n m z=>s7 _ _ (k6 b o' n m z);obtain ⟨z1,z2,v,ev,nv⟩:=hx x (DW ex);let pe:e≠p:=fun z=>by erw [<-z,he] at np
  let dg:cW H7 e (.str x.1) (some v):=by
   have:=cW.k (k:=.inr x.1) (k7 _ _ (FT ne) pe he);rwa [ev] at this
  show ⟨p7,_,rfl,bE.of e7,rfl,_,_,rfl,_,_,rfl,rfl,_,rfl,_,rfl,_,rfl,e,v,rfl,dg,y,v,x.2,Ln x.1,rfl,ny.aH (tH k7),nv.aH (tH k7),z1.up dL,z2.up dL,fun c8 H8 s8 e8=>?_⟩;let hp8:=s8 _ _ (s7 _ _ hp6);let lT:=GJ pT;rw [FU] at lT;show ⟨_,rfl,_,rfl,p,_,rfl,je.k (k:=.inr x.1) hp8 (FX (show kT.length<=1000 by omega) dL),?_⟩
  let fresh:(EX x.1:Key)∉kT.map (·.1):=fun z=>by
   obtain ⟨kv,O3,ek⟩:=AY.mp z;obtain ⟨j,ej⟩:=FZ O3;obtain ⟨x',DI,h1,_⟩:=aG pT ej;rw [h1] at ek
   let hj:j<t:=by
    have:=(be.mp DI).1;rw [FU] at this;omega
   rw [SQ hj] at DI;let g1:(xs.map (·.1))[j]?=some x.1:=by rw [Wp,DI,<-Lr ek];rfl
   let g2:(xs.map (·.1))[t]?=some x.1:=by rw [Wp,ex];rfl
   have:=dS nd g1 g2;omega
  rw [dI _ (bW fresh)];let t8:a9 H8 (upd H8 p (.dK (kT++[(.inr x.1,.ref c8)]))):=.dict hp8;show ⟨_,_,_,rfl,fun b o' n m z=>?_,?_,ah,?_⟩
  ·rw [aj m]
   exact s8 _ _ (k7 b o' n m z)
  ·rw [aj (FT pd)]
   exact s8 _ _ (s7 _ _ AL)
  ·rw [Ot,ex]
   refine qh (Paired.cV pT fun _ _ z=>⟨z.1,(z.2.lh (s7.trans s8)).aH t8⟩) ⟨rfl,?_⟩;exact dh.aH ⟨c8,rfl,bE.of e8⟩ t8
 ·rintro Y H6 ⟨o3,o4,kT,rfl,k6,AL,hp6,pT⟩
  show ⟨d,o,AA,AL,fun o' u' z=>(by have z':H d=some (.eQ o' u'):=z;erw [hd] at z'),?_⟩;rw [PZ ce] at pT
  let t2:a9 H6 (upd H6 d (.dK AA)):=fun b xs r=>by
   rcases r with r|⟨o',r⟩
   ·exact .inl (by rw [aj (fun z=>by erw [z,AL] at r)];exact r)
   ·exact .inr ⟨o',by rw [aj (fun z=>by erw [z,AL] at r)];exact r⟩
  show ⟨_,rfl,q p kT _ (fun b o' z=>?_) np (by rwa [aj pd]) (Paired.cV pT fun _ _ z=>⟨z.1,z.2.aH t2⟩)⟩;by_cases n:b=d
  ·subst n
   rw [hd] at z;rwa [ah]
  ·rw [aj n]
   exact k6 b o' n (fun m=>by erw [m,np] at z) z
theorem rQ {Z:Type}(f g:Z->Rat):∀(l:List Z)(u:Ι),sP (l.map fun j=>f j+g j) u=sP (l.map f) u+sP (l.map g) u
 | [],u=>by rw [LP,LP,LP,gc];grind
 | a::l,[]=>by simp [sP];grind
 | a::l,x::u=>by
  rw [DV,DV,DV,cB,cB,cB,rQ f g l u];grind
theorem jL {Z:Type}(c:Rat)(f:Z->Rat):∀(l:List Z)(u:Ι),sP (l.map fun j=>c*f j) u=c*sP (l.map f) u
 | [],u=>by rw [LP,LP,gc];grind
 | a::l,[]=>by simp [sP]
 | a::l,x::u=>by
  rw [DV,DV,cB,cB,jL c f l u];grind
theorem jM:∀(a b:Ι),sP a b=sP b a
 | [],b=>by cases b<;>simp [sP]
 | x::a,[]=>by simp [sP]
 | x::a,y::b=>by
  rw [cB,cB,jM a b];grind
def Kx (l u:Ι):sP (l.map fun r=> -r) u= -(sP l u):=by
 have:=jL (-1) (fun r:Rat=>r) l u;rw [List.map_id'] at this;let e:(l.map fun r=> -r)=l.map fun r=> -1*r:=LD fun r _=>by grind
 rw [e,this];grind
theorem rR {Z:Type}(c:Z->Rat)(r:Z->Nat->Rat)(l:List Nat)(u:Ι):∀gV:List Z,sP (l.map fun j=>(gV.map fun b=>c b*r b j).sum) u=(gV.map fun b=>c b*sP (l.map (r b)) u).sum
 | []=>by
  let e:(l.map fun j=>(([]:List Z).map fun b=>c b*r b j).sum)=l.map fun j=>0*(0:Rat):=LD fun j _=>by simp
  rw [e,jL,LP,Nc];grind
 | b::bs=>by
  let e:(l.map fun j=>((b::bs).map fun b=>c b*r b j).sum)=l.map fun j=>c b*r b j+(bs.map fun b=>c b*r b j).sum:=LD fun j _=>by rw [DV,GN]
  rw [e,rQ,jL,rR c r l u bs,DV,GN]
theorem Ky {Z:Type}(r:Z->Nat->Rat)(l:List Nat)(u:Ι):∀(y:Ι)(qs:List Z),sP (l.map fun j=>sP y (qs.map fun q=>r q j)) u=sP y (qs.map fun q=>sP (l.map (r q)) u)
 | [],qs=>by
  let e:(l.map fun j=>sP [] (qs.map fun q=>r q j))=l.map fun j=>0*(0:Rat):=LD fun j _=>by rw [gc];grind
  rw [e,jL,gc];grind
 | a::y,[]=>by
  let e:(l.map fun j=>sP (a::y) (([]:List Z).map fun q=>r q j))=l.map fun j=>0*(0:Rat):=LD fun j _=>by simp [sP]
  rw [e,jL];simp [sP]
 | a::y,q::qs=>by
  let e:(l.map fun j=>sP (a::y) ((q::qs).map fun q=>r q j))=l.map fun j=>a*r q j+sP y (qs.map fun q=>r q j):=LD fun j _=>by rw [DV,cB]
  rw [e,rQ,jL,Ky r l u y qs,DV,cB]
def sq_pos (x:Rat):0<=x*x:=by
 rcases Rat.le_total (a:=0) (b:=x) with h|h
 ·exact Xv h h
 ·let h':0<= -x:=by grind
  have:=Xv h' h';grind
theorem Kz (G s:aL->Rat):∀gV:List aL,(∀b∈gV,0<G b)->(gV.map fun b=>G b*(s b*s b)).sum<=0->∀b∈gV,s b=0
 | [],_,_,b,hb=>by cases hb
 | c::bs,h,z,b,hb=>by
  rw [DV,GN] at z;let g0:=h c GG
  let nn:∀l:List aL,(∀b∈l,0<G b)->0<=(l.map fun b=>G b*(s b*s b)).sum:=fun l=>by
   induction l with
   | nil=>intro _;rw [LP,Nc];exact Rat.le_refl
   | cons a l ih=>
    intro hl;rw [DV,GN];let h1:=ih fun b hb=>hl b (F' _ hb);let h2:0<=s a*s a:=sq_pos (s a);let h3:=Xv (ajF (hl a GG)) h2;grind
  let n1:=nn bs fun b hb=>h b (F' _ hb);let h2:0<=s c*s c:=sq_pos (s c);let h3:=Xv (ajF g0) h2;let z1:G c*(s c*s c)=0:=by grind
  let zc:s c=0:=by
   rcases ai0.mp z1 with e|e
   ·grind
   ·rcases ai0.mp e with e|e<;>exact e
  rcases LN.mp hb with e|hb
  ·rwa [e]
  ·exact Kz G s bs (fun b hb=>h b (F' _ hb)) (by grind) b hb
def xO (F:θ)(pX:ν):((FG (2*pX.length)).map fun j=>vl ((cC F pX).getD j (0,1)))=(cC F pX).map vl:=by
 refine OC fun j=>?_;rw [Wp,Wp];by_cases c:j<2*pX.length
 ·rw [Np c,gE (by rwa [cT])]
  show some (vl ((cC F pX).getD j (0,1)))=some _;rw [LW,gE (by rwa [cT])];rfl
 ·rw [FJ (by rw [Li];omega),FJ (by rw [cT];omega)]
  rfl
def wC (M:υ)(pX:ν):List Rat:=pX.flatMap fun p=>[(M p.nm).1,(M p.nm).2]
theorem xP (M:υ):∀pX:List aA,(wC M pX).length=2*pX.length
 | []=>rfl
 | p::ps=>by
  have:=xP M ps;unfold wC at this ⊢;rw [LU,EM,this];show 2+2*ps.length=2*(ps.length+1);omega
def FV (g:dJ pX gV)(hb:b∈gV)(M:υ):sP ((FG (2*pX.length)).map (gK pX b)) (wC M pX)= -(dZ M b):=by
 obtain ⟨m1,m2,m3⟩:=g.ends b hb;rw [show (FG (2*pX.length)).map (gK pX b)=(cC (cE b) pX).map vl from xO (cE b) pX];unfold wC;rw [rP,Kr g.np b m1 m2 m3]
def Qp (np:(pX.map (·.nm)).Nodup)(hp:p∈pX)(w:Rat×Rat)(M:υ):sP ((cC (fW p.nm w) pX).map vl) (wC M pX)=dt w (M p.nm):=by
 unfold wC;rw [rP,xE np hp]
def Qq (hp:p∈pX){w:Rat×Rat}(hw:w∈p.ws):cC (fW p.nm w) pX∈l_ pX:=by
 unfold l_ qd;exact Qy.mpr ⟨p,hp,AY.mpr ⟨w,hw,rfl⟩⟩
def FW {qs:ο}(h:qs∈l_ pX):∃p∈pX,∃w∈p.ws,qs=cC (fW p.nm w) pX:=by
 unfold l_ qd at h;obtain ⟨p,hp,h⟩:=Qy.mp h;obtain ⟨w,hw,e⟩:=AY.mp h;show ⟨p,hp,w,hw,e.symm⟩
def qi {qs:ο}(h:qs∈l_ pX):qs.length=2*pX.length:=by
 obtain ⟨p,_,w,_,rfl⟩:=FW h;exact cT _ _
def xQ (pX:ν)(L:θ):List (Int×Int):=GH (aT pX) (0,1)++cC L pX
def v01:vl ((0,1):Int×Int)=0:=by decide+kernel
def Qr (n:Nat):(GH n ((0,1):Int×Int)).map vl=(GH n ()).map fun _=>(0:Rat):=by rw [List.map_replicate,v01];simp
def oH (A B:Β)(j:Nat):de (A++B) j=de A j++de B j:=by unfold de;rw [GV]
def jo (A:Β)(j:Nat):(de A j).length=A.length:=by unfold de;rw [ir]
section
variable {pX:ν}{gV:τ}{G:aL->Rat}{L:θ}
def ahn (i j:Nat):yT pX (gV.map fun b=>(G b,b)) i j=(gV.map fun b=>G b*gK pX b i*gK pX b j).sum:=by
 unfold yT;rw [EB];rfl
def adB (g:dJ pX gV)(hx:∀(i:Nat)(qs:ο)(d:Int×Int),(dB pX++fJ pX (gV.map fun b=>(G b,b)))[i]?=some qs->(xQ pX L)[i]?=some d->iI qs xs=vl d)
    (ex:xs.map vl=wC M pX++pX.flatMap fun p=>U p.nm) (lU:∀p∈pX,(U p.nm).length=p.ws.length)  (hT:∀b∈gV,T b.nm=G b*dZ M b):(∀p∈pX,∀w∈p.ws,dt w (M p.nm)=0)/\iB pX gV T U L:=by
 let lA:(dB pX).length=aT pX:=by unfold dB;rw [ir,fT]
 let lfU:(pX.flatMap fun p=>U p.nm).length=aT pX:=by
  unfold aT;clear ex hx hT g
  induction pX with
  | nil=>rfl
  | cons q ps ih=>rw [LU,LU,EM,EM,ih (fun r hr=>lU r (F' _ hr)) (by unfold dB;rw [ir,fT]),lU q GG]
 show ⟨fun p hp w hw=>?_,fun p hp=>?_⟩
 ·obtain ⟨i,ei⟩:=FZ (Qq hp hw)
  let hi:i<aT pX:=by rw [<-fT];exact (be.mp ei).1
  let eA:(dB pX)[i]?=some (cC (fW p.nm w) pX++GH (aT pX) (0,1)):=by unfold dB;rw [Wp,ei];rfl
  have:=hx i _ (0,1) (by rwa [LR ce]) (by unfold xQ;rw [LR (by rwa [QC]),S6,ox hi]);rw [lQ,ex,GV,gf _ _ (by rw [ir,cT,xP]),Qp g.np hp,Qr,jM ((GH (aT pX) ()).map _),iQ,v01] at this;grind
 ·obtain ⟨k,ek⟩:=FZ hp
  let hk:=(be.mp ek).1
  let one:∀(j:Nat)(c:Rat×Rat->Rat),j<2*pX.length->c (0,0)=0->(∀F,vl ((cC F pX).getD j (0,1))=c (mv F p.nm))->fQ gV T U p c+c (mv L p.nm)=0:=fun j c hj c0 hc=>by
   let cs:=ad5 (gV:=gV) (T:=T) (L:=L) c0 g.np lU hp 1;rw [<-agg pX gV L ek j c hc,show gx pX gV++[cC L pX]=l_ pX++(gV.map fun b=>cC (cE b) pX)++[cC L pX] from rfl,oH,oH,GV,GV,gf _ _ (by rw [EM,EM,ir,ir,ir,jo,jo,lfU,fT,ir]),gf _ _ (by rw [ir,jo,lfU,fT])] at cs
   let e2:sP (gV.map fun b=>T b.nm) ((de (gV.map fun b=>cC (cE b) pX) j).map vl)=(gV.map fun b=>T b.nm*gK pX b j).sum:=by
    unfold de;rw [EB,EB,FN];rfl
   let e3:sP [(1:Rat)] ((de [cC L pX] j).map vl)=c (mv L p.nm):=by
    show sP [(1:Rat)] [vl ((cC L pX).getD j (0,1))]=_;rw [cB,gc,hc];grind
   rw [e2,e3] at cs
   let eB:(fJ pX (gV.map fun b=>(G b,b)))[j]?=some (((FG (2*pX.length)).map fun j'=>qr (yT pX (gV.map fun b=>(G b,b)) j j'))++((de (l_ pX) j).map vl).map fun r=>qr (-r)):=by
    unfold fJ;rw [Wp,Np hj];rfl
   obtain ⟨dj,lr⟩:∃d,(cC L pX)[j]?=some d:=⟨_,gE (show j<(cC L pX).length by rwa [cT])⟩;have:=hx (aT pX+j) _ _ (by rwa [Lg ce,lA,IP]) (by unfold xQ;rw [Lg (by rw [QC];omega),QC,IP];exact lr)
   let hL:vl dj=c (mv L p.nm):=by
    rw [<-hc L,LW,lr];rfl
   rw [lQ,ex,GV,gf _ _ (by rw [ir,ir,Li,xP]),EB,EB,hL] at this
   let f1:(FG (2*pX.length)).map (vl ∘ fun j'=>qr (yT pX (gV.map fun b=>(G b,b)) j j'))=(FG (2*pX.length)).map fun j'=>(gV.map fun b=>(G b*gK pX b j)*gK pX b j').sum:=LD fun j' _=>by
    show vl (qr _)=_;rw [dY,ahn]
   let f2:((de (l_ pX) j).map vl).map (vl ∘ fun r=>qr (-r))=((de (l_ pX) j).map vl).map fun r=> -r:=LD fun r _=>dY _;rw [f1,f2,rR (fun b=>G b*gK pX b j) (gK pX),Kx,jM ((de (l_ pX) j).map vl)] at this
   let f3:(gV.map fun b=>(G b*gK pX b j)*sP ((FG (2*pX.length)).map (gK pX b)) (wC M pX)).sum= -(gV.map fun b=>T b.nm*gK pX b j).sum:=by
    rw [<-sum_neg];refine pj Tw (LD fun b hb=>?_);rw [FV g hb,hT b hb];grind
   rw [f3] at this;grind
  show ⟨one (2*k) (·.1) ce rfl fun F=>(xF F ek).1,one (2*k+1) (·.2) ce rfl fun F=>(xF F ek).2⟩
def aaM (g:dJ pX gV)(hG:∀b∈gV,0<G b)(h0:∀j,j<2*pX.length+aT pX->iI ys (de (dB pX++fJ pX (gV.map fun b=>(G b,b))) j)=0)(h1:iI ys (xQ pX L)=1)
   {yw:Ι} (ey:ys.map vl=yw++wC M pX) (lw:yw.length=aT pX):FL pX gV M/\qH pX L M=1:=by
 let lA:(dB pX).length=aT pX:=by unfold dB;rw [ir,fT]
 let way:∀qs∈l_ pX,sP (qs.map vl) (wC M pX)=0:=fun qs hq=>by
  obtain ⟨k,ek⟩:=FZ hq;let hk:k<aT pX:=by rw [<-fT];exact (be.mp ek).1
  have:=h0 (2*pX.length+k) ce
  let eA:(de (dB pX) (2*pX.length+k)).map vl=(l_ pX).map fun _=>(0:Rat):=by
   unfold de dB;rw [EB,EB];refine LD fun qs hq=>?_;show vl ((qs++GH (aT pX) (0,1)).getD (2*pX.length+k) (0,1))=0;rw [LW,Lg (by rw [qi hq];omega),qi hq,IP,S6,ox hk];exact v01
  let eB:(de (fJ pX (gV.map fun b=>(G b,b))) (2*pX.length+k)).map vl=(qs.map vl).map fun r=> -r:=by
   let lq:=qi hq;obtain ⟨p,_,w,_,rfl⟩:=FW hq;rw [<-xO (fW p.nm w) pX,EB];unfold de fJ;rw [EB,EB];refine LD fun i hi=>?_;show vl ((((FG (2*pX.length)).map fun j=>qr (yT pX (gV.map fun b=>(G b,b)) i j))++((de (l_ pX) i).map vl).map fun r=>qr (-r)).getD (2*pX.length+k) (0,1))= -(vl ((cC (fW p.nm w) pX).getD i (0,1)));rw [LW,Lg (by rw [ir,Li];omega),ir,Li,IP,Wp,Wp];unfold de;rw [Wp,ek];exact dY _
  rw [lQ,ey,oH,GV,gf _ _ (by rw [ir,jo,lA,lw]),eA,eB,iQ,jM,Kx] at this;grind
 let Qe:∀p∈pX,∀w∈p.ws,dt w (M p.nm)=0:=fun p hp w hw=>by rw [<-Qp g.np hp];exact way _ (Qq hp hw)
 let col:∀j,j<2*pX.length->sP yw ((l_ pX).map fun qs=>vl (qs.getD j (0,1)))+(gV.map fun b=>(G b* -(dZ M b))*gK pX b j).sum=0:=fun j hj=>by
  have:=h0 j ce
  let eA:(de (dB pX) j).map vl=(l_ pX).map fun qs=>vl (qs.getD j (0,1)):=by
   unfold de dB;rw [EB,EB];refine LD fun qs hq=>?_;show vl ((qs++GH (aT pX) (0,1)).getD j (0,1))=_;rw [LW,LR (by rwa [qi hq]),<-LW]
  let eB:(de (fJ pX (gV.map fun b=>(G b,b))) j).map vl=(FG (2*pX.length)).map fun i=>(gV.map fun b=>(G b*gK pX b j)*gK pX b i).sum:=by
   unfold de fJ;rw [EB,EB];refine LD fun i hi=>?_;show vl ((((FG (2*pX.length)).map fun j=>qr (yT pX (gV.map fun b=>(G b,b)) i j))++((de (l_ pX) i).map vl).map fun r=>qr (-r)).getD j (0,1))=_;rw [LW,LR (by rwa [ir,Li]),Wp,Np hj];show vl (qr _)=_;rw [dY,ahn];refine pj Tw (LD fun b _=>?_);grind
  rw [lQ,ey,oH,GV,gf _ _ (by rw [ir,jo,lA,lw]),eA,eB,jM (wC M pX),rR (fun b=>G b*gK pX b j) (gK pX)] at this
  let f:(gV.map fun b=>(G b*gK pX b j)*sP ((FG (2*pX.length)).map (gK pX b)) (wC M pX)).sum=(gV.map fun b=>(G b* -(dZ M b))*gK pX b j).sum:=by
   refine pj Tw (LD fun b hb=>?_);rw [FV g hb];grind
  rwa [f] at this
 let all:sP ((FG (2*pX.length)).map fun j=>sP yw ((l_ pX).map fun qs=>vl (qs.getD j (0,1)))+(gV.map fun b=>(G b* -(dZ M b))*gK pX b j).sum) (wC M pX)=0:=by
  let e:((FG (2*pX.length)).map fun j=>sP yw ((l_ pX).map fun qs=>vl (qs.getD j (0,1)))+(gV.map fun b=>(G b* -(dZ M b))*gK pX b j).sum)=(FG (2*pX.length)).map fun _=>(0:Rat):=LD fun j hj=>col j (OW.mp hj);rw [e,jM,iQ]
 rw [rQ,Ky (fun (qs:ο) (j:Nat)=>vl (qs.getD j (0,1))),rR (fun b=>G b* -(dZ M b)) (gK pX)] at all
 let e1:((l_ pX).map fun q=>sP ((FG (2*pX.length)).map fun j=>vl (q.getD j (0,1))) (wC M pX))=(l_ pX).map fun _=>(0:Rat):=LD fun q hq=>by
  obtain ⟨p,hp,w,hw,rfl⟩:=FW hq;rw [xO];exact way _ hq
 let e2:(gV.map fun b=>(G b* -(dZ M b))*sP ((FG (2*pX.length)).map (gK pX b)) (wC M pX)).sum=(gV.map fun b=>G b*(dZ M b*dZ M b)).sum:=pj Tw (LD fun b hb=>by rw [FV g hb];grind);rw [e1,iQ,e2] at all;show ⟨⟨Qe,Kz G (dZ M) gV hG (by grind)⟩,?_⟩;rw [lQ,ey] at h1;unfold xQ at h1;rw [GV,gf _ _ (by rw [ir,QC,lw]),Qr,iQ,jM] at h1;unfold wC at h1;rw [rP] at h1;unfold qH;grind
end
def TQ (h:Sm T B q)(h1:T<=T')(h2:B<=B'):Sm T' B' q:=⟨h.pos,h.low,BJ h.top (Na dL h1),BJ h.bot (Na dL h2)⟩
def mvL (M:θ):Prop:=∀x,Sz 2000 (mv M x).1/\Sz 2000 (mv M x).2
def gR (Go:Η)(x:Str):Rat:=(Go x).getD 1
def iR (Go:Η)(x:Str):fS (fun y=>(Go y).map qr) x=qr (gR Go x):=by
 show ((Go x).map qr).getD (1,1)=qr ((Go x).getD 1);cases Go x with
 | none=>
  show (1,1)=qr 1;decide+kernel
 | some r=>rfl
def Qs (h:0<r):0<(qr r).1:=by
 let p:=cX r;let v:=dY r
 rcases BE (qr r).1 0 with z|z|z
 ·exfalso
  have:vl (qr r)<=0:=by
   unfold vl
   let h1:((qr r).1:Rat)<=0:=by
    have:=Rat.intCast_le_intCast.mpr (Int.le_of_lt z);exact this
   let h2:(0:Rat)<((qr r).2:Rat):=by
    have:=Yd.mpr p;exact this
   rw [yX];let h3:(0:Rat)<=((qr r).2:Rat)⁻¹:=ajF (Rat.inv_pos.mpr h2);have:=Xv (show (0:Rat)<= -((qr r).1:Rat) by grind) h3;grind
  rw [v] at this;grind
 ·exfalso
  have:=rN z;rw [this] at h;exact DZ h AH
 ·exact z
theorem FY :∀{gV:τ},(gV.map nm).Nodup->∀f:aL->Rat,∃T:Str->Rat,∀b∈gV,T (nm b)=f b
 | [],_,_=>⟨fun _=>0,fun b hb=>by cases hb⟩
 | c::bs,nd,f=>by
  rw [DV,M9] at nd;obtain ⟨T,hT⟩:=FY nd.2 f;show ⟨fun x=>if x=nm c then f c else T x,fun b hb=>?_⟩
  rcases LN.mp hb with e|hb
  ·rw [e]
   show (if nm c=nm c then _ else _)=_;rw [ox rfl]
  ·show (if nm b=nm c then _ else _)=_
   rw [ni (fun z:nm b=nm c=>nd.1 (by rw [<-z];exact AY.mpr ⟨b,hb,rfl⟩))];exact hT b hb
def Wd (h:Sm T B q)(h1:T<k)(h2:B<k):Sz k (vl q):=by
 let e:=V' h;let p1:q.1.natAbs<2^k:=FX h.top (IV dL h1);let p2:q.2.natAbs<2^k:=FX h.bot (IV dL h2);rw [e] at p1 p2;show ⟨intBits_le_iff.mpr p1,intBits_le_iff.mpr p2⟩
def Qt (h:Sz k r):Sm k k (qr r):=⟨cX r,tD r,Pk (intBits_le_iff.mp h.top),Pk (intBits_le_iff.mp h.bot)⟩
def aaD (g:dJ pX gV)(lb:gV.length<=26){G:aL->Rat}(zG:∀b∈gV,Sz 31 (G b)):Shape 3900 3900 (2*pX.length+aT pX) (dB pX++fJ pX (gV.map fun b=>(G b,b))):=fun qs hq=>by
 let s0:Sm 3900 3900 ((0,1):Int×Int):=⟨dL,dL,by decide+kernel,by decide+kernel⟩;let wsm:∀qs∈l_ pX,∀q∈qs,Sm 58 58 q:=fun qs hq=>(mS g qs (by unfold gx;exact ON _ hq)).2
 rcases FR.mp hq with h|h
 ·unfold dB at h
  obtain ⟨Pq,h',rfl⟩:=AY.mp h;show ⟨by rw [EM,qi h',QC],fun q hq=>?_⟩
  rcases FR.mp hq with h|h
  ·exact TQ (wsm Pq h' q h) dL dL
  ·rw [(ajo.mp h).2]
   exact s0
 ·unfold fJ at h
  obtain ⟨i,hi,rfl⟩:=AY.mp h;let hi:=OW.mp hi;show ⟨by rw [EM,ir,ir,ir,jo,fT,Li],fun q hq=>?_⟩
  rcases FR.mp hq with h|h
  ·obtain ⟨j,hj,rfl⟩:=AY.mp h
   let hj:=OW.mp hj;refine TQ (Qt (FQ hi hj fun x hx=>?_)) (by rw [ir];omega) (by rw [ir];omega);obtain ⟨b,hb,rfl⟩:=AY.mp hx;show ⟨zG b hb,fun i hi=>(FP g hb hi).2⟩
  ·obtain ⟨r,hr,rfl⟩:=AY.mp h
   obtain ⟨q',vM,rfl⟩:=AY.mp hr;unfold de at vM;obtain ⟨Pq,h',rfl⟩:=AY.mp vM;let hl:=qi h'
   let e:Pq.getD i (0,1)=Pq[i]'ce:=by
    rw [LW,gE ce];rfl
   have:=Wd (k:=60) (wsm Pq h' _ (SK (show i<Pq.length by omega))) dL dL;rw [e];exact TQ (Qt this.neg) dL dL
theorem KA {Z β:Type}(G:Z->β):∀l:List Z,(l.map G).zip l=l.map fun b=>(G b,b)
 | []=>rfl
 | b::bs=>by rw [DV,List.zip_cons_cons,KA G bs,DV]
inductive F_ (K:Frag)(C:AF)(vs:η)(H:Hp)(Q:VK)(E_:XK):Prop
|mk (a d e:AF)(pX:ν)(gV:τ)(kG kL:γ)(Go:Η)(L:θ)(_:vs=[.ref a,.ref d,.ref e])(_:xp K H C a pX gV)(_:dJ pX gV)(_:pX.length<=8)(_:aT pX<=3)(_:gV.length<=26)(_:H d=some (.dK kG))(_:yR K H kG (fun x=>(Go x).map qr))(_:(∀kv∈kG,∃x∈gV.map (·.nm),kv.1=.inr x))(_:(∀x,0<gR Go x/\Sz 31 (gR Go x)))(_:H e=some (.dK kL))(_:Pe K H kL L)(_:mvL L)(_:(∀kv∈kL,∃x∈pX.map (·.nm),kv.1=.inr x))(_:(∀(M:υ)(p dM:AF)(kM:γ)(H':Hp),ao H H' ->H' p=some (.tup [.str "moves",.ref dM])->MoR K H H' pX dM kM M->FL pX gV M->qH pX L M=1->Q (.ref p) H'))(_:(∀(T:Μ)(U:Δ)(Lx:Str->AF)(M:υ)(p dT dU dM:AF)(kT kU kM:γ)(H':Hp),ao H H' ->H' p=some (.tup [.str "bent",.ref dT,.ref dU,.ref dM])->PPR K H H' pX gV dT dU kT kU T U Lx->MoR K H H' pX dM kM M->(∀p∈pX,∀w∈p.ws,dt w (M p.nm)=0)->(∀b∈gV,T b.nm=gR Go b.nm*dZ M b)->iB pX gV T U L->(∀b∈gV,Sz 6900000 (T b.nm))->(∀p∈pX,∀u∈U p.nm,Sz 1722000 u)->(∀p∈pX,Sz 1722000 (M p.nm).1/\Sz 1722000 (M p.nm).2)->Q (.ref p) H'))
def c6:av ["F","grips","load","loaded","firm","many","rows","ways","told","moves","pulls","pushes"] vc (ae gY):=sq
def aaw (hN:∀H:Hp,bE K H aN [.int 0,.int 1])(kF:mg "NOUGHT"=some (.ref aN))(D:Def K mg "bend_of" gY vc)(a_:mg "len"=none)
  (ajx:ac P w K mg iT 3 "load_row" ["F","load"] (qf K C)) (kN:ac P w K mg iT 3 "all_grips" XY (jJ K C)) (AU:ac P w K mg iT 39 "bend_rows" ["F","firm"] (mT K C)) (ajy:ac P w K mg iT 37 "solve_rows" vh (rL K)) (acy:ac P w K mg iT 2 "motion_from" SJ (ue K C)) (uh:ac P w K mg iT 37 "lengthenings" uJ (Qg K C)) (Ng:ac P w K mg iT 35 "gripped" uK (lW K)) (ajz:ac P w K mg iT 3 "pulls_and_pushes" SJ (Yg K C)):
  ac P w K mg iT 40 "bend_of" vc (F_ K C):=by
 refine D.oo c6 fun H hr h=>?_;obtain ⟨a,d,e,pX,gV,kG,kL,Go,L,rfl,R,g,lp4,lw3,lb9,hd,hG,hk,hg,he,hP,zl,hkL,q1,q2⟩:=h;let wl:aT pX<=2*pX.length:=oE pX g.lw;let big:(1000:Nat)<=AZ:=dL
 show ⟨_,(aa (aC 3 c6.nd (aJ ajx hr (aE (pv 0) (pv 2)))) (aa (aC 4 c6.nd (aJ kN hr (aE (pv 0) (pv 1)))) (aa (aC 5 c6.nd (aU aQ rfl a_ cS (aZ (pv 3)))) (aa (aC 6 c6.nd (aJ AU hr (aE (pv 0) (pv 4)))) (aa (aC 7 c6.nd (aw fh (aU aQ rfl a_ cS (aZ (pv 6))) (pv 5))) (aa (aC 8 c6.nd (aJ ajy hr (bU (pv 6) (aw ie (aw w4 (b9 (aZ (d5 (v:=.ref aN) rfl kF rfl))) (pv 7)) (pv 3)) (aU aQ rfl a_ cS (aZ (pv 6)))))) (aa (bF (bO fk (ay (pv 8)) h_) (ag (aF (aK (aE h_ (aJ acy hr (aE (pv 0) (bX dP (ay (pv 8)) (cH (pv 7)) cQ))))))) aX) (aa (aC 9 c6.nd (aJ acy hr (aE (pv 0) (bX dP (ay (pv 8)) cQ (cH (pv 5)))))) (aa (aC 10 c6.nd (aJ Ng hr (aE (pv 4) (aJ uh hr (aE (pv 0) (pv 9)))))) (aa (aC 11 c6.nd (ay (aJ ajz hr (aE (pv 0) (bX dP (ay (pv 8)) (cH (pv 5)) cQ))))) (ag (aF (aK (jP h_ (bU (pv 10) (pv 11) (pv 9)))))))))))))))),?_⟩;sleep 10
 show ⟨_,rfl,_,rfl,a,e,pX,gV,kL,L,rfl,R,ce,he,hP,hkL,fun l us H1 s1 nl el nm=>?_⟩;let R1:=R.lh s1;obtain ⟨dx,pP,pW,pB,kP,kW,kB,F1,W1⟩:=R1.ex;let TL:=rO gV;show ⟨_,rfl,_,rfl,a,dx,pP,pW,pB,d,_,_,kP,kW,kB,kG,_,rfl,F1,s1 _ _ hd,hG.lh s1,(by rwa [TL]),(by rw [ir];omega),(by rw [TL];exact g.nb),(fun x=>by rw [iR];exact Qs (hg x).1),fun fm kf H2 s2 nf ef pf=>?_⟩;rw [TL] at pf;let qe:=s1.trans s2;let lus:us.length=2*pX.length:=by rw [nm.1,cT]
 show ⟨_,rfl,l,_,rfl,.inl (aR.of (s2 _ _ el)),?_⟩;rw [lus];obtain ⟨G,eG⟩:∃G:aL->Rat,∀b,G b=gR Go b.nm:=⟨_,fun _=>rfl⟩
 let pgs:Paired (fun (kv:Key×V) r=>dh K H2 kv.2 r) kf (gV.map G):=lI (by rw [GJ pf,ir,ir]) fun i kv r e1 e2=>by
  obtain ⟨x,ex,_,h2⟩:=aG pf e1;rw [Wp] at e2 ex;obtain ⟨b,eb,rfl⟩:=LA.mp e2;rw [eb] at ex;have DI :b.nm=x:=GU ex;rwa [iR,<-DI,<-eG] at h2
 let zG:∀b∈gV,Sz 31 (G b):=fun b _=>by rw [eG];exact (hg b.nm).2
 show ⟨_,rfl,_,rfl,a,fm,pX,gV,kf,gV.map G,rfl,R.lh qe,g,lb9,ef,pgs,by rw [ir],(fun r hr=>by obtain ⟨b,hb,rfl⟩:=AY.mp hr;exact zG b hb),fun r ls cg H3 s3 RR=>?_⟩;rw [KA] at RR;let Nd:=qe.trans s3;let lA:(dB pX).length=aT pX:=by unfold dB;rw [ir,fT]
 let lB:(fJ pX (gV.map fun b=>(G b,b))).length=2*pX.length:=by unfold fJ;rw [ir,Li]
 let lq:(dB pX++fJ pX (gV.map fun b=>(G b,b))).length=aT pX+2*pX.length:=by rw [EM,lA,lB]
 let lls:ls.length=aT pX+2*pX.length:=by rw [RR.jY.2.1,RR.num.1,lq]
 show ⟨_,rfl,r,_,rfl,.inl (aR.of RR.jY.1),_,rfl,_,_,rfl,rfl,?_⟩;let em:(((ls.map V.ref).length:Nat):Int)-((2*pX.length:Nat):Int)=((aT pX:Nat):Int):=by rw [ir];omega
 rw [em];show ⟨_,rfl,z1L,?_⟩;intros l5 n5 H5 s5 e5;show ⟨_,rfl,l5,_,_,rfl,rfl,e5,ce,ce,(by simp;omega),?_⟩;intros l6 n6 H6 s6 e6;let Qi:(GH ((aT pX:Nat):Int).toNat [V.ref aN]).flatten=GH (aT pX) (V.ref aN):=by simp
 rw [Qi] at e6;let Nh:=s5.trans s6;let P7:=s2.trans (s3.trans Nh);show ⟨_,rfl,l6,l,_,_,rfl,rfl,e6,P7 _ _ el,(by rw [QC];omega),?_⟩;intros l7 n7 H7 s7 e7;let s37:=Nh.trans s7;let s17:=P7.trans s7;let Yo:=s1.trans s17;let RR7:=RR.lh s37;show ⟨_,rfl,r,_,rfl,.inl (aR.of RR7.jY.1),?_⟩;show rL K [_,_,_] _ _ E0;let lm:(((ls.map V.ref).length:Nat):Int)=((2*pX.length+aT pX:Nat):Int):=by rw [ir,lls];omega
 let s0:Sm 3900 3900 ((0,1):Int×Int):=⟨dL,dL,by decide+kernel,by decide+kernel⟩
 let n0:cP K H7 (GH (aT pX) (V.ref aN)) (GH (aT pX) (0,1)):=⟨by simp,fun i u q e1 e2=>by
  rw [S6] at e1 e2;split at e1
  ·rename_i c
   rw [ox c] at e2;cases e1;cases e2;show ⟨aN,rfl,hN _⟩
  ·cases e1⟩
 let nd:cP K H7 (GH (aT pX) (V.ref aN)++us) (xQ pX L):=xK n0 (nm.lh s17);let aCK:2*pX.length+aT pX<=19:=ce
 let zz:bb (3900+3900*(2*pX.length+aT pX+1)) (min (2*pX.length+aT pX+1) (dB pX++fJ pX (gV.map fun b=>(G b,b))).length)<=1721000:=by
  refine BJ (xw _ (Nat.min_le_left _ _)) ?_;unfold bb;exact BJ (M8 (show 2*pX.length+aT pX+1+1<=21 by omega) (show 3900+3900*(2*pX.length+aT pX+1)+11<=81911 by omega)) dL
 show ⟨r,l7,2*pX.length+aT pX,ls,cg,_,_,xQ pX L,3900,3900,1721000,pj (fun i:Int=>[V.ref r,V.ref l7,V.int i]) lm,RR7.jY,RR7.num,e7,nd,(by rw [lq];unfold xQ;rw [EM,QC,cT]),aaD g lb9 zG,fun q hq=>?_,ce,ce,dL,ce,dL,zz,dL,?_,?_⟩
 ·unfold xQ at hq
  rcases FR.mp hq with h|h
  ·rw [(ajo.mp h).2]
   exact s0
  ·obtain ⟨r,rfl,z⟩:=ai5 zl pX q h
   exact TQ (Qt z) dL dL
 ·intro p x qF xs HA sA ep ex nx lx zx hx
  show ⟨_,rfl,p,_,_,_,rfl,rfl,bE.of ep,rfl,rfl,_,rfl,bG (fun c=>DZ c (by simp [nK];decide+kernel)) (fun _=>?_)⟩;let s0A:=Yo.trans sA;let pxs:=oG nx zx;let lxs:qF.length=2*pX.length+aT pX:=by rw [nx.1,lx]
  let lxm:(xs.map vl).length=2*pX.length+aT pX:=by rw [ir,lx]
  let szx:∀r∈xs.map vl,Sz 1721001 r:=fun r hr=>by
   obtain ⟨q,hq,rfl⟩:=AY.mp hr;exact Wd (zx q hq) dL dL
  show ⟨_,rfl,_,rfl,p,_,_,_,rfl,rfl,bE.of ep,rfl,_,rfl,_,rfl,x,_,rfl,aR.of ex,?_⟩;rw [lO ce];intros l8 n8 H8 s8 e8;let p8:Paired (dh K H8) (qF.take (2*pX.length)) ((xs.map vl).take (2*pX.length)):=Paired.cV (jI (2*pX.length) pxs) fun _ _ z=>z.lh s8;let DO:=s0A.trans s8;show ⟨a,l8,pX,gV,_,_,rfl,R.lh DO,g,e8,p8,by rw [FU];omega,fun M dM kM H9 s9 eM nM hM ks tM=>?_⟩;let Yp:=DO.trans s9;let s29:=s3.trans (s37.trans (sA.trans (s8.trans s9)));obtain ⟨Mo,acz,acA⟩:∃Mo:Str->Option (Rat×Rat),(∀x∈pX.map (·.nm),Mo x=some (M x))/\∀x,x∉pX.map (·.nm)->Mo x=none:=⟨fun x=>if x∈pX.map (·.nm) then some (M x) else none,fun x h=>ox h,fun x h=>ni h⟩
  let mvM:∀p∈pX,mv Mo p.nm=M p.nm:=fun p hp=>by
   unfold mv;rw [acz _ (AY.mpr ⟨p,hp,rfl⟩)];rfl
  let ZA:∀p∈pX,Sz 1721001 (M p.nm).1/\Sz 1721001 (M p.nm).2:=fun p hp=>by
   let mem:∀r∈(xs.map vl).take (2*pX.length),Sz 1721001 r:=fun r hr=>szx r (YH hr);rw [eM] at mem;show ⟨mem _ (Qy.mpr ⟨p,hp,GG⟩),mem _ (Qy.mpr ⟨p,hp,F' _ GG⟩)⟩
  let ptd:Pe K H9 kM Mo:=fun x=>by
   by_cases c:x∈pX.map (·.nm)
   ·obtain ⟨p',iG,rfl⟩:=AY.mp c
    obtain ⟨t,v1,v2,h1,h2,h3,h4⟩:=tM p' iG;exact .inr ⟨_,_,h1,acz _ c,⟨t,v1,v2,rfl,bE.of h2,h3,h4⟩⟩
   ·refine .inl ⟨bW fun z=>?_,acA _ c⟩
    rw [ks] at z;obtain ⟨p',iG,e'⟩:=AY.mp z;exact c (by rw [<-Lr e'];exact AY.mpr ⟨p',iG,rfl⟩)
  let szo:∀x,Sz 1800000 (mv Mo x).1/\Sz 1800000 (mv Mo x).2:=fun x=>by
   by_cases c:x∈pX.map (·.nm)
   ·obtain ⟨p',iG,rfl⟩:=AY.mp c
    rw [mvM p' iG];show ⟨(ZA p' iG).1.up dL,(ZA p' iG).2.up dL⟩
   ·unfold mv
    rw [acA _ c];show ⟨eJ dL,eJ dL⟩
  let XX:∀b∈gV,TK Mo b=dZ M b:=fun b hb=>by
   obtain ⟨m1,m2,_⟩:=g.ends b hb;unfold TK;rw [mvM _ m1,mvM _ m2];rfl
  let lenZ:∀b∈gV,Sz 6884117 (dZ M b):=fun b hb=>by
   obtain ⟨m1,m2,_⟩:=g.ends b hb;let z1:=ZA _ m1;let z2:=ZA _ m2;let y1:=g.sz _ m1;let y2:=g.sz _ m2;exact (((y2.1.sub y1.1).mul (z2.1.sub z1.1)).add ((y2.2.1.sub y1.2.1).mul (z2.2.sub z1.2))).up dL
  show ⟨_,rfl,_,rfl,_,rfl,a,dM,pX,gV,kM,Mo,rfl,R.lh Yp,g,hM,ptd,szo,fun lg kLn Rm EI acB ajC arp tL=>?_⟩;show lW K [_,_] _ _ E0;obtain ⟨Ln,hLn⟩:=FY (nm:=aL.nm) g.nb (dZ M);let s0X:=Yp.trans EI;let s2X:=s29.trans EI;let fmX:=s2X _ _ ef
  let pfx:Paired (fun (kv:Key×V) (x:Str×Rat)=>kv.1=.inr x.1/\dh K Rm kv.2 x.2) kf (gV.map fun b=>(b.nm,G b)):=lI (by rw [GJ pf,ir,ir]) fun i kv z e1 e2=>by
   obtain ⟨x,ex,h1,h2⟩:=aG pf e1;rw [Wp] at e2 ex;obtain ⟨b,eb,rfl⟩:=LA.mp e2;rw [eb] at ex;have DI :b.nm=x:=GU ex;rw [iR,<-DI,<-eG] at h2;show ⟨by rw [h1,<-DI],dh.lh h2 s2X⟩
  let nmx:(gV.map fun b=>(b.nm,G b)).map (·.1)=gV.map (·.nm):=by rw [EB];rfl
  show ⟨fm,lg,kf,kLn,gV.map fun b=>(b.nm,G b),Ln,rfl,fmX,pfx,by rw [nmx];exact g.nb,ajC,(fun z=>by erw [<-z,s29 _ _ ef] at acB),(by rw [ir];omega),fun z hz=>?_,fun dT kT OJ DJ nT eT pT=>?_⟩
  ·obtain ⟨b,hb,rfl⟩:=AY.mp hz
   obtain ⟨v,h1,h2⟩:=tL b hb;show ⟨zG b hb,by rw [hLn b hb];exact (lenZ b hb).up dL,v,h1,?_⟩;rwa [XX b hb,<-hLn b hb] at h2
  let TR:=s8.trans (s9.trans (EI.trans DJ));show ⟨_,rfl,_,rfl,p,_,_,_,rfl,rfl,bE.of (TR _ _ ep),rfl,_,rfl,_,rfl,x,_,rfl,aR.of (TR _ _ ex),?_⟩;rw [g8 ce];intros l12 n12 H12 pU e12;let TU:=s0A.trans (TR.trans pU);let p12:Paired (dh K H12) (qF.drop (2*pX.length)) ((xs.map vl).drop (2*pX.length)):=Paired.cV (gP (2*pX.length) pxs) fun _ _ z=>z.lh (TR.trans pU);show ⟨a,l12,pX,gV,_,_,rfl,R.lh TU,g,e12,p12,by rw [SN];omega,fun U Lx pp dT' dU kU H13 AB eU epp PU=>?_⟩;show ⟨pp,_,_,_,rfl,rfl,bE.of epp,rfl,_,rfl,_,rfl,_,rfl,z4L,?_⟩;intros pt n14 H14 Ru e14;obtain ⟨T,hT⟩:=FY (nm:=aL.nm) g.nb fun b=>G b*dZ M b
  let exM:xs.map vl=wC M pX++pX.flatMap fun p=>U p.nm:=by
   unfold wC;rw [<-eM,<-eU,IX]
  obtain ⟨wk,ar⟩:=adB (L:=L) g hx exM PU.lU hT;let KC:=pU.trans (AB.trans Ru);let acC:=AB.trans Ru;let ajD:=TU.trans acC
  let TB:kT.map (·.1)=gV.map fun b=>(EX b.nm:Key):=by
   refine OC fun i=>?_;rw [Wp,Wp];let lk:=GJ pT;rw [ir] at lk;by_cases c:i<kT.length
   ·let e1:=gE c
    obtain ⟨z,ez,h1,_⟩:=aG pT e1;rw [Wp] at ez;obtain ⟨b,eb,rfl⟩:=LA.mp ez;rw [e1,eb];exact pj some h1
   ·rw [FJ ce,FJ ce]
    rfl
  refine q2 T U Lx M pt dT dU dM kT kU kM H14 ajD e14 ⟨s0X.free nT,TU.free PU.nU,fun z=>?_,KC _ _ eT,Ru _ _ PU.hU,TB,PU.Yf,fun b hb=>?_,fun p' iG =>?_,PU.lU,PU.inj⟩ ⟨DO.free nM,(EI.trans (DJ.trans KC)) _ _ hM,ks,fun p' iG =>?_⟩ wk (fun b hb=>by rw [hT b hb,eG]) ar (fun b hb=>?_) (fun p' iG u hu=>?_) fun p' iG =>⟨(ZA p' iG).1.up dL,(ZA p' iG).2.up dL⟩
  ·have:=PU.nU
   erw [<-z,pU _ _ eT] at this
  ·obtain ⟨i,ei⟩:=FZ hb
   let pT2:Paired (fun (x:Str×Rat) (kv:Key×V)=>kv.1=.inr x.1/\dh K OJ kv.2 (x.2*Ln x.1)) (gV.map fun b=>(b.nm,G b)) kT:=gw pT;obtain ⟨v,h1,h2⟩:=jB (R:=fun (x:Str×Rat) (kv:Key×V)=>dh K OJ kv.2 (x.2*Ln x.1)) pT2 (by rw [nmx];exact g.nb) (AY.mpr ⟨b,hb,rfl⟩);show ⟨v,h1,?_⟩;let h3:dh K OJ v (G b*Ln b.nm):=h2;rw [hLn b hb,<-hT b hb] at h3;exact h3.lh KC
  ·obtain ⟨oF,a1,a2,a3,a4⟩:=PU.tU p' iG
   show ⟨oF,a1,TU.free a2,Ru _ _ a3,Paired.cV a4 fun _ _ z=>z.lh Ru⟩
  ·obtain ⟨t,v1,v2,h1,h2,h3,h4⟩:=tM p' iG
   let sx:=EI.trans (DJ.trans KC);show ⟨t,v1,v2,h1,sx _ _ h2,h3.lh sx,h4.lh sx⟩
  ·rw [hT b hb]
   exact ((zG b hb).mul (lenZ b hb)).up dL
  ·let mem:∀r∈(xs.map vl).drop (2*pX.length),Sz 1721001 r:=fun r hr=>szx r (ajc hr)
   rw [eU] at mem;exact (mem u (Qy.mpr ⟨p',iG,hu⟩)).up dL
 ·intro p y qF ys HA sA ep ey ny ly zy M3 hy1
  show ⟨_,rfl,p,_,_,_,rfl,rfl,bE.of ep,rfl,rfl,_,rfl,bG (fun _=>?_) (fun c=>DZ (by simp [nK]) c)⟩;let s0A:=Yo.trans sA;let py:=oG ny zy;let lys:ys.length=aT pX+2*pX.length:=by rw [ly,lq]
  have aCZ :qF.length=aT pX+2*pX.length:=by rw [ny.1,lys]
  show ⟨_,rfl,_,rfl,p,_,_,_,rfl,rfl,bE.of ep,rfl,_,rfl,_,rfl,y,_,rfl,aR.of ey,?_⟩;rw [g8 ce];intros l9 nB HB sB eB;let pyB:Paired (dh K HB) (qF.drop (aT pX)) ((ys.map vl).drop (aT pX)):=Paired.cV (gP (aT pX) py) fun _ _ z=>z.lh sB;let s0B:=s0A.trans sB;show ⟨a,l9,pX,gV,_,_,rfl,R.lh s0B,g,eB,pyB,by rw [SN,ir];omega,fun M dM kM HC sC eM nM hM ks tM=>⟨qU,?_⟩⟩;intros pt nD HD sD eD
  let eyM:ys.map vl=(ys.map vl).take (aT pX)++wC M pX:=by
   unfold wC;rw [<-eM,IX]
  obtain ⟨mo,wk⟩:=aaM (L:=L) g (fun b _=>by rw [eG];exact (hg b.nm).1) M3 hy1 eyM (by rw [FU,ir];omega);refine q1 M pt dM kM HD (s0B.trans (sC.trans sD)) eD ⟨s0B.free nM,sD _ _ hM,ks,fun p hp=>?_⟩ mo wk;obtain ⟨t,v1,v2,h1,h2,h3,h4⟩:=tM p hp;show ⟨t,v1,v2,h1,sD _ _ h2,h3.lh sD,h4.lh sD⟩
def xR {Z β:Type}{nm:Z->Str}(b0:β){l:List Z}(nd:(l.map nm).Nodup)(f:Nat->β):∃T:Str->β,∀(i:Nat)(x:Z),l[i]?=some x->T (nm x)=f i:=by
 classical
 show ⟨fun s=>if h:∃i,(l.map nm)[i]?=some s then f h.choose else b0,fun i x e=>?_⟩;let e':(l.map nm)[i]?=some (nm x):=by rw [Wp,e];rfl
 let h:∃i,(l.map nm)[i]?=some (nm x):=⟨i,e'⟩;show (if h:∃i,(l.map nm)[i]?=some (nm x) then f h.choose else b0)=f i;rw [dif_pos h];exact pj f (dS nd h.choose_spec e')
def kQ (a b:Rat×Rat):Rat:=a.1*b.2-a.2*b.1
def cG (a b:Rat×Rat):Rat×Rat:=(a.1-b.1,a.2-b.2)
def vg (u v:Rat×Rat)(r s:Rat):Rat×Rat:=((r*v.2-s*u.2) / kQ u v,(u.1*s-v.1*r) / kQ u v)
def xS (h:kQ u v≠0)(r s:Rat):dt u (vg u v r s)=r/\dt v (vg u v r s)=s:=by
 unfold dt vg;constructor
 ·have:u.1*((r*v.2-s*u.2) / kQ u v)+u.2*((u.1*s-v.1*r) / kQ u v)=r*(kQ u v / kQ u v):=by
   unfold kQ;grind
  rw [this,yX,ajp _ h,Rat.mul_one]
 ·have:v.1*((r*v.2-s*u.2) / kQ u v)+v.2*((u.1*s-v.1*r) / kQ u v)=s*(kQ u v / kQ u v):=by
   unfold kQ;grind
  rw [this,yX,ajp _ h,Rat.mul_one]
def Ni (sp:Nat->Rat×Rat)(f g:Nat->Rat):Nat->(Rat×Rat)×(Rat×Rat)
 | 0=>((0,0),vg (cG (sp 1) (sp 0)) (cG (sp 2) (sp 0)) (f 0) 0)
 | k+1=>((Ni sp f g k).2,vg (cG (sp (k+2)) (sp (k+1))) (cG (sp (k+2)) (sp k)) (f (k+1)+dt (cG (sp (k+2)) (sp (k+1))) (Ni sp f g k).2) (g k+dt (cG (sp (k+2)) (sp k)) (Ni sp f g k).1))
def Qu (sp:Nat->Rat×Rat)(n:Nat):Prop:=3<=n/\∀k,k+2<n->kQ (cG (sp (k+1)) (sp k)) (cG (sp (k+2)) (sp k))≠0
def Qv (u a b:Rat×Rat):dt u (cG a b)=dt u a-dt u b:=by
 unfold dt cG;grind
def agz (sp:Nat->Rat×Rat)(f g:Nat->Rat)(k:Nat):(Ni sp f g (k+1)).1=(Ni sp f g k).2:=rfl
def afy (st:Qu sp n)(f g:Nat->Rat):(∀k,k+1<n->dt (cG (sp (k+1)) (sp k)) (cG (Ni sp f g (k+1)).1 (Ni sp f g k).1)=f k)/\∀k,k+2<n->dt (cG (sp (k+2)) (sp k)) (cG (Ni sp f g (k+2)).1 (Ni sp f g k).1)=g k:=by
 let c2:∀k,k+2<n->kQ (cG (sp (k+2)) (sp (k+1))) (cG (sp (k+2)) (sp k))≠0:=fun k hk z=>st.2 k hk (by
  unfold kQ cG at z ⊢
  grind)
 constructor
 ·intro k hk
  rw [Qv,agz];cases k with
  | zero=>
   show dt _ (vg (cG (sp 1) (sp 0)) (cG (sp 2) (sp 0)) (f 0) 0)-dt _ (0,0)=_;rw [(xS (st.2 0 (by have:=st.1;omega)) _ _).1];unfold dt;grind
  | succ k=>
   show dt _ (vg (cG (sp (k+2)) (sp (k+1))) (cG (sp (k+2)) (sp k)) _ _)-dt _ (Ni sp f g k).2=_;rw [(xS (c2 k hk) _ _).1];grind
 ·intro k hk
  rw [Qv];show dt _ (vg (cG (sp (k+2)) (sp (k+1))) (cG (sp (k+2)) (sp k)) _ _)-dt _ (Ni sp f g k).1=_;rw [(xS (c2 k hk) _ _).2];grind
def GB (sp m:Nat->Rat×Rat)(o:Rat)(k:Nat):Rat×Rat:=((m k).1-o*((sp k).2-(sp 0).2),(m k).2+o*((sp k).1-(sp 0).1))
def KD (sp m:Nat->Rat×Rat)(o:Rat)(i j:Nat):dt (cG (sp j) (sp i)) (cG (GB sp m o j) (GB sp m o i))=dt (cG (sp j) (sp i)) (cG (m j) (m i)):=by
 unfold dt cG GB;grind
def lead (st:Qu sp n)(hW:kQ W (cG (sp (n-1)) (sp 0))≠0)(f g:Nat->Rat):∃m:Nat->Rat×Rat,m 0=(0,0)/\dt W (m (n-1))=0/\(∀k,k+1<n->dt (cG (sp (k+1)) (sp k)) (cG (m (k+1)) (m k))=f k)/\∀k,k+2<n->dt (cG (sp (k+2)) (sp k)) (cG (m (k+2)) (m k))=g k:=by
 obtain ⟨h1,h2⟩:=afy st f g;obtain ⟨m0,hm⟩:∃m:Nat->Rat×Rat,∀k,m k=(Ni sp f g k).1:=⟨fun k=>(Ni sp f g k).1,fun _=>rfl⟩;let z0:m0 0=(0,0):=by rw [hm];rfl
 let e:∀o,dt W (GB sp m0 o (n-1))=dt W (m0 (n-1))+o*kQ (cG (sp (n-1)) (sp 0)) W:=fun o=>by
  unfold dt GB kQ cG;grind
 let hW':kQ (cG (sp (n-1)) (sp 0)) W≠0:=fun z=>hW (by
  unfold kQ at z ⊢
  grind)
 show ⟨GB sp m0 (-(dt W (m0 (n-1))) / kQ (cG (sp (n-1)) (sp 0)) W),?_,?_,fun k hk=>?_,fun k hk=>?_⟩
 ·unfold GB
  rw [z0];ext<;>grind
 ·rw [e,Rat.div_mul_cancel hW']
  grind
 ·rw [KD,hm,hm]
  exact h1 k hk
 ·rw [KD,hm,hm]
  exact h2 k hk
structure mU (pX:ν)(W:Rat×Rat):Prop where
 n3:3<=pX.length
 st:∀k p q r,pX[k]?=some p->pX[k+1]?=some q->pX[k+2]?=some r->kQ (cG q.sp p.sp) (cG r.sp p.sp)≠0
 w0:∀p,pX[0]?=some p->p.ws=[(1,0),(0,1)]
 wl:∀p,pX[pX.length-1]?=some p->p.ws=[W]
 wm:∀k p,0<k->k+1<pX.length->pX[k]?=some p->p.ws=[]
 cr:∀p q,pX[0]?=some p->pX[pX.length-1]?=some q->kQ W (cG q.sp p.sp)≠0
def vp (pX:ν)(b:aL)(k d:Nat):Prop:=(d=1\/d=2)/\((pX[k]?=some b.one/\pX[k+d]?=some b.lj)\/(pX[k]?=some b.lj/\pX[k+d]?=some b.one))
def bC (b c:aL):Bool:=decide ((b.one.nm=c.one.nm/\b.lj.nm=c.lj.nm)\/(b.lj.nm=c.one.nm/\b.one.nm=c.lj.nm))
def d3 {pX:ν}(nd:(pX.map (·.nm)).Nodup){i j:Nat}(hi:pX[i]?=some p)(hj:pX[j]?=some q)(e:p.nm=q.nm):i=j:=by
 let h1:(pX.map (·.nm))[i]?=some p.nm:=by rw [Wp,hi];rfl
 let h2:(pX.map (·.nm))[j]?=some p.nm:=by rw [Wp,hj,e];rfl
 exact dS nd h1 h2
def ahk (nd:(pX.map (·.nm)).Nodup)(hb:vp pX b k d)(hc:vp pX c k' d'):bC b c=decide (k=k'/\d=d'):=by
 unfold bC;refine decide_eq_decide.mpr ⟨fun h=>?_,fun h=>?_⟩
 ·obtain ⟨d1,hb⟩:=hb
  obtain ⟨d2,hc⟩:=hc
  rcases hb with ⟨b1,b2⟩|⟨b1,b2⟩<;>rcases hc with ⟨c1,c2⟩|⟨c1,c2⟩<;>rcases h with ⟨h1,h2⟩|⟨h1,h2⟩
  ·have:=d3 nd b1 c1 h1
   have:=d3 nd b2 c2 h2;omega
  ·have:=d3 nd b2 c1 h1
   have:=d3 nd b1 c2 h2;omega
  ·have:=d3 nd b1 c2 h1
   have:=d3 nd b2 c1 h2;omega
  ·have:=d3 nd b2 c2 h1
   have:=d3 nd b1 c1 h2;omega
  ·have:=d3 nd b2 c1 h1
   have:=d3 nd b1 c2 h2;omega
  ·have:=d3 nd b1 c1 h1
   have:=d3 nd b2 c2 h2;omega
  ·have:=d3 nd b2 c2 h1
   have:=d3 nd b1 c1 h2;omega
  ·have:=d3 nd b1 c2 h1
   have:=d3 nd b2 c1 h2;omega
 ·obtain ⟨rfl,rfl⟩:=h
  rcases hb.2 with ⟨b1,b2⟩|⟨b1,b2⟩<;>rcases hc.2 with ⟨c1,c2⟩|⟨c1,c2⟩<;>rw [b1] at c1<;>rw [b2] at c2<;>have e1:=pj aA.nm (GU c1)<;>have e2:=pj aA.nm (GU c2)
  ·exact .inl ⟨e1,e2⟩
  ·exact .inr ⟨e2,e1⟩
  ·exact .inr ⟨e1,e2⟩
  ·exact .inl ⟨e2,e1⟩
def spF (pX:ν)(k:Nat):Rat×Rat:=(pX[k]?.map (·.sp)).getD (0,0)
def mV (h:pX[k]?=some p):spF pX k=p.sp:=by
 unfold spF;rw [h];rfl
def mU.strip (ch:mU pX W):Qu (spF pX) pX.length:=⟨ch.n3,fun k hk=>by
 let e0:=gE (show k<pX.length by omega);let e1:=gE (show k+1<pX.length by omega);let e2:=gE hk;rw [mV e0,mV e1,mV e2]
 exact ch.st k _ _ _ e0 e1 e2⟩
def aaN {gV:τ}(nd:(pX.map (·.nm)).Nodup)(ch:mU pX W)(oc:∀c∈gV,∃k d,vp pX c k d)(hb:b∈gV):∃M:Str->Rat×Rat,(∀p∈pX,∀w∈p.ws,dt w (M p.nm)=0)/\∀c∈gV,dZ M c=if bC b c=true then 1 else 0:=by
 obtain ⟨k0,d0,sb⟩:=oc b hb;let n3:=ch.n3;let ef:=gE (show 0<pX.length by omega);let el:=gE (show pX.length-1<pX.length by omega);obtain ⟨m,m0,mW,h1,h2⟩:=lead ch.strip (W:=W) (by rw [mV ef,mV el];exact ch.cr _ _ ef el) (fun k=>if k=k0/\d0=1 then 1 else 0) (fun k=>if k=k0/\d0=2 then 1 else 0);obtain ⟨M,hM⟩:=xR (nm:=aA.nm) ((0:Rat),(0:Rat)) nd m;show ⟨M,fun p hp w hw=>?_,fun c hc=>?_⟩
 ·obtain ⟨i,ei⟩:=FZ hp
  let li:=(be.mp ei).1;rw [hM i p ei]
  rcases ajr i with rfl|hi
  ·rw [m0]
   unfold dt;grind
  ·by_cases c:i+1<pX.length
   ·rw [ch.wm i p hi c ei] at hw
    cases hw
   ·obtain rfl:i=pX.length-1:=ce
    rw [ch.wl p ei] at hw;rwa [GQ.mp hw]
 ·obtain ⟨k,d,sc⟩:=oc c hc
  rw [ahk nd sb sc]
  let key:∀(p q:aA),pX[k]?=some p->pX[k+d]?=some q->dt (cG q.sp p.sp) (cG (M q.nm) (M p.nm))=if k=k0/\d0=d then 1 else 0:=fun p q hp hq=>by
   let lq:=(be.mp hq).1;rw [hM _ p hp,hM _ q hq,<-mV hp,<-mV hq]
   rcases sc.1 with rfl|rfl
   ·exact h1 k lq
   ·exact h2 k lq
  let fin:dZ M c=if k=k0/\d0=d then 1 else 0:=by
   rcases sc.2 with ⟨c1,c2⟩|⟨c1,c2⟩
   ·rw [<-key _ _ c1 c2]
    rfl
   ·rw [<-key _ _ c1 c2]
    unfold dZ dt cG jm;grind
  rw [fin];by_cases z:k=k0/\d0=d
  ·rw [ox z,ox (La ⟨z.1.symm,z.2⟩)]
  ·rw [ni z,ni (fun y=>z (by have:=Lc y;show ⟨this.1.symm,this.2⟩))]
theorem Qw {Z:Type}(t:Z->Rat)(p:Z->Bool):∀l:List Z,(l.map fun c=>t c*(if p c=true then 1 else 0)).sum=((l.filter p).map t).sum
 | []=>rfl
 | c::l=>by
  rw [DV,GN,Qw t p l,WS];split
  ·rw [DV,GN]
   grind
  ·grind
def Qx (g:dJ pX gV)(ch:mU pX W)(oc:∀c∈gV,∃k d,vp pX c k d)(h:iB pX gV T U L)(h':iB pX gV T' U' L)(hb:b∈gV):((gV.filter (bC b)).map fun c=>T c.nm).sum=((gV.filter (bC b)).map fun c=>T' c.nm).sum:=by
 obtain ⟨M,hw,hl⟩:=aaN g.np ch oc hb
 let f:∀T:Str->Rat,(gV.map fun c=>T c.nm*dZ M c).sum=((gV.filter (bC b)).map fun c=>T c.nm).sum:=fun T=>by
  rw [<-Qw];exact pj Tw (LD fun c hc=>by rw [hl c hc])
 rw [<-f,<-f,<-TJ g h hw,<-TJ g h' hw]
def abn (b:aL):bC b b=true:=La (.inl ⟨rfl,rfl⟩)
def adJ (h:bC b c=true):bC c b=true:=by
 rcases Lc h with ⟨h1,h2⟩|⟨h1,h2⟩
 ·exact La (.inl ⟨h1.symm,h2.symm⟩)
 ·exact La (.inr ⟨h2.symm,h1.symm⟩)
def adE (h:bC b c=true)(h':bC c d=true):bC b d=true:=by
 rcases Lc h with ⟨h1,h2⟩|⟨h1,h2⟩<;>rcases Lc h' with ⟨h3,h4⟩|⟨h3,h4⟩
 ·exact La (.inl ⟨h1.trans h3,h2.trans h4⟩)
 ·exact La (.inr ⟨h2.trans h3,h1.trans h4⟩)
 ·exact La (.inr ⟨h1.trans h3,h2.trans h4⟩)
 ·exact La (.inl ⟨h2.trans h3,h1.trans h4⟩)
theorem uk {Z:Type}(f g:Z->Rat):∀l:List Z,(l.map fun b=>f b+g b).sum=(l.map f).sum+(l.map g).sum
 | []=>by
  simp only [LP,Nc];grind
 | b::l=>by
  rw [DV,GN,uk f g l,DV,GN,DV,GN];grind
theorem KG {t f:aL->Rat}:∀(n:Nat) {l:τ},l.length<=n->(∀b∈l,∀c∈l,bC b c=true->f c=f b)->(∀b∈l,((l.filter (bC b)).map t).sum=0)->(l.map fun b=>t b*f b).sum=0
 | _,[],_,_,_=>rfl
 | n+1,b::l,hl,hf,h=>by
  let split:∀(p:aL->Bool)(u:aL->Rat)(l:τ),(l.map u).sum=((l.filter p).map u).sum+((l.filter fun x=> !p x).map u).sum:=fun p u l=>by
   induction l with
   | nil=>
    simp only [aj2,LP,Nc];grind
   | cons x l ih=>
    rw [DV,GN,ih,WS,WS];cases p x<;>simp only [Bool.not_true,Bool.not_false,if_true,if_false,DV,GN,TX]<;>grind
  rw [split (bC b)];let h0:=h b GG
  let e1:(((b::l).filter (bC b)).map fun c=>t c*f c).sum=0:=by
   have:(((b::l).filter (bC b)).map fun c=>t c*f c)=((b::l).filter (bC b)).map fun c=>f b*t c:=LD fun c hc=>by
    obtain ⟨m,a⟩:=QO.mp hc;rw [hf b GG c m a];grind
   rw [this,lV,h0];grind
  let e2:=KG (t:=t) (f:=f) n (l:=(b::l).filter fun x=> !bC b x) (by
   rw [WS,ni (by rw [abn];exact LM)]
   exact BJ (ahE _ _) (Nat.le_of_succ_le_succ hl)) (fun x hx y hy=>hf x (QO.mp hx).1 y (QO.mp hy).1) (fun x hx=>by
   obtain ⟨mx,ax⟩:=QO.mp hx;rw [List.filter_filter]
   have:((b::l).filter fun y=>bC x y && !bC b y)=(b::l).filter (bC x):=List.filter_congr fun y _=>by
    cases z:bC x y with
    | false=>rfl
    | true=>
     have:bC b y=false:=by
      cases w:bC b y with
      | false=>rfl
      | true=>
       erw [adE w (adJ z)] at ax
     rw [this];rfl
   rw [this]
   exact h x mx)
  rw [e1,e2];grind
def agt (g:dJ pX gV)(ch:mU pX W)(oc:∀c∈gV,∃k d,vp pX c k d)(h:iB pX gV T U L)(h':iB pX gV T' U' L)(lU:∀p∈pX,(U p.nm).length=p.ws.length)(lU':∀p∈pX,(U' p.nm).length=p.ws.length)(hp:p∈pX):U p.nm=U' p.nm:=by
 let bs:∀c:Rat×Rat->Rat,(gV.map fun b=>T b.nm*c (mv (cE b) p.nm)).sum=(gV.map fun b=>T' b.nm*c (mv (cE b) p.nm)).sum:=fun c=>by
  let z:=KG (t:=fun b=>T b.nm+ -(T' b.nm)) (f:=fun b=>c (mv (cE b) p.nm)) gV.length (D' _) (fun b hb d hd a=>?_) fun b hb=>?_
  ·have:(gV.map fun b=>(T b.nm+ -(T' b.nm))*c (mv (cE b) p.nm))=gV.map fun b=>T b.nm*c (mv (cE b) p.nm)+ -(T' b.nm*c (mv (cE b) p.nm)):=LD fun b _=>by grind
   rw [this,uk,sum_neg] at z;grind
  ·obtain ⟨k,e,sb⟩:=oc b hb
   obtain ⟨k',e',sd⟩:=oc d hd;rw [ahk g.np sb sd] at a;obtain ⟨rfl,rfl⟩:=Lc a
   have:mv (cE d) p.nm=mv (cE b) p.nm:=by
    let ne:=(g.ends b hb).2.2
    rcases sb.2 with ⟨b1,b2⟩|⟨b1,b2⟩<;>rcases sd.2 with ⟨c1,c2⟩|⟨c1,c2⟩<;>rw [b1] at c1<;>rw [b2] at c2<;>have e1:=GU c1<;>have e2:=GU c2<;>unfold mv cE<;>rw [<-e1,<-e2]
    ·by_cases c1:p.nm=b.one.nm
     ·rw [ox c1,ni (fun z=>ne (c1.symm.trans z)),ox c1]
     ·rw [ni c1,ni c1]
    ·by_cases c1:p.nm=b.one.nm
     ·rw [ox c1,ni (fun z=>ne (c1.symm.trans z)),ox c1]
     ·rw [ni c1,ni c1]
   show c (mv (cE d) p.nm)=c (mv (cE b) p.nm);rw [this]
  ·let e:=Qx g ch oc h h' hb
   show ((gV.filter (bC b)).map fun b=>T b.nm+ -(T' b.nm)).sum=0;rw [uk,sum_neg,e];grind
 obtain ⟨r1,r2⟩:=h p hp;obtain ⟨q1,q2⟩:=h' p hp;unfold fQ at r1 r2 q1 q2
 let k1:sP (U p.nm) (p.ws.map (·.1))=sP (U' p.nm) (p.ws.map (·.1)):=by
  have:=bs (·.1);grind
 let k2:sP (U p.nm) (p.ws.map (·.2))=sP (U' p.nm) (p.ws.map (·.2)):=by
  have:=bs (·.2);grind
 let l1:=lU p hp;let l2:=lU' p hp;let n3:=ch.n3;obtain ⟨i,ei⟩:=FZ hp;let li:=(be.mp ei).1;generalize U p.nm=us at k1 k2 l1;generalize U' p.nm=vs at k1 k2 l2
 rcases ajr i with rfl|hi
 ·rw [ch.w0 p ei] at k1 k2 l1 l2
  match us,vs,l1,l2 with
  | [a,b],[c,d],_,_=>
   simp [sP] at k1 k2;rw [show a=c by grind,show b=d by grind]
 ·by_cases c:i+1<pX.length
  ·rw [ch.wm i p hi c ei] at l1 l2
   rw [Uh.mp l1,Uh.mp l2]
  ·obtain rfl:i=pX.length-1:=ce
   rw [ch.wl p ei] at k1 k2 l1 l2;let ef:=gE (show 0<pX.length by omega);let cr:=ch.cr _ p ef ei;obtain ⟨a,rfl⟩:=ID.mp l1;obtain ⟨b,rfl⟩:=ID.mp l2
   ·let z1:sP [a] [W.1]=a*W.1:=by simp [sP];grind
    let z2:sP [a] [W.2]=a*W.2:=by simp [sP];grind
    let z3:sP [b] [W.1]=b*W.1:=by simp [sP];grind
    let z4:sP [b] [W.2]=b*W.2:=by simp [sP];grind
    let k1:a*W.1=b*W.1:=by rwa [<-z1,<-z3]
    let k2:a*W.2=b*W.2:=by rwa [<-z2,<-z4]
    generalize cG p.sp pX[0].sp=v at cr
    have:(a-b)*kQ W v=0:=by
     let e:(a-b)*kQ W v=(a*W.1-b*W.1)*v.2-(a*W.2-b*W.2)*v.1:=by
      unfold kQ;grind
     rw [e,k1,k2];grind
    rcases ai0.mp this with z|z
    ·rw [show a=b by grind]
    ·exact DZ z cr
def cell (ns:ξ)(k:Int):Int:=if k<(ns.length:Int) then (ns[k.toNat]?).getD 0 else ((((k+5)*(k+5)*48271).fmod 2147483647)*(((k+5)*(k+5)*48271).fmod 2147483647)).fmod 2147483629
def iS {x m:Int}(h:0<m):0<=x.fmod m/\x.fmod m<m:=⟨IL x h,aie x h⟩
inductive kR (K:Frag)(vs:η)(H:Hp)(Q:VK)(E_:XK):Prop
|mk (a:AF)(ns:ξ)(k:Int)(_:vs=[.ref a,.int k])(_:aR K H a (ns.map V.int))(_:0<=k)(_:k<=1000)(_:Q (.int (cell ns k)) H)
def cell_in {ns:ξ}(h0:0<=k)(h:k<(ns.length:Int)):i7 (ns.map V.int) k=some (.int (cell ns k)):=by
 let hk:k.toNat<ns.length:=ce
 let ek:k=((k.toNat:Nat):Int):=ce
 let q:i7 (ns.map V.int) ((k.toNat:Nat):Int)=some (.int (cell ns k)):=bq (by
  unfold cell;rw [ox h,Wp,gE hk]
  rfl)
 rwa [<-ek] at q
def jN (h:i.natAbs<2^k):intBits i<=k:=intBits_le_iff.mpr h
def wD (hb:∀i∈ns,intBits i<=1048576)(k:Int):intBits (cell ns k)<=1048576:=by
 unfold cell;split
 ·cases e:ns[k.toNat]? with
  | none=>exact intBits_le_iff.mpr (by show 0<2^1048576;exact aiY _)
  | some v=>exact hb v (DW e)
 ·have:=iS (x:=((((k+5)*(k+5)*48271).fmod 2147483647)*(((k+5)*(k+5)*48271).fmod 2147483647))) (m:=2147483629) dL
  exact BJ (jN (k:=40) (by show _<1099511627776;omega)) dL
def We:av ["_law_script","_law_k","_law_part"] Qd (ae Mj):=sq
def acD (D:Def K mg "_law_cell_at" Mj Qd)(a_:mg "len"=none):Fn P w K mg iT CX 1 "_law_cell_at" Qd (kR K):=by
 refine D.oo We fun H hr h=>?_;obtain ⟨a,ns,k,rfl,hS,h0,h1,q⟩:=h
 show ⟨_,(aa (bF (bO IF (pv 1) (aU aQ rfl a_ cS (aZ (pv 0)))) (ag (aF (bg aI (pv 0) (pv 1)))) aX) (aa (aC 2 We.nd (aw fN (aw bu (aw bu (aw bT (pv 1) af) (aw bT (pv 1) af)) af) af)) (ag (aF (aw fN (aw bu (pv 2) (pv 2)) af))))),?_⟩
 let hl:(ns.map V.int).length=ns.length:=ir _;show ⟨_,rfl,_,rfl,a,_,rfl,.inl hS,_,_,rfl,rfl,_,rfl,?_⟩;refine bG (fun c=>?_) (fun c=>?_)
 ·let c':k<(((ns.map V.int).length:Nat):Int):=Lc c
  rw [hl] at c';show ⟨_,rfl,_,rfl,a,_,k,_,rfl,rfl,hS,cell_in h0 c',q⟩
 ·let c':¬ k<(((ns.map V.int).length:Nat):Int):=of_decide_eq_false (SO.mpr c)
  rw [hl] at c';let b5:intBits (k+5)<=11:=jN (by show _<2048;omega);let e1:=iS (x:=(k+5)*(k+5)*48271) (m:=2147483647) dL;let bp:intBits (((k+5)*(k+5)*48271).fmod 2147483647)<=31:=jN (by show _<2147483648;omega);show ⟨_,rfl,_,_,rfl,rfl,_,rfl,_,_,rfl,rfl,_,_,rfl,rfl,⟨BJ b5 dL,BJ b5 dL⟩,_,_,rfl,rfl,⟨BJ (M_ b5 b5) dL,by decide+kernel⟩,_,_,rfl,rfl,nz dL,_,rfl,_,rfl,_,_,rfl,rfl,⟨BJ bp dL,BJ bp dL⟩,_,_,rfl,rfl,nz dL,?_⟩
  let e:cell ns k=((((k+5)*(k+5)*48271).fmod 2147483647)*(((k+5)*(k+5)*48271).fmod 2147483647)).fmod 2147483629:=by
   unfold cell;rw [ni c']
  rwa [e] at q
def field (c p m:Int):Int:=(((c.fmod p+11)*48271).fmod p).fmod m
def bV (h:0<m):0<=field c p m/\field c p m<m:=iS h
inductive gS (vs:η)(H:Hp)(Q:VK)(E_:XK):Prop
|mk (c p m:Int)(_:vs=[.int c,.int p,.int m])(_:0<p)(_:p<=2000000)(_:0<m)(_:Q (.int (field c p m)) H)
def acE:av Ph Ph (ae Ml):=sq
def acF (D:Def K mg "_law_field" Ml Ph):Fn P w K mg iT CX 1 "_law_field" Ph gS:=by
 refine D.oo acE fun H hr h=>?_;obtain ⟨c,p,m,rfl,hp,hp2,hm,q⟩:=h;show ⟨_,(ag (aF (aw fN (aw fN (aw bu (aw bT (aw fN (pv 0) (pv 1)) af) af) (pv 1)) (pv 2)))),?_⟩;let e1:=iS (x:=c) hp;show ⟨_,rfl,_,rfl,_,_,rfl,rfl,nz ce,_,_,rfl,rfl,_,_,rfl,rfl,⟨BJ (jN (k:=22) (by show _<4194304;omega)) dL,by decide+kernel⟩,_,rfl,_,_,rfl,rfl,nz ce,_,rfl,_,_,rfl,rfl,nz ce,q⟩
inductive dO (vs:η)(H:Hp)(Q:VK)(E_:XK):Prop
|mk (t b:Int)(_:vs=[.int t,.int b])(_:0<b)(_:gives H Q (low t b))
def KH:av ["_law_top","_law_bottom","_law_one","_law_other"] TH (ae Mm):=sq
def acG (ht:P.given.tree=none)(D:Def K mg "_law_lowest" Mm TH)(wu:mg "abs"=none):ac P w K mg iT 33 "_law_lowest" TH dO:=by
 refine D.oo KH fun H hr h=>?_;obtain ⟨t,b,rfl,hb,q⟩:=h
 show ⟨_,(aa (aC 2 KH.nd (aU y_ rfl wu VO (aZ (pv 0)))) (aa (aC 3 KH.nd (pv 1)) (aa (yZ FF (bO nE (pv 3) af) (ag (agF (i:=2) (j:=3) rfl KH.nd rfl rfl dL rfl rfl (aE (pv 3) (aw fN (pv 2) (pv 3))) rfl))) (ag (aF (aK (aE (aw (ip ht (Ty.cM.py hr dL) rfl rfl rfl rfl rfl) (pv 0) (pv 2)) (aw (ip ht (Ty.cM.py hr dL) rfl rfl rfl rfl rfl) (pv 1) (pv 2))))))))),?_⟩
 show ⟨_,rfl,t,rfl,_,rfl,?_⟩;refine y6 (fun Y H'=>∃x y:Int,Y=[some (.int t),some (.int b),some (.int x),some (.int y)]/\H'=H/\0<=x/\0<=y/\LI x y=LI t b) (fun Y _=>match Y with|[_,_,_,some (.int y)]=>y.natAbs|_=>0) ⟨_,b,rfl,rfl,?_,ce,?_⟩ ?_ ?_
 ·split<;>omega
 ·split
  ·exact Int.neg_gcd
  ·rfl
 ·rintro Y H' ⟨x,y,rfl,rfl,hx,hy,g⟩
  show ⟨_,rfl,rfl,_,rfl,?_⟩;refine bG (fun c=>?_) (fun c=>?_)
  ·let M3:y≠0:=by
    intro z;subst z;simp at c
   show ⟨_,rfl,_,rfl,_,rfl,_,_,rfl,rfl,M3,_,_,rfl,⟨_,_,rfl,rfl,hy,IL _ ce,by rwa [zo]⟩,vT M3⟩
  ·let M3:y=0:=by
    have:=SO.mpr c;simp at this;exact this
   subst M3
   let e:x=sg t b:=by
    rw [ajn] at g;unfold sg;rw [ni ce];unfold gz;rw [<-g];omega
   subst e;let hbn:b≠0:=ce
   let c:=sy (t:=t) hbn;show ⟨_,rfl,_,rfl,_,_,rfl,rfl,c,_,rfl,_,rfl,_,_,rfl,rfl,c,qU,fun p hp=>?_⟩;exact q p _ (aD hp _) ah
 ·rintro Y H' Q1 Q2 h ⟨v,e1,e2,k,ek,z⟩
  show ⟨v,e1,e2,k,ek,h _ _ z⟩
structure Ns (n:Nat)(q:Int×Int):Prop where
 top:q.1.natAbs<=2^n
 bot:q.2.natAbs<=2^n
def Ns.up (h:Ns m q)(l:m<=n):Ns n q:=⟨BJ h.top (Na dL l),BJ h.bot (Na dL l)⟩
def g_ (K:Frag)(H:Hp)(v:V)(n:Nat)(r:Rat):Prop:=∃q:Int×Int,iY K H v q/\0<q.2/\vl q=r/\Ns n q
theorem g_.lh (h:g_ K H v n r)(s:ao H H'):g_ K H' v n r:=by
 obtain ⟨q,h1,h2⟩:=h;show ⟨q,h1.lh s,h2⟩
theorem g_.aH (h:g_ K H v n r)(s:a9 H H'):g_ K H' v n r:=by
 obtain ⟨q,h1,h2⟩:=h;show ⟨q,h1.aH s,h2⟩
theorem g_.up (h:g_ K H v m r)(l:m<=n):g_ K H v n r:=by
 obtain ⟨q,h1,h2,h3,h4⟩:=h;show ⟨q,h1,h2,h3,h4.up l⟩
def cv (h:dh K H v r)(z:Zb n r):g_ K H v n r:=⟨qr r,h,cX r,dY r,⟨z.top,z.bot⟩⟩
def eR (h:Sz k r)(l:k<=n):Zb n r:=⟨Pk (Lf (intBits_le_iff.mp h.top) (Na dL l)),Pk (Lf (intBits_le_iff.mp h.bot) (Na dL l))⟩
def agp (h:0<q.2):q.1=0 ↔ vl q=0:=by
 unfold vl;let z:((q.2:Int):Rat)≠0:=cz (LJ h);constructor
 ·intro e
  rw [e];have:((0:Int):Rat)=0:=by rfl
  rw [this];grind
 ·intro e
  apply TZ;intro n;let y:((q.1:Int):Rat)≠0:=cz n;exact (by grind:¬ ((q.1:Int):Rat) / ((q.2:Int):Rat)=0) e
def gC (x y:Int×Int):Int×Int:=(x.1*y.2+y.1*x.2,x.2*y.2)
def i5 (x y:Int×Int):Int×Int:=(x.1*y.1,x.2*y.2)
def gH {a b:Int}(h1:a.natAbs<=2^m)(h2:b.natAbs<=2^n):(a*b).natAbs<=2^(m+n):=by
 rw [Nj,Ud];exact M8 h1 h2
def agd (hx:0<x.2)(hy:0<y.2)(zx:Ns m x)(zy:Ns n y):0<(gC x y).2/\vl (gC x y)=vl x+vl y/\Ns (m+n+1) (gC x y):=by
 show ⟨Oo hx hy,?_,?_,?_⟩
 ·unfold vl gC
  let z1:((x.2:Int):Rat)≠0:=cz (LJ hx);let z2:((y.2:Int):Rat)≠0:=cz (LJ hy);push_cast;grind
 ·let h1:=gH zx.top zy.bot
  let h2:=gH zy.top zx.bot;rw [YG n m] at h2;let h3:=TV (x.1*y.2) (y.1*x.2);show (x.1*y.2+y.1*x.2).natAbs<=2^(m+n+1);rw [Tb];omega
 ·exact BJ (gH zx.bot zy.bot) (Na dL ce)
def afp (hx:0<x.2)(hy:0<y.2)(zx:Ns m x)(zy:Ns n y):0<(i5 x y).2/\vl (i5 x y)=vl x*vl y/\Ns (m+n) (i5 x y):=by
 show ⟨Oo hx hy,?_,gH zx.top zy.top,gH zx.bot zy.bot⟩;unfold vl i5;let z1:((x.2:Int):Rat)≠0:=cz (LJ hx);let z2:((y.2:Int):Rat)≠0:=cz (LJ hy);push_cast;grind
inductive bw (K:Frag)(f:Int×Int->Int×Int->Int×Int)(vs:η)(H:Hp)(Q:VK)(E_:XK):Prop
|mk (u v:V)(x y:Int×Int)(m n:Nat)(_:vs=[u,v])(_:iY K H u x)(_:iY K H v y)(_:Ns m x)(_:Ns n y)(_:m+n<=130000000)(_:gives H Q (f x y))
def gi (h1:g_ K H u m x)(h2:g_ K H v n y)(l:m+n<=130000000)(k:∀(p:AF)(H':Hp),ao H H' ->g_ K H' (.ref p) (m+n+1) (x+y)->Q (.ref p) H'):bw K gC [u,v] H Q E:=by
 obtain ⟨q1,a1,a2,a3,a4⟩:=h1;obtain ⟨q2,b1,b2,b3,b4⟩:=h2;obtain ⟨c1,c2,c3⟩:=agd a2 b2 a4 b4;show ⟨u,v,q1,q2,m,n,rfl,a1,b1,a4,b4,l,fun p H' s e=>k p H' s ⟨gC q1 q2,⟨p,rfl,bE.of e⟩,c1,by rw [c2,a3,b3],c3⟩⟩
def gT (h1:g_ K H u m x)(h2:g_ K H v n y)(l:m+n<=130000000)(k:∀(p:AF)(H':Hp),ao H H' ->g_ K H' (.ref p) (m+n) (x*y)->Q (.ref p) H'):bw K i5 [u,v] H Q E:=by
 obtain ⟨q1,a1,a2,a3,a4⟩:=h1;obtain ⟨q2,b1,b2,b3,b4⟩:=h2;obtain ⟨c1,c2,c3⟩:=afp a2 b2 a4 b4;show ⟨u,v,q1,q2,m,n,rfl,a1,b1,a4,b4,l,fun p H' s e=>k p H' s ⟨i5 q1 q2,⟨p,rfl,bE.of e⟩,c1,by rw [c2,a3,b3],c3⟩⟩
inductive ff (K:Frag)(vs:η)(H:Hp)(Q:VK)(E_:XK):Prop
|mk (u:V)(x:Int×Int)(_:vs=[u])(_:iY K H u x)(_:gives H Q (0-x.1,x.2))
def kX (h1:g_ K H u m x)(k:∀(p:AF)(H':Hp),ao H H' ->g_ K H' (.ref p) m (-x)->Q (.ref p) H'):ff K [u] H Q E:=by
 obtain ⟨q1,a1,a2,a3,a4⟩:=h1;show ⟨u,q1,rfl,a1,fun p H' s e=>k p H' s ⟨(0-q1.1,q1.2),⟨p,rfl,bE.of e⟩,a2,?_,?_,a4.bot⟩⟩
 ·rw [<-a3]
  unfold vl;push_cast;grind
 ·have:=a4.top
  show (0-q1.1).natAbs<=2^m;omega
def acH:av LG LG (ae Mn):=sq
def acI (D:Def K mg "_law_sum" Mn LG):ac P w K mg iT 1 "_law_sum" LG (bw K gC):=by
 refine D.oo acH fun H hr h=>?_;obtain ⟨u,v,x,y,m,n,rfl,⟨p1,rfl,h1⟩,⟨p2,rfl,h2⟩,zx,zy,l,q⟩:=h;show ⟨_,(ag (aF (aK (aE (aw bT (aw iK (ay (pv 0)) (ay (pv 1))) (aw iK (ay (pv 1)) (ay (pv 0)))) (aw iK (ay (pv 0)) (ay (pv 1))))))),_,rfl,p1,_,_,_,rfl,rfl,h1,iF,_,rfl,p2,_,_,_,rfl,rfl,h2,gL,_,_,rfl,rfl,gu zx.top zy.bot ce,_,rfl,p2,_,_,_,rfl,rfl,h2,iF,_,rfl,p1,_,_,_,rfl,rfl,h1,gL,_,_,rfl,rfl,gu zy.top zx.bot ce,_,_,rfl,rfl,_,rfl,p1,_,_,_,rfl,rfl,h1,gL,_,rfl,p2,_,_,_,rfl,rfl,h2,gL,_,_,rfl,rfl,gu zx.bot zy.bot ce,qU,?_⟩;intros p3 n3 H3 s3 e3;exact q p3 H3 s3 e3
def acJ:av LG LG (ae Mp):=sq
def acK (D:Def K mg "_law_times" Mp LG):ac P w K mg iT 1 "_law_times" LG (bw K i5):=by
 refine D.oo acJ fun H hr h=>?_;obtain ⟨u,v,x,y,m,n,rfl,⟨p1,rfl,h1⟩,⟨p2,rfl,h2⟩,zx,zy,l,q⟩:=h;show ⟨_,(ag (aF (aK (aE (aw iK (ay (pv 0)) (ay (pv 1))) (aw iK (ay (pv 0)) (ay (pv 1))))))),_,rfl,p1,_,_,_,rfl,rfl,h1,iF,_,rfl,p2,_,_,_,rfl,rfl,h2,iF,_,_,rfl,rfl,gu zx.top zy.top ce,_,rfl,p1,_,_,_,rfl,rfl,h1,gL,_,rfl,p2,_,_,_,rfl,rfl,h2,gL,_,_,rfl,rfl,gu zx.bot zy.bot ce,qU,?_⟩;intros p3 n3 H3 s3 e3;exact q p3 H3 s3 e3
def acL:av Qf Qf (ae Mq):=sq
def acM (D:Def K mg "_law_turned" Mq Qf):ac P w K mg iT 1 "_law_turned" Qf (ff K):=by
 refine D.oo acL fun H hr h=>?_;obtain ⟨u,x,rfl,⟨p1,rfl,h1⟩,q⟩:=h;show ⟨_,(ag (aF (aK (aE (aw fh af (ay (pv 0))) (ay (pv 0)))))),_,rfl,p1,_,_,_,rfl,rfl,h1,iF,_,_,rfl,rfl,_,rfl,p1,_,_,_,rfl,rfl,h1,gL,qU,?_⟩;intros p3 n3 H3 s3 e3;exact q p3 H3 s3 e3
def nameOf (st a k:Int):Str:=if st=0 then Txt.mul "p" (k+1) else if st=3 then Txt.mul "p" (30-k) else if st=1 then Txt.mul "p" a++N7 (toString k)++Txt.mul "b" (5-a) else Txt.slice "12345" none (some a)++N7 (toString k)
def agm:∀st:Fin 4,∀a:Fin 6,∀k:Fin 27,∀j:Fin 27,k≠j->nameOf (st.val:Int) (a.val:Int) (k.val:Int)≠nameOf (st.val:Int) (a.val:Int) (j.val:Int):=by decide+kernel
def aep:∀n:Fin 32,MulOk "p" (n.val:Int)/\MulOk "b" (n.val:Int):=by
 intro n;unfold MulOk
 revert n
 decide+kernel
def af_:∀a:Fin 6,∀k:Fin 27,(Txt.mul "p" (a.val:Int)).length+(N7 (toString (k.val:Int))).length<=1000/\
  (Txt.mul "p" (a.val:Int)++N7 (toString (k.val:Int))).length+(Txt.mul "b" (5-(a.val:Int))).length<=1000/\(Txt.slice "12345" none (some (a.val:Int))).length+(N7 (toString (k.val:Int))).length<=1000:=by decide+kernel
inductive GK (vs:η)(H:Hp)(Q:VK)(E_:XK):Prop
|mk (st a k:Int)(_:vs=[.int st,.int a,.int k])(_:0<=a)(_:a<6)(_:0<=k)(_:k<27)(_:Q (.str (nameOf st a k)) H)
def acN:av XH XH (ae Mr):=sq
def acO (D:Def K mg "_law_name" Mr XH)(KI:mg "str"=none):ac P w K mg iT 1 "_law_name" XH GK:=by
 refine D.oo acN fun H hr h=>?_;obtain ⟨st,a,k,rfl,a0,a6,h0,h12,q⟩:=h
 show ⟨_,(aa (bF (bO fk (pv 0) af) (ag (aF (aw rG h_ (aw bT (pv 2) af)))) aX) (aa (bF (bO fk (pv 0) af) (ag (aF (aw rG h_ (aw fh af (pv 2))))) aX) (aa (bF (bO fk (pv 0) af) (ag (aF (aw mF (aw mF (aw rG h_ (pv 1)) (dq nH rfl KI VP (aZ (pv 2)))) (aw rG h_ (aw fh af (pv 1)))))) aX) (ag (aF (aw mF (bX akE h_ cQ (cH (pv 1))) (dq nH rfl KI VP (aZ (pv 2))))))))),?_⟩
 obtain ⟨kn,rfl⟩:∃n:Nat,k=(n:Int):=⟨k.toNat,ce⟩;obtain ⟨an,rfl⟩:∃n:Nat,a=(n:Int):=⟨a.toNat,ce⟩
 let mk:∀i:Int,0<=i->i<32->MulOk "p" i/\MulOk "b" i:=fun i a b=>by
  have:=aep ⟨i.toNat,ce⟩
  rwa [show ((⟨i.toNat,ce⟩:Fin 32).val:Int)=i by show ((i.toNat:Nat):Int)=i;omega] at this
 show ⟨_,rfl,rfl,_,rfl,?_⟩;refine bG (fun z=>?_) (fun z=>?_)
 ·let z':st=0:=by simpa [nK] using z
  subst z';show ⟨_,rfl,_,_,rfl,rfl,_,_,rfl,rfl,(mk _ ce ce).1,q⟩
 let z':¬ st=0:=by simpa [nK] using z
 show ⟨_,rfl,rfl,_,rfl,?_⟩;refine bG (fun z2=>?_) (fun z2=>?_)
 ·let z2':st=3:=by simpa [nK] using z2
  subst z2';show ⟨_,rfl,_,_,rfl,rfl,_,_,rfl,rfl,(mk _ ce ce).1,q⟩
 let z2':¬ st=3:=by simpa [nK] using z2
 let nl:=af_ ⟨an,ce⟩ ⟨kn,ce⟩;let lg:(kn:Int).natAbs.log2<1920:=FX (Nat.log2_le_self _) (by show kn<1920;omega);show ⟨_,rfl,rfl,_,rfl,?_⟩;refine bG (fun z3=>?_) (fun z3=>?_)
 ·let z3':st=1:=by simpa [nK] using z3
  subst z3';show ⟨_,rfl,_,_,rfl,rfl,(mk _ ce ce).1,_,rfl,_,rfl,lg,_,_,rfl,rfl,BJ nl.1 dL,_,rfl,_,_,rfl,rfl,_,_,rfl,rfl,(mk _ ce ce).2,_,_,rfl,rfl,BJ nl.2.1 dL,q⟩
 ·let z3':¬ st=1:=by simpa [nK] using z3
  show ⟨_,rfl,_,rfl,_,rfl,(by decide+kernel),_,rfl,_,rfl,lg,_,_,rfl,rfl,BJ nl.2.2 dL,?_⟩
  let e:nameOf st (an:Int) (kn:Int)=Txt.slice "12345" none (some (an:Int))++N7 (toString (kn:Int)):=by
   unfold nameOf;rw [ni z',ni z2',ni z3']
  rwa [e] at q
def namesOf (c:Int)(n:Nat):List Str:=(FG n).map fun (k:Nat)=>nameOf (field c 3001 4) (field c 4001 6) (k:Int)
def names_nodup (c:Int)(h:n<=27):(namesOf c n).Nodup:=by
 unfold namesOf;refine Yj _ (fun i j (z:i<n/\j<n/\i≠j) e=>?_) ((aip.mpr fun i j hi hj hij=>?_:(FG n).Pairwise fun i j=>i<n/\j<n/\i≠j))
 ·let i3:=bV (c:=c) (p:=3001) (m:=4) dL
  let i4:=bV (c:=c) (p:=4001) (m:=6) dL;have:=agm ⟨(field c 3001 4).toNat,ce⟩ ⟨(field c 4001 6).toNat,ce⟩ ⟨i,ce⟩ ⟨j,ce⟩ (fun y=>z.2.2 (pj Fin.val y));dsimp only at this;rw [ah_ i3.1,ah_ i4.1] at this;exact this e
 ·rw [Li] at hi hj
  rw [ail,ail];show ⟨hi,hj,LO hij⟩
inductive rS (K:Frag)(vs:η)(H:Hp)(Q:VK)(E_:XK):Prop
|mk (c:Int)(n:Nat)(_:vs=[.int c,.int (n:Int)])(_:n<=27)(_:∀(l:AF)(H':Hp),ao H H' ->H l=none->H' l=some (.lst ((namesOf c n).map V.str))->Q (.ref l) H')
def jO:av ["_law_cell","_law_many","_law_style","_law_at"] XG (ae fC):=sq
def akm (D:Def K mg "_law_names" fC XG)(aV:mg "range"=none)(gh:ac P w K mg iT 1 "_law_field" Ph gS)(ajI:ac P w K mg iT 1 "_law_name" XH GK):ac P w K mg iT 2 "_law_names" XG (rS K):=by
 refine D.oo jO fun H hr h=>?_;obtain ⟨c,n,rfl,ln,q⟩:=h
 show ⟨_,(aa (aC 2 jO.nd (aJ gh hr (bU (pv 0) af af))) (aa (aC 3 jO.nd (aJ gh hr (bU (pv 0) af af))) (ag (aF (fe (tn:=XM) (fr:=["_law_style","_law_at"]) (oV:=[2,3]) (bB rfl aV (aZ (pv 1))) (tK ajI hr (bU (pv 1) (pv 2) (pv 0)))))))),?_⟩
 let i1:=bV (c:=c) (p:=3001) (m:=4) dL;let i2:=bV (c:=c) (p:=4001) (m:=6) dL;show ⟨_,rfl,_,_,_,rfl,dL,dL,dL,_,rfl,_,_,_,rfl,dL,dL,dL,?_⟩;let en:((n:Nat):Int).toNat=n:=ce
 show ⟨_,rfl,(n:Int),rfl,ce,ce,fun D1 nD=>?_⟩;rw [en];refine ik (lo:=0) (n:=n) (ph:=[some (.int (field c 3001 4)),some (.int (field c 4001 6))]) (fun i v _=>v=.str (nameOf (field c 3001 4) (field c 4001 6) (i:Int))) nD (FX ln dL) (fun _ _ _ _ _ _ _ h=>h) ?_ ?_
 ·intro i H6 Rq hi s6 k
  rw [Lh];show ⟨_,rfl,_,rfl,_,rfl,_,_,_,rfl,i2.1,i2.2,ce,ce,k _ _ (ao.refl _) rfl⟩
 intro ys H4 hy jC s4 hD;refine q D1 H4 s4 nD ?_
 have:ys=(namesOf c n).map V.str:=by
  refine OC fun i=>?_;unfold namesOf;rw [EB,Wp];by_cases ci:i<n
  ·let hi:i<ys.length:=ce
   rw [gE hi,jC i _ (gE hi),Np ci];rfl
  ·rw [FJ ce,FJ (by rw [Li];omega)]
   rfl
 rwa [<-this]
def wG (h:H p=some (.tup [.int (qr r).1,.int (qr r).2])):dh K H (.ref p) r:=⟨p,rfl,bE.of h⟩
structure mq where
 a:Int
 b:Int
 c:Int
 d:Int
 w:Int
 h:Int
 bo:Int
structure mq.Ok (s:mq):Prop where
 dt:s.a*s.d-s.b*s.c≠0
 w:1<=s.w/\s.w<=9
 h:1<=s.h/\s.h<=9
 bo:1<=s.bo/\s.bo<=4
 a:s.a.natAbs<=1000003
 b:s.b.natAbs<=7
 c:s.c.natAbs<=7
 d:s.d.natAbs<=7
def mq.x (s:mq)(k:Nat):Int:=s.a*((k:Int)*s.w)+s.b*((k:Int).fmod 2*s.h)
def mq.y (s:mq)(k:Nat):Int:=s.c*((k:Int)*s.w)+s.d*((k:Int).fmod 2*s.h)
def mq.at (s:mq)(k:Nat):Rat×Rat:=((s.x k:Rat) / (s.bo:Rat),(s.y k:Rat) / (s.bo:Rat))
inductive xU (K:Frag)(vs:η)(H:Hp)(Q:VK)(E_:XK):Prop
|mk (sA:AF)(ns:ξ)(n:Nat)(_:vs=[.ref sA,.int (n:Int)])(_:aR K H sA (ns.map V.int))(_:n<=8)(_:∀(l:AF)(us:η)(s:mq)(H':Hp),ao H H' ->H l=none->H' l=some (.lst us)->s.Ok->us.length=n->(∀k u,us[k]?=some u->i8 K H' u (s.at k))->Q (.ref l) H')
def bD:av ["_law_script","_law_many","_law_cell","_law_wide","_law_high","_law_some","_law_a","_law_b","_law_c","_law_d","_law_bottom","_law_found","_law_k","_law_x","_law_y"] S9 (ae fD):=sq
def akd (D:Def K mg "_law_spots" fD S9)(aV:mg "range"=none)(kY:ac P w K mg iT 1 "_law_cell_at" Qd (kR K))(gh:ac P w K mg iT 1 "_law_field" Ph gS)(xW:ac P w K mg iT 33 "_law_lowest" TH dO):ac P w K mg iT 34 "_law_spots" S9 (xU K):=by
 refine D.op bD fun f cF A mB s H vs Q E hr h=>?_;obtain ⟨sA,ns,n,rfl,hS,ln,q⟩:=h;let L4:4<=AZ:=dL
 show ⟨_,(aa (aC 2 bD.nd (aJ kY hr (aE (pv 0) af))) (aa (aC 3 bD.nd (aw bT af (aJ gh hr (bU (pv 2) af af)))) (aa (aC 4 bD.nd (aw bT af (aJ gh hr (bU (pv 2) af af)))) (aa (aC 5 bD.nd (b9 (jP (aK (jP af (bU af af af))) (jP (aK (jP af (bU af af af))) (jP (aK (jP af (bU (mh iV af) af af))) (bU (aK (jP af (bU (mh iV af) af af))) (aK (jP (mh iV af) (bU af af af))) (aK (jP af (bU af af af))))))))) (aa (mD (bg aI (pv 5) (aJ gh hr (bU (pv 2) af af))) (fL rfl (aY (bM 6 bD.nd) (aY (bM 7 bD.nd) (aY (bM 8 bD.nd) (aY (bM 9 bD.nd) df)))))) (aa (aC 10 bD.nd (aw bT af (aJ gh hr (bU (pv 2) af af)))) (aa (aC 11 bD.nd (b9 jx)) (aa (ba FF rfl (bB rfl aV (aZ (pv 1))) (bM 12 bD.nd) (aa (aC 13 bD.nd (aw bu (pv 12) (pv 3))) (aa (aC 14 bD.nd (aw bu (aw fN (pv 12) af) (pv 4))) (ag (b_ (qw TF Ti Th ft (pv 11) (aZ (aK (aE (aJ xW hr (aE (aw bT (aw bu (pv 6) (pv 13)) (aw bu (pv 7) (pv 14))) (pv 10))) (aJ xW hr (aE (aw bT (aw bu (pv 8) (pv 13)) (aw bu (pv 9) (pv 14))) (pv 10)))))))))))) (ag (aF (pv 11))))))))))),?_⟩;sleep 8
 show ⟨_,rfl,sA,ns,1,rfl,hS,dL,dL,?_⟩;generalize cell ns 1=c;let i1:=bV (c:=c) (p:=1009) (m:=9) dL;let i2:=bV (c:=c) (p:=2003) (m:=9) dL;let i3:=bV (c:=c) (p:=3001) (m:=6) dL;let i4:=bV (c:=c) (p:=4001) (m:=4) dL;show ⟨_,rfl,_,_,_,rfl,dL,dL,dL,_,_,rfl,rfl,_,rfl,_,_,_,rfl,dL,dL,dL,_,_,rfl,rfl,L4,?_⟩;intros t1 n1 H1 s1 e1;show ⟨L4,?_⟩;intros t2 n2 H2 s2 e2;show ⟨_,rfl,L4,?_⟩;intros t3 n3 H3 s3 e3;show ⟨_,rfl,L4,?_⟩;intros t4 n4 H4 s4 e4;show ⟨_,rfl,L4,?_⟩;intros t5 n5 H5 s5 e5;show ⟨L4,?_⟩;intros t6 n6 H6 s6 e6;show ⟨z6L,?_⟩;intros l7 n7 H7 s7 e7;let Qn:=s3.trans (s4.trans (s5.trans (s6.trans s7)))
 let pick:∃(t:AF)(a b c' d:Int),i7 [V.ref t1,V.ref t2,V.ref t3,V.ref t4,V.ref t5,V.ref t6] (field c 3001 6)=some (.ref t)/\H7 t=some (.tup [.int a,.int b,.int c',.int d])/\a*d-b*c'≠0/\a.natAbs<=1000003/\b.natAbs<=7/\c'.natAbs<=7/\d.natAbs<=7:=by
  generalize field c 3001 6=f at i3
  rcases (by omega:f=0\/f=1\/f=2\/f=3\/f=4\/f=5) with rfl|rfl|rfl|rfl|rfl|rfl
  ·show ⟨t1,_,_,_,_,rfl,(s2.trans Qn) _ _ e1,dL,dL,dL,dL,dL⟩
  ·show ⟨t2,_,_,_,_,rfl,Qn _ _ e2,dL,dL,dL,dL,dL⟩
  ·show ⟨t3,_,_,_,_,rfl,(s4.trans (s5.trans (s6.trans s7))) _ _ e3,dL,dL,dL,dL,dL⟩
  ·show ⟨t4,_,_,_,_,rfl,(s5.trans (s6.trans s7)) _ _ e4,dL,dL,dL,dL,dL⟩
  ·show ⟨t5,_,_,_,_,rfl,(s6.trans s7) _ _ e5,dL,dL,dL,dL,dL⟩
  ·show ⟨t6,_,_,_,_,rfl,s7 _ _ e6,dL,dL,dL,dL,dL⟩
 obtain ⟨t,a,b,c',d,at',et,hd,za,zb,zc,zd⟩:=pick;show ⟨_,rfl,_,rfl,_,_,_,rfl,dL,dL,dL,l7,_,_,_,rfl,rfl,aR.of e7,at',t,_,rfl,bE.of et,rfl,_,_,rfl,_,_,rfl,_,_,rfl,_,_,rfl,rfl,_,rfl,_,_,_,rfl,dL,dL,dL,_,_,rfl,rfl,z0L,?_⟩;intros l8 n8 H8 s8 e8;let Yo:=s1.trans (s2.trans Qn);let nl0:=Yo.free n8;obtain ⟨S,PM,V1,hS3,hS4,hS5,hS6,hS7⟩:∃S:mq,S.a=a/\S.b=b/\S.c=c'/\S.d=d/\S.w=1+field c 1009 9/\S.h=1+field c 2003 9/\S.bo=1+field c 4001 4:=⟨⟨_,_,_,_,_,_,_⟩,rfl,rfl,rfl,rfl,rfl,rfl,rfl⟩;let ok:S.Ok:=⟨by rwa [PM,V1,hS3,hS4],ce,ce,ce,ce,ce,ce,ce⟩;generalize 1+field c 1009 9=wd at hS5;generalize 1+field c 2003 9=hg at hS6;generalize 1+field c 4001 4=bo at hS7;let ow:=ok.w;let oh:=ok.h;let ob:=ok.bo;let cm:∀{i j:Int},i.natAbs<1000000000000->j.natAbs<1000000000000->nX i j:=fun h1 h2=>⟨BJ (X0 ce ce) dL,BJ (X0 ce ce) dL⟩;let en:((n:Nat):Int).toNat=n:=ce
 show ⟨_,rfl,(n:Int),rfl,ce,ce,let I:bn:=fun i Y H'=>LX fun (Yr Ys o14:ψ) (us:η)=>Y=[ap sA,some (.int (n:Int)),some (.int c),some (.int wd),some (.int hg),ap l7,some (.int a),some (.int b),some (.int c'),some (.int d),some (.int bo),ap l8,Yr,Ys,o14]/\ao H7 H'/\H' l8=some (.lst us)/\us.length=i/\∀k u,us[k]?=some u->i8 K H' u (S.at k);cL (lo:=0) (n:=((n:Nat):Int).toNat) I ⟨none,none,none,[],rfl,s8,e8,rfl,fun k u h=>(by simp at h)⟩ ?_ ?_⟩
 ·rintro i Y H9 hi ⟨Yr,Ys,o14,us,rfl,s9,e9,lu,pu⟩
  let ek:(0:Int)+(i:Int)=(i:Int):=Lh _;rw [ek];let hf:=iS (x:=(i:Int)) (m:=2) dL
  let zx:((i:Int)*wd).natAbs<=63:=by
   rw [Nj];exact BJ (M8 (show (i:Int).natAbs<=7 by omega) (show wd.natAbs<=9 by omega)) dL
  let zy:((i:Int).fmod 2*hg).natAbs<=9:=by
   rw [Nj];exact BJ (M8 (show ((i:Int).fmod 2).natAbs<=1 by omega) (show hg.natAbs<=9 by omega)) dL
  show ⟨_,rfl,_,rfl,_,_,rfl,rfl,cm ce ce,_,rfl,_,_,rfl,rfl,nz dL,_,rfl,_,_,rfl,rfl,cm ce ce,_,rfl,.inl ⟨rfl,_,aR.of e9⟩,_,rfl,_,rfl,_,_,rfl,rfl,cm ce ce,_,rfl,_,rfl,_,_,rfl,rfl,cm ce ce,_,_,rfl,rfl,_,rfl,_,_,rfl,ce,fun p1 HA sa ea=>?_⟩;show ⟨_,rfl,_,rfl,_,_,rfl,rfl,cm ce ce,_,rfl,_,rfl,_,_,rfl,rfl,cm ce ce,_,_,rfl,rfl,_,rfl,_,_,rfl,ce,fun p2 HB sb eb=>?_⟩;show ⟨qU,?_⟩;intros p3 TN HC sc ec;let sac:=sa.trans (sb.trans sc);show ⟨l8,_,_,rfl,rfl,sac _ _ e9,FX (show us.length<=1000 by omega) dL,?_⟩;rw [kC ce] at ea eb;let t9:a9 HC (upd HC l8 (.lst (us++[.ref p3]))):=.list (sac _ _ e9)
  let xe:S.at i=(((a*((i:Int)*wd)+b*((i:Int).fmod 2*hg):Int):Rat) / (bo:Rat),((c'*((i:Int)*wd)+d*((i:Int).fmod 2*hg):Int):Rat) / (bo:Rat)):=by
   unfold mq.at mq.x mq.y;rw [PM,V1,hS3,hS4,hS5,hS6,hS7]
  show ⟨_,_,_,us++[.ref p3],rfl,fun b' o z=>?_,ah,by rw [EM,lu];rfl,fun k u h=>?_⟩
  ·rw [aj (ak z n8)]
   exact sac _ _ (s9 _ _ z)
  ·by_cases ck:k<us.length
   ·rw [LR ck] at h
    exact ((pu k u h).lh sac).aH t9
   ·let hk:k=i:=by
     have:=(be.mp h).1;rw [EM] at this;simp at this;omega
    erw [Lg ce,hk,lu,Nat.sub_self] at h;rw [hk,xe];exact i8.aH ⟨p3,_,_,rfl,bE.of ec,wG (sc _ _ (sb _ _ ea)),wG (sc _ _ eb)⟩ t9
 ·rintro Y H9 ⟨Yr,Ys,o14,us,rfl,s9,e9,lu,pu⟩
  rw [en] at lu;show ⟨_,rfl,q l8 us S H9 (Yo.trans s9) nl0 e9 ok lu pu⟩
def acP (k:Nat):((k:Int).fmod 2=0/\((k+1:Nat):Int).fmod 2=1)\/((k:Int).fmod 2=1/\((k+1:Nat):Int).fmod 2=0):=by
 rw [IS _ dL,IS _ dL];omega
def oI {a b c:Int}:(a:Rat) / (c:Rat)-(b:Rat) / (c:Rat)=((a-b:Int):Rat) / (c:Rat):=by
 push_cast;grind
def aen {a b c d e:Int}(he:e≠0)(z:(a:Rat) / (e:Rat)*((d:Rat) / (e:Rat))-(b:Rat) / (e:Rat)*((c:Rat) / (e:Rat))=0):a*d-b*c=0:=by
 let ne:((e:Int):Rat)≠0:=cz he
 have:((a*d-b*c:Int):Rat)=0:=by
  push_cast;grind
 exact S_.mp this
theorem mq.Ok.kQ {s:mq}(h:s.Ok)(k:Nat):kQ (cG (s.at (k+1)) (s.at k)) (cG (s.at (k+2)) (s.at k))≠0:=fun z=>by
 let hb:=h.bo;unfold T_k97.kQ cG mq.at at z;dsimp only at z;rw [oI,oI,oI,oI] at z;let z:=aen ce z;let hw:=h.w;let hh:=h.h
 let e2:((k+2:Nat):Int).fmod 2=(k:Int).fmod 2:=by
  rw [IS _ dL,IS _ dL];omega
 let key:(s.x (k+1)-s.x k)*(s.y (k+2)-s.y k)-(s.y (k+1)-s.y k)*(s.x (k+2)-s.x k)= -((s.a*s.d-s.b*s.c)*(2*s.w*s.h*(((k+1:Nat):Int).fmod 2-(k:Int).fmod 2))):=by
  unfold mq.x mq.y;rw [e2];push_cast;grind
 rw [key] at z;let z:=Int.neg_eq_zero.mp z
 rcases Sl.mp z with z|z
 ·exact h.dt z
 ·rcases Sl.mp z with z|z
  ·rcases Sl.mp z with z|z
   ·omega
   ·omega
  ·rcases acP k with ⟨f1,f2⟩|⟨f1,f2⟩<;>rw [f1,f2] at z<;>omega
def mq.Ok.inj {s:mq}(h:s.Ok)(e:s.at i=s.at j):i=j:=by
 let hb:=h.bo;let hw:=h.w;let ne:((s.bo:Int):Rat)≠0:=cz ce
 let e1:s.x i=s.x j:=by
  have:(s.x i:Rat) / (s.bo:Rat)=(s.x j:Rat) / (s.bo:Rat):=pj ap7 e;exact S_.mp (by grind)
 let e2:s.y i=s.y j:=by
  have:(s.y i:Rat) / (s.bo:Rat)=(s.y j:Rat) / (s.bo:Rat):=pj ap8 e;exact S_.mp (by grind)
 unfold mq.x at e1;unfold mq.y at e2;have:(s.a*s.d-s.b*s.c)*(((i:Int)-(j:Int))*s.w)=0:=by grind
 rcases Sl.mp this with z|z
 ·exact DZ z h.dt
 ·rcases Sl.mp z with z|z<;>omega
def mq.Ok.sz {s:mq}(h:s.Ok)(hk:k<8):Sz 27 (s.at k).1/\Sz 27 (s.at k).2:=by
 let hb:=h.bo;let hw:=h.w;let hh:=h.h;let hf:=iS (x:=(k:Int)) (m:=2) dL
 let zx:((k:Int)*s.w).natAbs<=63:=by
  rw [Nj];exact BJ (M8 (show (k:Int).natAbs<=7 by omega) (show s.w.natAbs<=9 by omega)) dL
 let zy:((k:Int).fmod 2*s.h).natAbs<=9:=by
  rw [Nj];exact BJ (M8 (show ((k:Int).fmod 2).natAbs<=1 by omega) (show s.h.natAbs<=9 by omega)) dL
 let DL:∀{u v:Int},u.natAbs<=1000003->v.natAbs<=7->(u*((k:Int)*s.w)+v*((k:Int).fmod 2*s.h)).natAbs<134217728:=fun {u v} hu hv=>by
  let h1:=TV (u*((k:Int)*s.w)) (v*((k:Int).fmod 2*s.h));rw [Nj u,Nj v] at h1;let h2:=M8 hu zx;let h3:=M8 hv zy;omega
 let zb:intBits s.bo<=27:=intBits_le_iff.mpr (by show _<134217728;omega);show ⟨tF ce (intBits_le_iff.mpr (DL h.a h.b)) zb,tF ce (intBits_le_iff.mpr (DL (BJ h.c dL) h.d)) zb⟩
def oJ {i:Int}(h:i.natAbs<1048576)(hk:20<=k):Sz k (i:Rat):=tG (Lf h (show 2^20<=2^k from Na dL hk)) ce
def um (ws:Ο):Prop:=ws=[]\/(∃x y:Rat,ws=[(x,y)]/\¬ (x=0/\y=0)/\Sz 22 x/\Sz 22 y)\/ws=[(1,0),(0,1)]
def i6 (i:Int)(h:H p=some (.tup [.int i,.int 1])):dh K H (.ref p) (i:Rat):=⟨p,rfl,by rw [tE];exact bE.of h⟩
def acQ (h:H p=some (.tup [u,v]))(h1:dh K H u r)(h2:dh K H v s):i8 K H (.ref p) (r,s):=⟨p,u,v,rfl,bE.of h,h1,h2⟩
inductive mX (K:Frag)(H:Hp)(d:AF)(v:V)(p:aA):Prop
|mk (a l:AF)(s:V)(us:η)(_:v=.ref a)(_:bE K H a [.str p.nm,s,.ref l])(_:i8 K H s p.sp)(_:H l=some (.lst us))(_:q_ K H us p.ws)(_:l≠d)
inductive jq (K:Frag)(H:Hp)(v:V)(p:aA):Prop
|mk (a l:AF)(s:V)(us:η)(_:v=.ref a)(_:bE K H a [.str p.nm,s,.ref l])(_:i8 K H s p.sp)(_:H l=some (.lst us))(_:q_ K H us p.ws)
inductive kZ (K:Frag)(H:Hp)(pX:ν)(v:V)(b:aL):Prop
|mk (a:AF)(i j:Nat)(_:v=.ref a)(_:bE K H a [.str b.nm,.int (i:Int),.int (j:Int)])(_:pX[i]?=some b.one)(_:pX[j]?=some b.lj)
section
variable {K:Frag}{H H':Hp}{v:V}{p:aA}{d:AF}
theorem mX.lh (h:mX K H d v p)(s:ao H H'):mX K H' d v p:=by
 obtain ⟨a,l,sv,us,e,h1,h2,h3,h4,h5⟩:=h;show ⟨a,l,sv,us,e,Ty.ao.bZ s h1,h2.lh s,s _ _ h3,h4.lh s,h5⟩
theorem mX.upd (h:mX K H d v p)(e:H d=some (.lst xs)):mX K (L2.upd H d o) d v p:=by
 obtain ⟨a,l,sv,us,ev,h1,h2,h3,h4,h5⟩:=h;let t:a9 H (L2.upd H d o):=.list e;show ⟨a,l,sv,us,ev,t.bZ h1,h2.aH t,by rwa [aj h5],h4.aH t,h5⟩
def mX.r (h:mX K H d v p):jq K H v p:=by
 obtain ⟨a,l,sv,us,e,h1,h2,h3,h4,_⟩:=h;show ⟨a,l,sv,us,e,h1,h2,h3,h4⟩
theorem jq.lh (h:jq K H v p)(s:ao H H'):jq K H' v p:=by
 obtain ⟨a,l,sv,us,e,h1,h2,h3,h4⟩:=h;show ⟨a,l,sv,us,e,Ty.ao.bZ s h1,h2.lh s,s _ _ h3,h4.lh s⟩
def kZ.lh (h:kZ K H pX v b)(s:ao H H'):kZ K H' pX v b:=by
 obtain ⟨a,i,j,e,h1,h2,h3⟩:=h;show ⟨a,i,j,e,Ty.ao.bZ s h1,h2,h3⟩
end
structure oK (pX:ν):Prop where
 np:(pX.map (·.nm)).Nodup
 ns:(pX.map (·.sp)).Nodup
 sz:∀p∈pX,Sz 27 p.sp.1/\Sz 27 p.sp.2
 ws:∀p∈pX,um p.ws
def um.sz (h:um ws):∀w∈ws,Sz 22 w.1/\Sz 22 w.2:=fun w hw=>by
 rcases h with rfl|⟨x,y,rfl,_,h1,h2⟩|rfl
 ·cases hw
 ·have:w=(x,y):=by simpa using hw
  rw [this];show ⟨h1,h2⟩
 ·let e1:Sz 22 (1:Rat):=oJ (k:=22) (i:=1) dL dL
  let e0:Sz 22 (0:Rat):=eJ dL;have:w=(1,0)\/w=(0,1):=by simpa using hw
  rcases this with rfl|rfl
  ·show ⟨e1,e0⟩
  ·show ⟨e0,e1⟩
def um.len (h:um ws):ws.length<=2:=by
 rcases h with rfl|⟨x,y,rfl,_⟩|rfl<;>simp
structure Qz (pX:ν)(gV:τ):Prop where
 nb:(gV.map (·.nm)).Nodup
 ends:∀b∈gV,b.one∈pX/\b.lj∈pX/\b.one.nm≠b.lj.nm
def jr (inv:L2.St->Hp->Prop)(h1:∀N:L2.St->Hp->Prop,(∀Y' H',inv Y' H' ->N Y' H')->t {D with nx:=N} Y H)(h2:∀Y' H',inv Y' H' ->u D Y' H'):oX t u D Y H:=h1 _ h2
def acR (g:oK pX)(b:Qz pX gV)(lp:pX.length<=9)(lb:gV.length<=26):dJ pX gV:=
 ⟨g.np,b.nb,b.ends,fun p hp=>⟨(g.sz p hp).1,(g.sz p hp).2,(g.ws p hp).sz⟩,lp,lb,fun p hp=>(g.ws p hp).len⟩
def cnt (pX:ν)(x:Rat):Nat:=(pX.filter fun p=>decide (x<=p.sp.1)).length
inductive rT (K:Frag)(vs:η)(H:Hp)(Q:VK)(E_:XK):Prop
|mk (u v:V)(m n:Nat)(r r':Rat)(_:vs=[u,v])(_:g_ K H u m r)(_:g_ K H v n r')(_:m+n<=130000000)(_:Q (.bl (decide (r=r'))) H)
def aad:av LG LG (ae f7):=sq
def adA (D:Def K mg "_law_same" f7 LG):ac P w K mg iT 1 "_law_same" LG (rT K):=by
 refine D.oo aad fun H hr h=>?_;obtain ⟨u,v,m,n,r,r',rfl,⟨x,⟨p1,rfl,h1⟩,x2,x3,zx⟩,⟨y,⟨p2,rfl,h2⟩,y2,y3,zy⟩,l,q⟩:=h;show ⟨_,(ag (aF (jw fk (aw iK (ay (pv 0)) (ay (pv 1))) (aw iK (ay (pv 1)) (ay (pv 0))) (j9 _)))),_,rfl,p1,_,_,_,rfl,rfl,h1,iF,_,rfl,p2,_,_,_,rfl,rfl,h2,gL,_,_,rfl,rfl,gu zx.top zy.bot ce,_,rfl,p2,_,_,_,rfl,rfl,h2,iF,_,rfl,p1,_,_,_,rfl,rfl,h1,gL,_,_,rfl,rfl,gu zy.top zx.bot ce,rfl,?_⟩
 let e':decide (V.int (x.1*y.2)=V.int (y.1*x.2))=decide (r=r'):=by
  let z1:((x.2:Int):Rat)≠0:=cz (LJ x2);let z2:((y.2:Int):Rat)≠0:=cz (LJ y2);rw [<-x3,<-y3];refine decide_eq_decide.mpr ⟨fun z=>?_,fun z=>?_⟩
  ·let z:((x.1*y.2:Int):Rat)=((y.1*x.2:Int):Rat):=by injection z with z;rw [z]
   push_cast at z;unfold vl;grind
  ·unfold vl at z
   have:((x.1*y.2:Int):Rat)=((y.1*x.2:Int):Rat):=by
    push_cast;grind
   rw [S_.mp this]
 rwa [<-e'] at q
def KJ {u:Z}(h:us[us.length-1]?=some u):i7 us (-1)=some u:=by
 let l:=(be.mp h).1;unfold i7 EE;rw [ni dL,ox ce];show us[(-1+(us.length:Int)).toNat]?=some u;rwa [show (-1+(us.length:Int)).toNat=us.length-1 by omega]
def oM (c:Int)(S:mq)(n:Nat)(W:Rat×Rat)(k:Nat):aA:=⟨nameOf (field c 3001 4) (field c 4001 6) (k:Int),S.at k,if k=0 then [(1,0),(0,1)] else if k+1=n then [W] else []⟩
structure Yt (c:Int)(S:mq)(n:Nat)(W:Rat×Rat):Prop where
 ok:S.Ok
 n3:3<=n
 n8:n<=8
 cr:kQ W (cG (S.at (n-1)) (S.at 0))≠0
 z1:Sz 22 W.1
 z2:Sz 22 W.2
inductive xX (K:Frag)(vs:η)(H:Hp)(Q:VK)(E_:XK):Prop
|mk (sA:AF)(ns:ξ)(n:Nat)(_:vs=[.ref sA,.int (n:Int)])(_:aR K H sA (ns.map V.int))(_:3<=n)(_:n<=8)(_:∀(l:AF)(us:η)(c:Int)(S:mq)(W:Rat×Rat)(H':Hp),ao H H' ->H l=none->H' l=some (.lst us)->Yt c S n W->Paired (jq K H') us ((FG n).map (oM c S n W))->Q (.ref l) H')
def qJ:av ["_law_script","_law_many","_law_names_here","_law_spots_here","_law_way","_law_far","_law_up","_law_pins_here"] S9 (ae Ms):=sq
def acS (D:Def K mg "_law_pins" Ms S9)(aV:mg "range"=none)(kY:ac P w K mg iT 1 "_law_cell_at" Qd (kR K))(gh:ac P w K mg iT 1 "_law_field" Ph gS)(k_:ac P w K mg iT 2 "_law_names" XG (rS K))(A_:ac P w K mg iT 34 "_law_spots" S9 (xU K))(jX:ac P w K mg iT 1 "_law_sum" LG (bw K gC))(qj:ac P w K mg iT 1 "_law_times" LG (bw K i5))(BA:ac P w K mg iT 1 "_law_turned" Qf (ff K))(iC:ac P w K mg iT 1 "_law_same" LG (rT K)):ac P w K mg iT 35 "_law_pins" S9 (xX K):=by
 refine D.oo qJ fun H hr h=>?_;obtain ⟨sA,ns,n,rfl,hS,n3,n8,q⟩:=h;let L2:2<=AZ:=dL
 let L3:3<=AZ:=dL
 let L0:0<=AZ:=dL
 show ⟨_,(aa (aC 2 qJ.nd (aJ k_ hr (aE (aJ kY hr (aE (pv 0) af)) (pv 1)))) (aa (aC 3 qJ.nd (aJ A_ hr (aE (pv 0) (pv 1)))) (aa (aC 4 qJ.nd (aK (aE (aK (aE (aw fh (aJ gh hr (bU (aJ kY hr (aE (pv 0) af)) af af)) af) af)) (aK (aE (aw bT af (aJ gh hr (bU (aJ kY hr (aE (pv 0) af)) af af))) af))))) (aa (aC 5 qJ.nd (aJ jX hr (aE (ay (bg aI (pv 3) (mh iV af))) (aJ BA hr (aZ (ay (mm (pv 3)))))))) (aa (aC 6 qJ.nd (aJ jX hr (aE (ay (bg aI (pv 3) (mh iV af))) (aJ BA hr (aZ (ay (mm (pv 3)))))))) (aa (bF (fg (aJ iC hr (aE (aJ qj hr (aE (ay (pv 4)) (pv 6))) (aJ qj hr (aE (ay (pv 4)) (pv 5)))))) (ag (aC 4 qJ.nd (aK (aE (aJ jX hr (aE (ay (pv 4)) (aK (aE af af)))) (ay (pv 4)))))) aX) (aa (kE (i:=7) (tn:=XM) (fr:=["_law_spots_here","_law_names_here"]) (oV:=[3,2]) qJ.nd (bB rfl aV (aZ (pv 1))) (aK (bU (bg (gj (K:=K) rfl) (pv 2) (pv 0)) (bg (gj (K:=K) rfl) (pv 1) (pv 0)) (b9 jx)))) (aa (mD (aK (bU (mm (pv 2)) (mm (pv 3)) (b9 (aE (aK (aE (aK (aE af af)) (aK (aE af af)))) (aK (aE (aK (aE af af)) (aK (aE af af)))))))) (rX (pv 7) af set_list)) (aa (mD (aK (bU (bg aI (pv 2) (mh iV af)) (bg aI (pv 3) (mh iV af)) (b9 (aZ (pv 4))))) (rX (pv 7) (mh iV af) set_list)) (ag (aF (pv 7)))))))))))),?_⟩;try dsimp only [uP,j_,Cx.yO,Cx.u9]
 show ⟨_,rfl,sA,ns,0,rfl,hS,dL,dL,_,rfl,?_⟩;generalize cell ns 0=c;show ⟨c,n,rfl,ce,fun lN H1 s1 nN eN=>?_⟩;show ⟨_,rfl,_,rfl,sA,ns,n,rfl,s1.seq hS,n8,fun lS us S H2 s2 nS eS ok lu pu=>?_⟩;let qe:=s1.trans s2;show ⟨_,rfl,sA,ns,1,rfl,qe.seq hS,dL,dL,?_⟩;obtain ⟨c1,hc1⟩:∃c1,cell ns 1=c1:=⟨_,rfl⟩;rw [hc1];let i1:=bV (c:=c1) (p:=5003) (m:=5) dL;let i2:=bV (c:=c1) (p:=6007) (m:=3) dL;show ⟨_,_,_,rfl,dL,dL,dL,_,_,rfl,rfl,L2,?_⟩;generalize field c1 5003 5=f1 at i1 ⊢;intros t1 m1 H3 s3 e3;show ⟨_,rfl,sA,ns,1,rfl,(qe.trans s3).seq hS,dL,dL,?_⟩;rw [hc1];show ⟨_,_,_,rfl,dL,dL,dL,_,_,rfl,rfl,L2,?_⟩;generalize field c1 6007 3=f2 at i2 ⊢;intros t2 m2 H4 s4 e4;show ⟨L2,?_⟩;intros t3 m3 H5 s5 e5;let DP:=s3.trans (s4.trans s5);let FI:=qe.trans DP;let eS5:=DP _ _ eS;obtain ⟨ul,eul⟩:∃u,us[us.length-1]?=some u:=⟨_,gE ce⟩;obtain ⟨u0,eu0⟩:∃u,us[0]?=some u:=⟨_,gE ce⟩;let al:=KJ eul;let a0:i7 us 0=some u0:=bq (j:=0) eu0;obtain ⟨pl,x1,y1,rfl,hl,nx1,ny1⟩:=(pu _ _ eul).lh DP;obtain ⟨p0,x0,y0,rfl,h0,nx0,ny0⟩:=(pu _ _ eu0).lh DP;rw [show us.length-1=n-1 by omega] at nx1 ny1;let zl:=ok.sz (show n-1<8 by omega);let z0:=ok.sz (show 0<8 by decide);let nz1:=cv nx1 (eR zl.1 (D' _));let nz2:=cv ny1 (eR zl.2 (D' _));let nz3:=cv nx0 (eR z0.1 (D' _));let nz4:=cv ny0 (eR z0.2 (D' _));show ⟨_,rfl,_,rfl,lS,_,_,_,rfl,rfl,aR.of eS5,al,pl,_,_,_,rfl,rfl,hl,iF,_,rfl,lS,_,_,_,rfl,rfl,aR.of eS5,a0,p0,_,_,_,rfl,rfl,h0,iF,?_⟩;dsimp only [gI];show ff K [_] _ _ E0;refine kX nz3 fun pT HT sT nT=>?_;show bw K gC [_,_] _ _ E0;refine gi (nz1.lh sT) nT dL fun p6 H6 s6 far=>?_;let Yu:=sT.trans s6;show ⟨_,rfl,_,rfl,lS,_,_,_,rfl,rfl,aR.of (Yu _ _ eS5),al,pl,_,_,_,rfl,rfl,Ty.ao.bZ Yu hl,gL,_,rfl,lS,_,_,_,rfl,rfl,aR.of (Yu _ _ eS5),a0,p0,_,_,_,rfl,rfl,Ty.ao.bZ Yu h0,gL,?_⟩;dsimp only [gI];show ff K [_] _ _ E0;refine kX (nz4.lh Yu) fun pV HV sV nV=>?_;show bw K gC [_,_] _ _ E0;refine gi ((nz2.lh Yu).lh sV) nV dL fun p7 H7 s7 up=>?_;let s67:=sV.trans s7;let Wf:=Yu.trans s67;let acU:=far.lh s67;let e57:=Wf _ _ e5;let w1n:dh K H7 (.ref t1) ((f1-2:Int):Rat):=i6 _ ((s4.trans (s5.trans Wf)) _ _ e3);let w2n:dh K H7 (.ref t2) ((1+f2:Int):Rat):=i6 _ ((s5.trans Wf) _ _ e4);let zw1:Sz 22 ((f1-2:Int):Rat):=oJ ce dL;let zw2:Sz 22 ((1+f2:Int):Rat):=oJ ce dL;generalize acW:(S.at (n-1)).1+ -(S.at 0).1=fr at acU;generalize hup:(S.at (n-1)).2+ -(S.at 0).2=ur at up;dsimp only [cy];refine jr (fun Y' H'=>NK fun (t:AF) (W:Rat×Rat)=>Y' =[some (.ref sA),some (.int (n:Int)),some (.ref lN),some (.ref lS),some (.ref t),some (.ref p6),some (.ref p7),none]/\ao H7 H'/\i8 K H' (.ref t) W/\W.1*ur≠W.2*fr/\Sz 22 W.1/\Sz 22 W.2) (fun N hN=>?_) ?_
 ·show ⟨_,rfl,t3,_,_,_,rfl,rfl,bE.of e57,iF,_,rfl,?_⟩
  dsimp only [gI];show bw K i5 [_,_] _ _ E0;refine gT (cv w1n (eR zw1 (D' _))) up dL fun p8 H8 s8 m8=>?_;show ⟨_,rfl,t3,_,_,_,rfl,rfl,bE.of (s8 _ _ e57),gL,_,rfl,?_⟩;dsimp only [gI];show bw K i5 [_,_] _ _ E0;refine gT ((cv w2n (eR zw2 (D' _))).lh s8) (acU.lh s8) dL fun p9 H9 s9 m9=>?_;show ⟨_,_,_,_,_,_,rfl,m8.lh s9,m9,dL,?_⟩;let Wg:=s8.trans s9;show ⟨_,rfl,bG (fun cc=>?_) (fun cc=>hN _ _ ⟨t3,(_,_),rfl,Wg,⟨t3,_,_,rfl,bE.of (Wg _ _ e57),w1n.lh Wg,w2n.lh Wg⟩,fun z=>cc (La z),zw1,zw2⟩)⟩;let cc':((f1-2:Int):Rat)*ur=((1+f2:Int):Rat)*fr:=Lc cc;show ⟨_,rfl,t3,_,_,_,rfl,rfl,bE.of (Wg _ _ e57),iF,L2,?_⟩;intros tO mO Ho sO eO;dsimp only [gI];show bw K gC [_,_] _ _ E0;let w1k:iY K Ho (.ref t1) (f1-2,1):=⟨t1,rfl,bE.of (((s4.trans (s5.trans Wf)).trans (Wg.trans sO)) _ _ e3)⟩;show ⟨.ref t1,.ref tO,(f1-2,1),(1,1),22,1,rfl,w1k,⟨tO,rfl,bE.of eO⟩,⟨by show _<=4194304;omega,by show 1<=4194304;decide⟩,⟨dL,dL⟩,dL,fun pA HA sA eA=>?_⟩;let sOA:=sO.trans sA;show ⟨_,rfl,t3,_,_,_,rfl,rfl,bE.of (sOA _ _ (Wg _ _ e57)),gL,L2,?_⟩;intros tW mW HW sW eW;let s7W:=Wg.trans (sOA.trans sW)
  let hpA:dh K HW (.ref pA) ((f1-1:Int):Rat):=i6 _ (by
   rw [sW _ _ eA];show some (HO.tup [.int ((f1-2)*1+1*1),.int (1*1)])=_;rw [show (f1-2)*1+1*1=f1-1 by omega]
   rfl)
  refine hN _ _ ⟨tW,(_,_),rfl,s7W,⟨tW,_,_,rfl,bE.of eW,hpA,w2n.lh s7W⟩,fun z=>?_,oJ ce dL,zw2⟩;let z:((f1-1:Int):Rat)*ur=((1+f2:Int):Rat)*fr:=z
  let u0:ur=0:=by
   push_cast at z cc';grind
  let f0:fr=0:=by
   let p2:((1+f2:Int):Rat)≠0:=cz ce;rw [u0] at cc';grind
  let eq:S.at (n-1)=S.at 0:=by
   rw [<-acW] at f0;rw [<-hup] at u0;exact yb (by grind) (by grind)
  have:=ok.inj eq;omega
 rintro Y H8 ⟨t,W,rfl,s8,hW,neW,zW1,zW2⟩;let eN8:=((s2.trans (DP.trans Wf)).trans s8) _ _ eN;let eS8:=(Wf.trans s8) _ _ eS5;let pu8:∀k u,us[k]?=some u->i8 K H8 u (S.at k):=fun k u h=>(pu k u h).lh (DP.trans (Wf.trans s8));let DO:=FI.trans (Wf.trans s8);let en:((n:Nat):Int).toNat=n:=ce
 let acX:∀k,k<n->i7 ((namesOf c n).map V.str) (k:Int)=some (.str (nameOf (field c 3001 4) (field c 4001 6) (k:Int))):=fun k hk=>bq (by
  unfold namesOf;rw [EB,Wp,Np hk]
  rfl)
 show ⟨_,rfl,(n:Int),rfl,ce,ce,fun D1 nD=>?_⟩;rw [en];refine qE (n:=n) (ph:=[some (.ref lS),some (.ref lN)]) (fun ys H=>∀(i:Nat)(v:V),ys[i]?=some v->mX K H D1 v ⟨nameOf (field c 3001 4) (field c 4001 6) (i:Int),S.at i,[]⟩) nD (FX n8 dL) (fun i v h=>by simp at h) ?_ ?_
 ·intro i ys H9 Rq hi ly py s9 eD k
  rw [Lh];obtain ⟨u,eu⟩:∃u,us[i]?=some u:=⟨_,gE ce⟩;show ⟨_,rfl,_,rfl,lN,_,_,_,rfl,rfl,aR.of (s9 _ _ eN8),acX i hi,_,rfl,_,rfl,lS,_,_,_,rfl,rfl,aR.of (s9 _ _ eS8),bq eu,L0,?_⟩;intros lE mE HE sE eE;show ⟨L3,?_⟩;intros pP mP HP sp eP;let sEp:=sE.trans sp;let new:mX K HP D1 (.ref pP) ⟨nameOf (field c 3001 4) (field c 4001 6) (i:Int),S.at i,[]⟩:=⟨pP,lE,u,[],rfl,bE.of eP,(pu8 i u eu).lh (s9.trans sEp),sp _ _ eE,.nil,fun z=>by erw [z,eD] at mE⟩;refine k _ _ sEp fun j v h=>?_;by_cases cj:j<ys.length
  ·rw [LR cj] at h
   exact ((py j v h).lh sEp).upd (sEp _ _ eD)
  ·let hj:j=i:=by
    have:=(be.mp h).1;rw [EM] at this;simp at this;omega
   erw [Lg ce,hj,ly,Nat.sub_self] at h;rw [hj];exact new.upd (sEp _ _ eD)
 intro ys H9 ly py s9 eD;let eN9:=s9 _ _ eN8;let eS9:=s9 _ _ eS8;let nD0:=DO.free nD;show ⟨_,rfl,lN,_,_,_,rfl,rfl,aR.of eN9,acX 0 ce,_,rfl,lS,_,_,_,rfl,rfl,aR.of eS9,a0,L2,?_⟩;intros a1 b1 HA1 sa1 T4;show ⟨L2,?_⟩;intros a2 b2 HA2 sa2 T5;show ⟨L2,?_⟩;intros a3 b3 HA3 sa3 ea3;show ⟨L2,?_⟩;intros a4 b4 HA4 sa4 ea4;show ⟨L2,?_⟩;intros a5 b5 HA5 ZC ea5;show ⟨L2,?_⟩;intros a6 b6 HA6 sa6 ea6;show ⟨L2,?_⟩;intros a7 b7 HA7 sa7 ea7;show ⟨L3,?_⟩;intros a8 b8 Wh sa8 ea8;let Nk:=sa6.trans (sa7.trans sa8);let s9A:=sa1.trans (sa2.trans (sa3.trans (sa4.trans (ZC.trans Nk))));show ⟨_,rfl,D1,_,_,0,rfl,rfl,s9A _ _ eD,Wc (j:=0) (show 0<ys.length by omega),?_⟩;let p0:mX K Wh D1 (.ref a8) ⟨nameOf (field c 3001 4) (field c 4001 6) ((0:Nat):Int),S.at 0,[(1,0),(0,1)]⟩:=⟨a8,a7,_,_,rfl,bE.of ea8,(pu8 0 _ eu0).lh (s9.trans s9A),sa8 _ _ ea7,.cons ⟨a3,_,_,rfl,bE.of ((sa4.trans (ZC.trans Nk)) _ _ ea3),i6 1 ((sa2.trans (sa3.trans (sa4.trans (ZC.trans Nk)))) _ _ T4),i6 0 ((sa3.trans (sa4.trans (ZC.trans Nk))) _ _ T5)⟩ (.cons ⟨a6,_,_,rfl,bE.of ((sa7.trans sa8) _ _ ea6),i6 0 ((ZC.trans Nk) _ _ ea4),i6 1 (Nk _ _ ea5)⟩ .nil),fun z=>by erw [z,(sa1.trans (sa2.trans (sa3.trans (sa4.trans (ZC.trans sa6))))) _ _ eD] at b7⟩;let eD8:=s9A _ _ eD;let tA:a9 Wh (upd Wh D1 (.lst (ys.set 0 (.ref a8)))):=.list eD8;let q0:mX K (upd Wh D1 (.lst (ys.set 0 (.ref a8)))) D1 (.ref a8) _:=p0.upd eD8;let qy:∀(i:Nat)(v:V),ys[i]?=some v->mX K (upd Wh D1 (.lst (ys.set 0 (.ref a8)))) D1 v ⟨nameOf (field c 3001 4) (field c 4001 6) (i:Int),S.at i,[]⟩:=fun i v h=>((py i v h).lh s9A).upd eD8
 let kp:∀b o,H8 b=some o->(upd Wh D1 (.lst (ys.set 0 (.ref a8)))) b=some o:=fun b o z=>by
  rw [aj (ak z nD)];exact s9A _ _ (s9 _ _ z)
 let eDb:(upd Wh D1 (.lst (ys.set 0 (.ref a8)))) D1=some (.lst (ys.set 0 (.ref a8))):=ah;generalize upd Wh D1 (.lst (ys.set 0 (.ref a8)))=HB at q0 qy kp eDb ⊢
 let nl:i7 ((namesOf c n).map V.str) (-1)=some (.str (nameOf (field c 3001 4) (field c 4001 6) ((n-1:Nat):Int))):=KJ (by
  unfold namesOf;rw [EB,ir,Li,Wp,Np ce]
  rfl)
 show ⟨_,rfl,_,rfl,lN,_,_,_,rfl,rfl,aR.of (kp _ _ eN8),nl,_,rfl,_,rfl,lS,_,_,_,rfl,rfl,aR.of (kp _ _ eS8),al,_,rfl,z1L,?_⟩;intros g1 k1 HG1 sg1 eg1;show ⟨L3,?_⟩;intros g2 k2 HG2 sg2 eg2;let sg:=sg1.trans sg2
 let hix:EE (ys.set 0 (.ref a8)).length (-1)=some (n-1):=by
  rw [Sv,ly];unfold EE;rw [ni dL,ox ce];congr 1;omega
 show ⟨_,rfl,_,rfl,D1,_,_,n-1,rfl,rfl,sg _ _ eDb,hix,?_⟩;let kpS:ao H8 HB:=kp;let pl':mX K HG2 D1 (.ref g2) ⟨nameOf (field c 3001 4) (field c 4001 6) ((n-1:Nat):Int),S.at (n-1),[W]⟩:=⟨g2,g1,_,_,rfl,bE.of eg2,(show i8 K H8 _ (S.at (n-1)) from by have:=pu8 _ _ eul;rwa [show us.length-1=n-1 by omega] at this).lh (kpS.trans sg),sg2 _ _ eg1,.cons (hW.lh (kpS.trans sg)) .nil,fun z=>by erw [z,eDb] at k1⟩;let eDg:=sg _ _ eDb
 let crW:kQ W (cG (S.at (n-1)) (S.at 0))≠0:=fun z=>neW (by
  rw [<-hup,<-acW];unfold kQ cG at z
  grind)
 show ⟨_,rfl,q D1 ((ys.set 0 (.ref a8)).set (n-1) (.ref g2)) c S W _ (fun b o z=>?_) nD0 ah ⟨ok,n3,n8,crW,zW1,zW2⟩ (g9 (by rw [Sv,Sv,ir,Li,ly]) fun i v h=>?_)⟩
 ·rw [aj (ak z nD0)]
  exact sg _ _ (kp _ _ (DO _ _ z))
 ·let hi:i<n:=by
   have:=(be.mp h).1;rwa [Sv,Sv,ly] at this
  show ⟨oM c S n W i,by rw [Wp,Np hi];rfl,?_⟩;unfold oM;rw [Pp] at h;split at h
  ·rename_i c2
   rw [ox (by rw [Sv,ly];omega)] at h;cases h;rw [<-c2,ni ce,ox ce];exact (pl'.upd eDg).r
  ·rename_i c2
   rw [Pp] at h;split at h
   ·rename_i c3
    erw [ox ce] at h;rw [<-c3,ox rfl];exact ((q0.lh sg).upd eDg).r
   ·rename_i c3
    rw [ni (fun z=>c3 z.symm),ni ce];exact (((qy i v h).lh sg).upd eDg).r
abbrev jR (c:Int)(S:mq)(n:Nat)(W:Rat×Rat):List aA:=(FG n).map (oM c S n W)
def e_ (e:(jR c S n W)[k]?=some p):k<n/\p=oM c S n W k:=by
 rw [Wp] at e;obtain ⟨j,ej,rfl⟩:=LA.mp e;obtain ⟨h1,h2⟩:=be.mp ej;rw [Li] at h1;rw [ail] at h2;show ⟨h1,by rw [h2]⟩
def Yt.good (h:Yt c S n W):oK (jR c S n W):=by
 let n8:=h.n8;show ⟨?_,?_,fun p hp=>?_,fun p hp=>?_⟩
 ·have:(jR c S n W).map (·.nm)=namesOf c n:=by
   unfold jR namesOf;rw [EB];rfl
  rw [this];exact names_nodup c ce
 ·unfold jR
  rw [EB];exact Yj _ (fun i j (z:i≠j) e=>z (h.ok.inj e)) aiI
 ·obtain ⟨i,ei⟩:=FZ hp
  obtain ⟨hi,rfl⟩:=e_ ei;exact h.ok.sz ce
 ·obtain ⟨i,ei⟩:=FZ hp
  obtain ⟨hi,rfl⟩:=e_ ei;unfold oM;dsimp only;split
  ·exact .inr (.inr rfl)
  ·split
   ·refine .inr (.inl ⟨W.1,W.2,rfl,fun z=>h.cr ?_,h.z1,h.z2⟩)
    unfold kQ;rw [z.1,z.2];grind
   ·exact .inl rfl
def Yt.chain (h:Yt c S n W):mU (jR c S n W) W:=by
 let n3:=h.n3;let ln:(jR c S n W).length=n:=by rw [ir,Li]
 show ⟨ce,fun k p q r hp hq hr=>?_,fun p hp=>?_,fun p hp=>?_,fun k p h0 h1 hp=>?_,fun p q hp hq=>?_⟩
 ·obtain ⟨_,rfl⟩:=e_ hp
  obtain ⟨_,rfl⟩:=e_ hq;obtain ⟨_,rfl⟩:=e_ hr;exact h.ok.kQ k
 ·obtain ⟨_,rfl⟩:=e_ hp
  rfl
 ·rw [ln] at hp
  obtain ⟨_,rfl⟩:=e_ hp;show (if n-1=0 then _ else if n-1+1=n then _ else _)=_;rw [ni ce,ox ce]
 ·obtain ⟨_,rfl⟩:=e_ hp
  show (if k=0 then _ else if k+1=n then _ else _)=_;rw [ni ce,ni ce]
 ·rw [ln] at hq
  obtain ⟨_,rfl⟩:=e_ hp;obtain ⟨_,rfl⟩:=e_ hq;exact h.cr
def Yt.Qe (h:Yt c S n W):aT (jR c S n W)<=3:=by
 have:∀k,k<n->aT ((FG (k+1)).map (oM c S n W))<=if k+1=n then 3 else 2:=fun k hk=>by
  induction k with
  | zero=>
   have:=h.n3;rw [ni ce];exact D' _
  | succ k ih=>
   let ih:=ih ce;rw [ni ce] at ih;rw [BM,GV]
   let e:aT ((FG (k+1)).map (oM c S n W)++[oM c S n W (k+1)])=aT ((FG (k+1)).map (oM c S n W))+(oM c S n W (k+1)).ws.length:=by
    unfold aT;simp
   show aT ((FG (k+1)).map (oM c S n W)++[oM c S n W (k+1)])<=_;rw [e];unfold oM;dsimp only;rw [ni ce];by_cases cn:k+1+1=n
   ·rw [ox cn,ox cn]
    show _+1<=3;exact ajR ih
   ·rw [ni cn,ni cn]
    exact ih
 let n3:=h.n3;have:=this (n-1) ce;rwa [show n-1+1=n by omega,ox rfl] at this
def NP (K:Frag)(H:Hp)(v:V)(e:Nat×Nat):Prop:=∃a,v=.ref a/\bE K H a [.int (e.1:Int),.int (e.2:Int)]
def NP.lh (h:NP K H v e)(s:ao H H'):NP K H' v e:=by
 obtain ⟨a,rfl,h⟩:=h;show ⟨a,rfl,Ty.ao.bZ s h⟩
def uq (n:Nat):List (Nat×Nat):=(FG (n-1)).map (fun k=>(k,k+1))++(FG (n-2)).map (fun k=>(k,k+2))
theorem uu :∀{us vs:List Z} {l m:List β},Paired R us l->Paired R vs m->Paired R (us++vs) (l++m)
 | _,_,_,_,.nil,h=>h
 | _,_,_,_,.cons h t,h'=>.cons h (uu t h')
inductive xY (K:Frag)(vs:η)(H:Hp)(Q:VK)(E_:XK):Prop
|mk (n:Nat)(_:vs=[.int (n:Int)])(_:3<=n)(_:n<=8)(_:∀(l:AF)(us:η)(H':Hp),ao H H' ->H l=none->H' l=some (.lst us)->Paired (NP K H') us (uq n)->Q (.ref l) H')
def KN {ys:η}(ly:ys.length=m)(h:∀i v,ys[i]?=some v->NP K H v (i,i+d)):Paired (NP K H) ys ((FG m).map fun k=>(k,k+d)):=g9 (by rw [ir,Li,ly]) fun i v e=>by
 let hi:=(be.mp e).1;show ⟨(i,i+d),by rw [Wp,Np ce];rfl,h i v e⟩
def oN:av ["_law_many","_law_found"] s_ (ae fE):=sq
def akC (D:Def K mg "_law_chain" fE s_)(aV:mg "range"=none):ac P w K mg iT 1 "_law_chain" s_ (xY K):=by
 refine D.oo oN fun H hr h=>?_;obtain ⟨n,rfl,n3,n8,q⟩:=h;let L2:2<=AZ:=dL
 show ⟨_,(aa (kE (i:=1) (tn:=XM) (fr:=[]) (oV:=[]) oN.nd (bB rfl aV (aZ (aw fh (pv 0) af))) (aK (aE (pv 0) (aw bT (pv 0) af)))) (ag (aF (aw ie (pv 1) (fe (tn:=XM) (fr:=[]) (oV:=[]) (bB rfl aV (aZ (aw fh (pv 0) af))) (aK (aE (pv 0) (aw bT (pv 0) af)))))))),?_⟩
 let sd:∀{Ha Hb:Hp} {D:AF} {ys:η} {v:V} {e:Nat×Nat},Ha D=some (.lst ys)->bL D Ha Hb->NP K Ha v e->NP K Hb v e:=fun e0 k ⟨a,ea,h⟩=>⟨a,ea,(a9.ks e0 k).bZ h⟩;show ⟨_,rfl,_,_,rfl,rfl,((n:Int)-1),rfl,ce,ce,fun D1 nD=>?_⟩;refine ik (lo:=0) (n:=((n:Int)-1).toNat) (ph:=[]) (fun i v H=>NP K H v (i,i+1)) nD (FX (show ((n:Int)-1).toNat<=8 by omega) dL) (fun i v Ha Hb ys e k z=>sd e k z) ?_ ?_
 ·intro i H6 Rq hi s6 k
  rw [Lh];show ⟨_,rfl,_,rfl,_,_,rfl,rfl,L2,?_⟩;intros p1 m1 H1 s1 e1;exact k _ _ s1 ⟨p1,rfl,bE.of e1⟩
 intro ys H1 ly py s1 e1;show ⟨_,rfl,_,rfl,_,_,rfl,rfl,((n:Int)-2),rfl,ce,ce,fun D2 nD2=>?_⟩;refine ik (lo:=0) (n:=((n:Int)-2).toNat) (ph:=[]) (fun i v H=>NP K H v (i,i+2)) nD2 (FX (show ((n:Int)-2).toNat<=8 by omega) dL) (fun i v Ha Hb ys e k z=>sd e k z) ?_ ?_
 ·intro i H6 Rq hi s6 k
  rw [Lh];show ⟨_,rfl,_,rfl,_,_,rfl,rfl,L2,?_⟩;intros p1 m1 H3 s3 e3;exact k _ _ s3 ⟨p1,rfl,bE.of e3⟩
 intro zs H2 lz pz s2 e2;show ⟨D1,D2,_,_,rfl,rfl,s2 _ _ e1,e2,BJ (show ys.length+zs.length<=100 by omega) dL,?_⟩;intros l3 n4 H4 s4 e4;let Qo:=s2.trans s4;refine q l3 _ H4 (s1.trans Qo) ((s1.trans s2).free n4) e4 ?_;unfold uq;exact uu (Paired.cV (KN ce py) fun _ _ z=>z.lh Qo) (Paired.cV (KN ce pz) fun _ _ z=>z.lh s4)
def ael (v:V):Pw ("ways":Str) [(("way":Str),v)]=none:=by
 let h:(("ways":Str)=="way")=false:=by decide+kernel
 simp [Pw,h]
inductive uv (K:Frag)(C:AF)(vs:η)(H:Hp)(Q:VK)(E_:XK):Prop
|mk (pA bA:AF)(us oF :η)(pX:ν)(gV:τ)(_:vs=[.ref pA,.ref bA])(_:H pA=some (.lst us))(_:Paired (jq K H) us pX)(_:H bA=some (.lst oF))(_:Paired (kZ K H pX) oF gV)(_:oK pX)(_:Qz pX gV)(_:pX.length<=9)(_:gV.length<=26)(_:∀(a:AF)(H':Hp),ao H H' ->xp K H' C a pX gV->Q (.ref a) H')
def qK:av ["_law_pins_here","_law_bars_here","_law_frame_here","_law_name_here","_law_spot","_law_ways","_law_one","_law_other"] rf (ae Mt):=sq
def ac1 {C CR CF fI fR:AF}(D:Def K mg "_law_frame" Mt rf)(a_:mg "len"=none)(Yv:Mk K C fI)(Yw:mg "Frame"=some (.ref C))(ajU:ad P w K mg iT 1 fI fdI LH (xB K C))(Yx:Binds K fdI LH [])
  (Yy:mg "Roller"=some (.ref CR)) (Yz:mg "Fixed"=some (.ref CF)) (YA:Mk0 K CF) (YB:Mk K CR fR) (ajV:ad P w K mg iT 1 fR fdR Xf (xC K CR)) (YC:Binds K fdR Xf [])
  (wR:am P w K mg iT 2 CR "ways" LH (oA K CR)) (wF:am P w K mg iT 2 CF "ways" LH (oB K))
  (MPb:am P w K mg iT 3 C "put_bar" SA (oC K C)) (MPp:am P w K mg iT 3 C "put_pin" pK (f' P w K mg iT C)) (MPd:ER P w K mg iT (aS P w) 3 C "put_pin" pK [.none] (f' P w K mg iT C)):
  ac P w K mg iT 4 "_law_frame" rf (uv K C):=by
 refine D.op qK fun f cF A mB s H vs Q E hr h=>?_;obtain ⟨pA,bA,us,oF,pX,gV,rfl,hp,pp,hb,pb,gp,gb,lp6,lb8,q⟩:=h;let lu:us.length=pX.length:=GJ pp
 show ⟨_,(aa (aC 2 qK.nd (agw Yv ajU hr.mo rfl Yw Yx .nil (pY P w))) (aa (ba FF rfl (bh (pv 0)) (fL rfl (aY (bM 3 qK.nd) (aY (bM 4 qK.nd) (aY (bM 5 qK.nd) df)))) (aa (bF (bO fk (aU aQ rfl a_ cS (aZ (pv 5))) af) (ag (b_ (adZ (k:=3) (pv 2) hr.mo (pY P w) (bU (pv 3) (ay (pv 4)) (ay (pv 4)))))) aX) (aa (bF (bO fk (aU aQ rfl a_ cS (aZ (pv 5))) af) (ag (b_ (fO (k:=3) (pv 2) hr.mo (pY P w) (jP (pv 3) (bU (ay (pv 4)) (ay (pv 4)) (ago YB ajV hr.mo rfl Yy YC .nil (pY P w) (aE (ay (mm (pv 5))) (ay (mm (pv 5)))))))))) aX) (ag (bF (bO fk (aU aQ rfl a_ cS (aZ (pv 5))) af) (ag (b_ (fO (k:=3) (pv 2) hr.mo (pY P w) (jP (pv 3) (bU (ay (pv 4)) (ay (pv 4)) (akp YA rfl Yz)))))) aX))))) (aa (ba FF rfl (bh (pv 1)) (fL rfl (aY (bM 3 qK.nd) (aY (bM 6 qK.nd) (aY (bM 7 qK.nd) df)))) (ag (b_ (fO (k:=3) (pv 2) hr.mo (pY P w) (bU (pv 3) (ay (bg aI (pv 0) (pv 6))) (ay (bg aI (pv 0) (pv 7)))))))) (ag (aF (pv 2)))))),?_⟩;sleep 3
 intro a dx na ndx nad;let sF:ao H (upd (upd H dx (.own a)) a (.ins C dx [])):=fun b o e=>by rwa [aj (ak e na),aj (ak e ndx)]
 show ⟨a,dx,rfl,ah,fun pP pW pB H1 k1 nP nW nB R1=>⟨rfl,?_⟩⟩;let s1:ao H H1:=fun b o e=>k1 b o (ak e na) (sF _ _ e);let nP:=pR sF nP;let nW:=pR sF nW;let nB:=pR sF nB
 show ⟨_,rfl,pA,rfl,⟨_,aR.of (s1 _ _ hp)⟩,let I:bn:=fun i Y H'=>Ex5 fun (o4 o5 o6:ψ) (kP kW:γ)=>Y=[ap pA,ap bA,ap a,o4,o5,o6,none,none]/\ao H H'/\gX K H' C a dx pP pW pB ((pX.take i).map fun p=>(p.nm,Pd p.sp)) [] kP kW []/\DK K H' ((pX.take i).map fun p=>(p.nm,p.ws)) kW;bP (K:=K) (a:=pA) (xs:=us) I ⟨none,none,none,[],[],rfl,s1,R1,.nil⟩ (fun i Y H' _ h=>by
   obtain ⟨_,_,_,_,_,_,s,_⟩:=h
   exact aR.of (s _ _ hp)) ?_ ?_⟩
 ·rintro i u Y H2 hu ⟨o4,o5,o6,kP,kW,rfl,s2,R2,W2⟩
  obtain ⟨p,ep,T7⟩:=aG pp hu;let mp:p∈pX:=DW ep;obtain ⟨ta,l,sv,ws,rfl,h1,h2,h3,h4⟩:=T7.lh s2;obtain ⟨sa,x1,y1,rfl,ZD,hn1,hn2⟩:=h2;show ⟨ta,_,rfl,h1,rfl,_,_,rfl,_,_,rfl,_,_,rfl,rfl,?_⟩;let tk:=take_snoc ep;let il:i<pX.length:=(be.mp ep).1;let nlP:l≠pP:=fun z=>by erw [z,R2.pl] at h3
  let nlW:l≠pW:=fun z=>by erw [z,R2.wy] at h3
  let fin:∀(hv:V)(H5:Hp)(Q5:VK)(E5:XK),ao H2 H5->V7 P w K mg iT H5 hv p.ws->
    (∀H' P8 zX,ao H H' ->H' l=some (.lst ws)->gX K H' C a dx pP pW pB ((pX.take (i+1)).map fun p=>(p.nm,Pd p.sp)) [] P8 zX []->DK K H' ((pX.take (i+1)).map fun p=>(p.nm,p.ws)) zX ->Q5 .dc H')->f' P w K mg iT C [.ref a,.str p.nm,x1,y1,hv] H5 Q5 E5:=fun hv H5 Q5 E5 s5 hY fin=>by
   show ⟨a,dx,pP,pW,pB,_,_,kP,kW,_,_,p.nm,x1,y1,hv,Pd p.sp,p.ws,rfl,R2.lh s5,W2.lh s5,by rw [EB,EB];rfl,hn1.lh s5,hn2.lh s5,fun z=>?_,fun z hz e=>?_,?_,hY,fun H' P8 zX k' R' W'=>?_⟩
   ·rw [EB] at z
    obtain ⟨p',iG,e'⟩:=AY.mp z;exact iu (nm:=aA.nm) gp.np ep iG e'
   ·obtain ⟨p',iG,e'⟩:=AY.mp hz
    rw [<-e'] at e;let e1:=pj ap7 e;let e2:=pj ap8 e;let e3:p'.sp=p.sp:=yb (ES e1) (ES e2);obtain ⟨j,hj,ej⟩:=Ug.mp iG;rw [AW] at ej;rw [FU] at hj;let q1:(pX.map (·.sp))[j]?=some p.sp:=by rw [Wp,gE ce,ej,<-e3];rfl
    let q2:(pX.map (·.sp))[i]?=some p.sp:=by rw [Wp,ep];rfl
    have:=(Ta (by rw [ir];omega) gp.ns).mp (q1.trans q2.symm);omega
   ·rw [ir,FU]
    omega
   ·refine fin H' P8 zX (fun b o z=>k' b o (ak z nP) (ak z nW) (s5 _ _ (s2 _ _ z))) (k' _ _ nlP nlW (s5 _ _ h3)) ?_ ?_
    ·rw [tk,GV]
     exact R'
    ·rw [tk,GV]
     exact W'
  let l2:=aR.of (K:=K) h3;let lw:ws.length=p.ws.length:=GJ h4;show ⟨_,rfl,l,_,rfl,.inl l2,rfl,_,rfl,?_⟩
  rcases gp.ws p mp with hw|⟨wx,wy,hw,wn,_,_⟩|hw
  ·rw [hw] at lw
   refine bG (fun _=>?_) (fun c=>by rw [lw] at c;simp at c);show ⟨_,rfl,a,C,dx,_,_,_,rfl,R2.obj,rfl,MPd,_,rfl,_,rfl,sa,_,_,_,rfl,rfl,ZD,iF,_,rfl,sa,_,_,_,rfl,rfl,ZD,gL,?_⟩;dsimp only [gI];refine fin .dc H2 _ _ (ao.refl _) (.inl ⟨rfl,hw⟩) fun H' P8 zX s' l' R' W'=>?_;let l':=aR.of (K:=K) l';show ⟨_,rfl,l,_,rfl,.inl l',rfl,_,rfl,bG (fun c=>by rw [lw] at c;simp at c) (fun _=>?_)⟩;show ⟨_,rfl,l,_,rfl,.inl l',rfl,_,rfl,bG (fun c=>by rw [lw] at c;simp at c) (fun _=>?_)⟩;show ⟨_,_,_,P8,zX,rfl,s',R',W'⟩
  ·rw [hw] at lw h4
   obtain ⟨w0,rfl⟩:=ID.mp lw
   let hw0:i8 K H2 w0 (wx,wy):=by
    cases h4 with
    | cons h _=>exact h
   obtain ⟨wa,y2,y3,rfl,IZ,Zq,hm2⟩:=hw0;refine bG (fun c=>by simp at c) (fun _=>?_);show ⟨_,rfl,l,_,rfl,.inl l2,rfl,_,rfl,bG (fun _=>?_) (fun c=>DZ rfl c)⟩;show ⟨_,rfl,a,C,dx,_,_,_,rfl,R2.obj,rfl,MPp,_,rfl,_,rfl,sa,_,_,_,rfl,rfl,ZD,iF,_,rfl,sa,_,_,_,rfl,rfl,ZD,gL,_,rfl,l,_,_,_,rfl,rfl,l2,rfl,wa,_,_,_,rfl,rfl,IZ,iF,_,rfl,l,_,_,_,rfl,rfl,l2,rfl,wa,_,_,_,rfl,rfl,IZ,gL,?_⟩;intro lX d1 nh1 nd1 ne1;let s4:ao H2 (upd (upd H2 d1 (.own lX)) lX (.ins CR d1 [])):=fun b o e=>by rwa [aj (ak e nh1),aj (ak e nd1)]
   let e4:(upd (upd H2 d1 (.own lX)) lX (.ins CR d1 [])) lX =some (.ins CR d1 []):=ah;generalize upd (upd H2 d1 (.own lX)) lX (.ins CR d1 [])=H4 at s4 e4 ⊢;show ⟨lX,d1,y2,y3,wx,wy,rfl,e4,Zq.lh s4,hm2.lh s4,wn,fun p5 n5=>⟨rfl,?_⟩⟩;let OM:p5≠lX :=fun z=>by erw [z,e4] at n5
   let s5:ao H2 (upd (upd H4 p5 (.tup [y2,y3])) lX (.ins CR d1 [("way",.ref p5)])):=fun b o e=>by
    let z:b≠lX :=fun z=>by erw [z,nh1] at e
    rw [aj z];exact aD n5 _ _ _ (s4 _ _ e)
   let e5:(upd (upd H4 p5 (.tup [y2,y3])) lX (.ins CR d1 [("way",.ref p5)])) lX =some (.ins CR d1 [("way",.ref p5)]):=ah;let t5:(upd (upd H4 p5 (.tup [y2,y3])) lX (.ins CR d1 [("way",.ref p5)])) p5=some (.tup [y2,y3]):=by rw [aj OM,ah]
   generalize upd (upd H4 p5 (.tup [y2,y3])) lX (.ins CR d1 [("way",.ref p5)])=H5 at s5 e5 t5 ⊢;let ajZ:i8 K H5 (.ref p5) (wx,wy):=acQ t5 (Zq.lh s5) (hm2.lh s5);dsimp only [gI];refine fin (.ref lX) H5 _ _ s5 (.inr ⟨lX,CR,d1,_,LH,oA K CR,rfl,e5,ael _,wR,fun H6 e6 t6 Q' an=>⟨lX,d1,p5,(wx,wy),rfl,e6,ajZ.aH t6,by rwa [hw] at an⟩⟩) fun H' P8 zX s' l' R' W'=>?_;show ⟨_,rfl,l,_,rfl,.inl (aR.of (K:=K) l'),rfl,_,rfl,bG (fun c=>by simp at c) (fun _=>?_)⟩;show ⟨_,_,_,P8,zX,rfl,s',R',W'⟩
  ·rw [hw] at lw
   refine bG (fun c=>by rw [lw] at c;simp at c) (fun _=>?_);show ⟨_,rfl,l,_,rfl,.inl l2,rfl,_,rfl,bG (fun c=>by rw [lw] at c;simp at c) (fun _=>?_)⟩;show ⟨_,rfl,l,_,rfl,.inl l2,rfl,_,rfl,bG (fun _=>?_) (fun c=>by rw [lw] at c;simp at c)⟩;show ⟨_,rfl,a,C,dx,_,_,_,rfl,R2.obj,rfl,MPp,_,rfl,_,rfl,sa,_,_,_,rfl,rfl,ZD,iF,_,rfl,sa,_,_,_,rfl,rfl,ZD,gL,?_⟩;intro lX d1 nh1 nd1 ne1;let s4:ao H2 (upd (upd H2 d1 (.own lX)) lX (.ins CF d1 [])):=fun b o e=>by rwa [aj (ak e nh1),aj (ak e nd1)]
   let e4:(upd (upd H2 d1 (.own lX)) lX (.ins CF d1 [])) lX =some (.ins CF d1 []):=ah;generalize upd (upd H2 d1 (.own lX)) lX (.ins CF d1 [])=H4 at s4 e4 ⊢;dsimp only [gI];refine fin (.ref lX) H4 _ _ s4 (.inr ⟨lX,CF,d1,_,LH,oB K,rfl,e4,rfl,wF,fun H6 _ _ Q' an=>⟨lX,rfl,by rwa [hw] at an⟩⟩) fun H' P8 zX s' l' R' W'=>?_;show ⟨_,_,_,P8,zX,rfl,s',R',W'⟩
 ·rintro Y H2 ⟨o4,o5,o6,kP,kW,rfl,s2,R2,W2⟩
  rw [lu,Lq] at R2 W2;let lv:oF.length=gV.length:=GJ pb
  show ⟨_,rfl,bA,rfl,⟨_,aR.of (s2 _ _ hb)⟩,let I:bn:=fun i Y H'=>LX fun (o3 o7 o8:ψ) (kB:γ)=>Y=[ap pA,ap bA,ap a,o3,o5,o6,o7,o8]/\ao H H'/\gX K H' C a dx pP pW pB (pX.map fun p=>(p.nm,Pd p.sp)) ((gV.take i).map fun b=>(b.nm,b.one.nm,b.lj.nm)) kP kW kB/\DK K H' (pX.map fun p=>(p.nm,p.ws)) kW;bP (K:=K) (a:=bA) (xs:=oF) I ⟨_,none,none,[],rfl,s2,R2,W2⟩ (fun i Y H' _ h=>by
    obtain ⟨_,_,_,_,_,s,_⟩:=h
    exact aR.of (s _ _ hb)) ?_ ?_⟩
  ·rintro i u Y H3 hu ⟨o3,o7,o8,kB,rfl,s3,R3,W3⟩
   obtain ⟨b,ebr,vq⟩:=aG pb hu;let mb:b∈gV:=DW ebr;obtain ⟨ta,i1,j1,rfl,h1,g1,g2⟩:=vq.lh s3;obtain ⟨m1,m2,m3⟩:=gb.ends b mb;let tk:=take_snoc ebr;let il:i<gV.length:=(be.mp ebr).1
   have ac2 :∀(k:Nat)(p:aA),pX[k]?=some p->∃(c la:AF)(sv:V),i7 us (k:Int)=some (.ref c)/\bE K H3 c [.str p.nm,sv,.ref la]:=fun k p ek=>by
    obtain ⟨u',eu',hu'⟩:=aG (gw pp) ek;obtain ⟨c,la,sv,ws,rfl,q1,_⟩:=jq.lh hu' s3;show ⟨c,la,sv,bq eu',q1⟩
   obtain ⟨c1,la1,sv1,T4,q1⟩:=ac2 _ _ g1;obtain ⟨c2,la2,sv2,T5,q2⟩:=ac2 _ _ g2;show ⟨ta,_,rfl,h1,rfl,_,_,rfl,_,_,rfl,_,_,rfl,rfl,?_⟩;let lp3:=aR.of (K:=K) (s3 _ _ hp);show ⟨_,rfl,a,C,dx,_,_,_,rfl,R3.obj,rfl,MPb,_,rfl,_,rfl,_,rfl,pA,_,_,_,rfl,rfl,lp3,T4,c1,_,_,_,rfl,rfl,q1,rfl,_,rfl,_,rfl,pA,_,_,_,rfl,rfl,lp3,T5,c2,_,_,_,rfl,rfl,q2,rfl,?_⟩;show ⟨a,dx,pP,pW,pB,_,_,kP,kW,kB,b.nm,b.one.nm,b.lj.nm,rfl,R3,fun z=>?_,?_,?_,m3,?_,fun H' kB' k' R'=>?_⟩
   ·rw [EB] at z
    obtain ⟨b',fZ,e'⟩:=AY.mp z;exact iu (nm:=aL.nm) gb.nb ebr fZ e'
   ·rw [EB]
    exact AY.mpr ⟨_,m1,rfl⟩
   ·rw [EB]
    exact AY.mpr ⟨_,m2,rfl⟩
   ·rw [ir,FU]
    omega
   ·show ⟨_,_,_,kB',rfl,fun c o z=>k' c o (ak z nB) (s3 _ _ z),?_,?_⟩
    ·rw [tk,GV]
     exact R'
    ·refine Paired.cV W3 fun p' kv z=>⟨z.1,?_⟩
     obtain ⟨l',qF,z1,z2,z3⟩:=z.2;show ⟨l',qF,z1,k' _ _ (fun z=>by erw [z,R3.br] at z2) z2,z3.aH fun c xs r=>?_⟩
     rcases r with r|⟨o',r⟩
     ·exact .inl (k' _ _ (fun e=>by erw [e,R3.br] at r) r)
     ·exact .inr ⟨o',k' _ _ (fun e=>by erw [e,R3.br] at r) r⟩
  ·rintro Y H3 ⟨o3,o7,o8,kB,rfl,s3,R3,W3⟩
   rw [lv,Lq] at R3;show ⟨_,rfl,q a H3 s3 ⟨dx,pP,pW,pB,kP,kW,kB,R3,W3⟩⟩
theorem KO {Z β:Type}:∀{vs:List Z} {R:Nat->Z->β->Prop},(∀k v,vs[k]?=some v->∃b,R k v b)->∃bs:List β,bs.length=vs.length/\∀k v,vs[k]?=some v->∃b,bs[k]?=some b/\R k v b
 | [],_,_=>⟨[],rfl,fun k v h=>by simp at h⟩
 | v::vs,R,h=>by
  obtain ⟨b,hb⟩:=h 0 v rfl;obtain ⟨bs,l,V5⟩:=KO (vs:=vs) (R:=fun k=>R (k+1)) fun k v e=>h (k+1) v (by simpa using e);show ⟨b::bs,by rw [Lw,Lw,l],fun k v' e=>?_⟩;cases k with
  | zero=>
   cases e;show ⟨b,rfl,hb⟩
  | succ k=>
   obtain ⟨b',h1,h2⟩:=V5 k v' (by simpa using e);show ⟨b',by simpa using h1,h2⟩
def Wi (n:Nat)(e:Nat×Nat):Prop:=e.1<n/\e.2<n/\(e.2=e.1+1\/e.2=e.1+2\/e.1=e.2+1\/e.1=e.2+2)
def Nl (K:Frag)(n:Nat)(H:Hp)(v:V):Prop:=∃e,NP K H v e/\Wi n e
theorem Nl.lh (h:Nl K n H v)(s:ao H H'):Nl K n H' v:=h.imp fun _ z=>⟨z.1.lh s,z.2⟩
def Nl.aH (h:Nl K n H v)(t:a9 H H'):Nl K n H' v:=by
 obtain ⟨e,⟨a,rfl,h⟩,o⟩:=h;show ⟨e,⟨a,rfl,t.bZ h⟩,o⟩
def adp (h:e∈uq n):Wi n e:=by
 rcases FR.mp h with h|h
 ·obtain ⟨k,hk,rfl⟩:=AY.mp h
  have:=OW.mp hk;show ⟨by show k<n;omega,by show k+1<n;omega,.inl rfl⟩
 ·obtain ⟨k,hk,rfl⟩:=AY.mp h
  have:=OW.mp hk;show ⟨by show k<n;omega,by show k+2<n;omega,.inr (.inl rfl)⟩
def Wi.turn (h:Wi n e):Wi n (e.2,e.1):=⟨h.2.1,h.1,by have:=h.2.2;show e.1=e.2+1\/e.1=e.2+2\/e.2=e.1+1\/e.2=e.1+2;omega⟩
def Wi.side (h:Wi n e)(h1:pX[e.1]?=some b.one)(h2:pX[e.2]?=some b.lj):∃k d,vp pX b k d:=by
 rcases h.2.2 with z|z|z|z
 ·show ⟨e.1,1,.inl rfl,.inl ⟨h1,by rwa [<-z]⟩⟩
 ·show ⟨e.1,2,.inr rfl,.inl ⟨h1,by rwa [<-z]⟩⟩
 ·show ⟨e.2,1,.inl rfl,.inr ⟨h2,by rwa [<-z]⟩⟩
 ·show ⟨e.2,2,.inr rfl,.inr ⟨h2,by rwa [<-z]⟩⟩
inductive x4 (K:Frag)(vs:η)(H:Hp)(Q:VK)(E_:XK):Prop
|mk (sA lS:AF)(ns:ξ)(us:η)(n:Nat)(pX:ν)(_:vs=[.ref sA,.ref lS])(_:aR K H sA (ns.map V.int))(_:H lS=some (.lst us))(_:Paired (NP K H) us (uq n))(_:n<=8)(_:pX.length=n)(_:(pX.map (·.nm)).Nodup)(_:∀(l:AF)(oF :η)(gV:τ)(H':Hp),ao H H' ->H l=none->H' l=some (.lst oF)->Paired (kZ K H' pX) oF gV->Qz pX gV->gV.length<=26->(∀b∈gV,∃k d,vp pX b k d)->Q (.ref l) H')
def jS:av ["_law_script","_law_sides","_law_found","_law_twins","_law_whole","_law_k","_law_cell","_law_both","_law_turn","_law_names_here"] vn (ae My):=sq
def ac3 (D:Def K mg "_law_bars" My vn)(aV:mg "range"=none)(a_:mg "len"=none)(kY:ac P w K mg iT 1 "_law_cell_at" Qd (kR K))(gh:ac P w K mg iT 1 "_law_field" Ph gS)(k_:ac P w K mg iT 2 "_law_names" XG (rS K)):ac P w K mg iT 3 "_law_bars" vn (x4 K):=by
 refine D.oo jS fun H hr h=>?_;obtain ⟨sA,lS,ns,us,n,pX,rfl,hS,eS,pS,n8,ln,nd,q⟩:=h;let L0:0<=AZ:=dL
 let L2:2<=AZ:=dL
 let L3:3<=AZ:=dL
 let lus:us.length<=13:=by
  rw [GJ pS];unfold uq;rw [EM,ir,ir,Li,Li];omega
 show ⟨_,(aa (aC 2 jS.nd (b9 jx)) (aa (aC 3 jS.nd (b9 jx)) (aa (aC 4 jS.nd (jw fk (aJ gh hr (bU (aJ kY hr (aE (pv 0) af)) af af)) af (j9 _))) (aa (ba FF rfl (bB rfl aV (aZ (aU aQ rfl a_ cS (aZ (pv 1))))) (bM 5 jS.nd) (aa (aC 6 jS.nd (aJ kY hr (aE (pv 0) (aw bT af (pv 5))))) (aa (aC 7 jS.nd (bg aI (pv 1) (pv 5))) (aa (bF (bO fk (aJ gh hr (bU (pv 6) af af)) af) (ag (aC 7 jS.nd (aK (aE (ay (bg aI (pv 1) (pv 5))) (ay (bg aI (pv 1) (pv 5))))))) aX) (aa (bF (PW.pt (j0 (fg (pv 4)) (jZ (bO IG (aJ gh hr (bU (pv 6) af af)) af)))) (ag (b_ (qw TF Ti Th ft (pv 2) (aZ (pv 7))))) aX) (ag (bF (bO fk (aJ gh hr (bU (pv 6) af af)) af) (ag (b_ (qw TF Ti Th ft (pv 3) (aZ (bg aI (pv 1) (pv 5)))))) aX))))))) (aa (aC 2 jS.nd (aw ie (pv 2) (pv 3))) (aa (aC 8 jS.nd (aJ gh hr (bU (aJ kY hr (aE (pv 0) af)) af (aw bT (aU aQ rfl a_ cS (aZ (pv 2))) af)))) (aa (aC 2 jS.nd (aw ie (bX dP (pv 2) (cH (pv 8)) cQ) (bX dP (pv 2) cQ (cH (pv 8))))) (aa (aC 9 jS.nd (aJ k_ hr (aE (aJ kY hr (aE (pv 0) af)) (aU aQ rfl a_ cS (aZ (pv 2)))))) (ag (aF (fe (tn:=XM) (fr:=["_law_names_here","_law_found"]) (oV:=[9,2]) (bB rfl aV (aZ (aU aQ rfl a_ cS (aZ (pv 2))))) (aK (bU (bg (gj (K:=K) rfl) (pv 1) (pv 0)) (bg (dQ (K:=K) rfl) (bg (gj (K:=K) rfl) (pv 2) (pv 0)) af) (bg (dQ (K:=K) rfl) (bg (gj (K:=K) rfl) (pv 2) (pv 0)) af)))))))))))))),?_⟩;try dsimp only [uP,j_,Cx.yO,Cx.u9]
 show ⟨L0,?_⟩;intros l2 n2 H2 s2 e2;show ⟨L0,?_⟩;intros l3 n3 H3 s3 e3;let Nd:=s2.trans s3;let l23:l2≠l3:=fun z=>by erw [<-z,e2] at n3
 show ⟨_,rfl,sA,ns,2,rfl,Nd.seq hS,dL,dL,_,_,_,rfl,dL,dL,dL,rfl,?_⟩;generalize decide (V.int (field (cell ns 2) 1009 2)=V.int 0)=wh;let en:((us.length:Nat):Int).toNat=us.length:=ce
 show ⟨_,rfl,lS,_,rfl,.inl (aR.of (Nd _ _ eS)),((us.length:Nat):Int),rfl,ce,ce,let I:bn:=fun i Y H'=>Ex5 fun (o5 o6 o7:ψ) (fs ts:η)=>Y=[ap sA,ap lS,ap l2,ap l3,some (.bl wh),o5,o6,o7,none,none]/\ao H H'/\H' l2=some (.lst fs)/\H' l3=some (.lst ts)/\fs.length<=i/\ts.length<=i/\(∀v∈fs,Nl K n H' v)/\∀v∈ts,Nl K n H' v;cL (lo:=0) (n:=((us.length:Nat):Int).toNat) I ⟨none,none,none,[],[],rfl,Nd,s3 _ _ e2,e3,D' _,D' _,(fun v h=>nomatch h),fun v h=>nomatch h⟩ ?_ ?_⟩
 ·rintro i Y H4 hi ⟨o5,o6,o7,fs,ts,rfl,s4,e4,f4,lf,lt,pf,pt⟩
  let ek:(0:Int)+(i:Int)=(i:Int):=Lh _;rw [ek];show ⟨_,rfl,_,rfl,_,_,rfl,rfl,sA,ns,_,rfl,s4.seq hS,ce,ce,?_⟩;generalize cell ns (3+(i:Int))=c;obtain ⟨e,ee,a,eu,ha⟩:=aG pS (gE (show i<us.length by omega));let ai:i7 us (i:Int)=some (.ref a):=bq (by rw [gE (show i<us.length by omega),eu]);let on:=adp (DW ee);let ha4:=Ty.ao.bZ s4 ha;show ⟨_,rfl,_,rfl,lS,_,_,_,rfl,rfl,aR.of (s4 _ _ eS),ai,?_⟩;dsimp only [cy];refine jr (fun Y' H'=>∃v7:V,Y' =[some (.ref sA),some (.ref lS),some (.ref l2),some (.ref l3),some (.bl wh),some (.int (i:Int)),some (.int c),some v7,none,none]/\ao H4 H'/\Nl K n H' v7) (fun N hN=>?_) ?_
  ·show ⟨_,rfl,_,_,_,rfl,dL,dL,dL,rfl,_,rfl,bG (fun _=>?_) (fun _=>hN _ _ ⟨_,rfl,ao.refl _,e,⟨a,rfl,ha4⟩,on⟩)⟩
   show ⟨_,rfl,_,rfl,lS,_,_,_,rfl,rfl,aR.of (s4 _ _ eS),ai,a,_,_,_,rfl,rfl,ha4,gL,_,rfl,_,rfl,lS,_,_,_,rfl,rfl,aR.of (s4 _ _ eS),ai,a,_,_,_,rfl,rfl,ha4,iF,L2,?_⟩;intros p5 m5 H5 s5 e5;exact hN _ _ ⟨_,rfl,s5,(e.2,e.1),⟨p5,rfl,bE.of e5⟩,on.turn⟩
  rintro Y H5 ⟨v7,rfl,s5,ev⟩;let ZE:=s5 _ _ e4;let n2':H l2=none:=n2;let n3':H l3=none:=s2.free n3;refine jr (fun Y' H'=>∃fs:List V,Y' =[some (.ref sA),some (.ref lS),some (.ref l2),some (.ref l3),some (.bl wh),some (.int (i:Int)),some (.int c),some v7,none,none]/\ao H H'/\H' l2=some (.lst fs)/\H' l3=some (.lst ts)/\fs.length<=i+1/\(∀v∈fs,Nl K n H' v)/\∀v∈ts,Nl K n H' v) (fun N hN=>?_) ?_
  ·let add:N [some (.ref sA),some (.ref lS),some (.ref l2),some (.ref l3),some (.bl wh),some (.int (i:Int)),some (.int c),some v7,none,none] (upd H5 l2 (.lst (fs++[v7]))):=by
    let t:a9 H5 (upd H5 l2 (.lst (fs++[v7]))):=.list ZE;refine hN _ _ ⟨fs++[v7],rfl,fun b o z=>?_,ah,?_,by rw [EM];show fs.length+1<=_;omega,fun v hv=>?_,fun v hv=>((pt v hv).lh s5).aH t⟩
    ·rw [aj (ak z n2')]
     exact s5 _ _ (s4 _ _ z)
    ·rw [aj (FT l23)]
     exact s5 _ _ f4
    ·rcases FR.mp hv with h|h
     ·exact ((pf v h).lh s5).aH t
     ·rw [GQ.mp h]
      exact ev.aH t
   let no:N [some (.ref sA),some (.ref lS),some (.ref l2),some (.ref l3),some (.bl wh),some (.int (i:Int)),some (.int c),some v7,none,none] H5:=hN _ _ ⟨fs,rfl,s4.trans s5,ZE,s5 _ _ f4,ce,fun v hv=>(pf v hv).lh s5,fun v hv=>(pt v hv).lh s5⟩;let sz5:fs.length<AZ:=FX (show fs.length<=1000 by omega) dL;show ⟨_,rfl,_,rfl,bG (fun _=>⟨_,rfl,.inl ⟨rfl,_,aR.of ZE⟩,_,rfl,l2,_,_,rfl,rfl,ZE,sz5,add⟩) (fun _=>?_)⟩;show ⟨_,rfl,_,_,_,rfl,dL,dL,dL,_,_,rfl,rfl,_,rfl,bG (fun _=>⟨_,rfl,.inl ⟨rfl,_,aR.of ZE⟩,_,rfl,l2,_,_,rfl,rfl,ZE,sz5,add⟩) (fun _=>no)⟩
  rintro Y H6 ⟨fs',rfl,s6,e6,f6,lf6,pf6,pt6⟩;show ⟨_,rfl,_,_,_,rfl,dL,dL,dL,rfl,_,rfl,bG (fun _=>?_) (fun _=>⟨_,_,_,fs',ts,rfl,s6,e6,f6,lf6,ce,pf6,pt6⟩)⟩;let t:a9 H6 (upd H6 l3 (.lst (ts++[.ref a]))):=.list f6;show ⟨_,rfl,.inl ⟨rfl,_,aR.of f6⟩,_,rfl,_,rfl,lS,_,_,_,rfl,rfl,aR.of (s6 _ _ eS),ai,l3,_,_,rfl,rfl,f6,FX (show ts.length<=1000 by omega) dL,?_⟩;show ⟨_,_,_,fs',ts++[.ref a],rfl,fun b o z=>?_,?_,ah,lf6,by rw [EM];show ts.length+1<=_;omega,fun v hv=>(pf6 v hv).aH t,fun v hv=>?_⟩
  ·rw [aj (ak z n3')]
   exact s6 _ _ z
  ·rw [aj l23]
   exact e6
  ·rcases FR.mp hv with h|h
   ·exact (pt6 v h).aH t
   ·rw [GQ.mp h]
    show ⟨e,⟨a,rfl,t.bZ (Ty.ao.bZ s6 ha)⟩,on⟩
 rintro Y H4 ⟨o5,o6,o7,fs,ts,rfl,s4,e4,f4,lf,lt,pf,pt⟩;rw [en] at lf lt;show ⟨_,rfl,_,rfl,l2,l3,_,_,rfl,rfl,e4,f4,BJ (show fs.length+ts.length<=100 by omega) dL,?_⟩;intros l5 n5 H5 s5 e5;let FI:=s4.trans s5
 let p5:∀v∈fs++ts,Nl K n H5 v:=fun v hv=>by
  rcases FR.mp hv with h|h
  ·exact (pf v h).lh s5
  ·exact (pt v h).lh s5
 let l5':(fs++ts).length<=26:=by rw [EM];omega
 generalize fs++ts=gs at e5 p5 l5';let pos:(0:Int)<((gs.length:Nat):Int)+1:=ce
 show ⟨_,rfl,sA,ns,2,rfl,FI.seq hS,dL,dL,_,rfl,l5,_,rfl,.inl (aR.of e5),_,_,rfl,rfl,_,2003,_,rfl,dL,dL,pos,?_⟩;let f1:=bV (c:=cell ns 2) (p:=2003) (m:=((gs.length:Nat):Int)+1) pos;obtain ⟨k1,ek1⟩:∃k:Nat,field (cell ns 2) 2003 (((gs.length:Nat):Int)+1)=(k:Int):=⟨_,(ah_ f1.1).symm⟩;rw [ek1] at f1 ⊢;let hk1:k1<=gs.length:=ce
 show ⟨_,rfl,_,rfl,_,rfl,l5,_,rfl,aR.of e5,?_⟩;rw [g8 hk1];intros l6 n6 H6 s6 e6;show ⟨_,rfl,_,rfl,_,rfl,l5,_,rfl,aR.of (s6 _ _ e5),?_⟩;rw [lO hk1];intros l7 n7 H7 s7 e7;show ⟨l6,l7,_,_,rfl,rfl,s7 _ _ e6,e7,BJ (show (gs.drop k1).length+(gs.take k1).length<=100 by rw [SN,FU];omega) dL,?_⟩;intros l8 m8 H8 s8 e8;let DO:=FI.trans (s6.trans (s7.trans s8))
 let p8:∀v∈gs.drop k1++gs.take k1,Nl K n H8 v:=fun v hv=>by
  have:v∈gs:=by
   rcases FR.mp hv with h|h
   ·exact ajc h
   ·exact YH h
  exact (p5 v this).lh (s6.trans (s7.trans s8))
 let l8':(gs.drop k1++gs.take k1).length<=26:=by rw [EM,SN,FU];omega
 generalize gs.drop k1++gs.take k1=hs at e8 p8 l8';show ⟨_,rfl,sA,ns,2,rfl,DO.seq hS,dL,dL,_,rfl,l8,_,rfl,.inl (aR.of e8),?_⟩;generalize cell ns 2=c;show ⟨c,hs.length,rfl,ce,fun lN H9 s9 nN eN=>?_⟩;let e9:=s9 _ _ e8;let Yp:=DO.trans s9;let enh:((hs.length:Nat):Int).toNat=hs.length:=ce
 show ⟨_,rfl,l8,_,rfl,.inl (aR.of e9),((hs.length:Nat):Int),rfl,ce,ce,fun D1 nD=>?_⟩;rw [enh]
 let at3:∀k,k<hs.length->i7 ((namesOf c hs.length).map V.str) (k:Int)=some (.str (nameOf (field c 3001 4) (field c 4001 6) (k:Int))):=fun k hk=>bq (by
  unfold namesOf;rw [EB,Wp,Np hk]
  rfl)
 refine ik (lo:=0) (n:=hs.length) (ph:=[some (.ref lN),some (.ref l8)]) (fun i v H=>∃(a:AF)(e:Nat×Nat),v=.ref a/\bE K H a [.str (nameOf (field c 3001 4) (field c 4001 6) (i:Int)),.int (e.1:Int),.int (e.2:Int)]/\Wi n e) nD (FX (show hs.length<=1000 by omega) dL) (fun i v Ha Hb ys e0 k ⟨a,e,ea,h,o⟩=>⟨a,e,ea,(a9.ks e0 k).bZ h,o⟩) ?_ ?_
 ·intro i Ha Rq hi sa k
  rw [Lh];let ei:=gE hi;obtain ⟨e,⟨a,ea,ha⟩,on⟩:=((p8 _ (DW ei)).lh s9).lh sa;let ai:i7 hs (i:Int)=some (.ref a):=bq (by rw [ei,ea]);show ⟨_,rfl,_,rfl,lN,_,_,_,rfl,rfl,aR.of (sa _ _ eN),at3 i hi,_,rfl,_,rfl,l8,_,_,_,rfl,rfl,aR.of (sa _ _ e9),ai,a,_,_,_,rfl,rfl,ha,iF,_,rfl,_,rfl,l8,_,_,_,rfl,rfl,aR.of (sa _ _ e9),ai,a,_,_,_,rfl,rfl,ha,gL,L3,?_⟩;intros p1 m1 Hb sb eb;exact k _ _ sb ⟨p1,e,rfl,bE.of eb,on⟩
 intro ys Ha ly py sa ea
 obtain ⟨gV,lbs,V5⟩:=KO (vs:=ys) (R:=fun k v (b:aL)=>kZ K Ha pX v b/\b.nm=nameOf (field c 3001 4) (field c 4001 6) (k:Int)/\(∃k d,vp pX b k d)/\b.one∈pX/\b.lj∈pX) fun k v h=>by
  obtain ⟨a,e,rfl,h,on⟩:=py k v h;let e1:=gE (show e.1<pX.length by rw [ln];exact on.1);let e2:=gE (show e.2<pX.length by rw [ln];exact on.2.1);show ⟨⟨_,pX[e.1]'(by rw [ln];exact on.1),pX[e.2]'(by rw [ln];exact on.2.1)⟩,⟨a,e.1,e.2,rfl,h,e1,e2⟩,rfl,on.side e1 e2,DW e1,DW e2⟩
 let all:∀b∈gV,∃k:Nat,k<hs.length/\gV[k]?=some b/\b.nm=nameOf (field c 3001 4) (field c 4001 6) (k:Int)/\(∃k d,vp pX b k d)/\b.one∈pX/\b.lj∈pX:=fun b hb=>by
  obtain ⟨k,ek⟩:=FZ hb;let lk:=(be.mp ek).1;obtain ⟨b',e',_,h2⟩:=V5 k _ (gE (show k<ys.length by omega));erw [ek] at e';show ⟨k,ce,ek,h2⟩
 refine q D1 ys gV Ha (Yp.trans sa) (Yp.free nD) ea (g9 ce fun k v h=>?_) ⟨?_,fun b hb=>?_⟩ ce fun b hb=>?_
 ·obtain ⟨b,h1,h2,_⟩:=V5 k v h
  show ⟨b,h1,h2⟩
 ·have:gV.map (·.nm)=namesOf c hs.length:=by
   refine OC fun k=>?_;unfold namesOf;rw [Wp,Wp];by_cases ck:k<hs.length
   ·obtain ⟨b,h1,_,h2,_⟩:=V5 k _ (gE (show k<ys.length by omega))
    rw [h1,Np ck];exact pj some h2
   ·rw [FJ ce,FJ (by rw [Li];omega)]
    rfl
  rw [this];exact names_nodup c ce
 ·obtain ⟨k,_,_,_,⟨k',d',sd⟩,h1,h2⟩:=all b hb
  show ⟨h1,h2,fun z=>?_⟩
  rcases sd.2 with ⟨s1,s2⟩|⟨s1,s2⟩
  ·have:=d3 nd s1 s2 z
   have:=sd.1;omega
  ·have:=d3 nd s1 s2 z.symm
   have:=sd.1;omega
 ·obtain ⟨_,_,_,_,h,_⟩:=all b hb
  exact h
def ax (k:Int)(p:Rat×Rat):Rat:=if k=0 then p.1 else p.2
def BB (hk:k=0\/k=1)(h:i8 K H v p):∃(a:AF)(xs:η)(u:V),v=.ref a/\bE K H a xs/\i7 xs k=some u/\dh K H u (ax k p):=by
 obtain ⟨a,u1,u2,rfl,hq,h1,h2⟩:=h
 rcases hk with rfl|rfl
 ·show ⟨a,_,u1,rfl,hq,rfl,h1⟩
 ·show ⟨a,_,u2,rfl,hq,rfl,h2⟩
def QD (h:Sz n p.1/\Sz n p.2):Sz n (ax k p):=by
 unfold ax;split
 ·exact h.1
 ·exact h.2
def x5 {us:η}{pX:ν}{k:Nat}(pp:Paired (jq K H) us pX)(e:pX[k]?=some p):∃(c la:AF)(sv:V),i7 us (k:Int)=some (.ref c)/\bE K H c [.str p.nm,sv,.ref la]/\i8 K H sv p.sp:=by
 obtain ⟨u',eu',hu'⟩:=aG (gw pp) e;obtain ⟨c,la,sv,ws,rfl,q1,q2,_⟩:jq K H u' p:=hu';show ⟨c,la,sv,bq eu',q1,q2⟩
inductive x6 (K:Frag)(vs:η)(H:Hp)(Q:VK)(E_:XK):Prop
|mk (pA:AF)(us:η)(pX:ν)(u:V)(b:aL)(k:Int)(_:vs=[.ref pA,u,.int k])(_:H pA=some (.lst us))(_:Paired (jq K H) us pX)(_:oK pX)(_:kZ K H pX u b)(_:(k=0\/k=1))(_:∀(v:V)(H':Hp),ao H H' ->g_ K H' v 55 (ax k b.lj.sp-ax k b.one.sp)->Q v H')
def ac4:av Tu Tu (ae Mu):=sq
def ac5 (D:Def K mg "_law_arm" Mu Tu)(jX:ac P w K mg iT 1 "_law_sum" LG (bw K gC))(BA:ac P w K mg iT 1 "_law_turned" Qf (ff K)):
  ac P w K mg iT 2 "_law_arm" Tu (x6 K):=by
 refine D.oo ac4 fun H hr h=>?_;obtain ⟨pA,us,pX,u,b,k,rfl,hp,pp,gp,⟨ta,i,j,rfl,hb,e1,e2⟩,hk,q⟩:=h;show ⟨_,(ag (aF (aJ jX hr (aE (bg pH (ay (bg aI (pv 0) (ay (pv 1)))) (pv 2)) (aJ BA hr (aZ (bg pH (ay (bg aI (pv 0) (ay (pv 1)))) (pv 2)))))))),?_⟩;obtain ⟨c1,l1,sv1,T4,q1,r1⟩:=x5 pp e1;obtain ⟨c2,l2,sv2,T5,q2,r2⟩:=x5 pp e2;obtain ⟨a1,xs1,u1,rfl,t1,v1,n1⟩:=BB hk r1;obtain ⟨a2,xs2,u2,rfl,t2,v2,n2⟩:=BB hk r2;let z1:=QD (k:=k) (gp.sz _ (DW e1));let z2:=QD (k:=k) (gp.sz _ (DW e2));let lp:=aR.of (K:=K) hp;show ⟨_,rfl,_,rfl,ta,_,_,_,rfl,rfl,hb,rfl,pA,_,_,_,rfl,rfl,lp,T5,c2,_,_,_,rfl,rfl,q2,rfl,_,rfl,a2,_,_,_,rfl,rfl,t2,v2,_,rfl,_,rfl,ta,_,_,_,rfl,rfl,hb,rfl,pA,_,_,_,rfl,rfl,lp,T4,c1,_,_,_,rfl,rfl,q1,rfl,_,rfl,a1,_,_,_,rfl,rfl,t1,v1,?_⟩;dsimp only [gI];show ff K [_] _ _ E0;refine kX (cv n1 (eR z1 (D' _))) fun p3 H3 s3 n3=>?_;show bw K gC [_,_] _ _ E0;refine gi ((cv n2 (eR z2 (D' _))).lh s3) n3 dL fun p4 H4 s4 n4=>?_;refine q (.ref p4) H4 (s3.trans s4) ?_;rwa [ajs]
inductive uw (K:Frag)(vs:η)(H:Hp)(Q:VK)(E_:XK):Prop
|mk (l1 l2:AF)(u1 u2 v1 v2:V)(x1 x2 y1 y2:Rat)(m n:Nat)(_:vs=[.ref l1,.ref l2])(_:(aR K H l1 [u1,u2]\/bE K H l1 [u1,u2]))(_:(aR K H l2 [v1,v2]\/bE K H l2 [v1,v2]))(_:g_ K H u1 m x1)(_:g_ K H u2 m x2)(_:g_ K H v1 n y1)(_:g_ K H v2 n y2)(_:m+n<=30000000)(_:∀(v:V)(H':Hp),ao H H' ->g_ K H' v (m+n+(m+n)+1) (x1*y1+x2*y2)->Q v H')
def ac6:av LG LG (ae MF):=sq
def ac7 (D:Def K mg "_law_dot" MF LG)(jX:ac P w K mg iT 1 "_law_sum" LG (bw K gC))(qj:ac P w K mg iT 1 "_law_times" LG (bw K i5)):
  ac P w K mg iT 2 "_law_dot" LG (uw K):=by
 refine D.oo ac6 fun H hr h=>?_;obtain ⟨l1,l2,u1,u2,v1,v2,x1,x2,y1,y2,m,n,rfl,h1,h2,a1,a2,b1,b2,le,q⟩:=h;show ⟨_,(ag (aF (aJ jX hr (aE (aJ qj hr (aE (bg JN (pv 0) af) (bg JN (pv 1) af))) (aJ qj hr (aE (bg JN (pv 0) af) (bg JN (pv 1) af))))))),_,rfl,l1,_,_,_,rfl,rfl,h1,rfl,_,rfl,l2,_,_,_,rfl,rfl,h2,rfl,?_⟩;dsimp only [gI];show bw K i5 [_,_] _ _ E0;refine gT a1 b1 ce fun p3 H3 s3 n3=>?_;show ⟨_,rfl,l1,_,_,_,rfl,rfl,(h1.imp s3.seq (Ty.ao.bZ s3)),rfl,_,rfl,l2,_,_,_,rfl,rfl,(h2.imp s3.seq (Ty.ao.bZ s3)),rfl,?_⟩;dsimp only [gI];show bw K i5 [_,_] _ _ E0;refine gT (a2.lh s3) (b2.lh s3) ce fun p4 H4 s4 n4=>?_;show bw K gC [_,_] _ _ E0;refine gi (n3.lh s4) n4 ce fun p5 H5 s5 n5=>?_;exact q (.ref p5) H5 (s3.trans (s4.trans s5)) n5
structure Found (K:Frag)(H:Hp)(fA:AF)(ls:χ)(F:Nat->Rat×Rat)(B:Nat):Prop where
 hf:H fA=some (.lst (ls.map V.ref))
 nd:ls.Nodup
 nf:fA∉ls
 row:∀(i:Nat)(l:AF),ls[i]?=some l->∃v1 v2,H l=some (.lst [v1,v2])/\g_ K H v1 B (F i).1/\g_ K H v2 B (F i).2
def KL (ls:χ)(H H':Hp):Prop:=∀b o,b∉ls->H b=some o->H' b=some o
theorem Found.lh (h:Found K H fA ls F B)(s:ao H H'):Found K H' fA ls F B:=⟨s _ _ h.hf,h.nd,h.nf,fun i l e=>by
 obtain ⟨v1,v2,a,b,c⟩:=h.row i l e
 show ⟨v1,v2,s _ _ a,b.lh s,c.lh s⟩⟩
theorem Found.up (h:Found K H fA ls F B)(l:B<=B'):Found K H fA ls F B':=⟨h.hf,h.nd,h.nf,fun i x e=>by
 obtain ⟨v1,v2,a,b,c⟩:=h.row i x e
 show ⟨v1,v2,a,b.up l,c.up l⟩⟩
def Found.aH (h:Found K H fA ls F B)(k:KL ls H H'):a9 H H':=fun b xs r=>by
 let key:∀o,H b=some o->(∀ys,o≠.lst ys)->H' b=some o:=fun o e n=>k b o (fun m=>by
  obtain ⟨i,ei⟩:=FZ m;obtain ⟨v1,v2,a,_⟩:=h.row i b ei;rw [a] at e
  exact n _ (GU e).symm) e
 rcases r with r|⟨o',r⟩
 ·exact .inl (key _ r fun ys z=>nomatch z)
 ·exact .inr ⟨o',key _ r fun ys z=>nomatch z⟩
def fM (F:Nat->Rat×Rat)(k:Nat)(a:Int)(d:Rat):Nat->Rat×Rat:=fun i=>if i=k then (if a=0 then ((F i).1+d,(F i).2) else ((F i).1,(F i).2+d)) else F i
def x8 (ha:a=0\/a=1)(hc:c=0\/c=1)(i:Nat):ax c (fM F k a d i)=ax c (F i)+if i=k/\c=a then d else 0:=by
 unfold fM ax;by_cases hi:i=k
 ·subst hi
  rcases ha with rfl|rfl<;>rcases hc with rfl|rfl<;>simp<;>grind
 ·simp [hi]
  grind
inductive GL (K:Frag)(vs:η)(H:Hp)(Q:VK)(E_:XK):Prop
|mk (fA:AF)(ls:χ)(F:Nat->Rat×Rat)(B:Nat)(k:Nat)(a:Int)(v:V)(m:Nat)(d:Rat)(_:vs=[.ref fA,.int (k:Int),.int a,v])(_:Found K H fA ls F B)(_:k<ls.length)(_:(a=0\/a=1))(_:g_ K H v m d)(_:B+m<=130000000)(_:∀(H':Hp),KL ls H H' ->Found K H' fA ls (fM F k a d) (B+m+1)->Q .dc H')
def ac8:av XI XI (ae Mv):=sq
def ac9 (D:Def K mg "_law_add" Mv XI)(jX:ac P w K mg iT 1 "_law_sum" LG (bw K gC)):
  ac P w K mg iT 2 "_law_add" XI (GL K):=by
 refine D.oo ac8 fun H hr h=>?_;obtain ⟨fA,ls,F,B,k,a,v,m,d,rfl,hF,hk,ha,nv,le,q⟩:=h;show ⟨_,(ag (mD (aJ jX hr (aE (bg aI (bg aI (pv 0) (pv 1)) (pv 2)) (pv 3))) (rX (bg aI (pv 0) (pv 1)) (pv 2) set_list))),?_⟩;obtain ⟨l,el⟩:∃l,ls[k]?=some l:=⟨_,gE hk⟩;obtain ⟨v1,v2,hl,n1,n2⟩:=hF.row k l el;let ek:i7 (ls.map V.ref) (k:Int)=some (.ref l):=bq (by rw [Wp,el];rfl);let lm:l∈ls:=DW el;let lf:l≠fA:=fun z=>hF.nf (z▸lm)
 obtain ⟨u,ea,nu⟩:∃u,i7 [v1,v2] a=some u/\g_ K H u B (ax a (F k)):=by
  rcases ha with rfl|rfl
  ·show ⟨v1,rfl,n1⟩
  ·show ⟨v2,rfl,n2⟩
 show ⟨_,rfl,_,rfl,fA,_,_,_,rfl,rfl,aR.of hF.hf,ek,_,rfl,l,_,_,_,rfl,rfl,aR.of hl,ea,_,rfl,?_⟩;dsimp only [gI];show bw K gC [_,_] _ _ E0;refine gi nu nv le fun p3 H3 s3 n3=>?_
 obtain ⟨j,ej,hj⟩:∃j,EE [v1,v2].length a=some j/\((a=0/\j=0)\/(a=1/\j=1)):=by
  rcases ha with rfl|rfl
  ·show ⟨0,rfl,.inl ⟨rfl,rfl⟩⟩
  ·show ⟨1,rfl,.inr ⟨rfl,rfl⟩⟩
 show ⟨_,rfl,_,rfl,fA,_,_,_,rfl,rfl,aR.of (s3 _ _ hF.hf),ek,_,rfl,l,_,_,j,rfl,rfl,s3 _ _ hl,ej,?_⟩;let F3:=hF.lh s3
 let kl:KL ls H (upd H3 l (.lst ([v1,v2].set j (.ref p3)))):=fun b o nb e=>by
  rw [aj (fun z=>nb (by rwa [z]))];exact s3 _ _ e
 let k3:KL ls H3 (upd H3 l (.lst ([v1,v2].set j (.ref p3)))):=fun b o nb e=>by
  rw [aj (fun z=>nb (by rwa [z]))];exact e
 let st:=F3.aH k3;refine q _ kl ⟨?_,hF.nd,hF.nf,fun i l' e=>?_⟩
 ·rw [aj (FT lf)]
  exact F3.hf
 ·by_cases c:i=k
  ·subst c
   erw [el] at e;show ⟨([v1,v2].set j (.ref p3))[0]?.getD .dc,([v1,v2].set j (.ref p3))[1]?.getD .dc,?_,?_,?_⟩
   ·rw [ah]
    rcases hj with ⟨_,rfl⟩|⟨_,rfl⟩<;>rfl
   ·unfold fM
    rw [ox rfl]
    rcases hj with ⟨rfl,rfl⟩|⟨rfl,rfl⟩
    ·exact n3.aH st
    ·exact ((n1.lh s3).aH st).up ce
   ·unfold fM
    rw [ox rfl]
    rcases hj with ⟨rfl,rfl⟩|⟨rfl,rfl⟩
    ·exact ((n2.lh s3).aH st).up ce
    ·exact n3.aH st
  ·obtain ⟨w1,w2,g1,g2,g3⟩:=F3.row i l' e
   let nl:l'≠l:=fun z=>c (dS hF.nd e (z▸el));show ⟨w1,w2,?_,?_,?_⟩
   ·rw [aj nl]
    exact g1
   ·unfold fM
    rw [ni c];exact (g2.aH st).up ce
   ·unfold fM
    rw [ni c];exact (g3.aH st).up ce
def cU {ys:η}:i7 (x::ys) 0=some x:=bq (xs:=x::ys) (j:=0) rfl
structure ZF (K:Frag)(H:Hp)(pA bA:AF)(us vs:η)(pX:ν)(gV:τ):Prop where
 hp:H pA=some (.lst us)
 pp:Paired (jq K H) us pX
 gp:oK pX
 hb:H bA=some (.lst vs)
 pb:Paired (kZ K H pX) vs gV
 en:∀b∈gV,b.one.nm≠b.lj.nm
 lp:pX.length<=9
 lb:gV.length<=26
theorem ZF.lh (h:ZF K H pA bA us vs pX gV)(s:ao H H'):ZF K H' pA bA us vs pX gV:=⟨s _ _ h.hp,Paired.cV h.pp fun _ _ z=>z.lh s,h.gp,s _ _ h.hb,Paired.cV h.pb fun _ _ z=>z.lh s,h.en,h.lp,h.lb⟩
structure LFo (K:Frag)(H:Hp)(tA uA:AF)(kT kU:γ)(pX:ν)(gV:τ)(T:Μ)(U:Δ)(N:Nat):Prop where
 ht:H tA=some (.dK kT)
 pt:∀b∈gV,∃v,bI kT (.inr b.nm)=some v/\g_ K H v N (T b.nm)
 hu:H uA=some (.dK kU)
 pu:∀p∈pX,∃la ys,bI kU (.inr p.nm)=some (.ref la)/\H la=some (.lst ys)/\Paired (fun v r=>g_ K H v N r) ys (U p.nm)
 lU:∀p∈pX,(U p.nm).length=p.ws.length
 hN:N<=1000
def KL.lh (hn:∀l∈ls,H l=none)(s:ao H H6)(k:KL ls H6 H7):ao H H7:=fun b o e=>k b o (fun m=>by erw [hn b m] at e) (s b o e)
def oO (T:Μ)(bs:τ)(a:Int)(p:aA):Rat:=(bs.map fun b=>T b.nm*ax a (mv (cE b) p.nm)).sum
def abt :oO T (bs++[b]) a p=oO T bs a p+T b.nm*ax a (mv (cE b) p.nm):=by
 unfold oO;rw [GV,Xw,DV,LP,GN,Nc];grind
def QE {pX:ν}(nd:(pX.map (·.nm)).Nodup){i j:Nat}(hi:pX[i]?=some p)(hj:pX[j]?=some q)(e:p.nm=q.nm):i=j:=dS nd (x:=q.nm) (by rw [Wp,hi,<-e];rfl) (by rw [Wp,hj];rfl)
def adT {pX:ν}(nd:(pX.map (·.nm)).Nodup)(hb:b.one.nm≠b.lj.nm){i i1 i2:Nat}(hi:pX[i]?=some p)(h1:pX[i1]?=some b.one)(h2:pX[i2]?=some b.lj)(t:Rat)(k:Int):
  (if i=i1 then t*(ax k b.lj.sp-ax k b.one.sp) else 0)+(if i=i2 then -(t*(ax k b.lj.sp-ax k b.one.sp)) else 0)=t*ax k (mv (cE b) p.nm):=by
 let n12:i1≠i2:=fun z=>by rw [z,h2] at h1;exact hb (by rw [GU h1])
 unfold mv cE;by_cases c1:i=i1
 ·subst c1
  erw [h1] at hi;rw [ox rfl,ni n12,ox rfl];show _=t*ax k (jm b.one b.lj);unfold ax jm;split<;>grind
 ·rw [ni c1,ni (fun z=>c1 (QE nd hi h1 z))]
  by_cases c2:i=i2
  ·subst c2
   erw [h2] at hi;rw [ox rfl,ox rfl];show _=t*ax k (jm b.lj b.one);unfold ax jm;split<;>grind
  ·rw [ni c2,ni (fun z=>c2 (QE nd hi h2 z))]
   show (0:Rat)+0=t*ax k (0,0);unfold ax;split<;>grind
inductive uz (K:Frag)(vs:η)(H:Hp)(Q:VK)(E_:XK):Prop
|mk (pA bA tA uA:AF)(us ws:η)(kT kU:γ)(pX:ν)(gV:τ)(T:Μ)(U:Δ)(N:Nat)(_:vs=[.ref pA,.ref bA,.ref tA,.ref uA])(_:ZF K H pA bA us ws pX gV)(_:LFo K H tA uA kT kU pX gV T U N)(_:∀(fA:AF)(ls:χ)(F:Nat->Rat×Rat)(H':Hp),ao H H' ->ls.length=pX.length->Found K H' fA ls F (1+140*(N+57))->(∀(i:Nat)(p:aA),pX[i]?=some p->(F i).1=fQ gV T U p (·.1)/\(F i).2=fQ gV T U p (·.2))->Q (.ref fA) H')
def qL:av ["_law_pins_here","_law_bars_here","_law_pulls","_law_pushes","_law_found","_law_bar","_law_axis","_law_draw","_law_k","_law_j"] SI (ae Mw):=sq
def ac' (D:Def K mg "_law_forces" Mw SI)(a_:mg "len"=none)(aV:mg "range"=none)(qj:ac P w K mg iT 1 "_law_times" LG (bw K i5))(BA:ac P w K mg iT 1 "_law_turned" Qf (ff K))(T8:ac P w K mg iT 2 "_law_arm" Tu (x6 K))(YD:ac P w K mg iT 2 "_law_add" XI (GL K)):
  ac P w K mg iT 3 "_law_forces" SI (uz K):=by
 refine D.oo qL fun H hr h=>?_;obtain ⟨pA,bA,tA,uA,us,ws,kT,kU,pX,gV,T,U,N,rfl,fr,fo,q⟩:=h;let L2:2<=AZ:=dL
 let hN:=fo.hN;let lp:=fr.lp;let lb:=fr.lb;let lu:us.length=pX.length:=GJ fr.pp;let lw:ws.length=gV.length:=GJ fr.pb
 show ⟨_,(aa (kE (i:=4) (tn:=["_law_pin"]) (fr:=[]) (oV:=[]) qL.nd (bh (pv 0)) (b9 (aE (aK (aE af af)) (aK (aE af af))))) (aa (ba FF rfl (bh (pv 1)) (bM 5 qL.nd) (ag (ba FF rfl (bB rfl aV (aZ af)) (bM 6 qL.nd) (aa (aC 7 qL.nd (aJ qj hr (aE (dR (bQ hr) (pv 2) (ay (pv 5)) (fun _ _=>rfl)) (aJ T8 hr (bU (pv 0) (pv 5) (pv 6)))))) (aa (b_ (aJ YD hr (jP (pv 4) (bU (ay (pv 5)) (pv 6) (pv 7))))) (ag (b_ (aJ YD hr (jP (pv 4) (bU (ay (pv 5)) (pv 6) (aJ BA hr (aZ (pv 7))))))))))))) (aa (ba FF rfl (bB rfl aV (aZ (aU aQ rfl a_ cS (aZ (pv 0))))) (bM 8 qL.nd) (ag (ba FF rfl (bB rfl aV (aZ (aU aQ rfl a_ cS (aZ (ay (bg aI (pv 0) (pv 8))))))) (bM 9 qL.nd) (ag (ba FF rfl (bB rfl aV (aZ af)) (bM 6 qL.nd) (ag (b_ (aJ YD hr (jP (pv 4) (bU (pv 8) (pv 6) (aJ qj hr (aE (bg aI (dR (bQ hr) (pv 3) (ay (bg aI (pv 0) (pv 8))) (fun _ _=>rfl)) (pv 9)) (bg pH (bg aI (ay (bg aI (pv 0) (pv 8))) (pv 9)) (pv 6)))))))))))))) (ag (aF (pv 4)))))),?_⟩;sleep 3
 show ⟨_,rfl,pA,rfl,⟨_,aR.of fr.hp⟩,fun fA n1=>?_⟩;refine tI (ph:=[]) (K:=K) (a:=pA) (xs:=us) (fun ys H'=>∃ls:List AF,ys=ls.map V.ref/\ls.Nodup/\fA∉ls/\∀l∈ls,H l=none/\∃p q:AF,H' l=some (.lst [.ref p,.ref q])/\H' p=some (.tup [.int 0,.int 1])/\H' q=some (.tup [.int 0,.int 1])) n1 (by rw [lu];exact FX (show pX.length<=100 by omega) dL) (fun H2 s2=>aR.of (s2 _ _ fr.hp)) ⟨[],rfl,ai9,by simp,fun l h=>by cases h⟩ ?_ ?_
 ·intro i x ys H2 R hx ly hJ s2 hD k
  obtain ⟨ls,rfl,nd,nf,hl⟩:=hJ;show ⟨L2,?_⟩;intros p3 n3 H3 s3 e3;show ⟨L2,?_⟩;intros p4 n4 H4 s4 e4;show ⟨L2,?_⟩;intros l5 n5 H5 s5 e5;let DP:=s3.trans (s4.trans s5);let D5:=DP _ _ hD;let D4:=s4 _ _ (s3 _ _ hD);refine k _ _ DP ⟨ls++[l5],by simp,?_,?_,fun l hm=>?_⟩
  ·rw [ajE]
   show ⟨nd,by simp,fun a ha b hb z=>?_⟩;have fZ :b=l5:=by simpa using hb
   obtain ⟨_,p,q,h1,_⟩:=hl a ha;rw [z,fZ] at h1;erw [s4 _ _ (s3 _ _ h1)] at n5
  ·intro z
   rcases FR.mp z with z|z
   ·exact nf z
   ·rw [<-GQ.mp z,D4] at n5
    cases n5
  ·rcases FR.mp hm with z|z
   ·obtain ⟨h0,p,q,h1,h2,h3⟩:=hl l z
    show ⟨h0,p,q,?_,?_,?_⟩
    ·rw [aj (fun e:l=fA=>nf (by rwa [<-e]))]
     exact DP _ _ h1
    ·rw [aj (fun e=>by erw [e,hD] at h2)]
     exact DP _ _ h2
    ·rw [aj (fun e=>by erw [e,hD] at h3)]
     exact DP _ _ h3
   ·let z:=GQ.mp z
    subst z;show ⟨(s2.trans (s3.trans s4)).free n5,p3,p4,?_,?_,?_⟩
    ·rw [aj (fun e=>by erw [e,D4] at n5)]
     exact e5
    ·rw [aj (fun e=>by erw [e,hD] at n3)]
     exact s5 _ _ (s4 _ _ e3)
    ·rw [aj (fun e=>by erw [e,s3 _ _ hD] at n4)]
     exact s5 _ _ e4
 intro ys H2 ly hJ s2 hD;obtain ⟨ls,rfl,nd,nf,hl⟩:=hJ;let hn:∀l∈ls,H l=none:=fun l m=>(hl l m).1;let ll:ls.length=pX.length:=by rw [<-lu,<-ly,ir]
 let z0:∀(p:AF)(H':Hp),H' p=some (.tup [.int 0,.int 1])->g_ K H' (.ref p) 1 0:=fun p H' e=>⟨(0,1),⟨p,rfl,bE.of e⟩,dL,by decide+kernel,dL,dL⟩
 let F0:Found K H2 fA ls (fun _=>(0,0)) (1+0*(4*(N+57))):=⟨hD,nd,nf,fun i l e=>by
  obtain ⟨_,p,q,h1,h2,h3⟩:=hl l (DW e);rw [Ue]
  show ⟨_,_,h1,z0 p _ h2,z0 q _ h3⟩⟩
 show ⟨_,rfl,bA,rfl,⟨_,aR.of (s2 _ _ fr.hb)⟩,let I:bn:=fun t Y H'=>LX fun (F:Nat->Rat×Rat) (o5 o6 o7:ψ)=>Y=[ap pA,ap bA,ap tA,ap uA,ap fA,o5,o6,o7,none,none]/\ao H H'/\Found K H' fA ls F (1+t*(4*(N+57)))/\∀(i:Nat)(p:aA),pX[i]?=some p->∀a:Int,(a=0\/a=1)->ax a (F i)=oO T (gV.take t) a p;bP (K:=K) (a:=bA) (xs:=ws) I ⟨_,none,none,none,rfl,s2,F0,fun i p _ a _=>?_⟩ (fun t Y H' _ h=>by
   obtain ⟨_,_,_,_,_,s',_⟩:=h
   exact aR.of (s' _ _ fr.hb)) ?_ ?_⟩
 ·show ax a (0,0)=0
  unfold ax;split<;>rfl
 ·rintro t bv Y H3 hbv ⟨F,o5,o6,o7,rfl,s3,F3,hF⟩
  let htw:t<ws.length:=(be.mp hbv).1;obtain ⟨b,eb,vq⟩:=aG fr.pb hbv;let mb:b∈gV:=DW eb;obtain ⟨tv,etv,htv⟩:=fo.pt b mb;let bt:t*(4*(N+57))<=25*(4*(N+57)):=Lu _ ce;generalize hB:1+t*(4*(N+57))=B at F3;show ⟨(2:Int),rfl,dL,dL,let I:bn:=fun k Y H'=>JS fun (F:Nat->Rat×Rat) (o6 o7:ψ)=>Y=[ap pA,ap bA,ap tA,ap uA,ap fA,some bv,o6,o7,none,none]/\ao H H'/\Found K H' fA ls F (B+k*(2*(N+57)))/\∀(i:Nat)(p:aA),pX[i]?=some p->∀a:Int,(a=0\/a=1)->ax a (F i)=oO T (gV.take t) a p+if a<(k:Int) then T b.nm*ax a (mv (cE b) p.nm) else 0;cL (lo:=0) (n:=2) I ⟨F,o6,o7,rfl,s3,by rwa [Ue],fun i p e a ha=>?_⟩ ?_ ?_⟩
  ·rw [hF i p e a ha,ni (by rcases ha with rfl|rfl<;>decide)]
   grind
  ·rintro k Y H4 hk ⟨F,o6,o7,rfl,s4,F4,hF⟩
   let ek:(0:Int)+(k:Int)=(k:Int):=Lh _;rw [ek];let Tp:(k:Int)=0\/(k:Int)=1:=ce
   let Wj:=fr.lh s4;let bk:k*(2*(N+57))<=1*(2*(N+57)):=Lu _ ce;obtain ⟨ta,i1,i2,eta,Rw,e1,e2⟩:=vq.lh s4;let zv:i1<ls.length:=by rw [ll];exact (be.mp e1).1
   let Xq:i2<ls.length:=by rw [ll];exact (be.mp e2).1
   let dgt:cW H4 tA (.str b.nm) (some tv):=by
    have:=cW.k (k:=.inr b.nm) (s4 _ _ fo.ht);rwa [etv] at this
   subst eta;show ⟨_,rfl,_,rfl,ta,_,_,_,rfl,rfl,Rw,cU,tA,tv,rfl,dgt,_,rfl,_,rfl,_,rfl,pA,us,pX,_,b,(k:Int),rfl,Wj.hp,Wj.pp,fr.gp,vq.lh s4,Tp,fun v5 H5 s5 n5=>?_⟩;dsimp only [gI];show bw K i5 [_,_] _ _ E0;refine gT ((htv.lh s4).lh s5) n5 ce fun p6 H6 s6 n6=>?_;let s06:=s4.trans (s5.trans s6);let F6:=F4.lh (s5.trans s6);show ⟨_,rfl,_,rfl,ta,_,_,_,rfl,rfl,Ty.ao.bZ (s5.trans s6) Rw,rfl,_,rfl,_,rfl,fA,ls,F,_,i1,(k:Int),_,_,_,rfl,F6,zv,Tp,n6,ce,fun H7 k7 F7=>?_⟩;let Yo:=KL.lh hn s06 k7;let n7:=n6.aH (F6.aH k7);show ⟨_,rfl,_,rfl,ta,_,_,_,rfl,rfl,(F6.aH k7).bZ (Ty.ao.bZ (s5.trans s6) Rw),rfl,_,rfl,_,rfl,?_⟩;dsimp only [gI];show ff K [_] _ _ E0;refine kX n7 fun p8 H8 s8 n8=>?_;let F8:=F7.lh s8;show ⟨fA,ls,_,_,i2,(k:Int),_,_,_,rfl,F8,Xq,Tp,n8,ce,fun H9 k9 F9=>?_⟩;let Yp:=KL.lh hn (Yo.trans s8) k9;show ⟨_,_,_,rfl,Yp,F9.up (by rw [OP];omega),fun i p e a ha=>?_⟩;rw [x8 Tp ha,x8 Tp ha,hF i p e a ha];let bp:=adT fr.gp.np (fr.en b mb) e e1 e2 (T b.nm) (k:Int);by_cases ca:a=(k:Int)
   ·subst ca
    rw [ni (c:=(k:Int)<(k:Int)) ce,ox (c:=(k:Int)<((k+1:Nat):Int)) ce,<-bp];simp only [and_true];grind
   ·let c1:¬ (i=i1/\a=(k:Int)):=fun z=>ca z.2
    let c2:¬ (i=i2/\a=(k:Int)):=fun z=>ca z.2;rw [ni c1,ni c2];by_cases cl:a<(k:Int)
    ·rw [ox cl,ox (c:=a<((k+1:Nat):Int)) ce]
     grind
    ·rw [ni cl,ni (c:=a<((k+1:Nat):Int)) ce]
     grind
  ·rintro Y H4 ⟨F,o6,o7,rfl,s4,F4,hF⟩
   show ⟨F,_,_,_,rfl,s4,F4.up (by rw [OP,<-hB];omega),fun i p e a ha=>?_⟩;rw [take_snoc eb,abt,hF i p e a ha,ox (by rcases ha with rfl|rfl<;>decide)]
 ·rintro Y H3 ⟨F,o5,o6,o7,rfl,s3,F3,hF⟩
  rw [lw] at F3;rw [lw,Lq] at hF;let bl:gV.length*(4*(N+57))<=26*(4*(N+57)):=Lu _ ce;generalize hB:1+gV.length*(4*(N+57))=B at F3;let en2:((us.length:Nat):Int).toNat=us.length:=ce
  show ⟨_,rfl,pA,_,rfl,.inl (aR.of (s3 _ _ fr.hp)),((us.length:Nat):Int),rfl,ce,ce,let I:bn:=fun k Y H'=>Ex6 fun (F:Nat->Rat×Rat) (o5 o6 o7 o8 o9:ψ)=>Y=[ap pA,ap bA,ap tA,ap uA,ap fA,o5,o6,o7,o8,o9]/\ao H H'/\Found K H' fA ls F (B+k*(4*(N+57)))/\∀(i:Nat)(p:aA),pX[i]?=some p->∀a:Int,(a=0\/a=1)->ax a (F i)=oO T gV a p+if i<k then sP (U p.nm) (p.ws.map (ax a)) else 0;cL (lo:=0) (n:=((us.length:Nat):Int).toNat) I ⟨F,o5,o6,o7,none,none,rfl,s3,by rwa [Ue],fun i p e a ha=>?_⟩ ?_ ?_⟩
  ·rw [hF i p e a ha,ni ce]
   grind
  ·rintro k Y H4 hk ⟨F,o5,o6,o7,o8,o9,rfl,s4,F4,hF⟩
   let ek:(0:Int)+(k:Int)=(k:Int):=Lh _;rw [ek];let hku:k<us.length:=ce
   obtain ⟨p,ep,T7⟩:=aG fr.pp (gE hku);let mp:p∈pX:=DW ep;obtain ⟨la,ys,exv,hla,py⟩:=fo.pu p mp;let lup:=fo.lU p mp;let lwp:=(fr.gp.ws p mp).len;let ly:ys.length=(U p.nm).length:=GJ py;let aku:i7 us (k:Int)=some us[k]:=bq (gE hku);obtain ⟨pa,l,sv,oF,epa,h1,h2,h3,h4⟩:=T7;rw [epa] at aku;let lv:oF.length=p.ws.length:=GJ h4;let kp:k<pX.length:=ce
   let bk:k*(4*(N+57))<=8*(4*(N+57)):=Lu _ ce;generalize hB2:B+k*(4*(N+57))=B2 at F4;let en3:((oF.length:Nat):Int).toNat=oF.length:=ce
   show ⟨_,rfl,_,rfl,pA,_,_,_,rfl,rfl,aR.of (s4 _ _ fr.hp),aku,pa,_,_,_,rfl,rfl,Ty.ao.bZ s4 h1,rfl,l,_,rfl,.inl (aR.of (s4 _ _ h3)),((oF.length:Nat):Int),rfl,ce,ce,let I:bn:=fun j Y H'=>JS fun (F:Nat->Rat×Rat) (o6 o9:ψ)=>Y=[ap pA,ap bA,ap tA,ap uA,ap fA,o5,o6,o7,some (.int (k:Int)),o9]/\ao H H'/\Found K H' fA ls F (B2+j*(2*(N+57)))/\∀(i:Nat)(p:aA),pX[i]?=some p->∀a:Int,(a=0\/a=1)->ax a (F i)=oO T gV a p+if i<k then sP (U p.nm) (p.ws.map (ax a)) else if i=k then sP ((U p.nm).take j) ((p.ws.take j).map (ax a)) else 0;cL (lo:=0) (n:=((oF.length:Nat):Int).toNat) I ⟨F,o6,o9,rfl,s4,by rwa [Ue],fun i p e a ha=>?_⟩ ?_ ?_⟩
   ·rw [hF i p e a ha,akl,gc]
    split<;>simp
   ·rintro j Y H5 hj ⟨F,o6,o9,rfl,s5,F5,hF⟩
    let ek:(0:Int)+(j:Int)=(j:Int):=Lh _;rw [ek];let hj1:j<oF.length:=ce
    let hj2:j<ys.length:=ce
    obtain ⟨x,ex,hx⟩:=aG py (gE hj2);obtain ⟨wq,ewq,hwq⟩:=aG h4 (gE hj1);let zw:=(fr.gp.ws p mp).sz wq (DW ewq);let axj:i7 ys (j:Int)=some ys[j]:=bq (gE hj2);let awj:i7 oF (j:Int)=some oF[j]:=bq (gE hj1);let bj:j*(2*(N+57))<=1*(2*(N+57)):=Lu _ ce;generalize hB3:B2+j*(2*(N+57))=B3 at F5;show ⟨(2:Int),rfl,dL,dL,let I:bn:=fun c Y H'=>NK fun (F:Nat->Rat×Rat) (o6:ψ)=>Y=[ap pA,ap bA,ap tA,ap uA,ap fA,o5,o6,o7,some (.int (k:Int)),some (.int (j:Int))]/\ao H H'/\Found K H' fA ls F (B3+c*(N+57))/\∀(i:Nat)(p:aA),pX[i]?=some p->∀a:Int,(a=0\/a=1)->ax a (F i)=(oO T gV a p+if i<k then sP (U p.nm) (p.ws.map (ax a)) else if i=k then sP ((U p.nm).take j) ((p.ws.take j).map (ax a)) else 0)+if i=k/\a<(c:Int) then x*ax a wq else 0;cL (lo:=0) (n:=2) I ⟨F,o6,rfl,s5,by rwa [Ue],fun i p e a ha=>?_⟩ ?_ ?_⟩
    ·rw [hF i p e a ha,ni (c:=i=k/\a<((0:Nat):Int)) (fun z=>by rcases ha with rfl|rfl<;>exact DZ z.2 dL)]
     grind
    ·rintro c Y H6 hc ⟨F,o6,rfl,s6,F6,hF⟩
     let ek:(0:Int)+(c:Int)=(c:Int):=Lh _;rw [ek];let hc2:(c:Int)=0\/(c:Int)=1:=ce
     let bc:c*(N+57)<=1*(N+57):=Lu _ ce;obtain ⟨wa,zs,u,ewa,IZ,awc,nwc⟩:=BB hc2 (hwq.lh s6);rw [ewa] at awj
     let dgu:cW H6 uA (.str p.nm) (some (.ref la)):=by
      have:=cW.k (k:=.inr p.nm) (s6 _ _ fo.hu);rwa [exv] at this
     show ⟨_,rfl,_,rfl,_,rfl,_,rfl,_,rfl,_,rfl,pA,_,_,_,rfl,rfl,aR.of (s6 _ _ fr.hp),aku,pa,_,_,_,rfl,rfl,Ty.ao.bZ s6 h1,cU,uA,_,rfl,dgu,_,rfl,la,_,_,_,rfl,rfl,aR.of (s6 _ _ hla),axj,_,rfl,_,rfl,pA,_,_,_,rfl,rfl,aR.of (s6 _ _ fr.hp),aku,pa,_,_,_,rfl,rfl,Ty.ao.bZ s6 h1,rfl,_,rfl,l,_,_,_,rfl,rfl,aR.of (s6 _ _ h3),awj,_,rfl,wa,_,_,_,rfl,rfl,IZ,awc,?_⟩;dsimp only [gI];show bw K i5 [_,_] _ _ E0;refine gT (hx.lh s6) (cv nwc (eR (QD zw) (D' _))) ce fun p7 H7 s7 n7=>?_;show ⟨fA,ls,F,_,k,(c:Int),_,_,_,rfl,F6.lh s7,ce,hc2,n7,ce,fun H8 k8 F8=>?_⟩;show ⟨_,_,rfl,KL.lh hn (s6.trans s7) k8,F8.up (by rw [OP];omega),fun i p' e a ha=>?_⟩;rw [x8 hc2 ha,hF i p' e a ha];by_cases ci:i=k
     ·by_cases ca:a=(c:Int)
      ·subst ca
       rw [ni (c:=i=k/\(c:Int)<(c:Int)) (fun z=>ce),ox (c:=i=k/\(c:Int)=(c:Int)) ⟨ci,rfl⟩,ox (c:=i=k/\(c:Int)<((c+1:Nat):Int)) ⟨ci,ce⟩];grind
      ·rw [ni (c:=i=k/\a=(c:Int)) (fun z=>ca z.2)]
       by_cases cl:a<(c:Int)
       ·rw [ox (c:=i=k/\a<(c:Int)) ⟨ci,cl⟩,ox (c:=i=k/\a<((c+1:Nat):Int)) ⟨ci,ce⟩]
        grind
       ·rw [ni (c:=i=k/\a<(c:Int)) (fun z=>cl z.2),ni (c:=i=k/\a<((c+1:Nat):Int)) (fun z=>by have:=z.2;omega)]
        grind
     ·rw [ni (c:=i=k/\a<(c:Int)) (fun z=>ci z.1),ni (c:=i=k/\a=(c:Int)) (fun z=>ci z.1),ni (c:=i=k/\a<((c+1:Nat):Int)) (fun z=>ci z.1)]
      grind
    ·rintro Y H6 ⟨F,o6,rfl,s6,F6,hF⟩
     show ⟨F,_,_,rfl,s6,F6.up (by rw [OP,<-hB3];omega),fun i p' e a ha=>?_⟩;rw [hF i p' e a ha];by_cases ci:i=k
     ·subst ci
      erw [ep] at e;rw [ni (Pm _),ox rfl,ni (Pm _),ox rfl,ox (c:=i=i/\a<((2:Nat):Int)) ⟨rfl,by rcases ha with rfl|rfl<;>decide⟩];rw [take_snoc ex,take_snoc ewq,GV,gf _ _ (by rw [ir,FU,FU];omega),DV,LP,cB,gc];grind
     ·rw [ni (c:=i=k/\a<((2:Nat):Int)) (fun z=>ci z.1),ni ci,ni ci]
      grind
   ·rintro Y H5 ⟨F,o6,o9,rfl,s5,F5,hF⟩
    rw [en3] at F5 hF
    show ⟨F,_,_,_,_,_,rfl,s5,F5.up (by
     have:oF.length*(2*(N+57))<=2*(2*(N+57)):=Lu _ ce;rw [OP,<-hB2]
     omega),fun i p' e a ha=>?_⟩
    rw [hF i p' e a ha];by_cases ci:i=k
    ·subst ci
     erw [ep] at e;rw [ni (Pm _),ox rfl,ox (Of _),PZ ce,PZ ce]
    ·rw [ni ci]
     by_cases cl:i<k
     ·rw [ox cl,ox ce]
     ·rw [ni cl,ni ce]
  ·rintro Y H4 ⟨F,o5,o6,o7,o8,o9,rfl,s4,F4,hF⟩
   rw [en2,lu] at F4 hF;let bp:pX.length*(4*(N+57))<=9*(4*(N+57)):=Lu _ ce;show ⟨_,rfl,q fA ls F H4 s4 ll (F4.up ce) fun i p e=>?_⟩;let hi:=(be.mp e).1;let a0:=hF i p e 0 (.inl rfl);let a1:=hF i p e 1 (.inr rfl);rw [ox hi] at a0 a1;unfold fQ;unfold oO at a0 a1;let e0:ax 0=fun p:Rat×Rat=>p.1:=rfl;let e1:ax 1=fun p:Rat×Rat=>p.2:=rfl;rw [e0] at a0;rw [e1] at a1;show ⟨a0.trans (Rat.add_comm _ _),a1.trans (Rat.add_comm _ _)⟩
structure Rx (K:Frag)(H:Hp)(pX:ν)(d:AF)(kM:γ)(M:υ)(N:Nat):Prop where
 hM:H d=some (.dK kM)
 keys:kM.map (·.1)=pX.map (fun p=>(EX p.nm:Key))
 tM:∀p∈pX,∃t v1 v2,bI kM (.inr p.nm)=some (.ref t)/\H t=some (.tup [v1,v2])/\dh K H v1 (M p.nm).1/\dh K H v2 (M p.nm).2
 zb:∀p∈pX,Zb N (M p.nm).1/\Zb N (M p.nm).2
 hN:N<=6000000
theorem Rx.lh (h:Rx K H pX d kM M N)(s:ao H H'):Rx K H' pX d kM M N:=⟨s _ _ h.hM,h.keys,fun p hp=>by
 obtain ⟨t,v1,v2,a,b,c,d⟩:=h.tM p hp
 show ⟨t,v1,v2,a,s _ _ b,c.lh s,d.lh s⟩,h.zb,h.hN⟩
def Rx.get (h:Rx K H pX d kM M N)(hp:p∈pX):∃t v1 v2,cW H d (.str p.nm) (some (.ref t))/\H t=some (.tup [v1,v2])/\dh K H v1 (M p.nm).1/\dh K H v2 (M p.nm).2:=by
 obtain ⟨t,v1,v2,a,b,c,d⟩:=h.tM p hp;show ⟨t,v1,v2,?_,b,c,d⟩;have:=cW.k (k:=.inr p.nm) h.hM;rwa [a] at this
def Wk (h:Zb n p.1/\Zb n p.2):Zb n (ax k p):=by
 unfold ax;split
 ·exact h.1
 ·exact h.2
inductive uB (K:Frag)(vs:η)(H:Hp)(Q:VK)(E_:XK):Prop
|mk (pA dM:AF)(us:η)(pX:ν)(u:V)(b:aL)(kM:γ)(M:υ)(N:Nat)(_:vs=[.ref pA,u,.ref dM])(_:H pA=some (.lst us))(_:Paired (jq K H) us pX)(_:oK pX)(_:kZ K H pX u b)(_:Rx K H pX dM kM M N)(_:∀(v:V)(H':Hp),ao H H' ->g_ K H' v (4*N+200) (dZ M b)->Q v H')
def KP:av ["_law_pins_here","_law_bar","_law_motion","_law_here","_law_there","_law_more"] rg (ae MG):=sq
def ada (D:Def K mg "_law_longer" MG rg)(aV:mg "range"=none)(jX:ac P w K mg iT 1 "_law_sum" LG (bw K gC))(BA:ac P w K mg iT 1 "_law_turned" Qf (ff K))(T8:ac P w K mg iT 2 "_law_arm" Tu (x6 K))(QG:ac P w K mg iT 2 "_law_dot" LG (uw K)):
  ac P w K mg iT 3 "_law_longer" rg (uB K):=by
 refine D.oo KP fun H hr h=>?_;obtain ⟨pA,dM,us,pX,u,b,kM,M,N,rfl,hp,pp,gp,vq,mo,q⟩:=h;let hN:=mo.hN;let L2:2<=AZ:=dL
 show ⟨_,(aa (aC 3 KP.nd (dR (bQ hr) (pv 2) (ay (bg aI (pv 0) (ay (pv 1)))) (fun _ _=>rfl))) (aa (aC 4 KP.nd (dR (bQ hr) (pv 2) (ay (bg aI (pv 0) (ay (pv 1)))) (fun _ _=>rfl))) (aa (kE (i:=5) (tn:=["_law_axis"]) (fr:=["_law_there","_law_here"]) (oV:=[4,3]) KP.nd (bB rfl aV (aZ af)) (tK jX hr (aE (bg (dQ (K:=K) rfl) (pv 1) (pv 0)) (tK BA hr (aZ (bg (dQ (K:=K) rfl) (pv 2) (pv 0))))))) (ag (aF (aJ QG hr (aE (b9 (aE (aJ T8 hr (bU (pv 0) (pv 1) af)) (aJ T8 hr (bU (pv 0) (pv 1) af)))) (pv 5)))))))),?_⟩;sleep 3
 obtain ⟨ta,i,j,rfl,hb,e1,e2⟩:=id vq;obtain ⟨c1,l1,sv1,T4,q1,_⟩:=x5 pp e1;obtain ⟨c2,l2,sv2,T5,q2,_⟩:=x5 pp e2;obtain ⟨t1,y1,y1',dg1,et1,m11,m12⟩:=mo.get (DW e1);obtain ⟨t2,y2,y2',dg2,et2,m21,m22⟩:=mo.get (DW e2);let hw1:i8 K H (.ref t1) (M b.one.nm):=⟨t1,y1,y1',rfl,bE.of et1,m11,m12⟩;let hw2:i8 K H (.ref t2) (M b.lj.nm):=⟨t2,y2,y2',rfl,bE.of et2,m21,m22⟩;let lp:=aR.of (K:=K) hp;show ⟨_,rfl,_,rfl,_,rfl,ta,_,_,_,rfl,rfl,hb,rfl,pA,_,_,_,rfl,rfl,lp,T4,c1,_,_,_,rfl,rfl,q1,rfl,dM,_,rfl,dg1,_,rfl,_,rfl,_,rfl,ta,_,_,_,rfl,rfl,hb,rfl,pA,_,_,_,rfl,rfl,lp,T5,c2,_,_,_,rfl,rfl,q2,rfl,dM,_,rfl,dg2,?_⟩;let z1:=mo.zb _ (DW e1);let z2:=mo.zb _ (DW e2);show ⟨(2:Int),rfl,dL,dL,fun D1 n1=>?_⟩
 refine ik (lo:=0) (n:=2) (ph:=[some (.ref t2),some (.ref t1)]) (fun k v H=>g_ K H v (N+N+1) (ax (k:Int) (M b.lj.nm)-ax (k:Int) (M b.one.nm))) n1 dL (fun _ _ _ _ _ h0 ks h=>by
   refine g_.aH h fun b xs r=>?_
   rcases r with r|⟨o',r⟩
   ·exact .inl (ks _ _ (fun e=>by erw [e,h0] at r) r)
   ·exact .inr ⟨o',ks _ _ (fun e=>by erw [e,h0] at r) r⟩) ?_ ?_
 ·intro k H3 R hk s3 kk
  let ek:(0:Int)+(k:Int)=(k:Int):=Lh _;rw [ek];let Tp:(k:Int)=0\/(k:Int)=1:=ce
  obtain ⟨a1,xs1,u1,T4,t1,v1,m1⟩:=BB Tp (hw1.lh s3);obtain ⟨a2,xs2,u2,T5,t2,v2,m2⟩:=BB Tp (hw2.lh s3);cases T4;cases T5;show ⟨_,rfl,_,rfl,_,_,_,_,rfl,rfl,t2,v2,_,rfl,_,rfl,_,_,_,_,rfl,rfl,t1,v1,?_⟩;dsimp only [gI];show ff K [_] _ _ E0;refine kX (cv m1 (Wk z1)) fun p4 H4 s4 n4=>?_;show bw K gC [_,_] _ _ E0;refine gi ((cv m2 (Wk z2)).lh s4) n4 ce fun p5 H5 s5 n5=>?_;refine kk _ _ (s4.trans s5) ?_;rwa [ajs]
 intro ys H3 ly hy s3 hD
 obtain ⟨y1,y2,rfl⟩:∃y1 y2,ys=[y1,y2]:=by
  cases ys with
  | nil=>cases ly
  | cons a l=>
   obtain ⟨b,rfl⟩:=ID.mp (Nat.succ.inj ly);show ⟨a,b,rfl⟩
 let k1:=hy 0 y1 rfl;let k2:=hy 1 y2 rfl;show ⟨_,rfl,_,rfl,pA,us,pX,_,b,0,rfl,s3 _ _ hp,Paired.cV pp fun _ _ z=>z.lh s3,gp,vq.lh s3,.inl rfl,fun v4 H4 s4 n4=>?_⟩;let uC:=s3.trans s4;show ⟨_,rfl,_,rfl,pA,us,pX,_,b,1,rfl,uC _ _ hp,Paired.cV pp fun _ _ z=>z.lh uC,gp,vq.lh uC,.inr rfl,fun v5 H5 s5 n5=>⟨L2,?_⟩⟩;intros l6 m6 H6 s6 e6;let Nh:=s4.trans (s5.trans s6);show ⟨_,rfl,l6,D1,_,_,_,_,_,_,_,_,55,N+N+1,rfl,.inl (aR.of e6),.inl (aR.of (Nh _ _ hD)),(n4.lh (s5.trans s6)),n5.lh s6,k1.lh Nh,k2.lh Nh,ce,fun v H7 s7 n7=>?_⟩;exact q v H7 (s3.trans (Nh.trans s7)) (n7.up ce)
inductive x9 (K:Frag)(vs:η)(H:Hp)(Q:VK)(E_:XK):Prop
|mk (pA dM:AF)(us:η)(pX:ν)(kM:γ)(M:υ)(N:Nat)(_:vs=[.ref pA,.ref dM])(_:H pA=some (.lst us))(_:Paired (jq K H) us pX)(_:oK pX)(_:Rx K H pX dM kM M N)(_:(∀p∈pX,∀w∈p.ws,dt w (M p.nm)=0))(_:∀(H':Hp),ao H H' ->Q (.bl true) H')
def BC:av ["_law_pins_here","_law_motion","_law_name_here","_law_spot","_law_ways","_law_way"] SH (ae MI):=sq
def adb (D:Def K mg "_law_keeps" MI SH)(QG:ac P w K mg iT 2 "_law_dot" LG (uw K)):
  ac P w K mg iT 3 "_law_keeps" SH (x9 K):=by
 refine D.op BC fun f cF A mB s H vs Q E hr h=>?_;obtain ⟨pA,dM,us,pX,kM,M,N,rfl,hp,pp,gp,mo,ke,q⟩:=h;let hN:=mo.hN
 show ⟨_,(aa (ba FF rfl (bh (pv 0)) (fL rfl (aY (bM 2 BC.nd) (aY (bM 3 BC.nd) (aY (bM 4 BC.nd) df)))) (ag (ba FF rfl (bh (pv 4)) (bM 5 BC.nd) (ag (bF (bO nE (ay (aJ QG hr (aE (pv 5) (dR (bQ hr) (pv 1) (pv 2) (fun _ _=>rfl))))) af) (ag (aF mf)) aX))))) (ag (aF mf))),?_⟩
 show ⟨_,rfl,pA,rfl,⟨_,aR.of hp⟩,let I:bn:=fun i Y H'=>LX fun (o2 o3 o4 o5:ψ)=>Y=[ap pA,ap dM,o2,o3,o4,o5]/\ao H H';bP (K:=K) (a:=pA) (xs:=us) I ⟨none,none,none,none,rfl,ao.refl _⟩ (fun i Y H' _ h=>by
   obtain ⟨_,_,_,_,_,s⟩:=h
   exact aR.of (s _ _ hp)) ?_ ?_⟩
 ·rintro i u Y H4 hu ⟨o2,o3,o4,o5,rfl,s4⟩
  obtain ⟨p,ep,T7⟩:=aG pp hu;let mp:p∈pX:=DW ep;obtain ⟨ta,l,sv,ws,rfl,h1,h2,h3,h4⟩:=T7.lh s4;show ⟨ta,_,rfl,h1,rfl,_,_,rfl,_,_,rfl,_,_,rfl,rfl,?_⟩
  show ⟨_,rfl,l,rfl,⟨_,aR.of h3⟩,let I:bn:=fun j Y H'=>∃(o5:ψ),Y=[ap pA,ap dM,some (.str p.nm),some sv,ap l,o5]/\ao H4 H';bP (K:=K) (a:=l) (xs:=ws) I ⟨o5,rfl,ao.refl _⟩ (fun j Y H' _ h=>by
     obtain ⟨_,_,s⟩:=h
     exact aR.of (s _ _ h3)) ?_ ?_⟩
  ·rintro j wv Y H5 hwv ⟨o5,rfl,s5⟩
   obtain ⟨wq,ewq,hwq⟩:=aG h4 hwv;let mw:wq∈p.ws:=DW ewq;let zw:=(gp.ws p mp).sz wq mw;obtain ⟨wa,y1,y2,rfl,IZ,b1,b2⟩:=hwq.lh s5;let FI:=s4.trans s5;obtain ⟨t,v1,v2,dg,et,m1,m2⟩:=(mo.lh FI).get mp;let zp:=mo.zb p mp;show ⟨_,rfl,_,rfl,_,rfl,dM,_,rfl,dg,?_⟩;dsimp only [gI];show ⟨wa,t,y1,y2,v1,v2,_,_,_,_,22,N,rfl,.inr IZ,.inr (bE.of et),cv b1 (eR zw.1 (D' _)),cv b2 (eR zw.2 (D' _)),cv m1 zp.1,cv m2 zp.2,ce,fun v H6 s6 n6=>?_⟩;obtain ⟨x,⟨p6,rfl,k1⟩,k2,k3,k4⟩:=n6;show ⟨p6,_,_,_,rfl,rfl,k1,iF,rfl,_,rfl,?_⟩;let e0:x.1=0:=(agp k2).mpr (by rw [k3];exact ke p mp wq mw);rw [e0];refine bG (fun c=>by simp at c) (fun _=>?_);show ⟨_,rfl,s5.trans s6⟩
  ·rintro Y H5 ⟨o5,rfl,s5⟩
   show ⟨_,_,_,_,rfl,s4.trans s5⟩
 ·rintro Y H4 ⟨o2,o3,o4,o5,rfl,s4⟩
  exact q H4 s4
def aj5:Om K (.type "int") (.type "int")=some true:=by unfold Om;rw [ox dL]
def aj6:Om K (.type "int") (.type "bool")=some false:=adV ⟨dL,fun _=>⟨by decide+kernel,by decide+kernel⟩⟩
def aej (x:Int×Int):cO [.v (.int x.1),.v (.int x.2)] [.v (.int x.1),.v (.int x.2)]=true:=by
 simp [cO,iH,nK]
inductive oP (K:Frag)(vs:η)(H:Hp)(Q:VK)(E_:XK):Prop
|mk (u:V)(r:Rat)(_:vs=[u])(_:dh K H u r)(_:∀H',ao H H' ->Q (.bl true) H')
def Wm:av ["_law_x","_law_part"] XJ (ae MD):=sq
def ade (D:Def K mg "_law_number" MD XJ)(a_:mg "len"=none)(bN:mg "isinstance"=none)(oQ:mg "int"=none)(GO:mg "bool"=none)(gU:mg "tuple"=none)
  (xW:ac P w K mg iT 33 "_law_lowest" TH dO):ac P w K mg iT 34 "_law_number" XJ (oP K):=by
 refine D.oo Wm fun H hr h=>?_;obtain ⟨_,r,rfl,⟨p1,rfl,h1⟩,q⟩:=h;let hp:=cX r;let hg:=tD r;generalize qr r=x at h1 hp hg
 show ⟨_,(aa (bF (PW.pt (j0 (iU (fg (aU zaa rfl bN d6 (aE (pv 0) (vV rfl gU xc))))) (jZ (bO nE (aU aQ rfl a_ cS (aZ (pv 0))) af)))) (ag (aF mf)) aX) (aa (ba FF rfl (Oe (pv 0)) (bM 1 Wm.nd) (ag (bF (PW.pt (j0 (iU (fg (aU km rfl bN d6 (aE (pv 1) (vV rfl oQ OG))))) (jZ (fg (aU km rfl bN d6 (aE (pv 1) (vV rfl GO zaK))))))) (ag (aF mf)) aX))) (ag (aF (N' (jw IG (ay (pv 0)) af (j9 _)) (DS (jw (rE hr.units) (aJ xW hr (aE (ay (pv 0)) (ay (pv 0)))) (pv 0) (j9 _)))))))),?_⟩
 show ⟨_,rfl,p1,_,rfl,h1,_,rfl,bG (fun c=>nomatch c) (fun _=>?_)⟩;show ⟨_,rfl,p1,_,rfl,.inr h1,rfl,_,rfl,IU rfl ?_⟩;show ⟨_,rfl,p1,rfl,⟨_,h1⟩,let I:bn:=fun i Y H'=>∃o,Y=[ap p1,o]/\H'=H;zaj (K:=K) (a:=p1) (xs:=[.int x.1,.int x.2]) I ⟨none,rfl,rfl⟩ (fun i Y H' _ ⟨o,_,e⟩=>by rwa [e]) ?_ ?_⟩
 ·rintro i z Y H' hi ⟨o,rfl,rfl⟩
  obtain ⟨n,rfl⟩:∃n,z=V.int n:=by
   match i,hi with
   | 0,hi=>show ⟨_,(GU hi).symm⟩
   | 1,hi=>show ⟨_,(GU hi).symm⟩
  show ⟨_,rfl,_,_,_,true,rfl,rfl,.int n,aj5,_,rfl,bG (fun c=>nomatch c) (fun _=>?_)⟩;show ⟨_,rfl,_,_,_,false,rfl,rfl,.int n,aj6,_,rfl,bG (fun c=>nomatch c) (fun _=>?_)⟩;show ⟨_,rfl,rfl⟩
 ·rintro Y H' ⟨o,rfl,rfl⟩
  show ⟨_,rfl,p1,_,_,_,rfl,rfl,h1,gL,_,_,rfl,rfl,_,rfl,bG (fun _=>?_) (fun c=>DZ (La hp) c)⟩;show ⟨_,rfl,p1,_,_,_,rfl,rfl,h1,iF,_,rfl,p1,_,_,_,rfl,rfl,h1,gL,_,_,rfl,hp,fun p2 H2 s2 e2=>?_⟩;rw [nR hp hg] at e2;show ⟨_,rfl,_,_,.inl ⟨lK (q:=x) ⟨p2,rfl,bE.of e2⟩,lK (q:=x) ⟨p1,rfl,Ty.ao.bZ s2 h1⟩⟩,rfl,ag0,?_⟩;rw [aej x];exact q _ s2
structure T_ (K:Frag)(H:Hp)(d:AF)(AA:γ)(pX:ν)(L:θ):Prop where
 hd:H d=some (.dK AA)
 pt:Pe K H AA L
 nk:(AA.map (·.1)).Nodup
 ks:∀kv∈AA,∃x∈pX.map (·.nm),kv.1=.inr x
 sz:mvL L
 ll:AA.length<=100
theorem T_.lh (h:T_ K H d AA pX L)(s:ao H H'):T_ K H' d AA pX L:=⟨s _ _ h.hd,h.pt.lh s,h.nk,h.ks,h.sz,h.ll⟩
theorem T_.at (h:T_ K H d AA pX L){t:Nat}(e:AA[t]?=some (k,y)):∃x,k=.inr x/\x∈pX.map (·.nm)/\i8 K H y (mv L x):=by
 obtain ⟨x,hx,ek⟩:=h.ks _ (DW e);let ek':k=.inr x:=ek;subst ek';show ⟨x,rfl,hx,?_⟩;let ev:=jD h.nk e
 rcases h.pt x with ⟨z,_⟩|⟨v,p,z1,z2,z3⟩
 ·rw [ev] at z
  cases z
 ·rw [ev] at z1
  cases z1;unfold mv;rwa [z2]
def ajG {f:Μ}:∀{ks names:ς},ks.Nodup->names.Nodup->(∀x∈ks,x∈names)->(∀x∈names,x∉ks->f x=0)->(ks.map f).sum=(names.map f).sum:=by
 let aj7:∀{f:Μ} {l:ς},(∀x∈l,f x=0)->(l.map f).sum=0:=fun {f l} h=>by
  induction l with
  | nil=>rfl
  | cons a l ih=>
   rw [DV,GN,h a GG,ih fun x hx=>h x (F' _ hx)];grind
 let pull:∀{f:Μ} {k:Str} {l:ς},l.Nodup->k∈l->(l.map f).sum=f k+(l.map fun x=>if x=k then 0 else f x).sum:=fun {f k l} nd hk=>by
  induction l with
  | nil=>cases hk
  | cons a l ih=>
   rw [M9] at nd;rw [DV,DV,GN,GN];by_cases c:a=k
   ·subst c
    rw [ox rfl];let e:(l.map fun x=>if x=a then 0 else f x)=l.map f:=LD fun x hx=>ni (fun z=>nd.1 (by rwa [<-z]));rw [e];grind
   ·let hk':k∈l:=by
     rcases LN.mp hk with z|z
     ·exact DZ z.symm c
     ·exact z
    rw [ih nd.2 hk',ni c];grind
 intro ks
 induction ks generalizing f with
 | nil=>
  intro names _ _ _ h;rw [aj7 fun x hx=>h x hx ga];rfl
 | cons k ks ih=>
  intro names nk nn sub h;rw [M9] at nk;rw [DV,GN,pull nn (sub k GG)];congr 1;rw [<-ih (f:=fun x=>if x=k then 0 else f x) nk.2 nn (fun x hx=>sub x (F' _ hx)) fun x hx nx=>?_]
  ·exact pj Tw (LD fun x hx=>(ni (fun z:x=k=>nk.1 (by rwa [<-z]))).symm)
  ·show (if x=k then 0 else f x)=0
   by_cases c:x=k
   ·rw [ox c]
   ·rw [ni c]
    exact h x hx (by
     intro z
     rcases LN.mp z with z|z
     ·exact c z
     ·exact nx z)
def mY:Key->Str
 | .inr x=>x
 | .inl _=> ""
theorem T_.sum (h:T_ K H d AA pX L)(np:(pX.map (·.nm)).Nodup)(M:υ):(AA.map fun kv=>dt (mv L (mY kv.1)) (M (mY kv.1))).sum=qH pX L M:=by
 let nk:(AA.map fun kv=>mY kv.1).Nodup:=by
  let e:(AA.map fun kv=>mY kv.1)=(AA.map (·.1)).map mY:=by rw [EB];rfl
  rw [e];unfold yU;rw [AR];refine aiC (fun {a b} ha hb ne e=>ne ?_) h.nk;obtain ⟨ka,hka,rfl⟩:=AY.mp ha;obtain ⟨kb,hkb,rfl⟩:=AY.mp hb;obtain ⟨x,_,ex⟩:=h.ks ka hka;obtain ⟨y,_,ey⟩:=h.ks kb hkb;rw [ex,ey] at e ⊢;exact pj EX e
 let s:=ajG (f:=fun x=>dt (mv L x) (M x)) nk np (fun x hx=>by
  obtain ⟨kv,O3,rfl⟩:=AY.mp hx;obtain ⟨y,hy,ey⟩:=h.ks kv O3;rw [ey]
  exact hy) fun x hx nx=>by
   rcases h.pt x with ⟨_,z⟩|⟨v,p,z1,_,_⟩
   ·unfold mv
    rw [z];exact lR _
   ·exact DZ (AY.mpr ⟨_,zQ z1,rfl⟩) nx
 rwa [EB,EB] at s
inductive GP (K:Frag)(vs:η)(H:Hp)(Q:VK)(E_:XK):Prop
|mk (d dM:AF)(AA kM:γ)(pX:ν)(L:θ)(M:υ)(N:Nat)(_:vs=[.ref d,.ref dM])(_:T_ K H d AA pX L)(_:(pX.map (·.nm)).Nodup)(_:Rx K H pX dM kM M N)(_:dM≠d)(_:AA.length<=9)(_:N<=2000000)(_:∀(v:V)(H':Hp),ao H H' ->g_ K H' v (1+9*(2*N+4002)) (qH pX L M)->Q v H')
def BD:av ["_law_load_here","_law_motion","_law_total","_law_name_here","_law_drawn_here"] qZ (ae MJ):=sq
def adf (D:Def K mg "_law_work" MJ qZ)(jX:ac P w K mg iT 1 "_law_sum" LG (bw K gC))(QG:ac P w K mg iT 2 "_law_dot" LG (uw K)):
  ac P w K mg iT 3 "_law_work" qZ (GP K):=by
 refine D.oo BD fun H hr h=>?_;obtain ⟨d,dM,AA,kM,pX,L,M,N,rfl,ld,np,mo,ne,lk,hN,q⟩:=h;let L2:2<=AZ:=dL
 let sm:=ld.sum np M
 show ⟨_,(aa (aC 2 BD.nd (aK (aE af af))) (aa (jA (ba FF rfl (n_ (pv 0)) (fL rfl (aY (bM 3 BD.nd) (aY (bM 4 BD.nd) df))) (ag (aC 2 BD.nd (aJ jX hr (aE (pv 2) (aJ QG hr (aE (pv 4) (dR (bQ hr) (pv 1) (pv 3) (fun _ _=>rfl)))))))))) (ag (aF (pv 2))))),?_⟩;sleep 2
 show ⟨L2,?_⟩;intros t1 n1 H1 s1 e1;let ZG:=ld.lh s1;let mo1:=mo.lh s1
 let t0:g_ K H1 (.ref t1) (1+0*(2*N+4002)) ((AA.take 0).map fun kv=>dt (mv L (mY kv.1)) (M (mY kv.1))).sum:=by
  rw [Ue];show ⟨(0,1),⟨t1,rfl,bE.of e1⟩,dL,(show vl ((0,1):Int×Int)=0 by decide+kernel),dL,dL⟩
 show ⟨_,rfl,d,AA,rfl,ZG.hd,fun o=>?_⟩
 let st:∀{H':Hp},bL d H1 H' ->a9 H1 H':=fun {H'} k b xs r=>by
  rcases r with r|⟨o',r⟩
  ·exact .inl (k _ _ (fun e=>by erw [e,ZG.hd] at r) r)
  ·exact .inr ⟨o',k _ _ (fun e=>by erw [e,ZG.hd] at r) r⟩
 let k0:bL d H1 (upd H1 d (.eQ o (.dK AA))):=fun b o' n e=>by rwa [aj n]
 refine let I:bn:=fun t Y H'=>JS fun (tv:V) (o3 o4:ψ)=>Y=[ap d,ap dM,some tv,o3,o4]/\bL d H1 H'/\H' d=some (.eQ o (.dK AA))/\g_ K H' tv (1+t*(2*N+4002)) ((AA.take t).map fun kv=>dt (mv L (mY kv.1)) (M (mY kv.1))).sum;lJ (d:=d) (o:=o) (AA:=AA) I ⟨.ref t1,none,none,rfl,k0,ah,t0.aH (st k0)⟩ (fun t Y H' _ h=>by
   obtain ⟨_,_,_,_,_,h,_⟩:=h
   exact h) ?_ ?_
 ·rintro t k y Y H6 p7 tR ⟨tv,o3,o4,rfl,k6,AL,nt⟩ n7
  let ht:t<AA.length:=(be.mp tR).1;obtain ⟨x,rfl,hx,hv⟩:=ZG.at tR;obtain ⟨p,mp,rfl⟩:=AY.mp hx;let s7:=aD n7 (.tup [kV (.inr p.nm),y]);let e7:(upd H6 p7 (.tup [kV (.inr p.nm),y])) p7=some (.tup [kV (.inr p.nm),y]):=ah;generalize upd H6 p7 (.tup [kV (.inr p.nm),y])=H7 at s7 e7 ⊢;let k7:bL d H1 H7:=fun b o' n e=>s7 _ _ (k6 b o' n e);show ⟨p7,_,rfl,bE.of e7,rfl,_,_,rfl,_,_,rfl,rfl,?_⟩;obtain ⟨tm,v1,v2,dg,et,m1,m2⟩:=mo1.tM p mp
  let dg7:cW H7 dM (.str p.nm) (some (.ref tm)):=by
   have:=cW.k (k:=.inr p.nm) (k7 _ _ ne mo1.hM);rwa [dg] at this
  let et7:H7 tm=some (.tup [v1,v2]):=k7 _ _ (fun e=>by erw [e,ZG.hd] at et) et;obtain ⟨da,u1,u2,rfl,hdq,P_,hd2⟩:=hv.aH (st k7);let zd:=ld.sz p.nm;let zm:=mo.zb p mp;show ⟨_,rfl,_,rfl,_,rfl,_,rfl,dM,_,rfl,dg7,?_⟩;dsimp only [gI];show ⟨da,tm,u1,u2,v1,v2,_,_,_,_,2000,N,rfl,.inr hdq,.inr (bE.of et7),cv P_ (eR zd.1 (D' _)),cv hd2 (eR zd.2 (D' _)),cv (m1.aH (st k7)) zm.1,cv (m2.aH (st k7)) zm.2,ce,fun v8 H8 s8 n8=>?_⟩;show bw K gC [_,_] _ _ E0;let bt:t*(2*N+4002)<=8*(2*N+4002):=Lu _ ce;refine gi ((nt.lh s7).lh s8) n8 ce fun p9 H9 s9 n9=>?_;show ⟨_,_,_,rfl,fun b o' n e=>s9 _ _ (s8 _ _ (k7 b o' n e)),s9 _ _ (s8 _ _ (s7 _ _ AL)),?_⟩
  let ew:((AA.take (t+1)).map fun kv=>dt (mv L (mY kv.1)) (M (mY kv.1))).sum=((AA.take t).map fun kv=>dt (mv L (mY kv.1)) (M (mY kv.1))).sum+((mv L p.nm).1*(M p.nm).1+(mv L p.nm).2*(M p.nm).2):=by
   rw [take_snoc tR,GV,Xw,DV,LP,GN,Nc];show _+(dt (mv L p.nm) (M p.nm)+0)=_;unfold dt;grind
  rw [ew];exact n9.up (by rw [OP];omega)
 ·rintro Y H6 ⟨tv,o3,o4,rfl,k6,AL,nt⟩
  show ⟨d,o,AA,AL,fun o' u' z=>(by have z':H d=some (.eQ o' u'):=z;erw [ld.hd] at z'),?_⟩
  let s2:ao H1 (upd H6 d (.dK AA)):=fun b o' e=>by
   by_cases n:b=d
   ·subst n
    rw [ZG.hd] at e;rwa [ah]
   ·rw [aj n]
    exact k6 b o' n e
  let t2:g_ K (upd H6 d (.dK AA)) tv (1+AA.length*(2*N+4002)) ((AA.take AA.length).map fun kv=>dt (mv L (mY kv.1)) (M (mY kv.1))).sum:=nt.aH fun b xs r=>by
   rcases r with r|⟨o',r⟩
   ·exact .inl (by rw [aj (fun e=>by erw [e,AL] at r)];exact r)
   ·by_cases c:b=d
    ·rw [c,AL] at r
     cases r
    ·exact .inr ⟨o',by rwa [aj c]⟩
  generalize upd H6 d (.dK AA)=H8 at s2 t2 ⊢;rw [Lq,sm] at t2;let bt:AA.length*(2*N+4002)<=9*(2*N+4002):=Lu _ lk;show ⟨_,rfl,q tv H8 (s1.trans s2) (t2.up ce)⟩
def mZ (hd:H d=some (.dK k)):a9 H (upd H d (.dK k')):=fun a zs r=>by
 rcases r with r|⟨o',r⟩
 ·exact .inl (by rw [aj (fun e=>by erw [e,hd] at r)];exact r)
 ·exact .inr ⟨o',by rw [aj (fun e=>by erw [e,hd] at r)];exact r⟩
structure DQ {Z:Type}(H:Hp)(d:AF)(kT:γ)(nm:Z->Str)(l:List Z)(R:Hp->V->Z->Prop):Prop where
 hd:H d=some (.dK kT)
 ky:kT.map (·.1)=l.map (fun x=>(EX (nm x):Key))
 tv:∀x∈l,∃v,bI kT (.inr (nm x))=some v/\R H v x
def DQ.lh {R:Hp->V->Z->Prop}(h:DQ H d kT nm l R)(m:∀v x,R H v x->R H' v x)(s:ao H H'):DQ H' d kT nm l R:=⟨s _ _ h.hd,h.ky,fun x hx=>by
 obtain ⟨v,a,b⟩:=h.tv x hx
 show ⟨v,a,m v x b⟩⟩
def DQ.len {R:Hp->V->Z->Prop}(h:DQ H d kT nm l R):kT.length=l.length:=by
 have:=pj Oq h.ky;rwa [ir,ir] at this
def DQ.get {R:Hp->V->Z->Prop}(h:DQ H d kT nm l R)(hx:x∈l):∃v,cW H d (.str (nm x)) (some v)/\R H v x:=by
 obtain ⟨v,a,c⟩:=h.tv x hx;show ⟨v,?_,c⟩;have:=cW.k (k:=.inr (nm x)) h.hd;rwa [a] at this
def DQ.put {l:List Z}(nd:(l.map nm).Nodup)(e:l[i]?=some x)(h:DQ H d kT nm (l.take i) R)(m:∀v' y,R H v' y->R (upd H d (.dK (putK kT (.inr (nm x)) v))) v' y)(hv:R H v x):DQ (upd H d (.dK (putK kT (.inr (nm x)) v))) d (putK kT (.inr (nm x)) v) nm (l.take (i+1)) R:=by
 show ⟨ah,?_,fun y hy=>?_⟩
 ·rw [dI _ (bW (by
   rw [h.ky];intro z;obtain ⟨p',iG,e'⟩:=AY.mp z
   exact iu (nm:=nm) nd e iG (by injection e'))),GV,h.ky,take_snoc e,GV]
  rfl
 ·rw [kr]
  by_cases c:nm y=nm x
  ·let ey:y=x:=by
    obtain ⟨j,ej⟩:=FZ (YH hy);have:=dS nd (x:=nm x) (i:=j) (j:=i) (by rw [Wp,ej,<-c];rfl) (by rw [Wp,e];rfl);rw [this,e] at ej;exact (GU ej).symm
   subst ey;rw [ox rfl];show ⟨v,rfl,m _ _ hv⟩
  ·rw [ni (fun z=>c (by injection z))]
   rw [take_snoc e] at hy
   rcases FR.mp hy with z|z
   ·obtain ⟨v',a,b⟩:=h.tv y z
    show ⟨v',a,m _ _ b⟩
   ·exact DZ (pj nm (GQ.mp z)) c
theorem QI {Z:Type}{f:Z->Rat}:∀{l:List Z},(∀x∈l,Sz k (f x))->Sz (l.length*(k+1)+1) (l.map f).sum
 | [],_=>by
  rw [LP,Nc];exact eJ ga
 | x::l,h=>by
  rw [DV,GN,Lw];refine ((h x GG).add (QI fun y hy=>h y (F' _ hy))).up ?_;rw [OP];omega
theorem Wn :∀{us ws:Ι},(∀u∈us,Sz k u)->(∀w∈ws,Sz m w)->Sz (us.length*(k+m+1)+1) (sP us ws)
 | [],ws,_,_=>by
  rw [gc];exact eJ ga
 | u::us,[],_,_=>by
  have:sP (u::us) []=0:=by simp [sP]
  rw [this];exact eJ ga
 | u::us,w::ws,h1,h2=>by
  rw [cB,Lw];refine (((h1 u GG).mul (h2 w GG)).add (Wn (us:=us) (ws:=ws) (fun y hy=>h1 y (F' _ hy)) fun y hy=>h2 y (F' _ hy))).up ?_;rw [OP];omega
def ahg (g:dJ pX gV)(zT:∀b∈gV,Sz 11 (T b.nm))(zU:∀p∈pX,∀u∈U p.nm,Sz 11 u)(lU:∀p∈pX,(U p.nm).length=p.ws.length)(hp:p∈pX)(hc:∀{n:Nat} {w:Rat×Rat},Sz n w.1/\Sz n w.2->Sz n (c w)):Sz 2000 (fQ gV T U p c):=by
 unfold fQ
 let z1:Sz ((U p.nm).length*(11+22+1)+1) (sP (U p.nm) (p.ws.map c)):=Wn (zU p hp) fun w hw=>by
  obtain ⟨w',X3,rfl⟩:=AY.mp hw;exact hc ((g.sz p hp).2.2 w' X3)
 let z2:Sz (gV.length*(69+1)+1) (gV.map fun b=>T b.nm*c (mv (cE b) p.nm)).sum:=QI fun b hb=>((zT b hb).mul (hc (FO g hb p.nm))).up dL;let l1:=g.lw p hp;let l2:=g.lb;let l3:=lU p hp;let m1:(U p.nm).length*(11+22+1)<=2*34:=Lu 34 ce;let m2:gV.length*(69+1)<=26*70:=Lu 70 l2;exact (z1.add z2).up ce
def BF (gV:τ)(T:Μ)(U:Δ)(p:aA):Rat×Rat:=(-(fQ gV T U p (·.1)), -(fQ gV T U p (·.2)))
def KQ (h:0<q.2)(e:vl q=r):low (0-q.1) q.2=qr (-r):=by
 rw [kC (LJ h),<-e];congr 1;unfold vl;push_cast;grind
inductive x_ (K:Frag)(vs:η)(H:Hp)(Q:VK)(E_:XK):Prop
|mk (pA bA tA uA:AF)(us ws:η)(kT kU:γ)(pX:ν)(gV:τ)(T:Μ)(U:Δ)(N:Nat)(_:vs=[.ref pA,.ref bA,.ref tA,.ref uA])(_:ZF K H pA bA us ws pX gV)(_:LFo K H tA uA kT kU pX gV T U N)(_:dJ pX gV)(_:(∀b∈gV,Sz 11 (T b.nm)))(_:(∀p∈pX,∀u∈U p.nm,Sz 11 u))(_:∀(d:AF)(AA:γ)(L:θ)(H':Hp),ao H H' ->T_ K H' d AA pX L->AA.length<=9->iB pX gV T U L->Q (.ref d) H')
def BG:av ["_law_pins_here","_law_bars_here","_law_pulls","_law_pushes","_law_found","_law_load_here","_law_k","_law_x"] SI (ae s_by):=sq
def adg (D:Def K mg "_law_load" s_by SI)(a_:mg "len"=none)(aV:mg "range"=none)(aj8:ac P w K mg iT 3 "_law_forces" SI (uz K))(xW:ac P w K mg iT 33 "_law_lowest" TH dO):
  ac P w K mg iT 34 "_law_load" SI (x_ K):=by
 refine D.oo BG fun H hr h=>?_;obtain ⟨pA,bA,tA,uA,us,ws,kT,kU,pX,gV,T,U,N,rfl,fr,fo,g,zT,zU,q⟩:=h;let L2:2<=AZ:=dL
 let lp:=fr.lp;let lu:us.length=pX.length:=GJ fr.pp
 show ⟨_,(aa (aC 4 BG.nd (aJ aj8 hr (jP (pv 0) (bU (pv 1) (pv 2) (pv 3))))) (aa (aC 5 BG.nd dw) (aa (ba FF rfl (bB rfl aV (aZ (aU aQ rfl a_ cS (aZ (pv 0))))) (bM 6 BG.nd) (aa (aC 7 BG.nd (aJ xW hr (aE (aw fh af (ay (mm (bg aI (pv 4) (pv 6))))) (ay (mm (bg aI (pv 4) (pv 6))))))) (ag (dC (bQ hr) (pv 5) (ay (bg aI (pv 0) (pv 6))) (aK (aE (pv 7) (aJ xW hr (aE (aw fh af (ay (mm (bg aI (pv 4) (pv 6))))) (ay (mm (bg aI (pv 4) (pv 6)))))))) rfl)))) (ag (aF (pv 5)))))),?_⟩;sleep 3
 show ⟨_,rfl,_,rfl,_,rfl,_,rfl,pA,bA,tA,uA,us,ws,kT,kU,pX,gV,T,U,N,rfl,fr,fo,fun fA ls F H1 s1 ll hF eF=>?_⟩;intros d nd H2 s2 e2;let qe:=s1.trans s2;let enb:((us.length:Nat):Int).toNat=pX.length:=ce
 show ⟨_,rfl,pA,_,rfl,.inl (aR.of (qe _ _ fr.hp)),((us.length:Nat):Int),rfl,ce,ce,let I:bn:=fun i Y H'=>JS fun (o6 o7:ψ) (AA:γ)=>Y=[ap pA,ap bA,ap tA,ap uA,ap fA,ap d,o6,o7]/\ao H1 H'/\DQ H' d AA (·.nm) (pX.take i) (fun H v p=>i8 K H v (BF gV T U p));cL (lo:=0) (n:=((us.length:Nat):Int).toNat) I ⟨none,none,[],rfl,s2,e2,by simp,fun x hx=>by simp at hx⟩ ?_ ?_⟩
 ·rintro i Y H3 hi ⟨o6,o7,AA,rfl,s3,di⟩
  let ek:(0:Int)+(i:Int)=(i:Int):=Lh _;rw [ek];let Nd:=s1.trans s3;let hiu:i<us.length:=ce
  obtain ⟨p,ep,T7⟩:=aG fr.pp (gE hiu);obtain ⟨ta,lw,sv,oF,eu,h1,_,_,_⟩:=T7.lh Nd;let ai:i7 us (i:Int)=some (.ref ta):=bq (by rw [gE hiu,eu]);let F3:=hF.lh s3;obtain ⟨lr,elr⟩:∃lr,ls[i]?=some lr:=⟨_,gE ce⟩;obtain ⟨w1,w2,hlr,⟨q1,⟨a1,rfl,m1⟩,b1,c1,_⟩,⟨q2,⟨a2,rfl,m2⟩,b2,c2,_⟩⟩:=F3.row i lr elr;obtain ⟨f1,f2⟩:=eF i p ep;let etl:i7 (ls.map V.ref) (i:Int)=some (.ref lr):=bq (by rw [Wp,elr];rfl);let lf:=aR.of (K:=K) F3.hf;let lrq:=aR.of (K:=K) hlr;show ⟨_,rfl,_,rfl,fA,_,_,_,rfl,rfl,lf,etl,lr,_,_,_,rfl,rfl,lrq,rfl,a1,_,_,_,rfl,rfl,m1,iF,_,_,rfl,rfl,_,rfl,_,rfl,fA,_,_,_,rfl,rfl,lf,etl,lr,_,_,_,rfl,rfl,lrq,rfl,a1,_,_,_,rfl,rfl,m1,gL,_,_,rfl,b1,fun p4 H4 s4 e4=>?_⟩;rw [KQ b1 (c1.trans f1)] at e4;let lf4:=aR.of (K:=K) (s4 _ _ F3.hf);let lr4:=aR.of (K:=K) (s4 _ _ hlr);let m24:=Ty.ao.bZ s4 m2;show ⟨_,rfl,_,rfl,_,rfl,fA,_,_,_,rfl,rfl,lf4,etl,lr,_,_,_,rfl,rfl,lr4,rfl,a2,_,_,_,rfl,rfl,m24,iF,_,_,rfl,rfl,_,rfl,_,rfl,fA,_,_,_,rfl,rfl,lf4,etl,lr,_,_,_,rfl,rfl,lr4,rfl,a2,_,_,_,rfl,rfl,m24,gL,_,_,rfl,b2,fun p5 H5 s5 e5=>?_⟩;rw [KQ b2 (c2.trans f2)] at e5;show ⟨L2,?_⟩;intros p6 n6 H6 s6 e6;let Nh:=s4.trans (s5.trans s6);let Wo:=di.lh (fun _ _ z=>z.lh Nh) Nh;let lk:=Wo.len;rw [FU] at lk;show ⟨_,rfl,_,rfl,_,rfl,pA,_,_,_,rfl,rfl,aR.of ((Nd.trans Nh) _ _ fr.hp),ai,ta,_,_,_,rfl,rfl,Ty.ao.bZ Nh h1,cU,d,_,rfl,je.k (k:=.inr p.nm) Wo.hd (FX (show AA.length<=100 by omega) dL),_,_,_,rfl,fun b o z=>(by rw [aj (ak z nd)];exact Nh _ _ (s3 _ _ z)),Wo.put fr.gp.np ep (fun _ _ z=>z.aH (mZ Wo.hd)) ⟨p6,_,_,rfl,bE.of e6,wG (s6 _ _ (s5 _ _ e4)),wG (s6 _ _ e5)⟩⟩
 ·rintro Y H3 ⟨o6,o7,AA,rfl,s3,di⟩
  rw [enb,Lq] at di;let lk:=di.len;let ky:=di.ky
  let nk:(AA.map (·.1)).Nodup:=by
   rw [ky];have:(pX.map fun p=>(EX p.nm:Key))=(pX.map (·.nm)).map EX:=by rw [EB];rfl
   rw [this];exact Yj _ (fun a b n z=>n (by injection z)) fr.gp.np
  obtain ⟨L,hL⟩:=xR (nm:=aA.nm) ((0,0):Rat×Rat) fr.gp.np fun i=>(pX[i]?.map (BF gV T U)).getD (0,0)
  let eL:∀p∈pX,L p.nm=BF gV T U p:=fun p hp=>by
   obtain ⟨i,e⟩:=FZ hp;rw [hL i p e,e];rfl
  let mvp:∀p∈pX,mv (fun x=>if x∈pX.map (·.nm) then some (L x) else none) p.nm=BF gV T U p:=fun p hp=>by
   show (if p.nm∈pX.map (·.nm) then some (L p.nm) else none).getD (0,0)=_;rw [ox (AY.mpr ⟨p,hp,rfl⟩)];exact eL p hp
  show ⟨_,rfl,q d AA (fun x=>if x∈pX.map (·.nm) then some (L x) else none) H3 (s1.trans s3) ⟨di.hd,fun x=>?_,nk,fun kv O3=>?_,fun x=>?_,ce⟩ ce fun p hp=>?_⟩
  ·by_cases c:x∈pX.map (·.nm)
   ·obtain ⟨p,mp,rfl⟩:=AY.mp c
    obtain ⟨v,a,b⟩:=di.tv p mp;exact .inr ⟨v,L p.nm,a,ox c,by rwa [eL p mp]⟩
   ·refine .inl ⟨bW (fun z=>c ?_),ni c⟩
    rw [ky] at z;obtain ⟨p,mp,e⟩:=AY.mp z;exact AY.mpr ⟨p,mp,by injection e⟩
  ·have:kv.1∈AA.map (·.1):=AY.mpr ⟨kv,O3,rfl⟩
   rw [ky] at this;obtain ⟨p',mp,e⟩:=AY.mp this;show ⟨p'.nm,AY.mpr ⟨p',mp,rfl⟩,e.symm⟩
  ·by_cases c:x∈pX.map (·.nm)
   ·obtain ⟨p,mp,rfl⟩:=AY.mp c
    rw [mvp p mp];show ⟨(ahg g zT zU fo.lU mp (fun h=>h.1)).neg,(ahg g zT zU fo.lU mp (fun h=>h.2)).neg⟩
   ·show Sz 2000 ((if x∈pX.map (·.nm) then some (L x) else none).getD (0,0)).1/\Sz 2000 ((if x∈pX.map (·.nm) then some (L x) else none).getD (0,0)).2
    rw [ni c];show ⟨eJ dL,eJ dL⟩
  ·rw [mvp p hp]
   unfold BF;constructor<;>grind
def YE :gO [a,b,c] (some 1) none=[b,c]:=rfl
def ya {i j:Nat}(h:bE K H p [.int (i:Int),.int (j:Int)]):Is K H (.t [.v (.int i),.v (.int j)]) (.ref p):=by
 unfold Is;show ⟨p,_,rfl,h,⟨rfl,rfl⟩,⟨rfl,rfl⟩,trivial⟩
def QJ {i j k l:Nat}:cO [.v (.int i),.v (.int j)] [.v (.int k),.v (.int l)]=decide (i=k/\j=l):=by
 simp only [cO,iH,nK,zI];rw [WM];simp;omega
inductive uD (K:Frag)(vs:η)(H:Hp)(Q:VK)(E_:XK):Prop
|mk (u v:V)(pX:ν)(b c:aL)(_:vs=[u,v])(_:(pX.map (·.nm)).Nodup)(_:kZ K H pX u b)(_:kZ K H pX v c)(_:∀H',ao H H' ->Q (.bl (bC b c)) H')
def adh:av XF XF (ae Mz):=sq
def adi (D:Def K mg "_law_alike" Mz XF):ac P w K mg iT 1 "_law_alike" XF (uD K):=by
 refine D.oo adh fun H hr h=>?_;obtain ⟨u,v,pX,b,c,rfl,nd,⟨a1,i1,j1,rfl,h1,x1,y1⟩,⟨a2,i2,j2,rfl,h2,x2,y2⟩,q⟩:=h;let e1:decide (i1=i2/\j1=j2)=decide (b.one.nm=c.one.nm/\b.lj.nm=c.lj.nm):=decide_eq_decide.mpr ⟨fun ⟨u,v⟩=>by subst u;subst v;rw [x1] at x2;rw [y1] at y2;rw [GU x2,GU y2];show ⟨rfl,rfl⟩,fun ⟨u,v⟩=>⟨d3 nd x1 x2 u,d3 nd y1 y2 v⟩⟩;let e2:decide (j1=i2/\i1=j2)=decide (b.lj.nm=c.one.nm/\b.one.nm=c.lj.nm):=decide_eq_decide.mpr ⟨fun ⟨u,v⟩=>by subst u;subst v;rw [x1] at y2;rw [y1] at x2;rw [GU x2,GU y2];show ⟨rfl,rfl⟩,fun ⟨u,v⟩=>⟨d3 nd y1 x2 u,d3 nd x1 y2 v⟩⟩;let al:bC b c=(decide (b.one.nm=c.one.nm/\b.lj.nm=c.lj.nm) || decide (b.lj.nm=c.one.nm/\b.one.nm=c.lj.nm)):=Bool.decide_or ..;rw [al,<-e1,<-e2] at q;let L2:2<=AZ:=dL
 let nw3:∀{a b c:V},¬ (HT.fX [a,b,c].length 0 (some 1)=0/\HT.fX [a,b,c].length [a,b,c].length none=[a,b,c].length):=fun z=>nomatch z.1;show ⟨_,(ag (aF (aff (jw (rE hr.units) (bX ED (pv 0) (cH af) cQ) (bX ED (pv 1) (cH af) cQ) (j9 _)) (DS (jw (rE hr.units) (aK (aE (ay (pv 0)) (ay (pv 0)))) (bX ED (pv 1) (cH af) cQ) (j9 _)))))),_,rfl,_,rfl,a1,_,rfl,h1,nw3,?_⟩;rw [YE];intros p3 n3 H3 s3 e3;show ⟨_,rfl,_,rfl,a2,_,rfl,Ty.ao.bZ s3 h2,nw3,?_⟩;rw [YE];intros p4 n4 H4 s4 e4;let uC:=s3.trans s4;show ⟨_,_,.inl ⟨ya (bE.of (s4 _ _ e3)),ya (bE.of e4)⟩,rfl,by simp [jy,dep],?_⟩;rw [QJ];show ⟨_,rfl,bG (fun z=>?_) fun z=>?_⟩
 ·rw [z] at q
  exact q _ uC
 rw [SO.mpr z,aks] at q;show ⟨_,rfl,a1,_,_,_,rfl,rfl,Ty.ao.bZ uC h1,rfl,_,rfl,a1,_,_,_,rfl,rfl,Ty.ao.bZ uC h1,rfl,L2,?_⟩;intros p5 n5 H5 s5 e5;show ⟨_,rfl,_,rfl,a2,_,rfl,Ty.ao.bZ (uC.trans s5) h2,nw3,?_⟩;rw [YE];intros p6 n6 H6 s6 e6;show ⟨_,_,.inl ⟨ya (bE.of (s6 _ _ e5)),ya (bE.of e6)⟩,rfl,by simp [jy,dep],?_⟩;rw [QJ];exact q _ ((uC.trans s5).trans s6)
theorem qM :∀(n:Nat) {us:η} {zs:List Z},Paired R us zs->Paired R (us.take n) (zs.take n)
 | 0,_,_,_=>by simpa using Paired.nil
 | n+1,_,_,.nil=>by simpa using Paired.nil
 | n+1,_,_,.cons h t=>by
  rw [aje,aje];exact .cons h (qM n t)
def UsR (K:Frag)(U:Δ)(H:Hp)(v:V)(p:aA):Prop:=∃la ys,v=.ref la/\H la=some (.lst ys)/\Paired (dh K H) ys (U p.nm)
theorem UsR.lh (h:UsR K U H v p)(s:ao H H'):UsR K U H' v p:=by
 obtain ⟨la,ys,a,b,c⟩:=h;show ⟨la,ys,a,s _ _ b,Paired.cV c fun _ _ z=>z.lh s⟩
def p18:SG 10 18:=⟨dL,dL,dL⟩
def p12:SG 10 12:=⟨dL,dL,dL⟩
def oR (m c k:Int):Int:=if 0<=c/\c<(10:Int)^(18:Int).toNat then c*69621+7*k else c.fdiv ((10:Int)^m.toNat)
def ahf (h:0<=c):i7 [V.int (c*69621+7*k),.int (c.fdiv ((10:Int)^m.toNat))] (if (!decide (c<(10:Int)^(18:Int).toNat))=true then 1 else 0)=some (.int (oR m c k)):=by
 unfold oR;by_cases h':c<(10:Int)^(18:Int).toNat
 ·rw [La h',ox (show 0<=c/\c<(10:Int)^(18:Int).toNat from ⟨h,h'⟩)]
  rfl
 ·rw [PH h',ni (show ¬ (0<=c/\c<(10:Int)^(18:Int).toNat) from fun z=>h' z.2)]
  rfl
def ahe (h:¬ 0<=c):i7 [V.int (c*69621+7*k),.int (c.fdiv ((10:Int)^m.toNat))] (if (!false)=true then 1 else 0)=some (.int (oR m c k)):=by
 unfold oR;rw [ni (show ¬ (0<=c/\c<(10:Int)^(18:Int).toNat) from fun z=>h z.1)];rfl
def QK (ns:ξ)(i:Nat):Int:=if 19<i then oR 12 (cell ns (24+((i:Int).fmod 20))) i else cell ns (24+((i:Int).fmod 20))
inductive uE (K:Frag)(vs:η)(H:Hp)(Q:VK)(E_:XK):Prop
|mk (sA pA bA:AF)(ns:ξ)(us ws:η)(pX:ν)(gV:τ)(_:vs=[.ref sA,.ref pA,.ref bA])(_:aR K H sA (ns.map V.int))(_:(∀i∈ns,intBits i<=1048576))(_:H pA=some (.lst us))(_:Paired (jq K H) us pX)(_:oK pX)(_:pX.length<=8)(_:H bA=some (.lst ws))(_:Paired (kZ K H pX) ws gV)(_:gV.length<=26)(_:(gV.map (·.nm)).Nodup)(_:∀(a dT dU:AF)(kT kU:γ)(T:Μ)(U:Δ)(H':Hp),ao H H' ->H' a=some (.tup [.ref dT,.ref dU])->DQ H' dT kT (·.nm) gV (fun H v b=>dh K H v (T b.nm))->DQ H' dU kU (·.nm) pX (UsR K U)->(∀p∈pX,(U p.nm).length=p.ws.length)->(∀b∈gV,Sz 11 (T b.nm))->(∀p∈pX,∀u∈U p.nm,Sz 11 u)->Q (.ref a) H')
def oT:av ["_law_script","_law_pins_here","_law_bars_here","_law_pulls","_law_k","_law_cell","_law_pushes","_law_some"] rh (ae MA):=sq
def adk (D:Def K mg "_law_drawn" MA rh)(a_:mg "len"=none)(aV:mg "range"=none)(oQ:mg "int"=none)(kY:ac P w K mg iT 1 "_law_cell_at" Qd (kR K))(gh:ac P w K mg iT 1 "_law_field" Ph gS):
  ac P w K mg iT 2 "_law_drawn" rh (uE K):=by
 refine D.oo oT fun H hr h=>?_;obtain ⟨sA,pA,bA,ns,us,ws,pX,gV,rfl,hS,Rw,hp,pp,gp,lp,hb,pb,lb,nb,q⟩:=h;let L2:2<=AZ:=dL
 let lw:ws.length=gV.length:=GJ pb;let lu:us.length=pX.length:=GJ pp;obtain ⟨T,hT⟩:=xR (nm:=aL.nm) (0:Rat) nb fun i=>((field (QK ns i) 4001 19-9:Int):Rat);obtain ⟨U,hU⟩:=xR (nm:=aA.nm) ([]:List Rat) gp.np fun i=>([((field (cell ns (44+(i:Int))) 6007 19-9:Int):Rat),((field (cell ns (44+(i:Int))) 7001 19-9:Int):Rat)]).take ((pX[i]?.map fun p=>p.ws.length).getD 0)
 show ⟨_,(aa (aC 3 oT.nd dw) (aa (ba FF rfl (bB rfl aV (aZ (aU aQ rfl a_ cS (aZ (pv 2))))) (bM 4 oT.nd) (aa (aC 5 oT.nd (aJ kY hr (aE (pv 0) (aw bT af (aw fN (pv 4) af))))) (aa (bF (bO IG (pv 4) af) (ag (aC 5 oT.nd (bg aI (b9 (aE (aw bT (aw bu (pv 5) af) (aw bu af (pv 4))) (aw kg (pv 5) (aw rZ af af)))) (dq vK rfl oQ OG (aZ (Oa (y8 Oi IF af (pv 5) (aw rZ af af)))))))) aX) (ag (dC (bQ hr) (pv 3) (ay (bg aI (pv 2) (pv 4))) (aK (aE (aw fh (aJ gh hr (bU (pv 5) af af)) af) af)) rfl))))) (aa (aC 6 oT.nd dw) (aa (ba FF rfl (bB rfl aV (aZ (aU aQ rfl a_ cS (aZ (pv 1))))) (bM 4 oT.nd) (aa (aC 5 oT.nd (aJ kY hr (aE (pv 0) (aw bT af (pv 4))))) (aa (aC 7 oT.nd (b9 (aE (aK (aE (aw fh (aJ gh hr (bU (pv 5) af af)) af) af)) (aK (aE (aw fh (aJ gh hr (bU (pv 5) af af)) af) af))))) (ag (dC (bQ hr) (pv 6) (ay (bg aI (pv 1) (pv 4))) (bX dP (pv 7) cQ (cH (aU aQ rfl a_ cS (aZ (ay (bg aI (pv 1) (pv 4))))))) rfl))))) (ag (aF (aK (aE (pv 3) (pv 6))))))))),?_⟩;try dsimp only [uP,j_,Cx.yO,Cx.u9]
 intros d n1 H1 s1 e1;let en:((ws.length:Nat):Int).toNat=gV.length:=ce
 show ⟨_,rfl,bA,_,rfl,.inl (aR.of (s1 _ _ hb)),((ws.length:Nat):Int),rfl,ce,ce,let I:bn:=fun i Y H'=>JS fun (o4 o5:ψ) (kT:γ)=>Y=[ap sA,ap pA,ap bA,ap d,o4,o5,none,none]/\ao H H'/\DQ H' d kT (·.nm) (gV.take i) (fun H v b=>dh K H v (T b.nm));cL (lo:=0) (n:=((ws.length:Nat):Int).toNat) I ⟨none,none,[],rfl,s1,e1,by simp,fun x hx=>by simp at hx⟩ ?_ ?_⟩
 ·rintro i Y H2 hi ⟨o4,o5,kT,rfl,s2,di⟩
  let ek:(0:Int)+(i:Int)=(i:Int):=Lh _;rw [ek];let zv:i<ws.length:=ce
  obtain ⟨b,eb,vq⟩:=aG pb (gE zv);obtain ⟨ta,j1,j2,eu,h1,_⟩:=vq;let ai:i7 ws (i:Int)=some (.ref ta):=bq (by rw [gE zv,eu]);let tb:=hT i b eb;let fm:=iS (x:=(i:Int)) (m:=20) dL;show ⟨_,rfl,_,rfl,_,_,rfl,rfl,nz dL,_,_,rfl,rfl,sA,ns,_,rfl,s2.seq hS,ce,ce,?_⟩;let cb:=wD Rw (24+(i:Int).fmod 20);unfold QK at tb;generalize cell ns (24+(i:Int).fmod 20)=c at tb cb ⊢;dsimp only [cy];refine jr (fun Y' H'=>Y' =[some (.ref sA),some (.ref pA),some (.ref bA),some (.ref d),some (.int (i:Int)),some (.int (if 19<i then oR 12 c i else c)),none,none]/\ao H2 H') (fun Nx Ry=>?_) ?_
  ·show ⟨_,rfl,_,_,rfl,rfl,_,rfl,bG (fun z=>?_) fun z=>?_⟩
   ·let z':19<i:=by have:=Lc z;omega
    rw [ox z'] at Ry;show ⟨_,rfl,_,_,rfl,rfl,⟨BJ cb dL,by decide+kernel⟩,_,rfl,_,_,rfl,rfl,⟨by decide+kernel,BJ (X0 ce ce) dL⟩,_,_,rfl,rfl,_,rfl,_,_,rfl,rfl,p12,_,_,rfl,rfl,⟨dL,by decide+kernel⟩,L2,?_⟩;intros t4 n4 H4 s4 e4;show ⟨_,rfl,_,_,rfl,rfl,_,rfl,?_⟩;refine bG (fun z=>?_) (fun z=>?_)
    ·show ⟨_,_,rfl,rfl,p18,_,_,rfl,rfl,_,rfl,.inr ⟨_,rfl,?_⟩⟩
     show ⟨t4,_,_,_,rfl,rfl,aR.of e4,ahf (Lc z),Ry _ _ ⟨rfl,s4⟩⟩
    ·show ⟨_,rfl,.inr ⟨_,rfl,?_⟩⟩
     show ⟨t4,_,_,_,rfl,rfl,aR.of e4,ahe (of_decide_eq_false (SO.mpr z)),Ry _ _ ⟨rfl,s4⟩⟩
   ·let z':¬ 19<i:=by have:=of_decide_eq_false (SO.mpr z);omega
    rw [ni z'] at Ry;exact Ry _ _ ⟨rfl,ao.refl _⟩
  rintro Y' H3 ⟨rfl,s3⟩;generalize (if 19<i then oR 12 c i else c)=c at tb ⊢;let i1:=bV (c:=c) (p:=4001) (m:=19) dL;show ⟨_,rfl,_,_,_,rfl,dL,dL,dL,_,_,rfl,rfl,L2,?_⟩;intros p4 n4 H4 s4 e4;let Qo:=s3.trans s4;let di4:=di.lh (fun _ _ z=>z.lh Qo) Qo;let lk:=di4.len;rw [FU] at lk;show ⟨_,rfl,_,rfl,_,rfl,bA,_,_,_,rfl,rfl,aR.of (Qo _ _ (s2 _ _ hb)),ai,ta,_,_,_,rfl,rfl,Ty.ao.bZ (s2.trans Qo) h1,cU,d,_,rfl,je.k (k:=.inr b.nm) di4.hd (FX (show kT.length<=1000 by omega) dL),_,_,_,rfl,fun b o z=>(by rw [aj (ak z n1)];exact Qo _ _ (s2 _ _ z)),di4.put nb eb (fun _ _ z=>z.aH (mZ di4.hd)) (by rw [tb];exact i6 _ e4)⟩
 rintro Y H2 ⟨o4,o5,kT,rfl,s2,dT⟩;rw [en,Lq] at dT;intros dU n3 H3 s3 e3;let Nd:=s2.trans s3;let en':((us.length:Nat):Int).toNat=pX.length:=ce
 show ⟨_,rfl,pA,_,rfl,.inl (aR.of (Nd _ _ hp)),((us.length:Nat):Int),rfl,ce,ce,let I:bn:=fun i Y H'=>LX fun (o4 o5 o6:ψ) (kU:γ)=>Y=[ap sA,ap pA,ap bA,ap d,o4,o5,ap dU,o6]/\ao H2 H'/\DQ H' dU kU (·.nm) (pX.take i) (UsR K U);cL (lo:=0) (n:=((us.length:Nat):Int).toNat) I ⟨_,_,_,[],rfl,s3,e3,by simp,fun x hx=>by simp at hx⟩ ?_ ?_⟩
 ·rintro i Y H4 hi ⟨o4,o5,o6,kU,rfl,s4,di⟩
  let ek:(0:Int)+(i:Int)=(i:Int):=Lh _;rw [ek];let zv:i<us.length:=ce
  obtain ⟨p,ep,T7⟩:=aG pp (gE zv);let mp:=DW ep;let uC:=s2.trans s4;obtain ⟨ta,l,sv,oF,eu,h1,h2,h3,h4⟩:=T7.lh uC;let ai:i7 us (i:Int)=some (.ref ta):=bq (by rw [gE zv,eu]);let lv:oF.length=p.ws.length:=GJ h4;let lwp:=(gp.ws p mp).len;let tb:=hU i p ep;rw [ep] at tb;show ⟨_,rfl,_,rfl,_,_,rfl,rfl,sA,ns,_,rfl,uC.seq hS,ce,ce,?_⟩;generalize cell ns (44+(i:Int))=c0 at tb ⊢;show ⟨_,rfl,_,_,_,rfl,dL,dL,dL,_,_,rfl,rfl,L2,?_⟩;intros p5 n5 H5 s5 e5;show ⟨_,rfl,_,_,_,rfl,dL,dL,dL,_,_,rfl,rfl,L2,?_⟩;intros p6 n6 H6 s6 e6;show ⟨L2,?_⟩;intros l7 n7 H7 s7 e7;let Qn:=s5.trans (s6.trans s7);show ⟨_,rfl,_,rfl,_,rfl,pA,_,_,_,rfl,rfl,aR.of (Qn _ _ (uC _ _ hp)),ai,ta,_,_,_,rfl,rfl,Ty.ao.bZ Qn h1,rfl,l,_,rfl,.inl (aR.of (Qn _ _ h3)),_,rfl,l7,_,rfl,aR.of e7,?_⟩;rw [lO (show oF.length<=[V.ref p5,V.ref p6].length by show oF.length<=2;omega)];intros la n8 H8 s8 e8;let s28:=Qn.trans s8;let di8:=di.lh (fun _ _ z=>z.lh s28) s28;let lk:=di8.len;rw [FU] at lk;show ⟨_,rfl,_,rfl,_,rfl,pA,_,_,_,rfl,rfl,aR.of (s28 _ _ (uC _ _ hp)),ai,ta,_,_,_,rfl,rfl,Ty.ao.bZ s28 h1,cU,dU,_,rfl,je.k (k:=.inr p.nm) di8.hd (FX (show kU.length<=1000 by omega) dL),?_⟩;let two:Paired (dh K H8) [V.ref p5,V.ref p6] [((field c0 6007 19-9:Int):Rat),((field c0 7001 19-9:Int):Rat)]:=.cons (i6 _ (s8 _ _ (s7 _ _ (s6 _ _ e5)))) (.cons (i6 _ (s8 _ _ (s7 _ _ e6))) .nil);show ⟨_,_,_,_,rfl,fun b o z=>(by rw [aj (ak z n3)];exact s28 _ _ (s4 _ _ z)),di8.put gp.np ep (fun _ _ ⟨a,ys,z1,z2,z3⟩=>⟨a,ys,z1,by rw [aj (fun e=>by erw [e,di8.hd] at z2)];exact z2,Paired.cV z3 fun _ _ z=>z.aH (mZ di8.hd)⟩) ⟨la,_,rfl,e8,?_⟩⟩;rw [tb,lv];exact qM _ two
 rintro Y H4 ⟨o4,o5,o6,kU,rfl,s4,di⟩;rw [en',Lq] at di;show ⟨_,rfl,_,rfl,L2,?_⟩;intros t5 n5 H5 s5 e5;let DP:=s4.trans s5;refine q t5 d dU kT kU T U H5 (s2.trans DP) e5 (dT.lh (fun _ _ z=>z.lh DP) DP) (di.lh (fun _ _ z=>z.lh s5) s5) (fun p hp=>?_) (fun b hb=>?_) fun p hp u hu=>?_
 ·obtain ⟨i,ei⟩:=FZ hp
  let lwp:=(gp.ws p hp).len;rw [hU i p ei,ei,FU];show min p.ws.length 2=p.ws.length;omega
 ·obtain ⟨i,ei⟩:=FZ hb
  rw [hT i b ei];generalize QK ns i=c;let i1:=bV (c:=c) (p:=4001) (m:=19) dL;exact tG (k:=11) (show _<2048 by omega) dL
 ·obtain ⟨i,ei⟩:=FZ hp
  rw [hU i p ei] at hu;generalize cell ns (44+(i:Int))=c at hu;let i1:=bV (c:=c) (p:=6007) (m:=19) dL;let i2:=bV (c:=c) (p:=7001) (m:=19) dL;let sm:∀i:Int,i.natAbs<2048->Sz 11 (i:Rat):=fun i h=>tG h dL
  rcases LN.mp (YH hu) with z|z
  ·rw [z]
   exact sm _ ce
  ·rw [GQ.mp z]
   exact sm _ ce
def aag {a:Int}(h:1<=m):(a.fdiv m).natAbs<=a.natAbs:=by
 rw [aim _ ce];let h1:=Int.mul_ediv_add_emod a m;let h2:=Int.emod_nonneg a (show m≠0 by omega);let h3:=Int.emod_lt_of_pos a (show 0<m by omega);by_cases c:0<=a
 ·have:=Int.ediv_nonneg c (show 0<=m by omega)
  let h4:=Int.ediv_le_self m c;omega
 ·let h5:a / m<0:=Int.ediv_neg_of_neg_of_pos ce ce
  let h6:a<=a / m:=Int.le_ediv_of_mul_le ce (by
   have:=Int.mul_le_mul_of_nonpos_left (a:=a) (b:=m) (c:=1) ce h
   omega)
  omega
def bits_fdiv (h:1<=m)(b:intBits a<=k):intBits (a.fdiv m)<=k:=α7 (aag h) b
def KR {t b:Int}(ht:0<t)(hb:0<b)(h1:t<1073741824)(h2:b<1073741824)(e:H p=some (.tup [.int (low t b).1,.int (low t b).2])):dh K H (.ref p) ((t:Rat) / (b:Rat))/\0<(t:Rat) / (b:Rat)/\Sz 31 ((t:Rat) / (b:Rat)):=by
 rw [kC (LJ hb)] at e;show ⟨wG e,?_,tF (LJ hb) (intBits_le_iff.mpr (by show _<2147483648;omega)) (intBits_le_iff.mpr (by show _<2147483648;omega))⟩;rw [yX];exact Rat.mul_pos (Yd.mpr ht) (Rat.inv_pos.mpr (Yd.mpr hb))
def ahp (hb:0<b)(h:t=1\/b=1):low t b=(t,b):=nR hb (by rcases h with rfl|rfl<;>simp)
structure KU (K:Frag)(H0 H:Hp)(d:AF)(kG:γ)(gV:τ)(Go:Η)(n:Nat):Prop where
 s:ao H0 H
 hd:H d=some (.dK kG)
 nm:yR K H kG (fun x=>(Go x).map qr)
 ks:∀kv∈kG,∃x∈gV.map (·.nm),kv.1=.inr x
 ps:∀x,0<gR Go x/\Sz 31 (gR Go x)
 ll:kG.length<=n
theorem KU.lh (h:KU K H0 H d kG gV Go n)(s:ao H H'):KU K H0 H' d kG gV Go n:=⟨h.s.trans s,s _ _ h.hd,h.nm.lh s,h.ks,h.ps,h.ll⟩
def KU.up (h:KU K H0 H d kG gV Go m)(l:m<=n):KU K H0 H d kG gV Go n:=⟨h.s,h.hd,h.nm,h.ks,h.ps,BJ h.ll l⟩
theorem KU.put (h:KU K H0 H d kG gV Go n)(n0:H0 d=none)(hb:b∈gV)(hv:dh K H v r/\0<r/\Sz 31 r):KU K H0 (upd H d (.dK (putK kG (.inr b.nm) v))) d (putK kG (.inr b.nm) v) gV (fun x=>if x=b.nm then some r else Go x) (n+1):=by
 let hd:=h.hd
 let t6:a9 H (upd H d (.dK (putK kG (.inr b.nm) v))):=fun a zs r=>by
  rcases r with r|⟨o',r⟩
  ·exact .inl (by rw [aj (fun e=>by erw [e,hd] at r)];exact r)
  ·exact .inr ⟨o',by rw [aj (fun e=>by erw [e,hd] at r)];exact r⟩
 show ⟨fun a o z=>?_,ah,?_,aea (fun k:Key=>∃x∈gV.map (·.nm),k=EX x) h.ks ⟨b.nm,AY.mpr ⟨b,hb,rfl⟩,rfl⟩,fun x=>?_,BJ (iJ _ _ _) (ajR h.ll)⟩
 ·rw [aj (ak z n0)]
  exact h.s _ _ z
 ·have:=(h.nm.put (x:=b.nm) (v:=v) (q:=qr r) hv.1).aH t6
  let e:(fun nm=>if nm=b.nm then some (qr r) else (Go nm).map qr)=fun x=>(if x=b.nm then some r else Go x).map qr:=funext fun x=>by
   by_cases c:x=b.nm
   ·rw [ox c,ox c]
    rfl
   ·rw [ni c,ni c]
  rwa [e] at this
 ·show 0<(if x=b.nm then some r else Go x).getD 1/\Sz 31 ((if x=b.nm then some r else Go x).getD 1)
  by_cases c:x=b.nm
  ·rw [ox c]
   exact hv.2
  ·rw [ni c]
   exact h.ps x
def p6:SG 10 6:=⟨dL,dL,dL⟩
def aaP (hk:0<=k/\k<=1000)(hm:1<=(10:Int)^m.toNat)(b:intBits c<=1048576):intBits (oR m c k)<=1048576:=by
 unfold oR;by_cases h:0<=c/\c<(10:Int)^(18:Int).toNat
 ·rw [ox h]
  let e:(10:Int)^(18:Int).toNat=1000000000000000000:=by decide+kernel
  rw [e] at h;exact BJ ((Xr (m:=128)).mpr (show _<340282366920938463463374607431768211456 by omega)) dL
 ·rw [ni h]
  exact bits_fdiv hm b
inductive uF (K:Frag)(vs:η)(H:Hp)(Q:VK)(E_:XK):Prop
|mk (sA bA:AF)(ns:ξ)(ws:η)(pX:ν)(gV:τ)(_:vs=[.ref sA,.ref bA])(_:aR K H sA (ns.map V.int))(_:(∀i∈ns,intBits i<=1048576))(_:H bA=some (.lst ws))(_:Paired (kZ K H pX) ws gV)(_:gV.length<=26)(_:∀(d:AF)(kG:γ)(Go:Η)(H':Hp),H d=none->KU K H H' d kG gV Go 52->Q (.ref d) H')
def dG:av ["_law_script","_law_bars_here","_law_grips_here","_law_k","_law_cell","_law_turn","_law_way"] q5 (ae fF):=sq
def aj_ (D:Def K mg "_law_grips" fF q5)(a_:mg "len"=none)(aV:mg "range"=none)(oQ:mg "int"=none)(kY:ac P w K mg iT 1 "_law_cell_at" Qd (kR K))(gh:ac P w K mg iT 1 "_law_field" Ph gS)(xW:ac P w K mg iT 33 "_law_lowest" TH dO):
  ac P w K mg iT 34 "_law_grips" q5 (uF K):=by
 refine D.oo dG fun H hr h=>?_;obtain ⟨sA,bA,ns,ws,pX,gV,rfl,hS,Rw,hb,pb,lb,q⟩:=h;let L2:2<=AZ:=dL
 let lw:ws.length=gV.length:=GJ pb;let m6:(10:Int)^(6:Int).toNat=1000000:=by decide+kernel
 show ⟨_,(aa (aC 2 dG.nd dw) (aa (ba FF rfl (bB rfl aV (aZ (aU aQ rfl a_ cS (aZ (pv 1))))) (bM 3 dG.nd) (aa (aC 4 dG.nd (aJ kY hr (aE (pv 0) (aw bT af (aw fN (pv 3) af))))) (aa (ba FF rfl (bB rfl aV (aZ (aw kg (pv 3) af))) (bM 5 dG.nd) (ag (aC 4 dG.nd (bg aI (b9 (aE (aw bT (aw bu (pv 4) af) (aw bu af (pv 3))) (aw kg (pv 4) (aw rZ af af)))) (dq vK rfl oQ OG (aZ (Oa (y8 Oi IF af (pv 4) (aw rZ af af))))))))) (aa (aC 6 dG.nd (aJ gh hr (bU (pv 4) af af))) (aa (bF (bO fk (pv 6) af) (ag (dC (bQ hr) (pv 2) (ay (bg aI (pv 1) (pv 3))) (aJ xW hr (aE (aw bT af (aJ gh hr (bU (pv 4) af af))) (aw bT af (aJ gh hr (bU (pv 4) af af))))) rfl)) aX) (ag (bF (PW.pt (N9 (bO fk (pv 6) af) (ah0 (bO fk (aw fN (pv 3) af) af)))) (ag (dC (bQ hr) (pv 2) (ay (bg aI (pv 1) (pv 3))) (aK (aE (aw bT af (aJ gh hr (bU (pv 4) af (aw rZ af af)))) af)) rfl)) aX))))))) (ag (aF (pv 2))))),?_⟩;try dsimp only [uP,j_,Cx.yO,Cx.u9]
 intros d n1 H1 s1 e1;show ⟨_,rfl,bA,_,rfl,.inl (aR.of (s1 _ _ hb)),((ws.length:Nat):Int),rfl,ce,ce,let I:bn:=fun i Y H'=>Ex6 fun (o3 o4 o5 o6:ψ) (kG:γ) (Go:Η)=>Y=[ap sA,ap bA,ap d,o3,o4,o5,o6]/\KU K H H' d kG gV Go (2*i);cL (lo:=0) (n:=((ws.length:Nat):Int).toNat) I ⟨none,none,none,none,[],fun _=>none,rfl,s1,e1,fun nm=>.inl ⟨rfl,rfl⟩,fun kv h=>(nomatch h),fun x=>⟨(by decide:(0:Rat)<1),tG (i:=1) (k:=31) dL dL⟩,D' _⟩ ?_ ?_⟩
 ·rintro i Y H2 hi ⟨o3,o4,o5,o6,kG,Go,rfl,g2⟩
  let ek:(0:Int)+(i:Int)=(i:Int):=Lh _;rw [ek];let zv:i<ws.length:=ce
  let fm:=iS (x:=(i:Int)) (m:=8) dL;show ⟨_,rfl,_,rfl,_,_,rfl,rfl,nz dL,_,_,rfl,rfl,sA,ns,_,rfl,g2.s.seq hS,ce,ce,?_⟩;let cb:=wD Rw (55+(i:Int).fmod 8);generalize cell ns (55+(i:Int).fmod 8)=c at cb ⊢;dsimp only [cy];let d8:VL (i:Int) 8:=⟨dL,by decide+kernel⟩;let n8:0<=(i:Int).fdiv 8/\(i:Int).fdiv 8<=1000:=by rw [aim _ dL];omega
  refine jr (fun Y' H'=>NK fun (c:Int) (o5:ψ)=>Y' =[some (.ref sA),some (.ref bA),some (.ref d),some (.int (i:Int)),some (.int c),o5,o6]/\KU K H H' d kG gV Go (2*i)) (fun Nx Ry=>?_) ?_
  ·show ⟨_,rfl,_,_,rfl,rfl,d8,(i:Int).fdiv 8,rfl,ce,ce,let I:bn:=fun j Y H'=>NK fun (c:Int) (o5:ψ)=>Y=[ap sA,ap bA,ap d,some (.int (i:Int)),some (.int c),o5,o6]/\KU K H H' d kG gV Go (2*i)/\intBits c<=1048576;cL (lo:=0) (n:=((i:Int).fdiv 8).toNat) I ⟨c,o5,rfl,g2,cb⟩ ?_ ?_⟩
   ·rintro j Y H3 hj ⟨c,o5,rfl,g3,cb⟩
    show ⟨_,rfl,_,_,rfl,rfl,⟨BJ cb dL,by decide+kernel⟩,_,rfl,_,_,rfl,rfl,⟨by decide+kernel,BJ (X0 ce ce) dL⟩,_,_,rfl,rfl,_,rfl,_,_,rfl,rfl,p18,_,_,rfl,rfl,⟨dL,by decide+kernel⟩,L2,?_⟩;intros t4 n4 H4 s4 e4;let nx:=aaP (m:=18) (k:=i) ce (by decide+kernel) cb;show ⟨_,rfl,_,_,rfl,rfl,_,rfl,?_⟩;refine bG (fun z=>?_) (fun z=>?_)
    ·show ⟨_,_,rfl,rfl,p18,_,_,rfl,rfl,_,rfl,.inr ⟨_,rfl,?_⟩⟩
     show ⟨t4,_,_,_,rfl,rfl,aR.of e4,ahf (Lc z),_,_,rfl,g3.lh s4,nx⟩
    ·show ⟨_,rfl,.inr ⟨_,rfl,?_⟩⟩
     show ⟨t4,_,_,_,rfl,rfl,aR.of e4,ahe (of_decide_eq_false (SO.mpr z)),_,_,rfl,g3.lh s4,nx⟩
   ·rintro Y H3 ⟨c,o5,rfl,g3,_⟩
    exact Ry _ _ ⟨c,o5,rfl,g3⟩
  clear cb;clear g2;rintro Y' H2 ⟨c,o5,rfl,g2⟩;show ⟨_,rfl,_,_,_,rfl,dL,dL,dL,?_⟩;generalize field c 1009 3=way;let i1:=bV (c:=c) (p:=2003) (m:=9) dL;let i2:=bV (c:=c) (p:=3001) (m:=3) dL;let i3:=bV (c:=c) (p:=1000003) (m:=1000000) dL;obtain ⟨b,eb,vq⟩:=aG pb (gE zv);let mb:b∈gV:=DW eb;obtain ⟨ta,j1,j2,eu,h1,_⟩:=vq;let ai:i7 ws (i:Int)=some (.ref ta):=bq (by rw [gE zv,eu]);dsimp only;refine jr (fun Y' H'=>NK fun (kG:γ) (Go:Η)=>Y' =[some (.ref sA),some (.ref bA),some (.ref d),some (.int (i:Int)),some (.int c),o5,some (.int way)]/\KU K H H' d kG gV Go (2*i+1)) (fun Nx Ry=>?_) ?_
  ·show ⟨_,rfl,rfl,_,rfl,?_⟩
   refine bG (fun _=>?_) (fun _=>?_)
   ·show ⟨_,rfl,_,_,_,rfl,dL,dL,dL,_,_,rfl,rfl,_,rfl,_,_,_,rfl,dL,dL,dL,_,_,rfl,rfl,_,_,rfl,ce,fun p4 H4 s4 e4=>?_⟩
    let g5:=g2.lh s4;show ⟨_,rfl,_,rfl,_,rfl,bA,_,_,_,rfl,rfl,aR.of (g5.s _ _ hb),ai,ta,_,_,_,rfl,rfl,Ty.ao.bZ g5.s h1,cU,d,_,rfl,je.k (k:=.inr b.nm) g5.hd (FX (show kG.length<=1000 by have:=g5.ll;omega) dL),Ry _ _ ⟨_,_,rfl,g5.put n1 mb (KR ce ce ce ce e4)⟩⟩
   ·exact Ry _ _ ⟨kG,Go,rfl,g2.up ce⟩
  rintro Y' H3 ⟨kG,Go,rfl,g3⟩;show ⟨_,rfl,rfl,_,rfl,?_⟩;refine bG (fun cw=>?_) (fun _=>?_)
  ·show ⟨_,rfl,_,_,rfl,rfl,nz dL,rfl,_,rfl,?_⟩
   refine bG (fun _=>?_) (fun _=>?_)
   ·show ⟨_,rfl,_,_,rfl,rfl,p6,_,_,_,rfl,dL,dL,dL,_,_,rfl,rfl,L2,?_⟩
    intros p4 n4 H4 s4 e4;let g5:=g3.lh s4;rw [m6] at e4;show ⟨_,rfl,_,rfl,_,rfl,bA,_,_,_,rfl,rfl,aR.of (g5.s _ _ hb),ai,ta,_,_,_,rfl,rfl,Ty.ao.bZ g5.s h1,cU,d,_,rfl,je.k (k:=.inr b.nm) g5.hd (FX (show kG.length<=1000 by have:=g5.ll;omega) dL),_,_,_,_,_,_,rfl,(g5.put n1 mb (KR (t:=1+field c 1000003 1000000) (b:=1) ce ce ce ce (by rwa [ahp dL (.inr rfl)]))).up ce⟩
   ·show ⟨_,_,_,_,_,_,rfl,g3.up ce⟩
  ·exact Xb ⟨_,_,_,_,_,_,rfl,g3.up ce⟩
 ·rintro Y H2 ⟨o3,o4,o5,o6,kG,Go,rfl,g2⟩
  show ⟨_,rfl,q d kG Go H2 n1 (g2.up ce)⟩
def adn:Om K (.type "tuple") (.type "tuple")=some true:=by unfold Om;rw [ox dL]
def aka:Om K (.type "dict") (.type "dict")=some true:=by unfold Om;rw [ox dL]
theorem uG :∀ws:List Str,js K H (ws.map fun w=>Da.v (.str w)) (ws.map V.str)
 | []=>by unfold js;trivial
 | w::ws=>by
  rw [DV,DV];unfold js;show ⟨?_,uG ws⟩;unfold Is;show ⟨rfl,rfl⟩
theorem KW:∀ws:List Str,cO (ws.map fun w=>Da.v (.str w)) (ws.map fun w=>Da.v (.str w))=true
 | []=>by simp [cO]
 | w::ws=>by
  rw [DV];unfold cO;rw [KW ws];simp [iH,nK]
theorem KY:∀ws:List Str,dW (ws.map fun w=>Da.v (.str w)) (ws.map fun w=>Da.v (.str w))=true
 | []=>by simp [dW]
 | w::ws=>by
  rw [DV];unfold dW;rw [KY ws];simp [alike]
theorem ahd:∀ws:List Str,jy (ws.map fun w=>Da.v (.str w))<=60
 | []=>by simp [jy]
 | w::ws=>by
  rw [DV];unfold jy;have:=ahd ws;simp only [dep];omega
def KZ {ws:ς}(e1:H p=some (.lst (ws.map V.str)))(e2:H p2=some (.lst (ws.map V.str)))(q:Q (.bl false) H):IW K (.ref p) (.ref p2) H Q:=by
 show ⟨ws.map fun w=>Da.v (.str w),ws.map fun w=>Da.v (.str w),.inr ⟨?_,?_⟩,KY ws,ahd ws,by rwa [KW]⟩
 ·unfold Is
  show ⟨p,_,rfl,aR.of e1,uG ws⟩
 ·unfold Is
  show ⟨p2,_,rfl,aR.of e2,uG ws⟩
def ahc {us:η}{nm:Z->Str}{ph:L2.St}(n1:H D1=none)(ha:H a=some (.lst us))(pr:Paired (fun u z=>∃c ys,u=.ref c/\bE K H c (.str (nm z)::ys)) us zs)(l:zs.length<=1000)(k:∀H',ao H H' ->H' D1=some (.lst ((zs.map nm).map V.str))->R (.ref D1) H'):
  mK D1 (cy 0) jV (SD (Ow K) (Su 0) (tC (V.int 0))) (Sx K a) (none::ph) H R:=by
 let lu:us.length=zs.length:=GJ pr;refine fY (K:=K) (a:=a) (xs:=us) (fun i v _=>∃z,zs[i]?=some z/\v=.str (nm z)) n1 (by rw [lu];exact FX l dL) (fun H2 s2=>aR.of (s2 _ _ ha)) (fun _ _ _ _ _ _ _ h=>h) ?_ ?_
 ·intro i u H2 R hu s2 k
  obtain ⟨z,ez,c,ys,rfl,h1⟩:=aG pr hu;show ⟨_,rfl,c,_,_,_,rfl,rfl,Ty.ao.bZ s2 h1,cU,k _ _ (ao.refl _) ⟨z,ez,rfl⟩⟩
 ·intro ys H2 hy jC s2 hD
  refine k H2 s2 ?_;rw [hD];congr 2;refine OC fun i=>?_;rw [EB,Wp];by_cases c:i<ys.length
  ·obtain ⟨p,e1,e2⟩:=jC i ys[i] (gE c)
   rw [gE c,e1,e2];rfl
  ·rw [FJ ce,FJ ce]
   rfl
def tu {Z:Type}{nm:Z->Str}{kM:γ}{zs:List Z}(h:kM.map (·.1)=zs.map (fun p=>(EX (nm p):Key))):(kM.map fun kv=>kV kv.1)=(zs.map nm).map V.str:=by
 have:(kM.map fun kv=>kV kv.1)=(kM.map (·.1)).map kV:=by rw [EB];rfl
 rw [this,h,EB,EB];rfl
def aa' {us:η}{pX:ν}(h:Paired (jq K H) us pX):Paired (fun u (z:aA)=>∃c ys,u=.ref c/\bE K H c (.str z.nm::ys)) us pX:=Paired.cV h fun _ _ ⟨a,l,s,us,e,h1,_,_,_⟩=>⟨a,_,e,h1⟩
def abo {us:η}{gV:τ}(h:Paired (kZ K H pX) us gV):Paired (fun u (z:aL)=>∃c ys,u=.ref c/\bE K H c (.str z.nm::ys)) us gV:=Paired.cV h fun _ _ ⟨a,i,j,e,h1,_,_⟩=>⟨a,_,e,h1⟩
def agk {ys:η}(h:∀(i:Nat)(v:V),ys[i]?=some v->v=.bl true):∃bs:List Bool,ys=bs.map V.bl/\bs.all id=true:=by
 induction ys with
 | nil=>show ⟨[],rfl,rfl⟩
 | cons y ys ih=>
  obtain ⟨bs,e,h2⟩:=ih fun i v e=>h (i+1) v (by simpa using e);show ⟨true::bs,by rw [h 0 y rfl,e];rfl,by simp [h2]⟩
inductive uH (K:Frag)(vs:η)(H:Hp)(Q:VK)(E_:XK):Prop
|mk (pA dM:AF)(us:η)(pX:ν)(kM:γ)(M:υ)(N:Nat)(_:vs=[.ref pA,.ref dM])(_:H pA=some (.lst us))(_:Paired (jq K H) us pX)(_:oK pX)(_:pX.length<=100)(_:Rx K H pX dM kM M N)(_:(∀p∈pX,∀w∈p.ws,dt w (M p.nm)=0))(_:∀H',ao H H' ->Q (.bl true) H')
def iD:av ["_law_pins_here","_law_motion","_law_moved"] SH (ae cA):=sq
def zv2 (D:Def K mg "_law_moves_right" cA SH)(bN:mg "isinstance"=none)(qg:mg "dict"=none)(cZ:mg "list"=none)(gU:mg "tuple"=none)(a_:mg "len"=none)(QM:mg "all"=none)(Ub:ac P w K mg iT 34 "_law_number" XJ (oP K))(akb:ac P w K mg iT 3 "_law_keeps" SH (x9 K)):
  ac P w K mg iT 35 "_law_moves_right" SH (uH K):=by
 refine D.oo iD fun H hr h=>?_;obtain ⟨pA,dM,us,pX,kM,M,N,rfl,hp,pp,gp,lp,mo,ke,q⟩:=h
 let np:(kM.map (·.1)).Nodup:=by
  have:=acs gp.np;rw [EB] at this;rw [mo.keys];exact this
 show ⟨_,(aa (bF (PW.pt (j0 (iU (fg (aU km rfl bN d6 (aE (pv 1) (vV rfl qg zaH))))) (jZ (bO (xb hr.units) (dq (iq rfl) rfl cZ mJ (aZ (pv 1))) (fe (tn:=["_law_pin"]) (fr:=[]) (oV:=[]) (bh (pv 0)) (bg (dQ (K:=K) rfl) (pv 0) af)))))) (ag (aF mf)) aX) (aa (jA (ba FF rfl (agn (pv 1)) (bM 2 iD.nd) (ag (bF (PW.pt (j0 (iU (fg (aU km rfl bN d6 (aE (pv 2) (vV rfl gU xc))))) (j0 (bO nE (aU aQ rfl a_ cS (aZ (pv 2))) af) (jZ (iU (fg (aU (acr rfl) rfl QM aar (aZ (fe (tn:=Qf) (fr:=[]) (oV:=[]) (Oe (pv 2)) (tK Ub hr (aZ (pv 0)))))))))))) (ag (aF mf)) aX)))) (ag (aF (aJ akb hr (aE (pv 0) (pv 1))))))),?_⟩;sleep 2
 show ⟨_,rfl,_,_,_,true,rfl,rfl,.dK mo.hM,aka,_,rfl,bG (fun c=>nomatch c) (fun _=>?_)⟩;show ⟨_,rfl,dM,_,rfl,.inl mo.hM,?_⟩;intros l1 n1 H1 s1 e1;rw [tu (nm:=aA.nm) mo.keys] at e1;let pp1:Paired (jq K H1) us pX:=Paired.cV pp fun _ _ z=>z.lh s1;show ⟨_,rfl,pA,rfl,⟨_,aR.of (s1 _ _ hp)⟩,fun D2 n2=>?_⟩;refine ahc (nm:=aA.nm) n2 (s1 _ _ hp) (aa' pp1) ce fun H2 s2 e2=>?_;refine KZ (s2 _ _ e1) e2 ?_;show ⟨_,rfl,bG (fun c=>nomatch c) (fun _=>?_)⟩;let qe:=s1.trans s2;let mo2:=mo.lh qe;let hd2:=mo2.hM
 let st:∀{H':Hp},bL dM H2 H' ->a9 H2 H':=fun {H'} k b xs r=>by
  rcases r with r|⟨o',r⟩
  ·exact .inl (k _ _ (fun e=>by erw [e,hd2] at r) r)
  ·exact .inr ⟨o',k _ _ (fun e=>by erw [e,hd2] at r) r⟩
 show ⟨_,rfl,dM,kM,rfl,hd2,fun o=>?_⟩;let k0:bL dM H2 (upd H2 dM (.eQ o (.dK kM))):=fun b o' n e=>by rwa [aj n]
 refine let I:bn:=fun i Y H'=>∃(o2:ψ),Y=[ap pA,ap dM,o2]/\bL dM H2 H'/\H' dM=some (.eQ o (.dK kM));agh (d:=dM) (o:=o) (AA:=kM) I ⟨none,rfl,k0,ah⟩ (fun i Y H' _ h=>by
   obtain ⟨_,_,_,h⟩:=h
   exact h) ?_ ?_
 ·rintro i k v Y H6 tR ⟨o2,rfl,k6,AL⟩
  obtain ⟨p,mp,ek⟩:=AY.mp (show k∈pX.map (fun p=>(EX p.nm:Key)) by rw [<-mo.keys];exact AY.mpr ⟨_,DW tR,rfl⟩);obtain ⟨t,v1,v2,vt,et,m1,m2⟩:=mo2.tM p mp;erw [ek,jD np tR] at vt;let et6:H6 t=some (.tup [v1,v2]):=k6 _ _ (fun e=>by erw [e,hd2] at et) et;let r1:=m1.aH (st k6);let r2:=m2.aH (st k6);show ⟨_,rfl,_,_,_,true,rfl,rfl,.tup et6,adn,_,rfl,bG (fun c=>nomatch c) (fun _=>?_)⟩;show ⟨_,rfl,t,_,rfl,.inr (bE.of et6),rfl,_,rfl,IU rfl ?_⟩;show ⟨_,rfl,t,rfl,⟨_,bE.of et6⟩,fun D7 n7=>?_⟩;refine zan (ph:=[]) (K:=K) (a:=t) (xs:=[v1,v2]) (fun _ v _=>v=.bl true) n7 (by show 2<AZ;decide) (fun H7 s7=>bE.of (s7 _ _ et6)) (fun _ _ _ _ _ _ _ h=>h) ?_ ?_
  ·intro j u H7 R hu s7 kk
   let nu:∃r,dh K H7 u r:=by
    rcases j with _|_|j
    ·cases hu
     show ⟨_,r1.lh s7⟩
    ·cases hu
     show ⟨_,r2.lh s7⟩
    ·cases hu
   obtain ⟨r,nu⟩:=nu;show ⟨_,rfl,u,r,rfl,nu,fun H8 s8=>kk _ _ s8 rfl⟩
  ·intro ys H7 hy jC s7 hD
   obtain ⟨bs,eb,ea⟩:=agk jC;show ⟨D7,bs,rfl,by rw [<-eb];exact aR.of hD,?_⟩;rw [ea];show ⟨_,rfl,bG (fun c=>nomatch c) (fun _=>?_)⟩;show ⟨_,rfl,fun b o' n e=>s7 _ _ (k6 b o' n e),s7 _ _ AL⟩
 ·rintro Y H6 ⟨o2,rfl,k6,AL⟩
  show ⟨dM,o,kM,AL,fun o' u' z=>(by have z':H dM=some (.eQ o' u'):=z;erw [mo.hM] at z'),?_⟩
  let s3:ao H2 (upd H6 dM (.dK kM)):=fun b o' e=>by
   by_cases n:b=dM
   ·subst n
    rw [hd2] at e;rwa [ah]
   ·rw [aj n]
    exact k6 b o' n e
  generalize upd H6 dM (.dK kM)=H8 at s3 ⊢;let DO:=qe.trans s3;show ⟨_,rfl,_,rfl,pA,dM,us,pX,kM,M,N,rfl,DO _ _ hp,Paired.cV pp fun _ _ z=>z.lh DO,gp,mo.lh DO,ke,fun H9 s9=>q _ (DO.trans s9)⟩
def vv (gV:τ)(b:aL)(f:aL->Rat):Rat:=((gV.filter (bC b)).map f).sum
def wH {gV:τ}(e:gV[i]?=some c):vv (gV.take (i+1)) b f=vv (gV.take i) b f+(if bC b c=true then f c else 0):=by
 unfold vv;rw [take_snoc e,aij,GV,Xw];by_cases h:bC b c=true
 ·rw [ox h,WS,ox h]
  simp [Ua]
 ·rw [ni h,WS,ni h]
  simp
theorem ahX {Z:Type}{f:Z->Rat}:∀{l:List Z},(∀x∈l,0<f x)->0<=(l.map f).sum/\(l≠[]->0<(l.map f).sum)
 | [],_=>⟨by simp,fun h=>DZ rfl h⟩
 | x::l,h=>by
  let h1:=h x GG;let h2:=(ahX (l:=l) fun y hy=>h y (F' _ hy)).1;rw [DV,GN];have:0<f x+(l.map f).sum:=by grind
  show ⟨by grind,fun _=>this⟩
def adD (b:aL):bC b b=true:=La (.inl ⟨rfl,rfl⟩)
def K_ (hb:b∈gV)(h:∀c,0<f c):0<vv gV b f:=(ahX fun x _=>h x).2 fun e=>by
 have:b∈gV.filter (bC b):=QO.mpr ⟨hb,adD b⟩;erw [e] at this
def ahi (h:0<q.2)(v:0<vl q):0<q.1:=by
 let e:vl q*((q.2:Int):Rat)=((q.1:Int):Rat):=by
  unfold vl;have:=cz (LJ h);grind
 let p:(0:Rat)<((q.2:Int):Rat):=Yd.mpr h;have:=Rat.mul_pos v p;rw [e] at this;exact Yd.mp this
def yc (gV:τ)(b:aL)(T:Μ)(Go:Η):Rat:=vv gV b (fun c=>T c.nm)*gR Go b.nm*(1 / vv gV b fun c=>gR Go c.nm)
inductive uI (K:Frag)(vs:η)(H:Hp)(Q:VK)(E_:XK):Prop
|mk (bA tA gA:AF)(u:V)(ws:η)(kT kG:γ)(pX:ν)(gV:τ)(b:aL)(T:Μ)(Go:Η)(_:vs=[.ref bA,u,.ref tA,.ref gA])(_:H bA=some (.lst ws))(_:Paired (kZ K H pX) ws gV)(_:(pX.map (·.nm)).Nodup)(_:gV.length<=26)(_:kZ K H pX u b)(_:b∈gV)(_:DQ H tA kT (·.nm) gV (fun H v b=>dh K H v (T b.nm)))(_:(∀b∈gV,Sz 11 (T b.nm)))(_:H gA=some (.dK kG))(_:yR K H kG (fun x=>(Go x).map qr))(_:(∀x,0<gR Go x/\Sz 31 (gR Go x)))(_:∀(v:V)(H':Hp),ao H H' ->g_ K H' v 1300 (yc gV b T Go)->Q v H')
def c_:av ["_law_bars_here","_law_bar","_law_pulls","_law_grips_here","_law_total","_law_firm","_law_other","_law_part"] sZ (ae eI):=sq
def aky (D:Def K mg "_law_shared" eI sZ)(akc:ac P w K mg iT 1 "_law_alike" XF (uD K))(jX:ac P w K mg iT 1 "_law_sum" LG (bw K gC))(qj:ac P w K mg iT 1 "_law_times" LG (bw K i5)):
  ac P w K mg iT 2 "_law_shared" sZ (uI K):=by
 refine D.op c_ fun f cF A mB s H vs Q E hr h=>?_;obtain ⟨bA,tA,gA,u,ws,kT,kG,pX,gV,b,T,Go,rfl,hb,pb,np,lb,hu,mb,dT,zT,hg,ng,pg,q⟩:=h;let L2:2<=AZ:=dL
 let lw:ws.length=gV.length:=GJ pb
 let ado:∀{H2 H3:Hp} {p3:AF} (x:Str),ao H H2->ao H2 H3->H3 p3=some (.tup [.int 1,.int 1])->g_ K H3 ((bI kG (.inr x)).getD (.ref p3)) 31 (gR Go x):=fun {H2 H3 p3} x s2 s3 e3=>by
  let gk:iY K H3 ((bI kG (.inr x)).getD (.ref p3)) (qr (gR Go x)):=by
   rw [<-iR];exact (ng.lh (s2.trans s3)).zR (x:=x) (v:=.ref p3) (q:=(1,1)) ⟨p3,rfl,bE.of e3⟩
  exact cv gk (eR (pg x).2 (D' _))
 show ⟨_,(aa (aC 4 c_.nd (aK (aE af af))) (aa (aC 5 c_.nd (aK (aE af af))) (aa (ba FF rfl (bh (pv 0)) (bM 6 c_.nd) (ag (bF (fg (aJ akc hr (aE (pv 1) (pv 6)))) (aa (aC 4 c_.nd (aJ jX hr (aE (pv 4) (dR (bQ hr) (pv 2) (ay (pv 6)) (fun _ _=>rfl))))) (ag (aC 5 c_.nd (aJ jX hr (aE (pv 5) (gm (bQ hr) (pv 3) (ay (pv 6)) (aK (aE af af)) ⟨rfl,rfl,rfl,rfl⟩)))))) aX))) (aa (aC 7 c_.nd (aJ qj hr (aE (pv 4) (gm (bQ hr) (pv 3) (ay (pv 1)) (aK (aE af af)) ⟨rfl,rfl,rfl,rfl⟩)))) (ag (aF (aJ qj hr (aE (pv 7) (aK (aE (ay (pv 5)) (ay (pv 5)))))))))))),?_⟩;try dsimp only [uP,j_,Cx.yO,Cx.u9]
 show ⟨L2,?_⟩;intros t1 n1 H1 s1 e1;show ⟨L2,?_⟩;intros t2 n2 H2 s2 e2;let z0:∀{t:AF} {H':Hp},H' t=some (.tup [.int 0,.int 1])->g_ K H' (.ref t) 1 0:=fun {t H'} e=>⟨(0,1),⟨t,rfl,bE.of e⟩,dL,(show vl ((0,1):Int×Int)=0 by decide+kernel),dL,dL⟩;let qe:=s1.trans s2
 show ⟨_,rfl,bA,rfl,⟨_,aR.of (qe _ _ hb)⟩,bP (K:=K) (a:=bA) (xs:=ws) (fun i Y H'=>JS fun (tv fv:V) (o6:ψ)=>Y=[ap bA,some u,ap tA,ap gA,some tv,some fv,o6,none]/\ao H H'/\g_ K H' tv (1+i*12) (vv (gV.take i) b fun c=>T c.nm)/\g_ K H' fv (1+i*32) (vv (gV.take i) b fun c=>gR Go c.nm)) ⟨.ref t1,.ref t2,none,rfl,qe,z0 (s2 _ _ e1),z0 e2⟩ (fun i Y H' _ h=>by
   obtain ⟨_,_,_,_,s,_⟩:=h
   exact aR.of (s _ _ hb)) ?_ ?_⟩
 ·rintro i uo Y H3 huo ⟨tv,fv,o6,rfl,s3,nt,nf⟩
  let hi:=(be.mp huo).1;obtain ⟨c,ec,vq⟩:=aG pb huo;let mc:c∈gV:=DW ec;obtain ⟨ta,j1,j2,euo,h1,_⟩:=id vq;rw [wH ec,wH ec];show ⟨_,rfl,_,rfl,u,uo,pX,b,c,rfl,np,hu.lh s3,vq.lh s3,fun H4 s4=>?_⟩;subst euo;let uC:=s3.trans s4;show ⟨_,rfl,bG (fun z=>?_) fun z=>?_⟩
  ·rw [ox z,ox z]
   obtain ⟨pv,dg,ZH⟩:=(dT.lh (fun _ _ z=>z.lh uC) uC).get mc;show ⟨_,rfl,_,rfl,_,rfl,ta,_,_,_,rfl,rfl,Ty.ao.bZ uC h1,cU,tA,pv,rfl,dg,?_⟩;show bw K gC [_,_] _ _ E0;refine gi (nt.lh s4) (cv ZH (eR (zT c mc) (D' _))) ce fun p5 H5 s5 n5=>?_;let FI:=uC.trans s5;show ⟨_,rfl,_,rfl,gA,rfl,.inl ⟨_,.inl (FI _ _ hg)⟩,_,rfl,ta,_,_,_,rfl,rfl,Ty.ao.bZ FI h1,cU,L2,?_⟩;intros p6 n6 H6 s6 e6;show ⟨_,cW.k (k:=.inr c.nm) (s6 _ _ (FI _ _ hg)),?_⟩;let gz:=ado c.nm FI s6 e6;show bw K gC [_,_] _ _ E0;let AM:=s4.trans (s5.trans s6);refine gi (nf.lh AM) gz ce fun p7 H7 s7 n7=>?_;show ⟨_,_,_,rfl,s3.trans (AM.trans s7),(n5.lh (s6.trans s7)).up ce,n7.up ce⟩
  ·rw [ni z,ni z,Ua,Ua]
   show ⟨_,_,_,rfl,uC,(nt.lh s4).up ce,(nf.lh s4).up ce⟩
 ·rintro Y H3 ⟨tv,fv,o6,rfl,s3,nt,nf⟩
  rw [lw,Lq] at nt nf;obtain ⟨ta,j1,j2,eu,h1,_⟩:=id hu;subst eu;show ⟨_,rfl,_,rfl,gA,rfl,.inl ⟨_,.inl (s3 _ _ hg)⟩,_,rfl,ta,_,_,_,rfl,rfl,Ty.ao.bZ s3 h1,cU,L2,?_⟩;intros p6 n6 H6 s6 e6;show ⟨_,cW.k (k:=.inr b.nm) (s6 _ _ (s3 _ _ hg)),?_⟩;let gz:=ado b.nm s3 s6 e6;show bw K i5 [_,_] _ _ E0;refine gT ((nt.lh s6).up (show _<=313 by omega)) gz ce fun p7 H7 s7 n7=>?_;let fp:=K_ (f:=fun c=>gR Go c.nm) mb fun c=>(pg c.nm).1;obtain ⟨fq,⟨fa,rfl,hfa⟩,f2,fv,fz⟩:=((nf.lh s6).lh s7).up (show _<=833 by omega);rw [<-fv] at fp;let f1:=ahi f2 fp;show ⟨_,rfl,_,rfl,fa,_,_,_,rfl,rfl,hfa,gL,_,rfl,fa,_,_,_,rfl,rfl,hfa,iF,L2,?_⟩;intros p8 n8 H8 s8 e8
  let n8':g_ K H8 (.ref p8) 833 (1 / vv gV b fun c=>gR Go c.nm):=⟨(fq.2,fq.1),⟨p8,rfl,bE.of e8⟩,f1,by
   rw [<-fv];unfold vl;let a1:=cz (LJ f1);let a2:=cz (LJ f2)
   grind,fz.bot,fz.top⟩
  show bw K i5 [_,_] _ _ E0;refine gT (n7.lh s8) n8' ce fun p9 H9 s9 n9=>?_;exact q _ _ (s3.trans (s6.trans (s7.trans (s8.trans s9)))) (n9.up ce)
def qN (x y:Int×Int):Int×Int:=low (x.1*y.2) (x.2*y.1)
inductive yd (K:Frag)(vs:η)(H:Hp)(Q:VK)(E_:XK):Prop
|mk (u v:V)(x y:Int×Int)(_:vs=[u,v])(_:iY K H u x)(_:iY K H v y)(_:oj 70000 x)(_:oj 70000 y)(_:y.1≠0)(_:gives H Q (qN x y))
def zaQ:av EN EN (ae cY):=sq
def zaN (hM:sH CX)(D:Def K mg "quotient_of" cY EN)(tS:Fn P w K mg iT CX 33 "lowest_terms" QS fG):Fn P w K mg iT CX 34 "quotient_of" EN (yd K):=by
 refine D.op zaQ fun f cF A mB s H vs Q E hr h=>?_;obtain ⟨u,v,x,y,rfl,⟨p1,rfl,h1⟩,⟨p2,rfl,h2⟩,k1,k2,n,q⟩:=h;let px:=mi (X:=j_ CX P w K mg iT EN "quotient_of" (ae cY) f cF A mB s H E) hM
 show ⟨_,(aa (bF (bO fk (ay (pv 1)) af) (ag (dm)) aX) (ag (aF (kq tS hr.mo px (aE (aw bu (ay (pv 0)) (ay (pv 1))) (aw bu (ay (pv 0)) (ay (pv 1)))))))),?_⟩
 let b1:=k1.top;let b2:=k1.bot;let b3:=k2.top;let b4:=k2.bot;let c:∀{i j:Int},intBits i<=70000->intBits j<=70000->nX i j:=fun a b=>⟨BJ a dL,BJ b dL⟩;show ⟨_,rfl,p2,_,_,_,rfl,rfl,h2,iF,rfl,_,rfl,?_⟩;refine bG (fun z=>?_) (fun z=>?_)
 ·let z':y.1=0:=by
   have:=Lc z;simpa using this
  exact DZ z' n
 ·show ⟨_,rfl,p1,_,_,_,rfl,rfl,h1,iF,_,rfl,p2,_,_,_,rfl,rfl,h2,gL,_,_,rfl,rfl,c b1 b4,_,rfl,p1,_,_,_,rfl,rfl,h1,gL,_,rfl,p2,_,_,_,rfl,rfl,h2,iF,_,_,rfl,rfl,c b2 b3,_,_,rfl,Xx (LJ k1.pos) n,q⟩
def bits_add (ha:intBits a<=k)(hb:intBits b<=k):intBits (a+b)<=k+1:=by
 rw [Xr] at ha hb ⊢;have:=TV a b;rw [Tb];omega
def oj.up (h:oj k q)(kl:k<=l):oj l q:=⟨h.pos,BJ h.top kl,BJ h.bot kl⟩
def ye (hx:oj k x)(hy:oj l y):oj (k+l) (mulQ x y):=
 tN (om hx hy) (M_ hx.top hy.top) (M_ hx.bot hy.bot)
def ahW (hx:oj k x)(hy:oj l y)(n:y.1≠0):oj (k+l) (qN x y):=
 tN (Xx (LJ hx.pos) n) (M_ hx.top hy.bot) (M_ hx.bot hy.top)
def ahV (hx:oj k x)(hy:oj l y):oj (k+l+1) (addQ x y):=
 tN (om hx hy) (bits_add (M_ hx.top hy.bot) (by rw [YG];exact M_ hy.top hx.bot)) (ais (M_ hx.bot hy.bot))
def qk {q:Int×Int}(h:0<q.2):(q.2:Rat)≠0:=by
 intro e;have:q.2=0:=by exact_mod_cast e
 omega
def ahK (hx:0<x.2)(hy:0<y.2):vl (addQ x y)=vl x+vl y:=by
 unfold addQ;rw [mL (LJ (Oo hx hy))];have:=qk hx;have:=qk hy;unfold vl;push_cast;grind
def ah' (hx:0<x.2)(hy:0<y.2):vl (mulQ x y)=vl x*vl y:=by
 unfold mulQ;rw [mL (LJ (Oo hx hy))];have:=qk hx;have:=qk hy;unfold vl;push_cast;grind
def ahA (hx:0<x.2)(hy:0<y.2)(n:y.1≠0):vl (qN x y)=vl x / vl y:=by
 unfold qN;rw [mL (Xx (LJ hx) n)];have:=qk hx;have:=qk hy;have:(y.1:Rat)≠0:=by intro e;exact n (by exact_mod_cast e)
 unfold vl;push_cast;grind
def stQ (G Pl:ω)(x:Str):Int×Int:=qN (mulQ (fi Pl x) (fi Pl x)) (fS G x)
def my (G Pl:ω)(xs:ς):Int×Int:=xs.foldl (fun acc x=>addQ acc (stQ G Pl x)) (0,1)
structure m7 (G Pl:ω):Prop where
 g:∀x,oj 40 (fS G x)
 gp:∀x,0<(fS G x).1
 p:∀x,oj 1301 (fi Pl x)
def m7.st (h:m7 G Pl)(x:Str):oj 2642 (stQ G Pl x):=ahW (ye (h.p x) (h.p x)) (h.g x) (LJ (h.gp x))
def m_ :my G Pl (xs++[x])=addQ (my G Pl xs) (stQ G Pl x):=by
 unfold my;rw [ajA];rfl
def QN:oj 1 (0,1):=⟨dL,dL,dL⟩
def m7.sum (h:m7 G Pl):∀(n:Nat)(xs:ς),xs.length=n->oj (2643*n+1) (my G Pl xs):=by
 intro n
 induction n with
 | zero=>
  intro xs e;obtain rfl:=Uh.mp e;exact QN
 | succ n ih=>
  intro xs e;let ne:xs≠[]:=by intro z;subst z;cases e
  let e1:xs=xs.dropLast++[xs.getLast ne]:=(ah3 ne).symm;rw [e1,m_];have:=ahV (ih xs.dropLast (by rw [ajd];omega)) (h.st (xs.getLast ne));exact this.up ce
theorem uL {F:V->Str->Prop}:∀{kf:γ} {xs:ς},Paired (fun (kv:Key×V) x=>kv.1=.inr x/\F kv.2 x) kf xs->kf.map (·.1)=xs.map EX
 | _,_,.nil=>rfl
 | _,_,.cons h t=>by rw [DV,DV,h.1,uL t]
def agj {F:V->Str->Prop}{kf:γ}{xs:ς}(h:Paired (fun (kv:Key×V) x=>kv.1=.inr x/\F kv.2 x) kf xs)(hx:x∈xs)(nd:xs.Nodup):∃v,bI kf (.inr x)=some v/\F v x:=by
 obtain ⟨i,ei⟩:=FZ hx;let hi:=(be.mp ei).1;let lk:=GJ h;obtain ⟨x',ex,e1,e2⟩:=aG h (gE (show i<kf.length by omega));rw [ei] at ex;obtain rfl:=GU ex
 let nk:(kf.map (·.1)).Nodup:=by
  rw [uL h];exact Yj _ (fun a b n z=>n (by injection z)) nd
 show ⟨_,jD nk (show kf[i]?=some (.inr x,kf[i].2) by rw [gE ce,<-e1]),e2⟩
inductive uM (K:Frag)(C:AF)(vs:η)(H:Hp)(Q:VK)(E_:XK):Prop
|mk (a dx pP pW pB d e:AF)(ps:Θ)(bs:Α)(kP kW kB AA kus:γ)(G Pl:ω)(_:vs=[.ref a,.ref d,.ref e])(_:gX K H C a dx pP pW pB ps bs kP kW kB)(_:H d=some (.dK AA))(_:yR K H AA G)(_:H e=some (.dK kus))(_:yR K H kus Pl)(_:(∀kv∈AA,∃x∈bs.map (·.1),kv.1=.inr x))(_:bs.length<=26)(_:(bs.map (·.1)).Nodup)(_:m7 G Pl)(_:gives H Q (qN (my G Pl (bs.map (·.1))) (2,1)))
def eK:av ["F","grips","pulls","firm","twice","bar","pull"] ve (ae fu):=sq
def ajW (hN:∀H:Hp,bE K H aN [.int 0,.int 1])(kF:mg "NOUGHT"=some (.ref aN))(D:Def K mg "stored_of" fu ve)(MB:am P w K mg iT 1 C "bars" LH (jF K C))
  (kN:ac P w K mg iT 3 "all_grips" XY (jJ K C)) (kI:ac P w K mg iT 34 "sum_of" EN (jE K addQ)) (cI:ac P w K mg iT 34 "product_of" EN (jE K mulQ))
  (mz:ac P w K mg iT 34 "quotient_of" EN (yd K)):ac P w K mg iT 35 "stored_of" ve (uM K C):=by
 refine D.oo eK fun H hr h=>?_;obtain ⟨a,dx,pP,pW,pB,d,e,ps,bs,kP,kW,kB,AA,kus,G,Pl,rfl,R,hd,hG,he,hP,hk,hl,nb,gd,q⟩:=h
 show ⟨_,(aa (aC 3 eK.nd (aJ kN hr (aE (pv 0) (pv 1)))) (aa (aC 4 eK.nd (d5 (v:=.ref aN) rfl kF rfl)) (aa (ba FF rfl (bh (d9 (k:=1) (pv 0) hr.mo (JT P w))) (bM 5 eK.nd) (aa (aC 6 eK.nd (gm (bQ hr) (pv 2) (pv 5) (d5 (v:=.ref aN) rfl kF rfl) ⟨rfl,rfl,rfl,rfl⟩)) (ag (aC 4 eK.nd (aJ kI hr (aE (pv 4) (aJ mz hr (aE (aJ cI hr (aE (pv 6) (pv 6))) (dR (bQ hr) (pv 3) (pv 5) (fun _ _=>rfl)))))))))) (ag (aF (aJ mz hr (aE (pv 4) (aK (aE af af))))))))),?_⟩;sleep 3
 show ⟨_,rfl,_,rfl,a,dx,pP,pW,pB,d,ps,bs,kP,kW,kB,AA,G,rfl,R,hd,hG,hk,ce,nb,gd.gp,fun fm kf H1 s1 nf ef hf=>?_⟩;let R1:=R.lh s1;show ⟨_,rfl,a,C,dx,_,_,_,rfl,R1.obj,rfl,MB,a,dx,pP,pW,pB,ps,bs,kP,kW,kB,rfl,R1,fun l H3 s3 nl el=>?_⟩;let AB:ao H H3:=fun b o z=>s3 _ _ (s1 _ _ z)
 show ⟨l,rfl,⟨_,aR.of el⟩,let I:bn:=fun i Y H'=>JS fun (v:V) (o5 o6:ψ)=>Y=[ap a,ap d,ap e,ap fm,some v,o5,o6]/\ao H3 H'/\iY K H' v (my G Pl ((bs.map (·.1)).take i));bP (K:=K) (a:=l) (xs:=(bs.map (·.1)).map V.str) I
  ⟨.ref aN,none,none,rfl,fun b o z=>z,aN,rfl,hN _⟩ (fun i Y H' _ h=>by
   obtain ⟨_,_,_,_,h,_⟩:=h
   exact aR.of (h _ _ el)) ?_ ?_⟩
 ·rintro i z Y H4 hi ⟨v,o5,o6,rfl,s4,n4⟩
  rw [Wp] at hi;obtain ⟨x,ex,rfl⟩:=LA.mp hi;let hil:i<(bs.map (·.1)).length:=(be.mp ex).1;let hx:x∈bs.map (·.1):=DW ex;have aEg :i<bs.length:=by rwa [ir] at hil
  let e4:=s4 _ _ (AB _ _ he);let P4:=(hP.lh AB).lh s4;let p4:=P4.zR (x:=x) (v:=.ref aN) (q:=(0,1)) ⟨aN,rfl,hN H4⟩;show ⟨_,rfl,e,rfl,.inl ⟨_,.inl e4⟩,_,rfl,_,cW.k (k:=.inr x) e4,?_⟩;let p4':iY K H4 ((bI kus (.inr x)).getD (.ref aN)) (fi Pl x):=p4;generalize (bI kus (.inr x)).getD (.ref aN)=pv at p4' ⊢;let ko:=gd.p x;show ⟨_,rfl,_,rfl,_,rfl,pv,pv,_,_,rfl,p4',p4',ko.up dL,ko.up dL,fun p5 H5 s5 h5=>?_⟩;obtain ⟨gv,eg,ng⟩:=agj (F:=fun v x=>iY K H1 v (fS G x)) hf hx nb;let f5:=s5 _ _ (s4 _ _ (s3 _ _ ef));let ng5:=((ng.lh s3).lh s4).lh s5;show ⟨_,rfl,_,rfl,fm,gv,rfl,(by rw [<-eg];exact cW.k (k:=.inr x) f5),.ref p5,gv,_,_,rfl,⟨p5,rfl,bE.of h5⟩,ng5,(ye ko ko).up dL,(gd.g x).up dL,LJ (gd.gp x),fun p6 H6 s6 h6=>?_⟩;let hs:oj 70000 (my G Pl ((bs.map (·.1)).take i)):=(gd.sum i _ (by rw [FU];omega)).up ce;show ⟨v,.ref p6,_,_,rfl,(n4.lh s5).lh s6,⟨p6,rfl,bE.of h6⟩,hs.up dL,(gd.st x).up dL,fun p7 H7 s7 h7=>?_⟩;show ⟨_,_,_,rfl,fun b o z=>s7 _ _ (s6 _ _ (s5 _ _ (s4 _ _ z))),p7,rfl,?_⟩;rw [Ot,ex,show (some x).toList=[x] from rfl,m_];exact bE.of h7
 ·rintro Y H4 ⟨v,o5,o6,rfl,s4,n4⟩
  rw [PZ ga] at n4;let hs:oj 70000 (my G Pl (bs.map (·.1))):=(gd.sum bs.length _ (by rw [ir])).up ce;show ⟨_,rfl,qU,fun p nt=>?_⟩;let s5:=aD nt (.tup [.int 2,.int 1]);show ⟨v,.ref p,_,(2,1),rfl,n4.lh s5,⟨p,rfl,bE.of ah⟩,hs,⟨dL,dL,dL⟩,dL,fun p6 H6 s6 h6=>?_⟩;exact q p6 H6 (fun b o z=>s6 _ _ (s5 _ _ (s4 _ _ (AB _ _ z)))) h6
abbrev yg (r:Rat):Da:=.t [.v (.int (qr r).1),.v (.int (qr r).2)]
theorem K' {R:V->Z->Prop}(h:∀u a,R u a->Is K H (f a) u):∀{us:η} {l:List Z},Paired R us l->js K H (l.map f) us
 | [],[],.nil=>by
  unfold js;trivial
 | _::_,_::_,.cons z t=>by
  show js K H (_::_) _;unfold js;show ⟨h _ _ z,K' h t⟩
def adq (h:dh K H v r):Is K H (yg r) v:=by
 obtain ⟨p,rfl,sq⟩:=h;unfold Is;show ⟨p,_,rfl,sq,?_⟩;unfold js;show ⟨by unfold Is;show ⟨rfl,rfl⟩,?_⟩;unfold js;show ⟨by unfold Is;show ⟨rfl,rfl⟩,?_⟩;unfold js;trivial
def QP {us:η}{rs:Ι}(h:H l=some (.lst us))(p:Paired (dh K H) us rs):Is K H (.l (rs.map yg)) (.ref l):=by
 unfold Is;show ⟨l,_,rfl,aR.of h,K' (fun u a z=>adq z) p⟩
def Wq (d:Da):Prop:=alike d d=true/\iH d d=true/\dep d<=60
theorem ahF:∀rs:List Rat,dW (rs.map yg) (rs.map yg)=true/\cO (rs.map yg) (rs.map yg)=true/\jy (rs.map yg)<=1
 | []=>⟨rfl,rfl,LS _⟩
 | r::rs=>by
  obtain ⟨a,b,c⟩:=ahF rs;show ⟨?_,?_,?_⟩
  ·show (alike (yg r) (yg r) && dW (rs.map yg) (rs.map yg))=true
   rw [a];simp [alike,dW]
  ·show (iH (yg r) (yg r) && cO (rs.map yg) (rs.map yg))=true
   rw [b];simp [iH,cO,nK]
  ·show max 1 (jy (rs.map yg))<=1
   omega
def aeg (rs:Ι):Wq (.l (rs.map yg)):=by
 obtain ⟨a,b,c⟩:=ahF rs;show ⟨?_,?_,by show jy (rs.map yg)+1<=60;omega⟩
 ·unfold alike
  exact a
 ·unfold iH
  exact b
def agy {k1 k2:γ}{Z:Type}{xs:List Z}{nm:Z->Str}{f:Z->Da}(h1:H a=some (.dK k1))(h2:H b=some (.dK k2))(e1:k1.map (·.1)=xs.map fun x=>(EX (nm x):Key))(e2:k2.map (·.1)=xs.map fun x=>(EX (nm x):Key))(nd:(xs.map nm).Nodup)(v1:∀x∈xs,∃v,bI k1 (.inr (nm x))=some v/\Is K H (f x) v)(v2:∀x∈xs,∃v,bI k2 (.inr (nm x))=some v/\Is K H (f x) v)(hd:∀x∈xs,Wq (f x))(q:Q (.bl false) H):V2 K (.ref a) (.ref b) H Q:=by
 let nk:(xs.map fun x=>(EX (nm x):Key)).Nodup:=by
  have:(xs.map fun x=>(EX (nm x):Key))=(xs.map nm).map EX:=by rw [EB];rfl
  rw [this];exact Yj _ (fun a b n z=>n (by injection z)) nd
 show ⟨a,b,k1,k2,rfl,rfl,h1,h2,e1.trans e2.symm,fun i u v hu hv=>?_,q⟩
 let hi:i<xs.length:=by
  have:=pj Oq e1;rw [ir,ir] at this;have:=(be.mp hu).1;omega
 let ex:=gE hi;generalize xs[i]=x at ex;let mx:=DW ex
 let kx:∀{k:γ} {w:Key×V},k.map (·.1)=xs.map (fun x=>(EX (nm x):Key))->k[i]?=some w->bI k (.inr (nm x))=some w.2:=fun {k w} e hw=>by
  let a1:(k.map (·.1))[i]?=some w.1:=by rw [Wp,hw];rfl
  rw [e,Wp,ex] at a1;let a2:w.1=EX (nm x):=(GU a1).symm;have X3 :k[i]?=some (EX (nm x),w.2):=by rw [hw,<-a2]
  exact jD (by rwa [e]) X3
 obtain ⟨w1,y1,z1⟩:=v1 x mx;obtain ⟨w2,y2,z2⟩:=v2 x mx;rw [kx e1 hu] at y1;rw [kx e2 hv] at y2;cases y1;cases y2;show ⟨f x,z1,z2,(hd x mx).1,(hd x mx).2.1,(hd x mx).2.2⟩
def rV {pX:ν}(nd:(pX.map (·.nm)).Nodup)(hp:p∈pX)(hq:q∈pX)(e:p.nm=q.nm):p=q:=by
 obtain ⟨i,ei⟩:=FZ hp;obtain ⟨j,ej⟩:=FZ hq;have:=d3 nd ei ej e;rw [this,ej] at ei;exact (GU ei).symm
def aeM (g:dJ pX gV)(M:υ)(hb:b∈gV)(hc:c∈gV)(h:bC b c=true):dZ M c=dZ M b:=by
 obtain ⟨b1,b2,_⟩:=g.ends b hb;obtain ⟨c1,c2,_⟩:=g.ends c hc;unfold dZ
 rcases Lc h with ⟨u,v⟩|⟨u,v⟩
 ·rw [rV g.np b1 c1 u,rV g.np b2 c2 v]
 ·rw [rV g.np b1 c2 v,rV g.np b2 c1 u]
  unfold dt jm;grind
def acT (g:dJ pX gV)(ch:mU pX W)(oc:∀c∈gV,∃k d,vp pX c k d)(hg:∀x,0<gR Go x)(h:iB pX gV T U L)(h':iB pX gV D U' L)(hT:∀b∈gV,T b.nm=gR Go b.nm*dZ M b)(hb:b∈gV):T b.nm=yc gV b D Go:=by
 let e:=Qx g ch oc h h' hb
 let e2:((gV.filter (bC b)).map fun c=>T c.nm)=(gV.filter (bC b)).map fun c=>dZ M b*gR Go c.nm:=LD fun c hc=>by
  obtain ⟨h1,h2⟩:=QO.mp hc;rw [hT c h1,aeM g M hb h1 h2];grind
 rw [e2,lV] at e;let gp:=K_ (f:=fun c=>gR Go c.nm) hb fun c=>hg c.nm;unfold yc;unfold vv at gp ⊢;let z:((gV.filter (bC b)).map fun c=>gR Go c.nm).sum≠0:=fun z=>by rw [z] at gp;exact DZ gp AH
 rw [hT b hb,<-e];grind
def agN (h:g_ K H v n r):Sz (n+1) r:=by
 obtain ⟨q,_,h2,rfl,z⟩:=h;have:=IV (show 1<2 by decide) (Of n);exact tF (LJ h2) (intBits_le_iff.mpr (FX z.top this)) (intBits_le_iff.mpr (FX z.bot this))
def nh (gV:τ)(Go:Η)(T:Μ):Rat:=(gV.map fun b=>T b.nm*T b.nm*(1 / (2*gR Go b.nm))).sum
theorem qO (hg:∀x,0<gR Go x):∀{gV:τ},(∀b∈gV,T b.nm=gR Go b.nm*dZ M b)->nh gV Go T+nh gV Go T=(gV.map fun b=>T b.nm*dZ M b).sum
 | [],_=>by
  show (0:Rat)+0=0;grind
 | b::bs,h=>by
  let ih:=qO hg fun b' hb=>h b' (F' _ hb);let e:=h b GG;let z:gR Go b.nm≠0:=fun z=>DZ (hg b.nm) (by rw [z];exact AH);unfold nh at ih ⊢;rw [DV,DV,GN,GN,<-ih]
  have:T b.nm*T b.nm*(1 / (2*gR Go b.nm))+T b.nm*T b.nm*(1 / (2*gR Go b.nm))=T b.nm*dZ M b:=by
   rw [e];grind
  grind
def aeF (h:m7 G Pl):∀xs:List Str,vl (my G Pl xs)=(xs.map fun x=>vl (fi Pl x)*vl (fi Pl x) / vl (fS G x)).sum:=by
 have:∀(n:Nat)(xs:ς),xs.length=n->vl (my G Pl xs)=(xs.map fun x=>vl (fi Pl x)*vl (fi Pl x) / vl (fS G x)).sum:=by
  intro n
  induction n with
  | zero=>
   intro xs e;obtain rfl:=Uh.mp e;show vl ((0,1):Int×Int)=0;decide+kernel
  | succ n ih=>
   intro xs e;let ne:xs≠[]:=by intro z;subst z;cases e
   let e1:xs=xs.dropLast++[xs.getLast ne]:=(ah3 ne).symm;let l1:xs.dropLast.length=n:=by rw [ajd];omega
   let k:=ih xs.dropLast l1;let o:=h.sum n xs.dropLast l1;generalize xs.getLast ne=x at e1;rw [e1,m_,ahK o.pos (h.st x).pos,k,GV,Xw,DV,LP,GN,Nc];unfold stQ;rw [ahA (ye (h.p x) (h.p x)).pos (h.g x).pos (LJ (h.gp x)),ah' (h.p x).pos (h.p x).pos];grind
 exact fun xs=>this _ xs rfl
def zas (h:0<q.2):qN q (2,1)=qr (vl q / 2):=by
 unfold qN;rw [kC (by show q.2*2≠0;omega)];congr 1;unfold vl;let z:((q.2:Int):Rat)≠0:=cz (LJ h);push_cast;grind
def agl (h:0<=f/\f<20):∃m:Nat,i7 [V.int 1,.int 1,.int 1,.int 1,.int 2,.int 2,.int 2,.int 2,.int 2,.int 2,.int 2,.int 3,.int 3,.int 3,.int 3,.int 3,.int 4,.int 4,.int 5,.int 6] f=some (.int (m:Int))/\1<=m/\m<=6:=by
 obtain ⟨n,rfl⟩:=Int.eq_ofNat_of_zero_le h.1;let key:∀n:Fin 20,∃m:Fin 7,([1,1,1,1,2,2,2,2,2,2,2,3,3,3,3,3,4,4,5,6]:List Int)[n.1]?=some (m.1:Int)/\1<=m.1:=dL
 obtain ⟨m,e,l⟩:=key ⟨n,ce⟩;show ⟨m.1,bq (xs:=([1,1,1,1,2,2,2,2,2,2,2,3,3,3,3,3,4,4,5,6]:List Int).map V.int) ?_,l,ce⟩;rw [Wp,e];rfl
def fj:av ["_law_script","_law_cell","_law_size","_law_pins_here","_law_bars_here","_law_frame_here","_law_pulls","_law_pushes","_law_grips_here","_law_load_here","_law_told","_law_bar","_law_pull","_law_longer_here","_law_stored"] ["_law_script"] (ae oi):=sq
def agM (F:sr K "law" "law" oi f fd)(bN:mg "isinstance"=none)(gU:mg "tuple"=none)(a_:mg "len"=none)(cZ:mg "list"=none)
  (kY:ac P w K mg iT 1 "_law_cell_at" Qd (kR K)) (gh:ac P w K mg iT 1 "_law_field" Ph gS)
  (ake:ac P w K mg iT 35 "_law_pins" S9 (xX K)) (BQ:ac P w K mg iT 1 "_law_chain" s_ (xY K)) (akf:ac P w K mg iT 3 "_law_bars" vn (x4 K)) (akg:ac P w K mg iT 4 "_law_frame" rf (uv K C))
  (akh:ac P w K mg iT 2 "_law_drawn" rh (uE K)) (BR:ac P w K mg iT 34 "_law_grips" q5 (uF K)) (aki:ac P w K mg iT 34 "_law_load" SI (x_ K)) (Nq:ac P w K mg iT 40 "bend_of" vc (F_ K C))
  (oU:ac P w K mg iT 35 "_law_moves_right" SH (uH K)) (Ub:ac P w K mg iT 34 "_law_number" XJ (oP K)) (iC:ac P w K mg iT 1 "_law_same" LG (rT K)) (yh:ac P w K mg iT 2 "_law_shared" sZ (uI K)) (akj:ac P w K mg iT 3 "_law_longer" rg (uB K))
  (qj:ac P w K mg iT 1 "_law_times" LG (bw K i5)) (jX:ac P w K mg iT 1 "_law_sum" LG (bw K gC)) (akk:ac P w K mg iT 3 "_law_work" qZ (GP K)) (BS:ac P w K mg iT 35 "stored_of" ve (uM K C)):
  ad P w K mg iT 42 f fd ["_law_script"] (OH K):=by
 refine F.okG fj (fun vs H Q E h=>?_) (fun cF A mB s H vs Q E hr h=>?_)
 ·obtain ⟨a,ns,rfl,_⟩:=h
  rfl
 obtain ⟨sA,ns,rfl,hS,hn,Rw,q⟩:=h;let L2:2<=AZ:=dL
 show ⟨_,(aa (aC 1 fj.nd (aJ kY hr (aE (pv 0) af))) (aa (aC 2 fj.nd (bg aI (b9 (jP af (jP af (jP af (jP af (jP af (jP af (jP af (jP af (jP af (jP af (jP af (jP af (jP af (jP af (jP af (jP af (jP af (bU af af af))))))))))))))))))) (aJ gh hr (bU (pv 1) af af)))) (aa (aC 3 fj.nd (aJ ake hr (aE (pv 0) (aw bT (pv 2) af)))) (aa (aC 4 fj.nd (aJ akf hr (aE (pv 0) (aJ BQ hr (aZ (aw bT (pv 2) af)))))) (aa (aC 5 fj.nd (aJ akg hr (aE (pv 3) (pv 4)))) (aa (mD (aJ akh hr (bU (pv 0) (pv 3) (pv 4))) (fL rfl (aY (bM 6 fj.nd) (aY (bM 7 fj.nd) df)))) (aa (aC 8 fj.nd (aJ BR hr (aE (pv 0) (pv 4)))) (aa (aC 9 fj.nd (aJ aki hr (jP (pv 3) (bU (pv 4) (pv 6) (pv 7))))) (aa (aC 10 fj.nd (aJ Nq hr (bU (pv 5) (pv 8) (pv 9)))) (aa (bF (PW.pt (j0 (iU (fg (aU km rfl bN d6 (aE (pv 10) (vV rfl gU xc))))) (j0 (bO nE (aU aQ rfl a_ cS (aZ (pv 10))) af) (j0 (bO nE (ay (pv 10)) h_) (jZ (bO (aer hr.units) (ay (pv 10)) (pv 7))))))) (ag (aF mf)) aX) (aa (bF (PW.pt (j0 (bO (xb hr.units) (dq (iq rfl) rfl cZ mJ (aZ (ay (pv 10)))) (fe (tn:=["_law_bar"]) (fr:=[]) (oV:=[]) (bh (pv 4)) (bg (dQ (K:=K) rfl) (pv 0) af))) (jZ (iU (fg (aJ oU hr (aE (pv 3) (ay (pv 10))))))))) (ag (aF mf)) aX) (aa (ba FF rfl (bh (pv 4)) (bM 11 fj.nd) (aa (aC 12 fj.nd (dR (bQ hr) (ay (pv 10)) (ay (pv 11)) (fun _ _=>rfl))) (aa (bF (PW.pt (j0 (iU (fg (aJ Ub hr (aZ (pv 12))))) (jZ (iU (fg (aJ iC hr (aE (pv 12) (aJ yh hr (jP (pv 4) (bU (pv 11) (pv 6) (pv 8))))))))))) (ag (aF mf)) aX) (aa (aC 13 fj.nd (aJ akj hr (bU (pv 3) (pv 11) (ay (pv 10))))) (ag (bF (iU (fg (aJ iC hr (aE (pv 12) (aJ qj hr (aE (gm (bQ hr) (pv 8) (ay (pv 11)) (aK (aE af af)) ⟨rfl,rfl,rfl,rfl⟩) (pv 13))))))) (ag (aF mf)) aX)))))) (aa (aC 14 fj.nd (aJ BS hr (bU (pv 5) (pv 8) (ay (pv 10))))) (ag (aF (N' (aJ Ub hr (aZ (pv 14))) (DS (aJ iC hr (aE (aJ jX hr (aE (pv 14) (pv 14))) (aJ akk hr (aE (pv 9) (ay (pv 10))))))))))))))))))))))),?_⟩;sleep 13
 show ⟨_,rfl,sA,ns,0,rfl,hS,dL,dL,?_⟩;generalize cell ns 0=c0;dsimp only [cy];show ⟨dL,?_⟩;intros l0 n0 H0 s0 e0;show ⟨_,rfl,_,_,_,rfl,dL,dL,dL,?_⟩;obtain ⟨m,em,m1,m6⟩:=agl (bV (c:=c0) (p:=2003) (m:=20) dL);show ⟨l0,_,_,_,rfl,rfl,aR.of e0,em,?_⟩;let e2:(m:Int)+2=((m+2:Nat):Int):=ce
 show ⟨_,rfl,_,rfl,_,_,rfl,rfl,?_⟩;rw [e2];show ⟨sA,ns,m+2,rfl,s0.seq hS,ce,ce,fun lP us c S W H1 s1 nP eP ch pp=>?_⟩;let lp:(jR c S (m+2) W).length=m+2:=by simp [jR]
 let pp:Paired (jq K H1) us (jR c S (m+2) W):=pp;let gp:=ch.good;let cf:=ch.chain;let wn:=ch.Qe;generalize jR c S (m+2) W=pX at lp pp gp cf wn;clear ch;show ⟨_,rfl,_,rfl,_,_,rfl,rfl,?_⟩;rw [e2];show ⟨m+2,rfl,ce,ce,fun lC uc H2 s2 nC eC pc=>?_⟩;let qe:=s0.trans (s1.trans s2);show ⟨sA,lC,ns,uc,m+2,pX,rfl,qe.seq hS,eC,pc,ce,lp,gp.np,fun lB vs gV H3 s3 nB eB pb gb lb oc=>?_⟩;let AB:=s2.trans s3;let eP3:=AB _ _ eP;let pp3:Paired (jq K H3) us pX:=Paired.cV pp fun _ _ z=>z.lh AB;let lv:vs.length=gV.length:=GJ pb;show ⟨_,rfl,_,rfl,lP,lB,us,vs,pX,gV,rfl,eP3,pp3,eB,pb,gp,gb,ce,ce,fun fA H4 s4 R=>?_⟩;let g:=acR gp gb ce ce;let Wj:ZF K H4 lP lB us vs pX gV:=⟨s4 _ _ eP3,Paired.cV pp3 fun _ _ z=>z.lh s4,gp,s4 _ _ eB,Paired.cV pb fun _ _ z=>z.lh s4,fun b hb=>(gb.ends b hb).2.2,ce,ce⟩;let uC:=qe.trans (s3.trans s4);show ⟨_,rfl,_,rfl,_,rfl,sA,lP,lB,ns,us,vs,pX,gV,rfl,uC.seq hS,Rw,Wj.hp,Wj.pp,gp,ce,Wj.hb,Wj.pb,lb,gb.nb,fun tA dA uA kD kU D U0 H5 s5 eT di du lU zD zU=>?_⟩;show ⟨tA,_,rfl,bE.of eT,rfl,_,_,rfl,_,_,rfl,rfl,?_⟩;let VC:=Wj.lh s5;let FI:=uC.trans s5;show ⟨_,rfl,_,rfl,sA,lB,ns,vs,pX,gV,rfl,FI.seq hS,Rw,VC.hb,VC.pb,lb,fun gA kG Go H6 nG g6=>?_⟩;let s6:=g6.s;let fr6:=VC.lh s6;let Wo:=di.lh (fun _ _ z=>z.lh s6) s6;let du6:=du.lh (fun _ _ z=>z.lh s6) s6
 let fo:LFo K H6 dA uA kD kU pX gV D U0 11:=⟨Wo.hd,fun b hb=>by
  obtain ⟨v,a,c⟩:=Wo.tv b hb;show ⟨v,a,cv c (eR (zD b hb) (D' _))⟩,du6.hd,fun p hp=>by
  obtain ⟨v,a,la,ys,rfl,b,c⟩:=du6.tv p hp
  show ⟨la,ys,a,b,g9 (GJ c) fun i u e=>by
   obtain ⟨r,er,h⟩:=aG c e
   show ⟨r,er,cv h (eR (zU p hp r (DW er)) (D' _))⟩⟩,lU,dL⟩
 show ⟨_,rfl,_,rfl,_,rfl,_,rfl,lP,lB,dA,uA,us,vs,kD,kU,pX,gV,D,U0,11,rfl,fr6,fo,g,zD,zU,fun lA kL L H7 s7 ld ll QT=>?_⟩;let R7:=R.lh (s5.trans (s6.trans s7));let g7:=g6.lh s7;show ⟨_,rfl,_,rfl,_,rfl,fA,gA,lA,pX,gV,kG,kL,Go,L,rfl,R7,g,ce,wn,lb,g7.hd,g7.nm,g7.ks,g7.ps,ld.hd,ld.pt,ld.sz,ld.ks,fun M p dM kM H' _ _ _ mo wk=>(zaC g QT mo wk).elim,fun T U Lx M p dT dU dM kT kU' kM H8 s8 ep PR MR hw hT rest zT zV zM=>?_⟩;let YJ:=bE.of (K:=K) ep;show ⟨_,rfl,_,_,_,true,rfl,rfl,.tup ep,adn,_,rfl,bG (fun c=>nomatch c) (fun _=>?_)⟩;show ⟨_,rfl,p,_,rfl,.inr YJ,rfl,_,rfl,IU rfl ?_⟩;show ⟨_,rfl,p,_,_,_,rfl,rfl,YJ,cU,rfl,_,rfl,IU rfl ?_⟩;let s68:=s7.trans s8;let du8:=du6.lh (fun _ _ z=>z.lh s68) s68;let pu:∀p∈pX,U p.nm=U0 p.nm:=fun p hp=>agt g cf oc rest QT PR.lU lU hp;show ⟨_,rfl,p,_,_,_,rfl,rfl,YJ,rfl,_,rfl,?_⟩;refine agy (nm:=aA.nm) (f:=fun p=>.l ((U0 p.nm).map yg)) PR.hU du8.hd PR.Yf du8.ky gp.np (fun p hp=>?_) (fun p hp=>?_) (fun p hp=>aeg _) ?_
 ·obtain ⟨vs,a,_,b,c⟩:=PR.tU p hp
  rw [pu p hp] at c;show ⟨_,a,QP b c⟩
 ·obtain ⟨v,a,la,ys,rfl,b,c⟩:=du8.tv p hp
  show ⟨_,a,QP b c⟩
 show ⟨_,rfl,bG (fun c=>nomatch c) (fun _=>?_)⟩;let fr8:=fr6.lh s68;show ⟨_,rfl,p,_,_,_,rfl,rfl,YJ,rfl,dT,_,rfl,.inl PR.hT,?_⟩;intros l9 n9 H9 s9 e9;rw [tu (nm:=aL.nm) PR.TB] at e9;let fr9:=fr8.lh s9;show ⟨_,rfl,lB,rfl,⟨_,aR.of fr9.hb⟩,fun D9 m9=>?_⟩;refine ahc (nm:=aL.nm) m9 fr9.hb (abo fr9.pb) ce fun Ha sa ea=>?_;refine KZ (sa _ _ e9) ea ?_;show ⟨_,rfl,bG (fun c=>nomatch c) (fun _=>?_)⟩;let s8a:=s9.trans sa;let frA:=fr8.lh s8a;let mo8:Rx K H8 pX dM kM M 1722000:=⟨MR.hM,MR.keys,MR.tM,fun p hp=>⟨eR (zM p hp).1 (D' _),eR (zM p hp).2 (D' _)⟩,dL⟩;show ⟨_,rfl,_,rfl,p,_,_,_,rfl,rfl,Ty.ao.bZ s8a YJ,rfl,lP,dM,us,pX,kM,M,1722000,rfl,frA.hp,frA.pp,gp,ce,mo8.lh s8a,hw,fun Hb sb=>?_⟩;show ⟨_,rfl,bG (fun c=>nomatch c) (fun _=>?_)⟩;let YK:=s8a.trans sb;let s6b:=s68.trans YK;let frB:=fr8.lh YK;let moB:=mo8.lh YK;let spB:=Ty.ao.bZ YK YJ;let diB:=Wo.lh (fun _ _ z=>z.lh s6b) s6b;let gB:=g6.lh s6b;let Ui:∀x,0<gR Go x:=fun x=>(g6.ps x).1
 let PRB:∀b∈gV,∃v,bI kT (.inr b.nm)=some v/\dh K Hb v (T b.nm):=fun b hb=>by
  obtain ⟨v,a,c⟩:=PR.tT b hb;show ⟨v,a,c.lh YK⟩
 let hTB:=YK _ _ PR.hT
 show ⟨_,rfl,lB,rfl,⟨_,aR.of frB.hb⟩,let I:bn:=fun i Y H'=>JS fun (o11 Yr Ys:ψ)=>Y=[ap sA,some (.int c0),some (.int (m:Int)),ap lP,ap lB,ap fA,ap dA,ap uA,ap gA,ap lA,ap p,o11,Yr,Ys,none]/\ao Hb H'/\∀b∈gV.take i,Sz 1301 (T b.nm);bP (K:=K) (a:=lB) (xs:=vs) I ⟨none,none,none,rfl,ao.refl _,fun b hb=>by simp at hb⟩ (fun i Y H' _ h=>by
   obtain ⟨_,_,_,_,s,_⟩:=h
   exact aR.of (s _ _ frB.hb)) ?_ ?_⟩
 ·rintro i u Y Hc hu ⟨o11,Yr,Ys,rfl,sc,zs⟩
  obtain ⟨b,eb,vq⟩:=aG frB.pb hu;let mb:b∈gV:=DW eb;let vq:=vq.lh sc;obtain ⟨ta,j1,j2,rfl,h1,_⟩:=id vq;obtain ⟨pv,epv,ZH⟩:=PRB b mb;let ZH:=ZH.lh sc
  let dg:cW Hc dT (.str b.nm) (some pv):=by
   have:=cW.k (k:=.inr b.nm) (sc _ _ hTB);rwa [epv] at this
  let zp:=cv ZH (eR (zT b mb) (D' _));show ⟨_,rfl,p,_,_,_,rfl,rfl,Ty.ao.bZ sc spB,rfl,_,rfl,ta,_,_,_,rfl,rfl,h1,cU,dT,pv,rfl,dg,_,rfl,pv,_,rfl,ZH,fun Hd sd=>?_⟩;show ⟨_,rfl,bG (fun c=>nomatch c) (fun _=>?_)⟩;let scd:=sc.trans sd;let frD:=frB.lh scd;let gD:=gB.lh scd;show ⟨_,rfl,_,rfl,_,rfl,_,rfl,_,rfl,lB,dA,gA,_,vs,kD,kG,pX,gV,b,D,Go,rfl,frD.hb,frD.pb,gp.np,lb,vq.lh sd,mb,diB.lh (fun _ _ z=>z.lh scd) scd,zD,gD.hd,gD.nm,gD.ps,fun vS He se nS=>?_⟩;let es:=acT g cf oc Ui rest QT hT mb;rw [<-es] at nS;show ⟨_,_,_,_,_,_,rfl,zp.lh (sd.trans se),nS,dL,_,rfl,bG (fun c=>DZ c ga) (fun _=>?_)⟩;let sce:=scd.trans se;let frE:=frB.lh sce;show ⟨_,rfl,_,rfl,_,rfl,p,_,_,_,rfl,rfl,Ty.ao.bZ sce spB,rfl,lP,dM,us,pX,_,b,kM,M,1722000,rfl,frE.hp,frE.pp,gp,vq.lh (sd.trans se),moB.lh sce,fun vL Hf sf nL=>?_⟩;let scf:=sce.trans sf;let gF:=gB.lh scf;let h1f:=Ty.ao.bZ (sd.trans (se.trans sf)) h1;show ⟨_,rfl,_,rfl,gA,rfl,.inl ⟨_,.inl gF.hd⟩,_,rfl,ta,_,_,_,rfl,rfl,h1f,cU,L2,?_⟩;intros p3 n3 Hg s3 e3;let gG:=gF.lh s3
  let gk:iY K Hg ((bI kG (.inr b.nm)).getD (.ref p3)) (qr (gR Go b.nm)):=by
   rw [<-iR];exact gG.nm.zR (x:=b.nm) (v:=.ref p3) (q:=(1,1)) ⟨p3,rfl,bE.of e3⟩
  show ⟨_,cW.k (k:=.inr b.nm) gG.hd,_,rfl,?_⟩;show bw K i5 [_,_] _ _ E0;refine gT (cv gk (eR (g6.ps b.nm).2 (D' _))) (nL.lh s3) dL fun p4 Hh sh n4=>?_;rw [<-hT b mb] at n4;show ⟨_,_,_,_,_,_,rfl,zp.lh (sd.trans (se.trans (sf.trans (s3.trans sh)))),n4,dL,_,rfl,bG (fun c=>DZ c ga) (fun _=>?_)⟩;show ⟨_,_,_,rfl,scf.trans (s3.trans sh),fun b' fZ =>?_⟩;rw [take_snoc eb] at fZ
  rcases FR.mp fZ with z|z
  ·exact zs b' z
  ·rw [GQ.mp z]
   exact agN nS
 rintro Y Hc ⟨o11,Yr,Ys,rfl,sc,zs⟩;rw [lv,Lq] at zs;let s8c:=YK.trans sc;let R9:=R7.lh (s8.trans s8c);obtain ⟨dx',pP,pW,pB,kP,kW,kB,F1,W1⟩:=R9.ex;let TL:=rO gV;let gg:=gB.lh sc
 let ppD:yR K Hc kT fun x=>if x∈gV.map (·.nm) then some (qr (T x)) else none:=fun x=>by
  by_cases c:x∈gV.map (·.nm)
  ·obtain ⟨b,mb,rfl⟩:=AY.mp c
   obtain ⟨v,a,h⟩:=PRB b mb;exact .inr ⟨v,_,a,ox c,h.lh sc⟩
  ·refine .inl ⟨bW (fun z=>c ?_),ni c⟩
   rw [PR.TB] at z;obtain ⟨b,mb,e⟩:=AY.mp z;exact AY.mpr ⟨b,mb,by injection e⟩
 let pD:∀b∈gV,fi (fun x=>if x∈gV.map (·.nm) then some (qr (T x)) else none) b.nm=qr (T b.nm):=fun b hb=>by
  show (if b.nm∈gV.map (·.nm) then some (qr (T b.nm)) else none).getD (0,1)=_;rw [ox (AY.mpr ⟨b,hb,rfl⟩)];rfl
 let gd':m7 (fun y=>(Go y).map qr) fun x=>if x∈gV.map (·.nm) then some (qr (T x)) else none:=⟨fun x=>by
  rw [iR];exact (kH (g6.ps x).2).up dL,fun x=>by
  rw [iR];exact Qs (Ui x),fun x=>by
  by_cases c:x∈gV.map (·.nm)
  ·obtain ⟨b,mb,rfl⟩:=AY.mp c
   rw [pD b mb];exact kH (zs b mb)
  ·show oj 1301 ((if x∈gV.map (·.nm) then some (qr (T x)) else none).getD (0,1))
   rw [ni c]
   exact QN.up dL⟩
 show ⟨_,rfl,_,rfl,_,rfl,p,_,_,_,rfl,rfl,Ty.ao.bZ sc spB,rfl,fA,dx',pP,pW,pB,gA,dT,_,_,kP,kW,kB,kG,kT,_,_,rfl,F1,gg.hd,gg.nm,sc _ _ hTB,ppD,(by rw [TL];exact gg.ks),(by rwa [ir]),(by rw [TL];exact gb.nb),gd',fun p7 Hh sh e7=>?_⟩;rw [TL] at e7;let o7:=(ahW (gd'.sum gV.length (gV.map (·.nm)) (by rw [ir])) (⟨dL,dL,dL⟩:oj 2 ((2,1):Int×Int)) dL).up (show _<=70000 by omega);rw [zas (gd'.sum _ _ rfl).pos,aeF gd'] at e7 o7
 let eD:((gV.map (·.nm)).map fun x=>vl (fi (fun x=>if x∈gV.map (·.nm) then some (qr (T x)) else none) x)*vl (fi (fun x=>if x∈gV.map (·.nm) then some (qr (T x)) else none) x) / vl (fS (fun y=>(Go y).map qr) x)).sum / 2=nh gV Go T:=by
  have:((gV.map (·.nm)).map fun x=>vl (fi (fun x=>if x∈gV.map (·.nm) then some (qr (T x)) else none) x)*vl (fi (fun x=>if x∈gV.map (·.nm) then some (qr (T x)) else none) x) / vl (fS (fun y=>(Go y).map qr) x))=gV.map fun b=>2*(T b.nm*T b.nm*(1 / (2*gR Go b.nm))):=by
   rw [EB];refine LD fun b hb=>?_;show vl (fi _ b.nm)*vl (fi _ b.nm) / vl (fS _ b.nm)=_;rw [pD b hb,iR,dY,dY];let z:gR Go b.nm≠0:=fun z=>DZ (Ui b.nm) (by rw [z];exact AH);grind
  rw [this,lV];unfold nh;grind
 rw [eD] at e7 o7;let n7:dh K Hh (.ref p7) (nh gV Go T):=wG e7;let z7:g_ K Hh (.ref p7) 70000 (nh gV Go T):=cv n7 (eR ⟨o7.top,o7.bot⟩ (D' _));show ⟨_,rfl,_,_,rfl,n7,fun Hi si=>⟨_,rfl,ahT ?_⟩⟩;show ⟨_,rfl,_,rfl,?_⟩;show bw K gC [_,_] _ _ E0;refine gi (z7.lh si) (z7.lh si) dL fun p8 Hj sj n8=>?_;rw [qO Ui hT,<-TJ g rest hw] at n8;let s8j:=s8c.trans (sh.trans (si.trans sj));let scj:=sh.trans (si.trans sj);show ⟨_,rfl,_,rfl,p,_,_,_,rfl,rfl,Ty.ao.bZ s8j YJ,rfl,lA,dM,kL,kM,pX,L,M,1722000,rfl,ld.lh (s8.trans s8j),gp.np,mo8.lh s8j,fun z=>(by have:=MR.nM;erw [z,ld.hd] at this),ll,dL,fun wv Hk sk nw'=>?_⟩;show ⟨_,_,_,_,_,_,rfl,n8.lh sk,nw',dL,?_⟩;rw [La rfl];exact q _
end
def all_mk {l:PySem.W.OpenLaw}{w:World}{K:Frag}{h:Heap}{mg:ι}{fa:AF}(X:K.In h)(G:h.Ns EW mg)(hfa:mg "law"=some (.ref fa))
  (QU:oZ K "sum_of" iy) (akv:oZ K "difference_of" FA) (yi:oZ K "product_of" dE) (vy:oZ K "quotient_of" cY) (akz:oZ K "lowest_terms" AG) (akD:oZ K "greatest_shared" LY) (uO:oZ K "lengthenings" dy) (akH:oZ K "arm_between" LZ) (akL:oZ K "pair_difference" FC) (uS:oZ K "pair_product" cN) (akP:oZ K "pair_row" L1) (akT:oZ K "load_row" L6) (ym:oZ K "check_bars" d_) (akX:oZ K "bar_row" L7) (ak1:oZ K "draw_rows" L8) (ak5:oZ K "pulls_and_pushes" L9) (ak9:oZ K "motion_from" L_) (alc:oZ K "signs_turned" Ma) (alg:oZ K "solve_rows" Mb) (alk:oZ K "turned" Mc) (alp:oZ K "whole_row" Md) (alu:oZ K "solution_of" Me) (aly:oZ K "reduced" Mf) (alC:oZ K "first_not_nought" Mg) (alG:oZ K "cleared" Mh) (alK:oZ K "divided" Mi) (Nt:oZ K "bend_of" gY) (BV:oZ K "stored_of" fu) (BZ:oZ K "all_grips" fw) (Ny:oZ K "gripped" gZ) (CC:oZ K "bend_rows" fB) (yv:oZ K "stiff_rows" eh) (alO:oZ K "_law_cell_at" Mj) (alS:oZ K "_law_field" Ml) (alW:oZ K "_law_lowest" Mm) (al0:oZ K "_law_sum" Mn) (al4:oZ K "_law_times" Mp) (al8:oZ K "_law_turned" Mq) (GZ:oZ K "_law_same" f7) (amb:oZ K "_law_name" Mr) (CJ:oZ K "_law_names" fC) (CN:oZ K "_law_spots" fD) (amf:oZ K "_law_pins" Ms) (CS:oZ K "_law_chain" fE) (amj:oZ K "_law_frame" Mt) (amn:oZ K "_law_arm" Mu) (ams:oZ K "_law_add" Mv) (amw:oZ K "_law_forces" Mw) (amA:oZ K "_law_bars" My) (amE:oZ K "_law_alike" Mz) (amI:oZ K "_law_drawn" MA) (amM:oZ K "_law_load" s_by) (amQ:oZ K "_law_number" MD) (amU:oZ K "_law_dot" MF) (amY:oZ K "_law_longer" MG) (am2:oZ K "_law_keeps" MI) (am6:oZ K "_law_work" MJ) (CW:oZ K "_law_grips" fF) (oY:oZ K "_law_moves_right" cA) (yE:oZ K "_law_shared" eI) (aeN:nsIn K EW "law"=some (some (.ref Wz))) (aeO:K.lookup Wz=some ⟨am',ana,.func (fnOf "law" "law" (au oi) (aq oi) (ae oi) .none σ2 σ3 σ4 σ5 Q9 σ6),anb⟩) (aeP:codeIn K Q9 "law"=true) (aeQ:keepIn K (.ref Wz)=true) (anc:nsIn K EW "MOST_PINS"=some (some (.int 24 axV))) (ane:nsIn K EW "MOST_BARS"=some (some (.int 60 axW))) (anf:nsIn K EW "NOUGHT"=some (some (.ref σ7))) (ang:K.lookup σ7=some ⟨.type "tuple",axX,.seq #[.int 0 anh,.int 1 ani] axY,axZ⟩) (anj:nsIn K EW "ONE"=some (some (.ref σ8))) (ank:K.lookup σ8=some ⟨.type "tuple",ax0,.seq #[.int 1 anl,.int 1 anm] ax1,ax2⟩) (ano:nsIn K EW "NO_MOVE"=some (some (.ref σ9))) (anp:K.lookup σ9=some ⟨.type "tuple",ax3,.seq #[.ref aeR,.ref aeS] ax4,ax5⟩) (anq:K.lookup aeR=some ⟨.type "tuple",ax6,.seq #[.int 0 anr,.int 1 ans] ax7,ax8⟩) (ant:K.lookup aeS=some ⟨.type "tuple",ax9,.seq #[.int 0 anu,.int 1 anv] ax',aya⟩) (yI:nsIn K EW "ValueError"=some none) (aeT:nsIn K EW "abs"=some none) (aeU:nsIn K EW "all"=some none) (aeV:nsIn K EW "any"=some none) (Y_:nsIn K EW "bool"=some none) (σ':nsIn K EW "dict"=some none) (C':nsIn K EW "enumerate"=some none) (aeW:nsIn K EW "int"=some none) (yJ:nsIn K EW "isinstance"=some none) (aeX:nsIn K EW "len"=some none) (Za:nsIn K EW "list"=some none) (Vg:nsIn K EW "range"=some none) (aeY:nsIn K EW "str"=some none) (Vh:nsIn K EW "tuple"=some none) (aeZ:nsIn K EW "zip"=some none) (anw:nsIn K EW "YardError"=some (some (.ref anx))) (HQ:nsIn K EW "NoNumber"=some (some (.ref HR))) (anz:nsIn K EW "NoWay"=some (some (.ref anA))) (anB:nsIn K EW "PinThere"=some (some (.ref anC))) (anD:nsIn K EW "SpotTaken"=some (some (.ref anE))) (anF:nsIn K EW "NoPin"=some (some (.ref anG))) (anH:nsIn K EW "BarThere"=some (some (.ref anI))) (anJ:nsIn K EW "NoBar"=some (some (.ref anK))) (anL:nsIn K EW "NoLength"=some (some (.ref anM))) (anN:nsIn K EW "TooMany"=some (some (.ref anO))) (Q_:nsIn K EW "NoGrip"=some (some (.ref Ra))) (anP:nsIn K EW "Frame"=some (some (.ref cx))) (anQ:nsIn K EW "Hold"=some (some (.ref rm))) (anR:nsIn K EW "Roller"=some (some (.ref ma))) (anS:nsIn K EW "Fixed"=some (some (.ref qm))) (ae0:T6 K cx Str.empty=true) (ae1:Tf K cx=true) (ae2:XE K cx=true) (ae3:Lb K (.ref cx) "__setattr__"=some (some (.builtin "object.__setattr__"))) (ae4:T3 K cx=true) (ae5:keepIn K (.ref cx)=true) (ae6:uQ K cx "__init__" "Frame.__init__" MK) (anV:Lb K (.ref cx) "put_pin"=some (some (.ref Vi))) (anW:Xm K (.ref Vi)=true) (anY:K.lookup Vi=some ⟨ayj,ayk,.func (fnOf "put_pin" "Frame.put_pin" (au ra) (aq ra) (ae ra) (.ref Rc) WA WC WD WE Rf WG),ayl⟩) (ae':K.lookup Rc=some ⟨aym,anZ,.seq #[.none] ayn,an0⟩) (an1:codeIn K Rf "Frame.put_pin"=true) (afa:keepIn K (.ref Vi)=true) (an2:uQ K cx "put_bar" "Frame.put_bar" MM) (an6:uQ K cx "check_bar" "Frame.check_bar" MO) (an':uQ K cx "check_pin" "Frame.check_pin" MQ) (aod:uQ K cx "pins" "Frame.pins" MS) (aoh:uQ K cx "bars" "Frame.bars" MU) (aol:uQ K cx "place" "Frame.place" MV) (aop:uQ K cx "ways" "Frame.ways" MX) (aot:uQ K cx "ends" "Frame.ends" MY) (afr:T6 K rm Str.empty=true) (afs:Tf K rm=true) (aft:XE K rm=true) (afu:Lb K (.ref rm) "__setattr__"=some (some (.builtin "object.__setattr__"))) (afv:T3 K rm=true) (afw:keepIn K (.ref rm)=true) (afx:Lb K (.ref rm) "__init__"=some (some (.builtin "object.__init__"))) (aox:uQ K rm "ways" "Hold.ways" Tg) (afA:T6 K ma Str.empty=true) (afB:Tf K ma=true) (afC:XE K ma=true) (afD:Lb K (.ref ma) "__setattr__"=some (some (.builtin "object.__setattr__"))) (afE:T3 K ma=true) (afF:keepIn K (.ref ma)=true) (afG:uQ K ma "__init__" "Roller.__init__" MZ) (aoD:uQ K ma "ways" "Roller.ways" M0) (afM:T6 K qm Str.empty=true) (afN:Tf K qm=true) (afO:XE K qm=true) (afP:Lb K (.ref qm) "__setattr__"=some (some (.builtin "object.__setattr__"))) (afQ:T3 K qm=true) (afR:keepIn K (.ref qm)=true) (afS:Lb K (.ref qm) "__init__"=some (some (.builtin "object.__init__"))) (aoH:uQ K qm "ways" "Fixed.ways" M1) (Rh:Lb K (.ref cx) "pin_places"=some none) (Zc:Lb K (.ref cx) "pin_ways"=some none) (Zd:Lb K (.ref cx) "bar_ends"=some none) (WH:Lb K (.ref ma) "way"=some none) (ht:l.prog.given.tree=none):
  ∃fd:FuncData,(∀(s:BN)(v:Value),BindsTo s fd ⟨[v],[]⟩ [("_law_script",v)])/\∀iT:Heap,K.In iT->iT.Ns EW mg->dH l.prog w K mg iT (aS l.prog w) 42 fa fd ["_law_script"] (OH K):=by
 let e:=hfa.symm.trans (mg_of X G aeN);cases e;obtain ⟨ae6,ae7,anT,anU,ae9⟩:=ae6;obtain ⟨an2,an3,an4,an5,afc⟩:=an2;obtain ⟨an6,an7,an8,an9,afe⟩:=an6;obtain ⟨an',aoa,aob,aoc,afg⟩:=an';obtain ⟨aod,aoe,aof,aog,afi⟩:=aod;obtain ⟨aoh,aoi,aoj,aok,afk⟩:=aoh;obtain ⟨aol,aom,aon,aoo,afm⟩:=aol;obtain ⟨aop,aoq,aor,aos,afo⟩:=aop;obtain ⟨aot,aou,aov,aow,afq⟩:=aot;obtain ⟨aox,aoy,aoz,aoA,afz⟩:=aox;obtain ⟨afG,afH,aoB,aoC,afJ⟩:=afG;obtain ⟨aoD,aoE,aoF,aoG,afL⟩:=aoD;obtain ⟨aoH,aoI,aoJ,aoK,afU⟩:=aoH;let Ri:Def K mg _ _ ["one","other"]:=fK X G QU;let aoL:Def K mg _ _ ["one","other"]:=fK X G akv;let yK:Def K mg _ _ ["one","other"]:=fK X G yi;let vG:Def K mg _ _ ["one","other"]:=fK X G vy;let aoM:Def K mg _ _ ["top","bottom"]:=fK X G akz;let aoN:Def K mg _ _ ["one","other"]:=fK X G akD;let uX:Def K mg _ _ ["F","motion"]:=fK X G uO;let aoO:Def K mg _ _ ["F","one","other"]:=fK X G akH;let aoP:Def K mg _ _ ["one","other"]:=fK X G akL;let uY:Def K mg _ _ ["one","other"]:=fK X G uS;let aoQ:Def K mg _ _ ["F","draws"]:=fK X G akP;let aoR:Def K mg _ _ ["F","load"]:=fK X G akT;let yL:Def K mg _ _ ["F","told"]:=fK X G ym;let aoS:Def K mg _ _ ["F","one","other"]:=fK X G akX;let aoT:Def K mg _ _ ["F"]:=fK X G ak1;let aoU:Def K mg _ _ ["F","numbers"]:=fK X G ak5;let aoV:Def K mg _ _ ["F","numbers"]:=fK X G ak9;let aoW:Def K mg _ _ ["numbers"]:=fK X G alc;let aoX:Def K mg _ _ ["rows","due","many"]:=fK X G alg;let aoY:Def K mg _ _ ["rows","many"]:=fK X G alk;let aoZ:Def K mg _ _ ["row"]:=fK X G alp;let ao0:Def K mg _ _ ["lines","many"]:=fK X G alu;let ao1:Def K mg _ _ ["lines","many"]:=fK X G aly;let ao2:Def K mg _ _ ["lines","column"]:=fK X G alC;let ao3:Def K mg _ _ ["line","lead","column"]:=fK X G alG;let ao4:Def K mg _ _ ["line"]:=fK X G alK;let NF:Def K mg _ _ ["F","grips","load"]:=fK X G Nt;let DA:Def K mg _ _ ["F","grips","pulls"]:=fK X G BV;let DB:Def K mg _ _ ["F","grips"]:=fK X G BZ;let NG:Def K mg _ _ ["firm","longer"]:=fK X G Ny;let DC:Def K mg _ _ ["F","firm"]:=fK X G CC;let yM:Def K mg _ _ ["F","firm","bar_rows"]:=fK X G yv;let ao5:Def K mg _ _ ["_law_script","_law_k"]:=fK X G alO;let ao6:Def K mg _ _ ["_law_cell","_law_prime","_law_many"]:=fK X G alS;let ao7:Def K mg _ _ ["_law_top","_law_bottom"]:=fK X G alW;let ao8:Def K mg _ _ ["_law_one","_law_other"]:=fK X G al0;let ao9:Def K mg _ _ ["_law_one","_law_other"]:=fK X G al4;let ao':Def K mg _ _ ["_law_one"]:=fK X G al8;let HU:Def K mg _ _ ["_law_one","_law_other"]:=fK X G GZ;let apa:Def K mg _ _ ["_law_style","_law_at","_law_k"]:=fK X G amb;let DE:Def K mg _ _ ["_law_cell","_law_many"]:=fK X G CJ;let DF:Def K mg _ _ ["_law_script","_law_many"]:=fK X G CN;let apb:Def K mg _ _ ["_law_script","_law_many"]:=fK X G amf;let DG:Def K mg _ _ ["_law_many"]:=fK X G CS;let apc:Def K mg _ _ ["_law_pins_here","_law_bars_here"]:=fK X G amj;let apd:Def K mg _ _ ["_law_pins_here","_law_bar","_law_axis"]:=fK X G amn;let ape:Def K mg _ _ ["_law_found","_law_k","_law_axis","_law_draw"]:=fK X G ams;let apf:Def K mg _ _ ["_law_pins_here","_law_bars_here","_law_pulls","_law_pushes"]:=fK X G amw;let apg:Def K mg _ _ ["_law_script","_law_sides"]:=fK X G amA;let aph:Def K mg _ _ ["_law_bar","_law_other"]:=fK X G amE;let api:Def K mg _ _ ["_law_script","_law_pins_here","_law_bars_here"]:=fK X G amI;let apj:Def K mg _ _ ["_law_pins_here","_law_bars_here","_law_pulls","_law_pushes"]:=fK X G amM;let apk:Def K mg _ _ ["_law_x"]:=fK X G amQ;let apl:Def K mg _ _ ["_law_one","_law_other"]:=fK X G amU;let apm:Def K mg _ _ ["_law_pins_here","_law_bar","_law_motion"]:=fK X G amY;let apn:Def K mg _ _ ["_law_pins_here","_law_motion"]:=fK X G am2;let apo:Def K mg _ _ ["_law_load_here","_law_motion"]:=fK X G am6;let DH:Def K mg _ _ ["_law_script","_law_bars_here"]:=fK X G CW;let pq:Def K mg _ _ ["_law_pins_here","_law_motion"]:=fK X G oY;let yN:Def K mg _ _ ["_law_bars_here","_law_bar","_law_pulls","_law_grips_here"]:=fK X G yE;let iE:zf K cx:=⟨ae0,ae1,ae2,ae3⟩;let Yv:Mk K cx _:=⟨ae4,ae6,ae7,ae5⟩;let afV:=eY (st:=MK) anT anU ae9;let Yx:=afV.DL (ps:=["self"]);let aEq:Meth K cx "__init__" _:=⟨ae6,ae7,ae9⟩;let apq:=ad_ (st:=ra) anY an1 afa;let apr:Binds K (fnOf "put_pin" "Frame.put_pin" (au ra) (aq ra) (ae ra) (.ref Rc) WA WC WD WE Rf WG) ["self","name","x","y","hold"] []:=fun s us X hl=>by obtain ⟨a,b,c,d,e,rfl⟩:=bl5 (P:=fun us=>∃a b c d e,us=[a,b,c,d,e]) (fun a b c d e=>⟨a,b,c,d,e,rfl⟩) us (by simpa using hl);exact BindsTo.of_defaults rfl (X _ _ ae') rfl rfl rfl
 let afW:Binds K (fnOf "put_pin" "Frame.put_pin" (au ra) (aq ra) (ae ra) (.ref Rc) WA WC WD WE Rf WG) ["self","name","x","y","hold"] [.none]:=fun s us X hl=>by obtain ⟨a,b,c,d,rfl⟩:=bl4 (P:=fun us=>∃a b c d,us=[a,b,c,d]) (fun a b c d=>⟨a,b,c,d,rfl⟩) us (by simpa using hl);exact BindsTo.of_defaults rfl (X _ _ ae') rfl rfl rfl
 let afX:Meth K cx "put_pin" Vi:=⟨anV,anW,afa⟩;let afY:=eY (st:=MM) an4 an5 afc;let aps:=afY.DL (ps:=["self","name","one","other"]);let apt:Meth K cx "put_bar" _:=⟨an2,an3,afc⟩;let afZ:=eY (st:=MO) an8 an9 afe;let apu:=afZ.DL (ps:=["self","name","one","other"]);let apv:Meth K cx "check_bar" _:=⟨an6,an7,afe⟩;let af0:=eY (st:=MQ) aob aoc afg;let apw:=af0.DL (ps:=["self","pin"]);let apx:Meth K cx "check_pin" _:=⟨an',aoa,afg⟩;let af1:=eY (st:=MS) aof aog afi;let apy:=af1.DL (ps:=["self"]);let apz:Meth K cx "pins" _:=⟨aod,aoe,afi⟩;let af2:=eY (st:=MU) aoj aok afk;let apA:=af2.DL (ps:=["self"]);let apB:Meth K cx "bars" _:=⟨aoh,aoi,afk⟩;let af3:=eY (st:=MV) aon aoo afm;let apC:=af3.DL (ps:=["self","pin"]);let apD:Meth K cx "place" _:=⟨aol,aom,afm⟩;let af4:=eY (st:=MX) aor aos afo;let apE:=af4.DL (ps:=["self","pin"]);let apF:Meth K cx "ways" _:=⟨aop,aoq,afo⟩;let af5:=eY (st:=MY) aov aow afq;let apG:=af5.DL (ps:=["self","bar"]);let apH:Meth K cx "ends" _:=⟨aot,aou,afq⟩;let cls_cm:zf K rm:=⟨afr,afs,aft,afu⟩;let aEr:Mk0 K rm:=⟨afv,afx,afw⟩;let apI:=eY (st:=Tg) aoz aoA afz;let aEs:=apI.DL (ps:=["self"]);let aEt:Meth K rm "ways" _:=⟨aox,aoy,afz⟩;let HX:zf K ma:=⟨afA,afB,afC,afD⟩;let YB:Mk K ma _:=⟨afE,afG,afH,afF⟩;let af6:=eY (st:=MZ) aoB aoC afJ;let YC:=af6.DL (ps:=["self","x","y"]);let aEu:Meth K ma "__init__" _:=⟨afG,afH,afJ⟩;let af7:=eY (st:=M0) aoF aoG afL;let apJ:=af7.DL (ps:=["self"]);let apK:Meth K ma "ways" _:=⟨aoD,aoE,afL⟩;let Ze:zf K qm:=⟨afM,afN,afO,afP⟩;let YA:Mk0 K qm:=⟨afQ,afS,afR⟩;let af8:=eY (st:=M1) aoJ aoK afU;let apL:=af8.DL (ps:=["self"]);let apM:Meth K qm "ways" _:=⟨aoH,aoI,afU⟩;let X_:=mg_of X G anc;let X':=mg_of X G ane;let kF:mg "NOUGHT"=some (.ref σ7):=mg_of X G anf;let Yk:mg "ONE"=some (.ref σ8):=mg_of X G anj;let FH:mg "NO_MOVE"=some (.ref σ9):=mg_of X G ano;let aEv:mg "YardError"=some (.ref anx):=mg_of X G anw;let Zf:mg "NoNumber"=some (.ref HR):=mg_of X G HQ;let aEw:mg "NoWay"=some (.ref anA):=mg_of X G anz;let aEx:mg "PinThere"=some (.ref anC):=mg_of X G anB;let aEy:mg "SpotTaken"=some (.ref anE):=mg_of X G anD;let aEz:mg "NoPin"=some (.ref anG):=mg_of X G anF;let aEA:mg "BarThere"=some (.ref anI):=mg_of X G anH;let aEB:mg "NoBar"=some (.ref anK):=mg_of X G anJ;let aEC:mg "NoLength"=some (.ref anM):=mg_of X G anL;let aED:mg "TooMany"=some (.ref anO):=mg_of X G anN;let af9:mg "NoGrip"=some (.ref Ra):=mg_of X G Q_;let Yw:mg "Frame"=some (.ref cx):=mg_of X G anP;let aEE:mg "Hold"=some (.ref rm):=mg_of X G anQ;let Yy:mg "Roller"=some (.ref ma):=mg_of X G anR;let Yz:mg "Fixed"=some (.ref qm):=mg_of X G anS;let Vu:mg "ValueError"=none:=mg_none_of X G yI;let wu:mg "abs"=none:=mg_none_of X G aeT;let QM:mg "all"=none:=mg_none_of X G aeU;let PQ:mg "any"=none:=mg_none_of X G aeV;let GO:mg "bool"=none:=mg_none_of X G Y_;let qg:mg "dict"=none:=mg_none_of X G σ';let fH:mg "enumerate"=none:=mg_none_of X G C';let oQ:mg "int"=none:=mg_none_of X G aeW;let bN:mg "isinstance"=none:=mg_none_of X G yJ;let a_:mg "len"=none:=mg_none_of X G aeX;let cZ:mg "list"=none:=mg_none_of X G Za;let aV:mg "range"=none:=mg_none_of X G Vg;let KI:mg "str"=none:=mg_none_of X G aeY;let gU:mg "tuple"=none:=mg_none_of X G Vh;let gM:mg "zip"=none:=mg_none_of X G aeZ;let F:=eY (st:=oi) aeO aeP aeQ;show ⟨fnOf "law" "law" (au oi) (aq oi) (ae oi) .none σ2 σ3 σ4 σ5 Q9 σ6,fun s v=>.of_eq rfl,fun iT _ _=>?_⟩;let hM:sH (aS l.prog w):=aS.EH;let hN:∀H:Hp,bE K H σ7 [.int 0,.int 1]:=fun H=>.inr ⟨_,_,_,ang,rfl,rfl,qU,.cons ⟨_,rfl⟩ (.cons ⟨_,rfl⟩ .nil)⟩;let hO:∀H:Hp,bE K H σ8 [.int 1,.int 1]:=fun H=>.inr ⟨_,_,_,ank,rfl,rfl,qU,.cons ⟨_,rfl⟩ (.cons ⟨_,rfl⟩ .nil)⟩;let nm:∀{c:AF} {o:Κ} {k0 k1:Tok} {n:Nat} {sl:Ν},K.lookup c=some ⟨.type "tuple",o,.seq #[.int 0 k0,.int 1 k1] n,sl⟩->∀H:Hp,dh K H (.ref c) 0:=fun t H=>⟨_,rfl,by rw [jk];exact .inr ⟨_,_,_,t,rfl,rfl,qU,.cons ⟨_,rfl⟩ (.cons ⟨_,rfl⟩ .nil)⟩⟩;let hMo:∀H:Hp,i8 K H (.ref σ9) (0,0):=fun H=>⟨_,.ref aeR,.ref aeS,rfl,.inr ⟨_,_,_,anp,rfl,rfl,qU,.cons rfl (.cons rfl .nil)⟩,nm anq H,nm ant H⟩;let fc:O7 K cx:=⟨iE,Rh,Zc,Zd⟩;let G1:=abd (P:=l.prog) (w:=w) (iT:=iT) (CX:=aS l.prog w) aoN wu;let G2:=abe ht aoM G1;let GW:=abg aoZ G1;let GDv:=abh ht ao4 G1;let GCl:=abi ht ao3 gM G1 GDv;let GF:=abj (P:=l.prog) (w:=w) (iT:=iT) ao2 fH;let GR:=abk ao1 aV cZ GF GCl;let GS:=abr hN kF ao0 PQ GR G2;let GTn:=abu (P:=l.prog) (w:=w) (iT:=iT) aoY aV;let apN:=abv aoX gM a_ GW GS (ac0 GTn) G2;let KS:=adW hM Ri G2;let KM:=zaE hM yK G2;let RS:=aey KS;let RM:=aeC KM;let GD:=aew (abH hM aoL G2);let GPD:=abJ hM aoP GD;let GPd:=zaq hM uY RS RM;let GI:=abN (P:=l.prog) (w:=w) (mg:=mg) (iT:=iT) afV fc;let ZQ:bS l.prog w K mg iT (aS l.prog w) 1 cx "bars" ["self"] (jF K cx):=⟨_,_,iE,apB,abP af2 fc cZ,apA⟩;let ZR:bS l.prog w K mg iT (aS l.prog w) 1 cx "pins" ["self"] (jG K cx):=⟨_,_,iE,apz,abR af1 fc cZ,apy⟩;let MCp:bS l.prog w K mg iT (aS l.prog w) 1 cx "check_pin" ["self","pin"] (f_ K cx):=⟨_,_,iE,apx,abT af0 fc,apw⟩;let MCb:bS l.prog w K mg iT (aS l.prog w) 2 cx "check_bar" ["self","name","one","other"] (jH K cx):=⟨_,_,iE,apv,ab9 afZ fc X' a_ MCp,apu⟩;let MPb:bS l.prog w K mg iT (aS l.prog w) 3 cx "put_bar" ["self","name","one","other"] (oC K cx):=⟨_,_,iE,apt,aca afY fc MCb,aps⟩;let okP:=ab7 (P:=l.prog) (w:=w) (mg:=mg) (iT:=iT) apq fc X_ a_ cZ;let MPp:bS l.prog w K mg iT (aS l.prog w) 3 cx "put_pin" ["self","name","x","y","hold"] (f' l.prog w K mg iT cx):=⟨_,_,iE,afX,okP,apr⟩;let MPd:ER l.prog w K mg iT (aS l.prog w) 3 cx "put_pin" ["self","name","x","y","hold"] [.none] (f' l.prog w K mg iT cx):=⟨_,_,iE,afX,okP,afW⟩;let MPl:bS l.prog w K mg iT (aS l.prog w) 2 cx "place" ["self","pin"] (rM K cx):=⟨_,_,iE,apD,abV af3 fc MCp,apC⟩;let ME:bS l.prog w K mg iT (aS l.prog w) 1 cx "ends" ["self","bar"] (tZ K cx):=⟨_,_,iE,apH,abX af5 fc,apG⟩;let MW:bS l.prog w K mg iT (aS l.prog w) 2 cx "ways" ["self","pin"] (t_ K cx):=⟨_,_,iE,apF,abZ af4 fc cZ MCp,apE⟩;let wR:bS l.prog w K mg iT (aS l.prog w) 1 ma "ways" ["self"] (oA K ma):=⟨_,_,HX,apK,ab3 af7 HX WH,apJ⟩;let wF:bS l.prog w K mg iT (aS l.prog w) 1 qm "ways" ["self"] (oB K):=⟨_,_,Ze,apM,ab5 af8,apL⟩;let GRI:=ab1 (P:=l.prog) (w:=w) (mg:=mg) (iT:=iT) af6 HX WH;let GA:=acd aoO MPl GPD;let GPR:=ace hMo FH aoQ ZR;let GBR:=ach aoS GA GPR;let GDR:=aci aoT ZR MW ZQ ME GPR GBR;let GPP:=acj aoU a_ qg gM ZR MW ZQ;let GMF:=acm aoV fH ZR;let GLR:=acf aoR ZR GPR;let GCB:=zaD yL ZQ;let GAG:=ako hO Yk DB ZQ GCB;let GLe:=zao hMo FH uX ZQ ME GA GPD GPd;let GSt:=zaB hN kF yM a_ aV gM ZR RS RM;let GSg:=aco (P:=l.prog) (w:=w) (iT:=iT) aoW;let GBe:=akn hN kF DC a_ gM GDR GSt GTn GSg;let GGr:=aaS NG RM;let GBo:=aaw hN kF NF a_ GLR GAG GBe apN GMF GLe GGr GPP;let GSo:=ajW hN kF DA ZQ GAG KS KM (zaN hM vG G2);let GC:=acD (P:=l.prog) (w:=w) (iT:=iT) (CX:=aS l.prog w) ao5 a_;let Zg:=acF (P:=l.prog) (w:=w) (iT:=iT) (CX:=aS l.prog w) ao6;let GLo:=acG (w:=w) (iT:=iT) ht ao7 wu;let WI:=acI (P:=l.prog) (w:=w) (iT:=iT) ao8;let GTi:=acK (P:=l.prog) (w:=w) (iT:=iT) ao9;let GTu:=acM (P:=l.prog) (w:=w) (iT:=iT) ao';let GNa:=acO (P:=l.prog) (w:=w) (iT:=iT) apa KI;let GNs:=akm DE aV Zg GNa;let GSp:=akd DF aV GC Zg GLo;let GSa:=adA (P:=l.prog) (w:=w) (iT:=iT) HU;let GPi:=acS apb aV GC Zg GNs GSp WI GTi GTu GSa;let GCh:=akC (P:=l.prog) (w:=w) (iT:=iT) DG aV;let GBa:=ac3 apg aV a_ GC Zg GNs;let GFr:=ac1 apc a_ Yv Yw GI Yx Yy Yz YA YB GRI YC (wR.mono dL) (wF.mono dL) MPb MPp MPd;let GAr:=ac5 apd WI GTu;let GAd:=ac9 ape WI;let GFo:=ac' apf a_ aV GTi GTu GAr GAd;let GDo:=ac7 apl WI GTi;let GNu:=ade apk a_ bN oQ GO gU GLo;let GLg:=ada apm aV WI GTu GAr GDo;let GKe:=adb apn GDo;let GWo:=adf apo WI GDo;let GLB:=adg apj a_ aV GFo GLo;let GAk:=adi (P:=l.prog) (w:=w) (iT:=iT) aph;let GDw:=adk api a_ aV oQ GC Zg;let GGp:=aj_ DH a_ aV oQ GC Zg GLo;let GMv:=zv2 pq bN qg cZ gU a_ QM GNu GKe;let GSh:=aky yN GAk WI GTi;exact agM F bN gU a_ cZ GC Zg GPi GCh GBa GFr GDw GGp GLB GBo GMv GNu GSa GSh GLg GTi WI GWo GSo
end T_k97
open PySem PySem.W PyProof.Rows
set_option maxRecDepth 100000 in
set_option maxHeartbeats 0 in
theorem PySem.Challenge.cw_trussyard_k97_whole_chains_bend_holds : PySem.Challenge.rw_trussyard_k97_whole_chains_bend.Holds := by
 w_on;o_law;k_head;(case hw=>w_witness2)
 k_fill
 refine Ty.walk (l:=PySem.Challenge.rw_trussyard_k97_whole_chains_bend) (x:="_law_script") (k:=42) (CX:=fun w=>Ty.aS (PySem.Challenge.rw_trussyard_k97_whole_chains_bend).prog w) rfl rfl (by first | rfl | decide+kernel) ⟨rfl,dL,dL⟩ (fun w h σ=>PySem.W.kIn_of σ) (fun w=>Ty.aS.EH) ?F
 case F=>
  intro w mg fa h KX G hmg
  refine' T_k97.all_mk KX G hmg ⟨?A0,?A1,?A2,?A3⟩ ⟨?A4,?A5,?A6,?A7⟩ ⟨?A8,?A9,?Aa,?Ab⟩ ⟨?Ac,?Ad,?Ae,?Af⟩ ⟨?Ag,?Ah,?Ai,?Aj⟩ ⟨?Ak,?Al,?Am,?An⟩ ⟨?Ao,?Ap,?Aq,?Ar⟩ ⟨?As,?At,?Au,?Av⟩ ⟨?Aw,?Ax,?Ay,?Az⟩ ⟨?B0,?B1,?B2,?B3⟩ ⟨?B4,?B5,?B6,?B7⟩ ⟨?B8,?B9,?Ba,?Bb⟩ ⟨?Bc,?Bd,?Be,?Bf⟩ ⟨?Bg,?Bh,?Bi,?Bj⟩ ⟨?Bk,?Bl,?Bm,?Bn⟩ ⟨?Bo,?Bp,?Bq,?Br⟩ ⟨?Bs,?Bt,?Bu,?Bv⟩ ⟨?Bw,?Bx,?By,?Bz⟩ ⟨?C0,?C1,?C2,?C3⟩ ⟨?C4,?C5,?C6,?C7⟩ ⟨?C8,?C9,?Ca,?Cb⟩ ⟨?Cc,?Cd,?Ce,?Cf⟩ ⟨?Cg,?Ch,?Ci,?Cj⟩ ⟨?Ck,?Cl,?Cm,?Cn⟩ ⟨?Co,?Cp,?Cq,?Cr⟩ ⟨?Cs,?Ct,?Cu,?Cv⟩ ⟨?Cw,?Cx,?Cy,?Cz⟩ ⟨?D0,?D1,?D2,?D3⟩ ⟨?D4,?D5,?D6,?D7⟩ ⟨?D8,?D9,?Da,?Db⟩ ⟨?Dc,?Dd,?De,?Df⟩ ⟨?Dg,?Dh,?Di,?Dj⟩ ⟨?Dk,?Dl,?Dm,?Dn⟩ ⟨?Do,?Dp,?Dq,?Dr⟩ ⟨?Ds,?Dt,?Du,?Dv⟩ ⟨?Dw,?Dx,?Dy,?Dz⟩ ⟨?E0,?E1,?E2,?E3⟩ ⟨?E4,?E5,?E6,?E7⟩ ⟨?E8,?E9,?Ea,?Eb⟩ ⟨?Ec,?Ed,?Ee,?Ef⟩ ⟨?Eg,?Eh,?Ei,?Ej⟩ ⟨?Ek,?El,?Em,?En⟩ ⟨?Eo,?Ep,?Eq,?Er⟩ ⟨?Es,?Et,?Eu,?Ev⟩ ⟨?Ew,?Ex,?Ey,?Ez⟩ ⟨?F0,?F1,?F2,?F3⟩ ⟨?F4,?F5,?F6,?F7⟩ ⟨?F8,?F9,?Fa,?Fb⟩ ⟨?Fc,?Fd,?Fe,?Ff⟩ ⟨?Fg,?Fh,?Fi,?Fj⟩ ⟨?Fk,?Fl,?Fm,?Fn⟩ ⟨?Fo,?Fp,?Fq,?Fr⟩ ⟨?Fs,?Ft,?Fu,?Fv⟩ ⟨?Fw,?Fx,?Fy,?Fz⟩ ⟨?G0,?G1,?G2,?G3⟩ ⟨?G4,?G5,?G6,?G7⟩ ⟨?G8,?G9,?Ga,?Gb⟩ ⟨?Gc,?Gd,?Ge,?Gf⟩ ⟨?Gg,?Gh,?Gi,?Gj⟩ ⟨?Gk,?Gl,?Gm,?Gn⟩ ?Go ?Gp ?Gq ?Gr ?Gs ?Gt ?Gu ?Gv ?Gw ?Gx ?Gy ?Gz ?H0 ?H1 ?H2 ?H3 ?H4 ?H5 ?H6 ?H7 ?H8 ?H9 ?Ha ?Hb ?Hc ?Hd ?He ?Hf ?Hg ?Hh ?Hi ?Hj ?Hk ?Hl ?Hm ?Hn ?Ho ?Hp ?Hq ?Hr ?Hs ?Ht ?Hu ?Hv ?Hw ?Hx ?Hy ?Hz ?I0 ?I1 ⟨?I2,?I3,?I4,?I5,?I6⟩ ?I7 ?I8 ?I9 ?Ia ?Ib ?Ic ⟨?Id,?Ie,?If,?Ig,?Ih⟩ ⟨?Ii,?Ij,?Ik,?Il,?Im⟩ ⟨?In,?Io,?Ip,?Iq,?Ir⟩ ⟨?Is,?It,?Iu,?Iv,?Iw⟩ ⟨?Ix,?Iy,?Iz,?J0,?J1⟩ ⟨?J2,?J3,?J4,?J5,?J6⟩ ⟨?J7,?J8,?J9,?Ja,?Jb⟩ ⟨?Jc,?Jd,?Je,?Jf,?Jg⟩ ?Jh ?Ji ?Jj ?Jk ?Jl ?Jm ?Jn ⟨?Jo,?Jp,?Jq,?Jr,?Js⟩ ?Jt ?Ju ?Jv ?Jw ?Jx ?Jy ⟨?Jz,?K0,?K1,?K2,?K3⟩ ⟨?K4,?K5,?K6,?K7,?K8⟩ ?K9 ?Ka ?Kb ?Kc ?Kd ?Ke ?Kf ⟨?Kg,?Kh,?Ki,?Kj,?Kk⟩ ?Kl ?Km ?Kn ?Ko ?Kp
  (case A0|A1|A2|A3|A4|A5|A6|A7|A8|A9|Aa|Ab|Ac|Ad|Ae|Af|Ag|Ah|Ai|Aj|Ak|Al|Am|An|Ao|Ap|Aq|Ar|As|At|Au|Av|Aw|Ax|Ay|Az|B0|B1|B2|B3|B4|B5|B6|B7|B8|B9|Ba|Bb|Bc|Bd|Be|Bf|Bg|Bh|Bi|Bj|Bk|Bl|Bm|Bn|Bo|Bp|Bq|Br|Bs|Bt|Bu|Bv|Bw|Bx|By|Bz|C0|C1|C2|C3|C4|C5|C6|C7|C8|C9|Ca|Cb|Cc|Cd|Ce|Cf|Cg|Ch|Ci|Cj|Ck|Cl|Cm|Cn|Co|Cp|Cq|Cr|Cs|Ct|Cu|Cv|Cw|Cx|Cy|Cz|D0|D1|D2|D3|D4|D5|D6|D7|D8|D9|Da|Db|Dc|Dd|De|Df|Dg|Dh|Di|Dj|Dk|Dl|Dm|Dn|Do|Dp|Dq|Dr|Ds|Dt|Du|Dv|Dw|Dx|Dy|Dz|E0|E1|E2|E3|E4|E5|E6|E7|E8|E9|Ea|Eb|Ec|Ed|Ee|Ef|Eg|Eh|Ei|Ej|Ek|El|Em|En|Eo|Ep|Eq|Er|Es|Et|Eu|Ev|Ew|Ex|Ey|Ez|F0|F1|F2|F3|F4|F5|F6|F7|F8|F9|Fa|Fb|Fc|Fd|Fe|Ff|Fg|Fh|Fi|Fj|Fk|Fl|Fm|Fn|Fo|Fp|Fq|Fr|Fs|Ft|Fu|Fv|Fw|Fx|Fy|Fz|G0|G1|G2|G3|G4|G5|G6|G7|G8|G9|Ga|Gb|Gc|Gd|Ge|Gf|Gg|Gh|Gi|Gj|Gk|Gl|Gm|Gn|Go|Gp|Gq|Gr|Gs|Gt|Gu|Gv|Gw|Gx|Gy|Gz|H0|H1|H2|H3|H4|H5|H6|H7|H8|H9|Ha|Hb|Hc|Hd|He|Hf|Hg|Hh|Hi|Hj|Hk|Hl|Hm|Hn|Ho|Hp|Hq|Hr|Hs|Ht|Hu|Hv|Hw|Hx|Hy|Hz|I0|I1|I2|I3|I4|I5|I6|I7|I8|I9|Ia|Ib|Ic|Id|Ie|If|Ig|Ih|Ii|Ij|Ik|Il|Im|In|Io|Ip|Iq|Ir|Is|It|Iu|Iv|Iw|Ix|Iy|Iz|J0|J1|J2|J3|J4|J5|J6|J7|J8|J9|Ja|Jb|Jc|Jd|Je|Jf|Jg|Jh|Ji|Jj|Jk|Jl|Jm|Jn|Jo|Jp|Jq|Jr|Js|Jt|Ju|Jv|Jw|Jx|Jy|Jz|K0|K1|K2|K3|K4|K5|K6|K7|K8|K9|Ka|Kb|Kc|Kd|Ke|Kf|Kg|Kh|Ki|Kj|Kk|Kl|Km|Kn|Ko=>k_is);(case Kp=>rfl)
#print axioms PySem.Challenge.cw_trussyard_k97_whole_chains_bend_holds
