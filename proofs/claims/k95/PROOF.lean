import PyProof.Rows.All
import Wide.All
import OpenK.AllK
import PySem.Challenge.RW_trussyard_k95_whole_long_chains
set_option Elab.async false
set_option linter.all false
set_option maxRecDepth 100000
set_option compiler.extract_closed false
def gE.{u}{Z:Type u}{l:List Z}(h:i < l.length):l[i]? =some l[i]:=List.getElem?_eq_getElem h
namespace PySem.W.Fast
theorem tw9773014472213063015:True:=⟨⟩
theorem tw6222966273749169693:True:=⟨⟩
theorem tw2254243784105918582:True:=⟨⟩
theorem tw18124049782144972773:True:=⟨⟩
theorem tw11552552286877726831:True:=⟨⟩
theorem tw7778759720667846457:True:=⟨⟩
theorem tw12496984247359185395:True:=⟨⟩
theorem tw1601678592817439525:True:=⟨⟩
theorem tw1436240870419995458:True:=⟨⟩
theorem tw9255071262990752439:True:=⟨⟩
theorem tw1883898647943035476:True:=⟨⟩
theorem tw11331533480250052519:True:=⟨⟩
theorem tw14314027853450644662:True:=⟨⟩
theorem tw8424235529226815763:True:=⟨⟩
theorem tw13287160262082560122:True:=⟨⟩
theorem tw2970916166274565988:True:=⟨⟩
theorem tw10443079650373898171:True:=⟨⟩
theorem tw11984982971752274765:True:=⟨⟩
theorem tw14192575175172772093:True:=⟨⟩
theorem tw13298225067873209520:True:=⟨⟩
theorem tw2698579074243520726:True:=⟨⟩
theorem tw14461977907537578068:True:=⟨⟩
theorem tw8951662147800762098:True:=⟨⟩
theorem tw9906748750872224405:True:=⟨⟩
theorem tw8484825450884130638:True:=⟨⟩
theorem tw4456595761820877592:True:=⟨⟩
theorem tw5520717907659491418:True:=⟨⟩
theorem tw11064979347971047924:True:=⟨⟩
theorem tw13673827162111881848:True:=⟨⟩
theorem tw7554754045057076707:True:=⟨⟩
theorem tw13882477979835715846:True:=⟨⟩
theorem tw17713628920157045981:True:=⟨⟩
theorem tw14089432155410920704:True:=⟨⟩
theorem tw9501758322164799893:True:=⟨⟩
theorem tw16571064488127302642:True:=⟨⟩
theorem tw9082701141234525622:True:=⟨⟩
theorem tw6666047137848907403:True:=⟨⟩
theorem tw4530313840517154540:True:=⟨⟩
theorem tw17761637312361206685:True:=⟨⟩
theorem tw15441286780240779131:True:=⟨⟩
theorem tw15666043084555724057:True:=⟨⟩
theorem tw8148159323954386134:True:=⟨⟩
theorem tw2116543199103042591:True:=⟨⟩
theorem tw17128698702024941013:True:=⟨⟩
theorem tw6877427626053751229:True:=⟨⟩
theorem tw15732919471688313606:True:=⟨⟩
theorem tw11585494902308432596:True:=⟨⟩
theorem tw8853260198746784862:True:=⟨⟩
theorem tw2934956821762257692:True:=⟨⟩
theorem tw6976894486314125914:True:=⟨⟩
theorem tw6774603054621724879:True:=⟨⟩
theorem tw17851201863804209284:True:=⟨⟩
theorem tw14185416911379255622:True:=⟨⟩
theorem tw2612601022348514289:True:=⟨⟩
theorem tw15553929331067904235:True:=⟨⟩
theorem tw423466039030229939:True:=⟨⟩
theorem tw13262694690497095262:True:=⟨⟩
theorem tw2744262958130253220:True:=⟨⟩
theorem tw11759208544260556367:True:=⟨⟩
theorem tw6077670719121133554:True:=⟨⟩
theorem tw4418498417278721866:True:=⟨⟩
theorem tw2336166947858434436:True:=⟨⟩
theorem tw2240319040118230920:True:=⟨⟩
theorem tw14750697645062190649:True:=⟨⟩
theorem tw16588220355433677764:True:=⟨⟩
theorem tw3735860292021598625:True:=⟨⟩
theorem tw11313921564440087156:True:=⟨⟩
theorem tw9986291145737749563:True:=⟨⟩
theorem tw8881044021770816653:True:=⟨⟩
theorem tw6981166227636141325:True:=⟨⟩
theorem tw13528728507213514382:True:=⟨⟩
theorem tw12124878546336303891:True:=⟨⟩
theorem tw7620842304228816900:True:=⟨⟩
theorem tw4762057159230297000:True:=⟨⟩
theorem tw15580226607359666893:True:=⟨⟩
theorem tw8646280329718947716:True:=⟨⟩
theorem tw14937342763374429516:True:=⟨⟩
theorem tw8728675863469203215:True:=⟨⟩
theorem tw14383106498349905903:True:=⟨⟩
theorem tw11140068558144477438:True:=⟨⟩
theorem tw3657331250804728667:True:=⟨⟩
theorem tw2011220145264707306:True:=⟨⟩
theorem tw18206765105993469218:True:=⟨⟩
theorem tw18022368708846227984:True:=⟨⟩
theorem tw15502326264581359991:True:=⟨⟩
theorem tw14747132321030047893:True:=⟨⟩
theorem tw9283697947891742779:True:=⟨⟩
theorem tw8111090267320690404:True:=⟨⟩
theorem tw418372268721386668:True:=⟨⟩
theorem tw4892858309536719849:True:=⟨⟩
theorem tw14617522343962178121:True:=⟨⟩
theorem tw1906632958903614631:True:=⟨⟩
theorem tw5561959387672726903:True:=⟨⟩
theorem tw11098458155698611947:True:=⟨⟩
theorem tw7602028641080293069:True:=⟨⟩
theorem tw7035546139685409021:True:=⟨⟩
theorem tw18354961868748744701:True:=⟨⟩
theorem tw17909828810482984817:True:=⟨⟩
theorem tw17905419355850702465:True:=⟨⟩
theorem tw1366791089749784361:True:=⟨⟩
theorem tw2348639009194364193:True:=⟨⟩
theorem tw11252245184529429377:True:=⟨⟩
theorem tw6303287422914944379:True:=⟨⟩
theorem tw340331496404282506:True:=⟨⟩
theorem tw14513646137208664500:True:=⟨⟩
theorem tw12064410774687003531:True:=⟨⟩
theorem tw17486076867490304660:True:=⟨⟩
theorem tw7755613877826346506:True:=⟨⟩
theorem tw14637574503448089357:True:=⟨⟩
theorem tw11678946630091034237:True:=⟨⟩
theorem tw10954010855630590462:True:=⟨⟩
theorem tw12149829054596553769:True:=⟨⟩
theorem tw3777258884067588761:True:=⟨⟩
theorem tw9510009278920847961:True:=⟨⟩
theorem tw17124614636356544723:True:=⟨⟩
theorem tw15385088536552106053:True:=⟨⟩
theorem tw3347821804602196652:True:=⟨⟩
theorem tw426721551171166156:True:=⟨⟩
theorem tw17584744730827486873:True:=⟨⟩
theorem tw17362544920110693919:True:=⟨⟩
theorem tw16926224537749752748:True:=⟨⟩
theorem tw509331309145040094:True:=⟨⟩
theorem tw6736513715480210848:True:=⟨⟩
theorem tw5527424816811508791:True:=⟨⟩
theorem tw10203794877296301415:True:=⟨⟩
theorem tw9287341108011190788:True:=⟨⟩
theorem tw3336150104929261732:True:=⟨⟩
theorem tw13502251986486804258:True:=⟨⟩
theorem tw11384695819012500857:True:=⟨⟩
theorem tw9098434306682695331:True:=⟨⟩
theorem tw8149814853914186639:True:=⟨⟩
theorem tw5024386753663554705:True:=⟨⟩
theorem tw4827699916270111572:True:=⟨⟩
theorem tw7429200084941192333:True:=⟨⟩
theorem tw5629959641907187751:True:=⟨⟩
theorem tw11598333181429403781:True:=⟨⟩
theorem tw3199250145406490831:True:=⟨⟩
theorem tw1558816814571780036:True:=⟨⟩
theorem tw6434640784664227320:True:=⟨⟩
theorem tw11442327992724112756:True:=⟨⟩
theorem tw13235050128767779216:True:=⟨⟩
theorem tw1642273637786742468:True:=⟨⟩
theorem tw13433208819179522969:True:=⟨⟩
theorem tw4076086957695690412:True:=⟨⟩
theorem tw18335307869230766974:True:=⟨⟩
theorem tw7645803838452061780:True:=⟨⟩
theorem tw10949611485885380914:True:=⟨⟩
theorem tw11871518376624040410:True:=⟨⟩
theorem tw7160962122098761627:True:=⟨⟩
theorem tw6304841884435319067:True:=⟨⟩
theorem tw17296091600126428156:True:=⟨⟩
theorem tw12253541111460044245:True:=⟨⟩
theorem tw15470529128522459727:True:=⟨⟩
theorem tw7143833181186232278:True:=⟨⟩
theorem tw4115315699387196276:True:=⟨⟩
theorem tw15005561663896853982:True:=⟨⟩
theorem tw8758708937779241481:True:=⟨⟩
theorem tw3202738880815464709:True:=⟨⟩
theorem tw2181271330021159671:True:=⟨⟩
theorem tw4692937352389859277:True:=⟨⟩
theorem tw609133497284195096:True:=⟨⟩
theorem tw4999605155040318306:True:=⟨⟩
theorem tw2385255418182956931:True:=⟨⟩
theorem tw8195910558807510029:True:=⟨⟩
theorem tw5142357217049467799:True:=⟨⟩
theorem tw2753488274134979498:True:=⟨⟩
theorem tw2108380406840395764:True:=⟨⟩
theorem tw15160472395150185421:True:=⟨⟩
theorem tw14063063729480748458:True:=⟨⟩
theorem tw12527221862318407456:True:=⟨⟩
theorem tw11965008161071321928:True:=⟨⟩
theorem tw10383238962737096801:True:=⟨⟩
theorem tw174802693077014963:True:=⟨⟩
theorem tw16340125113735467682:True:=⟨⟩
theorem tw15573190207238146752:True:=⟨⟩
theorem tw3633100070078112235:True:=⟨⟩
theorem tw1561622919689532917:True:=⟨⟩
theorem tw5740498967217220594:True:=⟨⟩
theorem tw4577075362055980658:True:=⟨⟩
theorem tw2498070346597040298:True:=⟨⟩
theorem tw2403890234914518908:True:=⟨⟩
theorem tw2085279638839611070:True:=⟨⟩
theorem tw17302710217609537599:True:=⟨⟩
theorem tw17055318390054800330:True:=⟨⟩
theorem tw15753458741408471285:True:=⟨⟩
theorem tw14486130586765825717:True:=⟨⟩
theorem tw11005773712086114813:True:=⟨⟩
theorem tw4232939225152556850:True:=⟨⟩
theorem tw15086306583226642679:True:=⟨⟩
theorem tw4149652493661852746:True:=⟨⟩
theorem tw14582698427557645414:True:=⟨⟩
theorem tw3086413043429097222:True:=⟨⟩
theorem tw8033400451165386845:True:=⟨⟩
theorem tw3407192731339145170:True:=⟨⟩
theorem tw2965866170654076095:True:=⟨⟩
theorem tw17448294470444009556:True:=⟨⟩
theorem tw16698115830591066106:True:=⟨⟩
theorem tw13102154423792193796:True:=⟨⟩
theorem tw7525259124446315465:True:=⟨⟩
theorem tw2376309126902517550:True:=⟨⟩
theorem tw16151632034920673960:True:=⟨⟩
theorem tw15802405687032433198:True:=⟨⟩
theorem tw15760651618277216761:True:=⟨⟩
theorem tw15079622417944632613:True:=⟨⟩
theorem tw10499005669234675125:True:=⟨⟩
theorem tw376812607962745746:True:=⟨⟩
theorem tw15276710133465360352:True:=⟨⟩
theorem tw9269943894972992323:True:=⟨⟩
theorem tw9017337913710558186:True:=⟨⟩
theorem tw7227399730167950357:True:=⟨⟩
theorem tw6765873801949998477:True:=⟨⟩
theorem tw6276491035193384147:True:=⟨⟩
theorem tw2805586869143304595:True:=⟨⟩
theorem tw17284275147588832528:True:=⟨⟩
theorem tw16969737031891754751:True:=⟨⟩
theorem tw16895699463319438686:True:=⟨⟩
theorem tw15401349848146802150:True:=⟨⟩
theorem tw13995292957709160499:True:=⟨⟩
theorem tw12216541825761466503:True:=⟨⟩
theorem tw10951123077643470405:True:=⟨⟩
theorem tw9033893723459535834:True:=⟨⟩
theorem tw7103901128192778466:True:=⟨⟩
theorem tw4501611673927551957:True:=⟨⟩
theorem tw4199104417084633368:True:=⟨⟩
theorem tw2314139397468830681:True:=⟨⟩
theorem tw1997942853551936065:True:=⟨⟩
theorem tw16360962751913322405:True:=⟨⟩
theorem tw15432217537064164904:True:=⟨⟩
theorem tw14738412093363161335:True:=⟨⟩
theorem tw1390709476735423269:True:=⟨⟩
theorem tw11245334324831233967:True:=⟨⟩
theorem tw11237392953766404331:True:=⟨⟩
theorem tw10423202392354608698:True:=⟨⟩
theorem tw9833468689838126054:True:=⟨⟩
theorem tw9167298184899349933:True:=⟨⟩
theorem tw6266733670103959137:True:=⟨⟩
theorem tw5244305961514049863:True:=⟨⟩
theorem tw10171555719436228256:True:=⟨⟩
theorem tw636545407874761211:True:=⟨⟩
theorem tw9449843998614646486:True:=⟨⟩
theorem tw8894389897350627648:True:=⟨⟩
theorem tw7857336854269901414:True:=⟨⟩
theorem tw7021081580262124552:True:=⟨⟩
theorem tw18231623827724055117:True:=⟨⟩
theorem tw16438780087013880492:True:=⟨⟩
theorem tw14184435135930611742:True:=⟨⟩
theorem tw14169421079529344616:True:=⟨⟩
theorem tw13512856812079638108:True:=⟨⟩
theorem tw11891380690648092931:True:=⟨⟩
theorem tw7938134640481032598:True:=⟨⟩
theorem tw6854492039881260668:True:=⟨⟩
theorem tw5641824589896227148:True:=⟨⟩
theorem tw4113647252422813428:True:=⟨⟩
theorem tw2049987096346086235:True:=⟨⟩
theorem tw18087434120908711422:True:=⟨⟩
theorem tw17100410842610596168:True:=⟨⟩
theorem tw16456093487010519872:True:=⟨⟩
theorem tw15141002650462710643:True:=⟨⟩
theorem tw14340112449898551120:True:=⟨⟩
theorem tw11959444270697838086:True:=⟨⟩
theorem tw10500563210949549366:True:=⟨⟩
theorem tw1023335416705856699:True:=⟨⟩
theorem tw3042529751577727536:True:=⟨⟩
theorem tw9982977677360272684:True:=⟨⟩
theorem tw9954182668030422388:True:=⟨⟩
theorem tw9883389553479621865:True:=⟨⟩
theorem tw9729286323419046722:True:=⟨⟩
theorem tw9595166654287481422:True:=⟨⟩
theorem tw9554119897439219926:True:=⟨⟩
theorem tw936133387153679377:True:=⟨⟩
theorem tw9323743332983639601:True:=⟨⟩
theorem tw9206035276431903618:True:=⟨⟩
theorem tw9012788577040334115:True:=⟨⟩
theorem tw8975695911634668530:True:=⟨⟩
theorem tw8970379148982414115:True:=⟨⟩
theorem tw8816790196368471796:True:=⟨⟩
theorem tw8811162452646191463:True:=⟨⟩
theorem tw8688691709427192585:True:=⟨⟩
theorem tw8664294118982578597:True:=⟨⟩
theorem tw8629864677202151006:True:=⟨⟩
theorem tw8109701302903685030:True:=⟨⟩
theorem tw7803767930547327066:True:=⟨⟩
theorem tw7755244358342702884:True:=⟨⟩
theorem tw7742582191180483784:True:=⟨⟩
theorem tw7645971786279459818:True:=⟨⟩
theorem tw7631770722503093229:True:=⟨⟩
theorem tw7626591249123041843:True:=⟨⟩
theorem tw7606218509889566265:True:=⟨⟩
theorem tw7603549084345123512:True:=⟨⟩
theorem tw7574225724705663288:True:=⟨⟩
theorem tw7536249268993276402:True:=⟨⟩
theorem tw7523703899136457615:True:=⟨⟩
theorem tw7514629727352280153:True:=⟨⟩
theorem tw7397006063523618317:True:=⟨⟩
theorem tw7324199093724513807:True:=⟨⟩
theorem tw7101755538406392076:True:=⟨⟩
theorem tw7080716680772649959:True:=⟨⟩
theorem tw6982727292010208820:True:=⟨⟩
theorem tw6969574228935112240:True:=⟨⟩
theorem tw6948246431116229004:True:=⟨⟩
theorem tw6766777411883553818:True:=⟨⟩
theorem tw6512960383218101027:True:=⟨⟩
theorem tw6417510103642799069:True:=⟨⟩
theorem tw6312222179485270146:True:=⟨⟩
theorem tw6225701942064553542:True:=⟨⟩
theorem tw6212067238823146693:True:=⟨⟩
theorem tw5991589288135488744:True:=⟨⟩
theorem tw5913603597086243357:True:=⟨⟩
theorem tw5910454991835023529:True:=⟨⟩
theorem tw5838518819751216568:True:=⟨⟩
theorem tw5571069797145539847:True:=⟨⟩
theorem tw5266157188740515984:True:=⟨⟩
theorem tw5208801902014598299:True:=⟨⟩
theorem tw481878221818501223:True:=⟨⟩
theorem tw4635620759504562284:True:=⟨⟩
theorem tw4485305221035505453:True:=⟨⟩
theorem tw4476560875828380868:True:=⟨⟩
theorem tw4376220680309780958:True:=⟨⟩
theorem tw4245380790406231459:True:=⟨⟩
theorem tw4218914248253367696:True:=⟨⟩
theorem tw4103877527463955763:True:=⟨⟩
theorem tw4084311417215722573:True:=⟨⟩
theorem tw3955668151924518566:True:=⟨⟩
theorem tw3930592497180681950:True:=⟨⟩
theorem tw386857567144178616:True:=⟨⟩
theorem tw3830514952261748236:True:=⟨⟩
theorem tw3634627754884447608:True:=⟨⟩
theorem tw3492751439914407787:True:=⟨⟩
theorem tw3487391649481193775:True:=⟨⟩
theorem tw3274662891082486831:True:=⟨⟩
theorem tw3239805267476148715:True:=⟨⟩
theorem tw307835078010503837:True:=⟨⟩
theorem tw2889408989516197767:True:=⟨⟩
theorem tw2876637840998209740:True:=⟨⟩
theorem tw2857013850614772724:True:=⟨⟩
theorem tw2807378117870567347:True:=⟨⟩
theorem tw2626013050442740858:True:=⟨⟩
theorem tw2625879260487385063:True:=⟨⟩
theorem tw2603892189439826555:True:=⟨⟩
theorem tw2535197455184275693:True:=⟨⟩
theorem tw2486486734184162956:True:=⟨⟩
theorem tw2462698000668677515:True:=⟨⟩
theorem tw2418345527461134734:True:=⟨⟩
theorem tw2392620056336867075:True:=⟨⟩
theorem tw2166116973165407174:True:=⟨⟩
theorem tw2145036898672622769:True:=⟨⟩
theorem tw2097751823410276025:True:=⟨⟩
theorem tw17984134537857468264:True:=⟨⟩
theorem tw17971271185558810872:True:=⟨⟩
theorem tw17780093839692257736:True:=⟨⟩
theorem tw17753926459477734919:True:=⟨⟩
theorem tw1763707873511611874:True:=⟨⟩
theorem tw17611575931795826942:True:=⟨⟩
theorem tw17575764819681267663:True:=⟨⟩
theorem tw1743122916865168883:True:=⟨⟩
theorem tw17378032567535513028:True:=⟨⟩
theorem tw17371574436133504600:True:=⟨⟩
theorem tw17354247548606902660:True:=⟨⟩
theorem tw17006632448169258491:True:=⟨⟩
theorem tw16700222717969522501:True:=⟨⟩
theorem tw16218119284262869597:True:=⟨⟩
theorem tw16181402191075452466:True:=⟨⟩
theorem tw15821825731287820801:True:=⟨⟩
theorem tw15782675223279201224:True:=⟨⟩
theorem tw15581640126746903042:True:=⟨⟩
theorem tw15460337929268668217:True:=⟨⟩
theorem tw15435478081342400112:True:=⟨⟩
theorem tw15417002409281486879:True:=⟨⟩
theorem tw15302858368984630043:True:=⟨⟩
theorem tw15079129681182979579:True:=⟨⟩
theorem tw15045371984445932339:True:=⟨⟩
theorem tw1501473807444287860:True:=⟨⟩
theorem tw14970722131205065009:True:=⟨⟩
theorem tw14895595878389534529:True:=⟨⟩
theorem tw14808916161615282520:True:=⟨⟩
theorem tw14719366905339700593:True:=⟨⟩
theorem tw14718534630298600330:True:=⟨⟩
theorem tw14532111653553737085:True:=⟨⟩
theorem tw14530150589170767399:True:=⟨⟩
theorem tw14518813639544870245:True:=⟨⟩
theorem tw14383323466987803833:True:=⟨⟩
theorem tw14373818558374683769:True:=⟨⟩
theorem tw14208286500419749873:True:=⟨⟩
theorem tw14084382825040728474:True:=⟨⟩
theorem tw13862189921636364753:True:=⟨⟩
theorem tw13765595929177107035:True:=⟨⟩
theorem tw13722785538784170162:True:=⟨⟩
theorem tw13642357905430670333:True:=⟨⟩
theorem tw13597045815167942565:True:=⟨⟩
theorem tw13048402383041973388:True:=⟨⟩
theorem tw13045556619234012684:True:=⟨⟩
theorem tw12737798816901155577:True:=⟨⟩
theorem tw12632443521791879506:True:=⟨⟩
theorem tw12280059649686321023:True:=⟨⟩
theorem tw11841817893878642418:True:=⟨⟩
theorem tw11816527733320521752:True:=⟨⟩
theorem tw11771167573661923795:True:=⟨⟩
theorem tw11755626783358297936:True:=⟨⟩
theorem tw11697043410629839714:True:=⟨⟩
theorem tw11695426683955460528:True:=⟨⟩
theorem tw11690540038596161152:True:=⟨⟩
theorem tw14112834279445166813:True:=⟨⟩
theorem tw14787313668964041500:True:=⟨⟩
theorem tw5408808803695428161:True:=⟨⟩
theorem tw16130089824399070877:True:=⟨⟩
theorem tw5081224488744207052:True:=⟨⟩
theorem tw6209007046536474711:True:=⟨⟩
theorem tw370426872891414593:True:=⟨⟩
theorem tw1296338770322576334:True:=⟨⟩
theorem tw5427858736276664465:True:=⟨⟩
theorem tw16647914551552248085:True:=⟨⟩
theorem tw17117300697358432153:True:=⟨⟩
theorem tw3583685247859682329:True:=⟨⟩
theorem tw18265820958104664016:True:=⟨⟩
theorem tw17508744997338718149:True:=⟨⟩
theorem tw7853078447497385945:True:=⟨⟩
theorem tw5749008784586360956:True:=⟨⟩
theorem tw16298866982508559794:True:=⟨⟩
theorem tw9303021252578892390:True:=⟨⟩
theorem tw9109759605241200163:True:=⟨⟩
theorem tw6709617441579278850:True:=⟨⟩
theorem tw8866255991745867367:True:=⟨⟩
theorem tw1753785604152561499:True:=⟨⟩
theorem tw5377969269111949972:True:=⟨⟩
theorem tw4817655486069780593:True:=⟨⟩
theorem tw13048394148979968823:True:=⟨⟩
theorem tw5988551143411054677:True:=⟨⟩
theorem tw10442170125782129894:True:=⟨⟩
theorem tw6972794663724318710:True:=⟨⟩
theorem tw1377363751924522307:True:=⟨⟩
theorem tw4464902540181970496:True:=⟨⟩
theorem tw9059472731695652433:True:=⟨⟩
theorem tw1347332954633563686:True:=⟨⟩
theorem tw8331678814521187283:True:=⟨⟩
theorem tw4359217338571038798:True:=⟨⟩
theorem tw6929735852561206234:True:=⟨⟩
theorem tw4328559791429989967:True:=⟨⟩
theorem tw7910038363444298240:True:=⟨⟩
theorem tw14844314166425098882:True:=⟨⟩
theorem tw8188160751261710567:True:=⟨⟩
theorem tw15225633296565448154:True:=⟨⟩
theorem tw11565912031761124942:True:=⟨⟩
theorem tw4194382959985361954:True:=⟨⟩
theorem tw8964689131895177972:True:=⟨⟩
theorem tw18038288737656035281:True:=⟨⟩
theorem tw13155346625471185776:True:=⟨⟩
theorem tw17478822264850668010:True:=⟨⟩
theorem tw4394788524538660377:True:=⟨⟩
theorem tw14136463359798548270:True:=⟨⟩
theorem tw16187679670236215850:True:=⟨⟩
theorem tw7307158204247798237:True:=⟨⟩
theorem tw6412102181882089954:True:=⟨⟩
theorem tw14961583004895368191:True:=⟨⟩
theorem tw427064500751733607:True:=⟨⟩
theorem tw3223399635519292452:True:=⟨⟩
theorem tw16768642113156102907:True:=⟨⟩
theorem tw1074726369425627729:True:=⟨⟩
theorem tw14414756898311185546:True:=⟨⟩
theorem tw500643180149225604:True:=⟨⟩
theorem tw17779644232892478486:True:=⟨⟩
theorem tw4350801073244686847:True:=⟨⟩
theorem tw14842952588377371962:True:=⟨⟩
theorem tw5357665009760464178:True:=⟨⟩
theorem tw2257533631883927954:True:=⟨⟩
theorem tw3828229348138560459:True:=⟨⟩
theorem tw2838368312880734550:True:=⟨⟩
theorem tw8495528390200050855:True:=⟨⟩
theorem tw9657527064866336697:True:=⟨⟩
theorem tw7203405119092255787:True:=⟨⟩
theorem tw4610535966988708049:True:=⟨⟩
theorem tw4925511995279591262:True:=⟨⟩
theorem tw10280812791272227579:True:=⟨⟩
theorem tw7530261837200078673:True:=⟨⟩
theorem tw835807511875085191:True:=⟨⟩
theorem tw4105311396527385899:True:=⟨⟩
theorem tw11444592734636125535:True:=⟨⟩
theorem tw14134860281749118333:True:=⟨⟩
theorem tw1867425034349595306:True:=⟨⟩
theorem tw11980020568000324491:True:=⟨⟩
theorem tw16082844563807035043:True:=⟨⟩
theorem tw17280592834972109675:True:=⟨⟩
theorem tw4187994693077590546:True:=⟨⟩
theorem tw3804066804644969887:True:=⟨⟩
theorem tw5690449318360162179:True:=⟨⟩
theorem tw10612315845508637073:True:=⟨⟩
theorem tw13002307188429499761:True:=⟨⟩
theorem tw11879078883467004938:True:=⟨⟩
theorem tw15992139368112286117:True:=⟨⟩
theorem tw203745935993765094:True:=⟨⟩
theorem tw8953093612142656630:True:=⟨⟩
theorem tw15965544804978162006:True:=⟨⟩
theorem tw7762943169712356377:True:=⟨⟩
theorem tw3595075557953674213:True:=⟨⟩
theorem tw2452214048700399875:True:=⟨⟩
theorem tw3005920767547978367:True:=⟨⟩
theorem tw2392960348215869398:True:=⟨⟩
theorem tw14729291401229134887:True:=⟨⟩
theorem tw10887332296232292835:True:=⟨⟩
theorem tw1242670798329264790:True:=⟨⟩
theorem tw10218054798430319208:True:=⟨⟩
theorem tw11025648402365708390:True:=⟨⟩
theorem tw1289154097825235772:True:=⟨⟩
theorem tw16093285276055050491:True:=⟨⟩
theorem tw7700733903968632847:True:=⟨⟩
theorem tw5303978974105966681:True:=⟨⟩
theorem tw12747858113714887181:True:=⟨⟩
theorem tw8570869940293780732:True:=⟨⟩
theorem tw4138667023972760125:True:=⟨⟩
theorem tw7709962726701554288:True:=⟨⟩
theorem tw17303538088050843982:True:=⟨⟩
theorem tw1718150382839735119:True:=⟨⟩
theorem tw6056119289910658971:True:=⟨⟩
theorem tw5562734369465428621:True:=⟨⟩
theorem tw8050509492315592567:True:=⟨⟩
theorem tw15614570281376434375:True:=⟨⟩
theorem tw10933823995318712537:True:=⟨⟩
theorem tw3856515760481050938:True:=⟨⟩
theorem tw11463168385649518963:True:=⟨⟩
theorem tw6552293620539434474:True:=⟨⟩
theorem tw8133939735325591490:True:=⟨⟩
theorem tw9834690727700665517:True:=⟨⟩
theorem tw5601293700935649095:True:=⟨⟩
theorem tw16040353416628803420:True:=⟨⟩
theorem tw12139027750280139181:True:=⟨⟩
theorem tw9297989188603651164:True:=⟨⟩
theorem tw7678381783623678147:True:=⟨⟩
theorem tw2829982541036268699:True:=⟨⟩
theorem tw17655304741735309691:True:=⟨⟩
theorem tw16056890349333692768:True:=⟨⟩
theorem tw17706552220838078091:True:=⟨⟩
theorem tw5501356102671086668:True:=⟨⟩
theorem tw16256673591694753127:True:=⟨⟩
theorem tw8075510639072721543:True:=⟨⟩
theorem tw11899502821999330896:True:=⟨⟩
theorem tw16852657657425116323:True:=⟨⟩
theorem tw12129804867063917274:True:=⟨⟩
theorem tw387436917942710797:True:=⟨⟩
theorem tw8278004591394467002:True:=⟨⟩
theorem tw14314345483112672813:True:=⟨⟩
theorem tw13840794575592233769:True:=⟨⟩
theorem tw1312571331664663752:True:=⟨⟩
theorem tw12140099899209259370:True:=⟨⟩
theorem tw16724951700541398007:True:=⟨⟩
theorem tw8931717006086266276:True:=⟨⟩
theorem tw3761007948334831178:True:=⟨⟩
theorem tw15329709030866876719:True:=⟨⟩
theorem tw5070556362688579690:True:=⟨⟩
theorem tw3170527933719053842:True:=⟨⟩
theorem tw9622216446895699084:True:=⟨⟩
theorem tw12598705878842777126:True:=⟨⟩
theorem tw11252819326233957464:True:=⟨⟩
theorem tw7204229817712541876:True:=⟨⟩
theorem tw16823603929453445983:True:=⟨⟩
theorem tw9211696864158207942:True:=⟨⟩
theorem tw8102193461809273142:True:=⟨⟩
theorem tw12281673538375177302:True:=⟨⟩
theorem tw15098751850553396084:True:=⟨⟩
theorem tw11335393218323339330:True:=⟨⟩
theorem tw14536427602891876344:True:=⟨⟩
theorem tw14314272897924829749:True:=⟨⟩
theorem tw1094139869750595323:True:=⟨⟩
theorem tw18208012865381970531:True:=⟨⟩
theorem tw4969020805932404371:True:=⟨⟩
theorem tw8136581083453876043:True:=⟨⟩
theorem tw4193742984333821163:True:=⟨⟩
theorem tw10400560666983293170:True:=⟨⟩
theorem tw6107105460818914190:True:=⟨⟩
theorem tw2970197945473758243:True:=⟨⟩
theorem tw8245159237816058323:True:=⟨⟩
theorem tw6435041712284360412:True:=⟨⟩
theorem tw8241105157510843212:True:=⟨⟩
theorem tw12467800977309570706:True:=⟨⟩
theorem tw2994664492242520203:True:=⟨⟩
theorem tw6594639851584452626:True:=⟨⟩
theorem tw17366964361137061998:True:=⟨⟩
theorem tw17608520930560351554:True:=⟨⟩
theorem tw2720192586587030355:True:=⟨⟩
theorem tw5480720714753901166:True:=⟨⟩
theorem tw16020619085172659881:True:=⟨⟩
theorem tw792081228854310683:True:=⟨⟩
theorem tw16874706839047315160:True:=⟨⟩
theorem tw11326209576729562887:True:=⟨⟩
theorem tw14303251555445168741:True:=⟨⟩
theorem tw398492869573477165:True:=⟨⟩
theorem tw3034619267967978275:True:=⟨⟩
theorem tw15997306981979509430:True:=⟨⟩
theorem tw7855867072141006269:True:=⟨⟩
theorem tw9046723092050367074:True:=⟨⟩
theorem tw17720879377142233235:True:=⟨⟩
theorem tw12383082700723250134:True:=⟨⟩
theorem tw17160548482247337798:True:=⟨⟩
theorem tw17814887285736330849:True:=⟨⟩
theorem tw16769831165616084757:True:=⟨⟩
theorem tw8690409078507751138:True:=⟨⟩
theorem tw9243774182432700268:True:=⟨⟩
theorem tw18247512267885783890:True:=⟨⟩
theorem tw10398204362025091112:True:=⟨⟩
theorem tw17250204222838766800:True:=⟨⟩
theorem tw16800826132711889796:True:=⟨⟩
theorem tw7970135091083290520:True:=⟨⟩
theorem tw12159053329597662682:True:=⟨⟩
theorem tw9588823855885164317:True:=⟨⟩
theorem tw2990333849658625355:True:=⟨⟩
theorem tw8593887488031498898:True:=⟨⟩
theorem tw1925984826119092579:True:=⟨⟩
theorem tw11782106255703924915:True:=⟨⟩
theorem tw11978516577562331176:True:=⟨⟩
theorem tw15510974879857209582:True:=⟨⟩
theorem tw17177003949317921372:True:=⟨⟩
theorem tw13944592218730952378:True:=⟨⟩
theorem tw16669735045081220081:True:=⟨⟩
theorem tw5990323279432217635:True:=⟨⟩
theorem tw9570617136578004603:True:=⟨⟩
theorem tw16007237474587857811:True:=⟨⟩
theorem tw10310448164202424915:True:=⟨⟩
theorem tw11361706892751292937:True:=⟨⟩
theorem tw12149488764645123131:True:=⟨⟩
theorem tw14549610819139693986:True:=⟨⟩
theorem tw14351669927921551707:True:=⟨⟩
theorem tw2994217129071550273:True:=⟨⟩
theorem tw6822817038642229455:True:=⟨⟩
theorem tw11766880889659562636:True:=⟨⟩
theorem tw253347443980728618:True:=⟨⟩
theorem tw6823071168086836709:True:=⟨⟩
theorem tw13060524961460098091:True:=⟨⟩
theorem tw3935392701446826469:True:=⟨⟩
theorem tw12138761324281622960:True:=⟨⟩
theorem tw8663362326692521605:True:=⟨⟩
theorem tw3273151454811071412:True:=⟨⟩
theorem tw13607927383990664696:True:=⟨⟩
theorem tw3861405280541243355:True:=⟨⟩
theorem tw191570091063901603:True:=⟨⟩
theorem tw9724938338293120902:True:=⟨⟩
theorem tw5967332417147183628:True:=⟨⟩
theorem tw18103670253151467846:True:=⟨⟩
theorem tw10751296032417542710:True:=⟨⟩
theorem tw3373049798757063774:True:=⟨⟩
theorem tw15826225319088737269:True:=⟨⟩
end PySem.W.Fast
open Array renaming length_toList->ag1, getElem?_eq_getElem->aho, toList->aol
open Bool renaming false_ne_true->KQ, eq_false_iff->QS, and_eq_true->QQ, eq_iff_iff->RS, false_eq_true->Vv, and_false->WH, and_true->ZU, false_or->aoc
open Classical renaming byContradiction->O5, not_imp->yv, not_forall->ah0
open Int renaming zero_add->Kp, natAbs_mul->NL, ne_of_gt->NA, gcd->KP, toNat_of_nonneg->RW, mul_eq_zero->QP, fmod_eq_emod_of_nonneg->pF, gcd_dvd_right->V3, mul_comm->Px, natAbs_add_le->Sk, mul_pos->Og, gcd_dvd_left->V4, fmod_nonneg_of_pos->Zc, natAbs_dvd_natAbs->Z_, fdiv_eq_of_eq_mul_right->ags, mul_zero->Sf, mul_assoc->WE, fmod_lt_of_pos->zg, natAbs_neg->ZG, mul_neg_of_pos_of_neg->ahn, lt_trichotomy->zH, gcd_zero_right->ah', toNat_natCast->ais, fmod_def->yU, gcd_mul_left->anN, gcd_pos_iff->anV, mul_ne_zero->anW, dvd_coe_gcd->an0
open List renaming getElem?_eq_some_iff->be, length_map->ir, getElem?_map->Wp, mem_of_getElem?->DE, mem_map->CZ, getElem?_of_mem->D_, map_cons->DG, getElem?_eq_none->EZ, mem_cons_self->EJ, mem_cons_of_mem->FF, length_append->ER, replicate->EI, getD_eq_getElem?_getD->KU, mem_singleton->K3, getElem?_append_left->K_, mem_append->K2, map_append->K7, length_take->KI, getElem?_append_right->Kx, flatMap_cons->KO, mem_filter->KN, map_map->K4, mem_cons->KD, size_toArray->KW, map_congr_left->Ml, sum_cons->KR, mem_append_right->N8, length_range->Mf, range->KC, nodup_cons->Kr, length_cons->Me, getElem?_set->Mr, ext_getElem?->Mt, take_length->Mo, mem_range->Md, mem_append_left->O1, getElem?_replicate->OV, length_replicate->OT, map_nil->MV, getElem?_take_of_lt->QV, getElem?_range->Oh, length_eq_zero_iff->R7, zipWith->NZ, replicate_succ->Q_, length->NO, take_append_drop->Rb, mem_flatMap->Pq, filter_cons->Pg, append_assoc->QU, take_of_length_le->Si, flatMap_append->RX, length_drop->QR, sum_nil->Oe, length_eq_one_iff->Wy, lookup->OS, filter_append->Sh, length_singleton->Wx, getElem?_zipWith->Wr, length_filter_le->Wi, length_set->RQ, mem_iff_getElem->Xn, length_eraseIdx->Xl, mem_of_mem_eraseIdx->pM, cons_append->Sj, getElem_mem->V5, nodup_range->Ry, filter_cons_of_neg->Zj, filter_cons_of_pos->Zg, getElem?_eraseIdx->Za, find?_cons->Rx, pairwise_map->Vs, nodup_append->Vp, mem_of_mem_take->ZW, any_eq_true->Vm, pairwise_iff_getElem->agB, filterMap_cons->mG, any_cons->Sg, sublist_append_left->agH, nil_append->WM, flatten_cons->lh, getElem?_inj->Zu, pairwise_iff_forall_sublist->agU, append_nil->Zl, range_succ->oN, mem_filterMap->zj, lookup_append->zY, nodup_nil->ZF, pairwise_cons->zX, nodup_iff_pairwise_ne->ahi, getElem_range->zR, map_singleton->zN, take_add_one->yw, count_append->yX, length_eraseIdx_le->ahC, getElem?_set_self->ahE, range_succ_eq_map->ahF, zipWith_cons_cons->ahH, length_pos_of_mem->ahI, getElem_cons_drop->ahK, pairwise_lt_range->ahL, of_mem_zip->ahO, sum_append->zv, length_nil->zp, eq_nil_or_concat->ahS, concat_eq_append->ahT, mem_of_mem_erase->ahU, getElem?_set_ne->ahV, getElem_toArray->ahY, pairwise_append->ah3, nodup_iff_count->ah4, take_succ_cons->ah5, all_cons->ah7, forIn_toArray->ah_, set_cons_zero->aia, set_cons_succ->aid, zip_cons_cons->aie, map_replicate->aii, getElem_take->anC, getElem_inj->anK, lookup_cons->anO, all_eq_true->anP, getElem_map->anQ, cons_ne_nil->anR, nil_sublist->anS, forIn_cons->anX, foldl->y4, Nodup->xy, forIn_nil->an6
open List.Pairwise renaming map->Vo, nil->z8
open List.Sublist renaming refl->anF
open Nat renaming le_trans->DC, lt_of_le_of_lt->FU, le_refl->DU, lt_of_lt_of_le->Kq, pow_le_pow_right->L8, ne_of_lt->KJ, mul_le_mul_right->N2, mul_le_mul->Mc, zero_le->KZ, lt_succ_self->NM, lt_succ_iff_lt_or_eq->Rc, lt_irrefl->O6, le_of_lt->O0, not_lt_zero->Oi, lt_succ_of_lt->QT, one_le_two_pow->RV, add_mul->O4, min_eq_left->RY, add_sub_cancel_left->agK, pow_succ->Se, lt_trichotomy->Zr, pow_add->Rz, pow_le_pow_left->ag2, ne_of_gt->WW, le_of_eq->WV, add_comm->WO, mul_comm->W7, zero_mul->Wh, le_of_not_lt->ahB, lt_trans->ZP, two_pow_pos->zo, le_succ->ZI, one_mul->ZH, eq_zero_or_pos->ail, min_self->yM, le_succ_of_le->am_, sub_self->xN, min_le_left->an1
open Ne renaming symm->FG
open Option renaming map_eq_some_iff->K9, map_some->R_, isSome_map->yz, isSome_iff_exists->ahy, bind_eq_some_iff->ahD, mem_toList->anH, getD_none->anL, none->aoB
open Option.some renaming inj->FA
open Or renaming inl->NY, inr->RP
open Prod renaming ext->Vj, fst->xA, snd->wu
open Prod.mk renaming injEq->aod
open Rat renaming intCast_mul->Of, intCast_inj->Pc, zero_add->ZJ, num_divInt_den->ah9, mul_inv_cancel->aij, divInt_eq_div->al_, zero_mul->xI, div_def->xG, mul_one->xE, intCast_add->anY, intCast_sub->anZ
open Std.Legacy.Range renaming forIn_eq_forIn_range'->ahX, size->aov
open Sum renaming inr->KA, inl->Oa
open Sum.inl renaming inj->Sa
open Sum.inr renaming inj->NQ
open PySem.W (Frag nsIn codeIn keepIn fnOf mg_of mg_none_of)
open PySem renaming Addr->AG, wpAny_bind->CV, sizeLine->C_, wpAny->C', Shared->D', wpAny_pure->DV, model->CY, mainGlobals->K0, starEach->EX, Program->FQ, Around->KH, eval->DX, bootBuiltins->Kv, sysModules->Ks, wpAny_mono->Ku, wpAny_holding->Nj, compareOp->Mg, foldedSetIterable->Q0, wpAny_truthy_bool->RG, backTo->Kw, intBits_mul_le->Q8, binaryOp->Nn, codeAny->NF, wpAny_Call_Name_kw->VI, wpAny_passesOwn->Rp, wpAny_newObj_type->VF, wpAny_field->Q7, cLine->Mn, mem_of_lookup->σ', wpAny_getItem_str_slice->u9, intBits_le_64->Rm, tupleKind_room_in1->Xr, wpAny_dictEntries->σ6, rawInt->Nr, swapsWith->Q9, assignEach->RH, wpAny_call_entry->σ2, behindInMarks->VL, attributeBase->V6, sliceBounds->Rg, call_meets->Rf, keywordEach->V8, holding->Py, wpAny_execs_nil->tF, letOwnedTupleGo->qh, wpAny_typeOf->Ve, post_val_or_str->Yz, call_meetsIn->Vd, wpAny_updateSeq->ZD, recursionLimit->α8, wpAny_seqItems->α7, sizeLine_eq->Vk
open PySem.Heap renaming get?_push_of_some->K1, lt_size->FI, get?_push_size->L6, get?_update_other->Q3, size_push->Rn, get?_update_self->wD, SameBut->Xo
open PySem.Paired renaming length->EO, snoc->V7
open PySem.PassesOwn renaming never->K6
open PySem.W renaming findIn->Kl, emptyDict->Nl, instObj->Nk, kia_one->OX, plainGet->RF, makesIn->RB, hasDictIn->Rr, plainOver->VC, kitOne->VM, callWith_K->rn, isFn->Vl, lookIn->α9
open PySem.F renaming plainAttrs_list->Ov, slot_list_append->Ri, type_list_append->Rh, slot_dict_items->rm, slot_zip_next->ZC
open PySem.Str renaming ofString->Na
open PyProof.Rows renaming callWith_type1->VB, envOfC->NT, kindOf->Np, AllBare->Om
open PySem.Builtin.List renaming listTooLong->V9, listExtendWith->uZ
open PySem.Builtin.SmallTypes renaming ownedTupleIsFree->u4, nextOf->uW
open PySem.Builtin.Slice renaming slicePlaces->uY
open PySem.Obj renaming mapSeq->PD
open PySem.Builtin.Tuple renaming tupleExact->uV
open PySem.Calls renaming callWith_builtin->u5, spliced_cons->tE
def mJ.{u}{c:Prop}[Decidable c](a:¬c){Z:Sort u}{t e:Z}:ite c t e=e:=if_neg a
def mK.{u}{c:Prop}[Decidable c](a:c){Z:Sort u}{t e:Z}:ite c t e=t:=if_pos a
def DL{a b:Prop}(h:a)(n:¬a):b:=absurd h n
def Km{p:Prop}[Decidable p](h:decide p=true):p:=of_decide_eq_true h
def oP.{u,v}{Z:Sort u}{β:Sort v}{a b:Z}(f:Z->β)(h:a=b):f a=f b:=congrArg f h
def Kk{p:Prop}[Decidable p](h:p):decide p=true:=decide_eq_true h
def O7{p:Prop}[Decidable p](h:¬p):decide p=false:=decide_eq_false h
local macro_rules|`(tactic|show ⟨$xs,*⟩)=>`(tactic|refine ⟨$xs,*⟩)
theorem ga {p:Prop}(h:p:=by omega):p:=h
theorem gt {p:Prop}[Decidable p](h:decide p=true:=by rfl):p:=of_decide_eq_true h
theorem gV {p:Prop}(h:p:=by simp):p:=h
local macro_rules|`(tactic|erw [$r,*] at $h:ident)=>`(tactic|(rw [$r,*] at $h:ident;cases $h:ident))
local macro_rules|`(tactic|let $d:letDecl)=>`(tactic|have $d:letDecl)
namespace L2
open PySem PySem.Spec PyProof.Rows
abbrev _root_.ε:=Value->D'->Prop
abbrev _root_.ζ:=List (List Int)
abbrev _root_.η:=List (AG×Obj)
abbrev _root_.ι:=List (Nat×List Int)
abbrev _root_.ξ:=Str->Option Value
abbrev _root_.ο:=List (Int×Int)
abbrev _root_.π:=List Int
abbrev _root_.ς:=Str->Option (Rat×Rat)
abbrev _root_.τ:=List Value
abbrev _root_.υ:=List (List (Int×Int))
abbrev _root_.χ:=Str->List Rat
abbrev _root_.ψ:=List Str
abbrev _root_.ω:=List AG
abbrev _root_.Β:=List Expr
abbrev _root_.Δ:=Str->Rat
abbrev _root_.Ζ:=List (Str×Str×Str)
abbrev _root_.Θ:=List (Nat×List (Int×Int))
abbrev _root_.Ι:=Option AG
abbrev _root_.Κ:=List (Rat×Rat)
abbrev _root_.Λ:=List Rat
abbrev _root_.Μ:=Str->Rat×Rat
abbrev _root_.Ν:=List Nat
abbrev _root_.Ο:=Array (Option Value)
abbrev _root_.Ρ:=Array Value
abbrev _root_.Τ:=List (Str×List (Rat×Rat))
abbrev _root_.Υ:=Option Int
abbrev _root_.Φ:=Result->D'->Prop
abbrev _root_.Ψ:=Nat×List Int
abbrev _root_.Ω:=Option Value->D'->Prop
abbrev Key:=Sum Int Str
abbrev _root_.Χ:=List (List Key×AG×Value)
def vd:Key->Value->Bool
 | .inl k,v=>Value.isInt k v
 | .inr x,v=>Value.isStrOf x v
def afy (w:World):Key->Int
 | .inl k=>hashInt k
 | .inr x=>hashStr w x
def cN:∀{k:Key} {v:Value},vd k v=true->(∃i t,k=Oa i/\v=Value.int i t)\/(∃x t,k=KA x/\v=Value.str x t)
 | .inl i,v,h=>by
  obtain ⟨t,e⟩:=Value.isInt_shape (k:=i) (v:=v) h;exact .inl ⟨i,t,rfl,e⟩
 | .inr x,v,h=>by
  obtain ⟨t,e⟩:=Value.isStrOf_shape (x:=x) (v:=v) h;exact .inr ⟨x,t,rfl,e⟩
def acb (i:Int)(t:Tok):vd (.inl i) (.int i t)=true:=by simp [vd,Value.isInt]
def acd (x:Str)(t:Tok):vd (.inr x) (.str x t)=true:=by simp [vd,Value.isStrOf]
def zaI (a b:Int):decide ((Oa a:Key)=Oa b)=(a==b):=by
 by_cases e:a=b
 ·subst e;simp
 ·let h:¬ (Oa a:Key)=Oa b:=fun q=>e (Sa q)
  rw [O7 h];exact (beq_eq_false_iff_ne.mpr e).symm
def zaC (a b:Str):decide ((KA a:Key)=KA b)=decide (a=b):=by
 by_cases e:a=b
 ·subst e;simp
 ·let h:¬ (KA a:Key)=KA b:=fun q=>e (NQ q)
  rw [O7 h,O7 e]
def aiz (a:Int)(b:Str):decide ((Oa a:Key)=KA b)=false:=O7 (fun q=>nomatch q)
def aiv (a:Str)(b:Int):decide ((KA a:Key)=Oa b)=false:=O7 (fun q=>nomatch q)
def bN (prog:FQ)(w:World):PySem.KeyKind prog w Key where
 is:=vd
 hash:=afy w
 inj:=fun v a b ha hb=>by
  rcases cN ha with ⟨i,t,rfl,rfl⟩|⟨x,t,rfl,rfl⟩
  ·rcases cN hb with ⟨j,u,rfl,e⟩|⟨y,u,rfl,e⟩
   ·injection e with e1 _;rw [e1]
   ·exact nomatch e
  ·rcases cN hb with ⟨j,u,rfl,e⟩|⟨y,u,rfl,e⟩
   ·exact nomatch e
   ·injection e with e1 _;rw [e1]
 byValue:=fun k v h=>by
  rcases cN h with ⟨i,t,rfl,rfl⟩|⟨x,t,rfl,rfl⟩<;>rfl
 pyHash:=fun hv h=>by
  rcases cN hv with ⟨i,t,rfl,rfl⟩|⟨x,t,rfl,rfl⟩
  ·exact wpAny_pyHash_int h
  ·exact wpAny_pyHash_str h
 eqBool:=fun hu hv h=>by
  rcases cN hu with ⟨i,t,rfl,rfl⟩|⟨x,t,rfl,rfl⟩
  ·rcases cN hv with ⟨j,u,rfl,rfl⟩|⟨y,u,rfl,rfl⟩
   ·rw [zaI] at h;exact wpAny_eqBool_int h
   ·rw [aiz] at h;exact SeqAt.EqAt.int_str i t y u _ _ _ _ h
  ·rcases cN hv with ⟨j,u,rfl,rfl⟩|⟨y,u,rfl,rfl⟩
   ·rw [aiv] at h;exact SeqAt.EqAt.str_int x t j u _ _ _ _ h
   ·rw [zaC] at h;exact wpAny_eqBool_str h
 «strs»:=fun k x t v h=>by
  rcases cN h with ⟨i,u,rfl,e⟩|⟨y,u,rfl,e⟩
  ·exact nomatch e
  ·injection e with e1 _
   subst e1;cases v<;>rfl
def ahw (prog:FQ)(w:World)(i:Int)(t:Tok):(bN prog w).is (.inl i) (.int i t)=true:=acb i t
def ahv (prog:FQ)(w:World)(x:Str)(t:Tok):(bN prog w).is (.inr x) (.str x t)=true:=acd x t
inductive V where
 | dw|bl (b:Bool)|int (i:Int)|str (x:Str)|rj (b:Array UInt8)|Vf (b:UInt64)|ref (a:AG)|ty (n:String)
 deriving DecidableEq
abbrev _root_.δ:=List (Key×V)
abbrev _root_.θ:=List V
abbrev _root_.Α:=Option V
abbrev _root_.Ε:=List (List Key×V)
abbrev _root_.Η:=List (List V)
def RelV:V->Value->Prop
 | .dw,u=>u=Value.none
 | .bl b,u=>u=Value.bool b
 | .int i,u=>∃t,u=Value.int i t
 | .str x,u=>∃t,u=Value.str x t
 | .rj b,u=>∃t,u=Value.bytes b t
 | .Vf b,u=>∃t,u=Value.float b t
 | .ref a,u=>u=Value.ref a
 | .ty n,u=>u=Value.type n
abbrev Vals:List V->List Value->Prop:=Paired RelV
theorem Vals.length {xs:θ}{us:τ}(r:Vals xs us):xs.length=us.length:=EO r
theorem Vals.get:∀{xs:θ} {us:τ} {i:Nat} {x:V},Vals xs us->xs[i]?=some x->∃u,us[i]?=some u/\RelV x u
 | _,_,_,_,.nil,e=>by simp at e
 | _,_,0,_,.cons r _,e=>by simp at e;subst e;show ⟨_,rfl,r⟩
 | _,_,i+1,x,.cons _ t,e=>by
  obtain ⟨u,h1,h2⟩:=Vals.get (i:=i) (x:=x) t (by simpa using e);show ⟨u,by simpa using h1,h2⟩
theorem Vals.set (r:RelV x u):∀{xs:θ} {us:τ} (i:Nat),Vals xs us->Vals (xs.set i x) (us.set i u)
 | _,_,_,.nil=>.nil
 | _,_,0,.cons _ t=>.cons r t
 | _,_,i+1,.cons q t=>.cons q (Vals.set r i t)
theorem Vals.append:∀{xs ys:θ} {us ws:τ},Vals xs us->Vals ys ws->Vals (xs++ys) (us++ws)
 | _,_,_,_,.nil,s=>s
 | _,_,_,_,.cons r t,s=>.cons r (Vals.append t s)
theorem Vals.take:∀{xs:θ} {us:τ} (n:Nat),Vals xs us->Vals (xs.take n) (us.take n)
 | _,_,0,_=>.nil
 | _,_,_+1,.nil=>.nil
 | _,_,n+1,.cons r t=>.cons r (Vals.take n t)
theorem Vals.drop:∀{xs:θ} {us:τ} (n:Nat),Vals xs us->Vals (xs.drop n) (us.drop n)
 | _,_,0,r=>r
 | _,_,_+1,.nil=>.nil
 | _,_,n+1,.cons _ t=>Vals.drop n t
def jL:Option V->Option Value->Prop
 | some v,some u=>RelV v u
 | none,none=>True
 | _,_=>False
def KV {κ:Type}:List (κ×V)->List (κ×Value)->Prop:=Paired fun (p:κ×V) (q:κ×Value)=>p.1=q.1/\RelV p.2 q.2
def kV:Key->V
 | .inl i=>.int i
 | .inr x=>.str x
inductive HO where
 | lst (xs:θ)
 | tup (xs:θ)
 | dK (AD:δ)|dT (AD:Ε)
 | set (S:Int->Bool) (n:Nat)
 | ins (C dx:AG) (fs:List (Str×V))
 | own (x:AG)
 | xd (fs:List (Str×V))
 | met (f x:AG)
 | rng (lo hi:Int)
 | fV (o:Obj) (u:HO)
 | Vg (ps:Ρ)
 | ext (φ:Heap->Prop)
abbrev Hp:=AG->Option HO
def upd (H:Hp)(a:AG)(o:HO):Hp:=fun b=>if b=a then some o else H b
def aj :upd H a o a=some o:=by unfold upd;rw [mK rfl]
def ao (h:b≠a):upd H a o b=H b:=by unfold upd;rw [mJ h]
def zad {H:Hp}(h:H a=some o)(h':H b=some u)(d:o≠u):a≠b:=by
 intro e;subst e;rw [h] at h';exact d (FA h')
def ak {H:Hp}(h:H a=some o)(h':H b=none):a≠b:=by
 intro e;subst e;erw [h] at h'
section
variable (P:FQ)(w:World)
def dr (H:Hp)(h:Heap)(a:AG):HO->Prop
 | .lst xs=>xs.length<=C_/\∃(AI:τ)(n:Nat),Vals xs AI/\h.get? a=some {cls:=.type "list",data:=.seq AI.toArray n}
 | .tup xs=>xs.length<=C_/\∃AI:List Value,Vals xs AI/\IsTup h a AI.toArray
 | .dK AD=>AD.length<=C_/\(a==Ks)=false/\∃vs,KV AD vs/\h.DictOf (bN P w) a vs
 | .dT AD=>AD.length<=C_/\(a==Ks)=false/\∃xs:List (List Key×AG×Value),
   Paired (fun (p:List Key×V) (q:List Key×AG×Value)=>p.1=q.1/\H q.2.1=some (.tup (p.1.map kV))/\RelV p.2 q.2.2) AD xs/\
   ∃o es ep,h.get? a=some o/\o.ExactDict/\o.data=.dict es ep/\es.toList=xs.map (entryOfKey (tupleKind (bN P w)))/\(xs.map (·.1)).Nodup
 | .set S n=>h.SetOf (intKind P w) a S n
 | .ins C dx fs=>H dx=some (.own a)/\fs.length<=1000/\dx≠a/\h.get? a=some (Nk C dx)/\
   ∃mA,h.Ns1 dx mA/\(∀f,jL (fs.lookup f) (mA f))/\PySem.Within mA (fs.map (·.1))
 | .own _=>∃o,h.get? a=some o
 | .xd fs=>∃mA,h.Ns1 a mA/\∀f,jL (fs.lookup f) (mA f)
 | .rng lo hi=>∃t u v,h.get? a=some {cls:=.type "range",data:=.fields #[.int lo t,.int hi u,.int 1 v]}
 | .fV o u=>h.get? a=some o/\dr H h a u
 | .Vg ps=>h.get? a=some {cls:=.none,data:=.fields ps}
 | .met f x=>h.get? a=some (PySem.W.methodObj (.ref f) (.ref x))
 | .ext φ=>φ h/\(∃o,h.get? a=some o)/\∀h1 h2:Heap,φ h1->(∀o,h1.get? a=some o->h2.get? a=some o)->φ h2
def lG (H:Hp)(h:Heap):Prop:=∀a o,H a=some o->dr P w H h a o
end
section
variable {P:FQ}{w:World}{H H':Hp}{h h':Heap}{a:AG}{o:HO}
theorem dr.lt (x:dr P w H h a o):a<h.objs.size:=by
 cases o with
 | lst xs=>obtain ⟨_,_,_,_,e⟩:=x;exact FI e
 | tup xs=>obtain ⟨_,_,_,p⟩:=x;exact p.lt
 | dK AD=>obtain ⟨_,_,_,_,o,_,_,e,_⟩:=x;exact FI e
 | dT AD=>obtain ⟨_,_,_,_,o,_,_,e,_⟩:=x;exact FI e
 | set S n=>obtain ⟨o,_,_,_,e,_⟩:=x;exact FI e
 | ins C dx fs=>obtain ⟨_,_,_,e,_⟩:=x;exact FI e
 | own y=>obtain ⟨_,e⟩:=x;exact FI e
 | xd fs=>obtain ⟨_,⟨_,_,_,e,_⟩,_⟩:=x;exact FI e
 | rng lo hi=>obtain ⟨_,_,_,e⟩:=x;exact FI e
 | fV ob u=>obtain ⟨e,_⟩:=x;exact FI e
 | Vg ps=>exact FI (show h.get? a=some _ from x)
 | met f y=>exact FI (show h.get? a=some _ from x)
 | ext φ=>obtain ⟨_,⟨_,e⟩,_⟩:=x;exact FI e
theorem Paired.cg :∀{oW:List Z} {oV:List β},Paired F oW oV->(∀a b,F a b->G a b)->Paired G oW oV
 | _,_,.nil,_=>.nil
 | _,_,.cons r t,f=>.cons (f _ _ r) (Paired.cg t f)
def dr.vY (x:dr P w H h a o)(k:∀b u,(b=a\/H b=some (.own a))->h.get? b=some u->h'.get? b=some u)
  (ho:∀b,H b=some (.own a)->H' b=some (.own a)) (ht:∀b xs,H b=some (.tup xs)->H' b=some (.tup xs)):dr P w H' h' a o:=by
 induction o with
 | lst xs=>obtain ⟨z,AI,n,r,e⟩:=x;show ⟨z,AI,n,r,k _ _ (.inl rfl) e⟩
 | tup xs=>obtain ⟨z,AI,r,ob,e,c⟩:=x;show ⟨z,AI,r,ob,k _ _ (.inl rfl) e,c⟩
 | dK AD=>obtain ⟨z,y,vs,r,ob,es,ep,e,c⟩:=x;show ⟨z,y,vs,r,ob,es,ep,k _ _ (.inl rfl) e,c⟩
 | dT AD=>
  obtain ⟨z,y,xs,r,ob,es,ep,e,c⟩:=x;show ⟨z,y,xs,Paired.cg r fun p q z=>⟨z.1,ht _ _ z.2.1,z.2.2⟩,ob,es,ep,k _ _ (.inl rfl) e,c⟩
 | set S n=>obtain ⟨ob,es,ep,t,e,c⟩:=x;show ⟨ob,es,ep,t,k _ _ (.inl rfl) e,c⟩
 | ins C dx fs=>
  obtain ⟨d,z,ne,e,mA,⟨od,es,ep,e2,c⟩,r⟩:=x;show ⟨ho _ d,z,ne,k _ _ (.inl rfl) e,mA,⟨od,es,ep,k _ _ (.inr d) e2,c⟩,r⟩
 | own y=>obtain ⟨ob,e⟩:=x;show ⟨ob,k _ _ (.inl rfl) e⟩
 | xd fs=>obtain ⟨mA,⟨od,es,ep,e,c⟩,r⟩:=x;show ⟨mA,⟨od,es,ep,k _ _ (.inl rfl) e,c⟩,r⟩
 | rng lo hi=>obtain ⟨t,u,v,e⟩:=x;show ⟨t,u,v,k _ _ (.inl rfl) e⟩
 | fV ob u ih=>obtain ⟨e,q⟩:=x;show ⟨k _ _ (.inl rfl) e,ih q⟩
 | Vg ps=>
  let e:h.get? a=some {cls:=.none,data:=.fields ps}:=x;show h'.get? a=some {cls:=.none,data:=.fields ps};exact k a _ (.inl rfl) e
 | met f y=>
  let e:h.get? a=some (PySem.W.methodObj (.ref f) (.ref y)):=x;show h'.get? a=some (PySem.W.methodObj (.ref f) (.ref y));exact k a _ (.inl rfl) e
 | ext φ=>obtain ⟨p,⟨o,e⟩,st⟩:=x;show ⟨st _ _ p fun o q=>k _ _ (.inl rfl) q,⟨o,k _ _ (.inl rfl) e⟩,st⟩
theorem lG.lt (x:lG P w H h)(e:H a=some o):a<h.objs.size:=(x a o e).lt
def lG.fresh (x:lG P w H h)(e:h.objs.size<=a):H a=none:=by
 cases q:H a with
 | none=>rfl
 | some u=>exact DL (Kq (x.lt q) e) (O6 _)
def lG.kept (x:lG P w H h)(k:∀b u,h.get? b=some u->h'.get? b=some u):lG P w H h':=fun a o e=>
 (x a o e).vY (fun b u _ q=>k b u q) (fun _ q=>q) fun _ _ q=>q
def lG.laid (x:lG P w H h)(k:∀b u,h.get? b=some u->h'.get? b=some u)(hp:h.objs.size<=a)(new:dr P w (upd H a o) h' a o):lG P w (upd H a o) h':=fun b u e=>by
 let hn:=x.fresh hp;by_cases hb:b=a
 ·subst hb;erw [aj] at e;exact new
 ·rw [ao hb] at e
  exact (x b u e).vY (fun c v _ q=>k c v q) (fun c q=>by rwa [ao (ak q hn)]) fun c xs q=>by rwa [ao (ak q hn)]
end
def Rd (H:Hp)(a:AG)(u:HO):Prop:=H a=some u\/∃o,H a=some (.fV o u)
def Rd.of (h:H a=some u):Rd H a u:=.inl h
def Rd.ok (r:Rd H a u)(x:lG P w H h):dr P w H h a u:=by
 rcases r with r|⟨o,r⟩
 ·exact x a u r
 ·obtain ⟨_,q⟩:=x a _ r
  exact q
def Yf:Option HO->Prop
 | some (.lst _)=>True
 | some (.dK _)=>True
 | some (.dT _)=>True
 | some (.set _ _)=>True
 | some (.ins _ _ _)=>True
 | some (.ext _)=>True
 | _=>False
section
variable {P:FQ}{w:World}{H:Hp}{h h':Heap}{x e:AG}{o':HO}
def lG.write (ok:lG P w H h)(mu:Yf (H x))(he:e=x\/H e=some (.own x))(k:∀b u,b≠e->h.get? b=some u->h'.get? b=some u)(XG:∃u,h'.get? e=some u)
  (new:dr P w (upd H x o') h' x o'):lG P w (upd H x o') h':=fun b u q=>by
 let Yg:∀c y,H c=some (.own y)->c≠x:=fun c y r z=>by subst z;rwa [r] at mu
 let afA:∀c xs,H c=some (.tup xs)->c≠x:=fun c xs r z=>by subst z;rwa [r] at mu
 by_cases hb:b=x
 ·subst hb;erw [aj] at q;exact new
 ·rw [ao hb] at q
  by_cases Vh:b=e
  ·let q':H b=some (.own x):=by
    rcases he with z|z
    ·exact DL (Vh.trans z) hb
    ·rwa [Vh]
   erw [q] at q';obtain ⟨v,hv⟩:=XG;show ⟨v,by rwa [Vh]⟩
  ·refine (ok b u q).vY (fun c v hc r=>k c v ?_ r) (fun c r=>by rwa [ao (Yg c b r)]) fun c xs r=>by rwa [ao (afA c xs r)]
   rcases hc with rfl|hc
   ·exact Vh
   ·rintro rfl
    rcases he with z|z
    ·exact Yg c b hc z
    ·erw [hc] at z;exact hb rfl
end
structure Un (fs ex:ω)(H H':Hp)(h h':Heap):Prop where
 keep:∀b o,h.get? b=some o->H b=none->b∉fs->b∉ex->h'.get? b=some o
 slot:∀b o,h.get? b=some o->H b=none->b∈fs->b∉ex->∃sl,h'.get? b=some {o with slots:=sl}
 free:∀b o,h.get? b=some o->H b=none->b∉ex->H' b=none
 there:∀b o,h.get? b=some o->b∉ex->∃o',h'.get? b=some o'
 vZ:∀b xs,H b=some (.tup xs)->H' b=some (.tup xs)
 uQ:∀b o u,H b=some (.fV o u)->H' b=some (.fV o u)
 v3:∀b ps,H b=some (.Vg ps)->∃more,H' b=some (.Vg (ps++more))
section
variable {fs fs' ex MU :ω}{H H1 H2:Hp}{h h1 h2 h':Heap}{a x e:AG}{o:HO}
def Un.any (u:Un fs ex H H1 h h1)(q:h.get? b=some ob)(n:H b=none)(hx:b∉ex):∃sl,h1.get? b=some {ob with slots:=sl}:=by
 by_cases hb:b∈fs
 ·exact u.slot b ob q n hb hx
 ·show ⟨ob.slots,u.keep b ob q n hb hx⟩
def Un.kept (k:∀b u,h.get? b=some u->h'.get? b=some u):Un fs ex H H h h':=
 ⟨fun b ob q _ _ _=>k b ob q,fun b ob q _ _ _=>⟨ob.slots,k b ob q⟩,fun _ _ _ n _=>n,fun b ob q _=>⟨ob,k b ob q⟩,fun _ _ q=>q,fun _ _ _ q=>q,fun _ ps q=>⟨#[],by rw [q];simp⟩⟩
def Un.refl:Un fs ex H H h h:=Un.kept fun _ _ q=>q
def Un.laid (k:∀b u,h.get? b=some u->h'.get? b=some u)(hp:h.objs.size<=a)(hn:H a=none):Un fs ex H (upd H a o) h h' where
 keep:=fun b u q _ _ _=>k b u q
 slot:=fun b u q _ _ _=>⟨u.slots,k b u q⟩
 free:=fun b u q n _=>by rwa [ao (KJ (Kq (FI q) hp))]
 there:=fun b u q _=>⟨u,k b u q⟩
 vZ:=fun b xs q=>by rwa [ao (ak q hn)]
 uQ:=fun b u xs q=>by rwa [ao (ak q hn)]
 v3:=fun b ps q=>⟨#[],by rw [ao (ak q hn),q];simp⟩
def Un.write (mu:Yf (H x))(he:e=x\/H e=some (.own x))(k:∀b u,b≠e->h.get? b=some u->h'.get? b=some u)(XG:∃u,h'.get? e=some u):Un fs ex H (upd H x o) h h':=by
 let hx:∀b,H b=none->b≠x:=fun b n z=>by subst z;rwa [n] at mu
 let hb:∀b,H b=none->b≠e:=fun b n z=>by
  subst z
  rcases he with r|r
  ·exact hx b n r
  ·erw [n] at r
 let hm:∀b u,H b=some u->¬ Yf (some u)->b≠x:=fun b u q nm z=>by subst z;rw [q] at mu;exact nm mu
 show ⟨fun b u q n _ _=>k b u (hb b n) q,fun b u q n _ _=>⟨u.slots,k b u (hb b n) q⟩,fun b u q n _=>by rwa [ao (hx b n)],fun b u q _=>?_,
  fun b xs q=>by rwa [ao (hm b _ q fun z=>z)],fun b u xs q=>by rwa [ao (hm b _ q fun z=>z)],fun b ps q=>⟨#[],by rw [ao (hm b _ q fun z=>z),q];simp⟩⟩
 by_cases Vh:b=e
 ·subst Vh;exact XG
 ·show ⟨u,k b u Vh q⟩
end
def trk (h:Heap)(H:Hp):List AG:=(KC h.objs.size).filter fun a=>(H a).isSome
def v8 (h:Heap)(H:Hp):Heap:=PySem.W.hideAll h (trk h H)
def ab8 (h:Heap)(H:Hp):(v8 h H).objs.size=h.objs.size:=PySem.W.hideAll_size _ _
def aeV (e:h.get? b=some o)(n:H b=none):(v8 h H).get? b=some o:=
 PySem.W.hideAll_get _ e fun hm=>by
  let q:(H b).isSome=true:=(KN.mp hm).2;rw [n] at q;simp at q
def zaq (e:(v8 h H).get? b=some o):h.get? b=some o/\H b=none:=by
 let e':h.get? b=some o:=PySem.W.of_hideAll (trk h H) e;show ⟨e',?_⟩;cases q:H b with
 | none=>rfl
 | some x=>
  let hm:b∈trk h H:=KN.mpr ⟨Md.mpr (FI e'),by simp [q]⟩;let z:(v8 h H).get? b=none:=PySem.W.hideAll_none (trk h H) hm;erw [z] at e
def zal (g h:Heap)(L:AG):List (AG×Obj):=(KC h.objs.size).filterMap fun a=>if a=L\/(g.get? a).isSome=true then none else (h.get? a).map fun o=>(a,o)
def rest (g h:Heap)(L d:AG):List (AG×Obj):=(zal g h L).filter fun p=>decide (p.1≠d)
structure Mod (K:Frag)(mg:ξ)(iN:Heap):Prop where
 XH:K.In iN
 glob:iN.Ns K0 mg
 blt:∃mb,iN.Ns builtinsNs mb/\∀x:Str,x≠ "__name__"->mb x=Kv x
 nolimit:iN.NoLimit
 seer:iN.NoSeer
structure Cx where
 prog:FQ
 w:World
 K:Frag
 mg:Str->Option Value
 iN:Heap
 A:KH
 N:List Str
 oQ:D'
 H₀:Hp
 env:Env
 lj:List Env
 stack:List Env
 ex:List AG
 fn:Str->Bool
 calm:Bool
 pn:List (AG×Obj)
 xe:Value->D'->Prop
def HH (l:List Env):List AG:=l.filterMap (·.frame)
abbrev Cx.fs (X:Cx):List AG:=HH X.lj
def Vis (sc:Scope)(x:Str):Prop:=sc.names.lookup x=some .local\/sc.names.lookup x=some .cell\/sc.names.lookup x=some .free
def Loc (sc:Scope)(x:Str):Prop:=sc.names.lookup x=some .local\/sc.names.lookup x=some .cell
def Look (env:Env)(h:Heap)(m:ξ)(x:Str)(u:Value):Prop:=
 (env.kindOf x=some .local/\m x=some u)\/((env.kindOf x=some .cell\/env.kindOf x=some .free)/\∃c,env.cells.lookup x=some c/\h.IsCell c (some u))
structure Cx.Ok (X:Cx):Prop where
 mod:Mod X.K X.mg X.iN
 kind:X.env.scope.kind=.function
 glob:X.env.globals=K0
 blt:X.env.builtins=builtinsNs
 above:X.oQ.heap.objs.size<=X.env.locals
 inj:∀x y c,X.env.cells.lookup x=some c->X.env.cells.lookup y=some c->x=y
 has:∀x,(X.env.kindOf x=some .cell\/X.env.kindOf x=some .free)->∃c,X.env.cells.lookup x=some c
 Yh:∀x c,X.fn x=true->X.env.cells.lookup x=some c->X.oQ.heap.objs.size<=c
 hd:X.calm=true->X.A.handled=none
 frames:X.A.frames=some X.stack
 stk:X.stack=X.lj\/(X.stack=X.env::X.lj/\X.env.frame=some X.env.locals)
 exf:∀b∈X.ex,b≠X.env.locals/\∀x c,X.env.cells.lookup x=some c->c≠b
 bs:∀b o,X.iN.get? b=some o->X.oQ.heap.get? b=some o/\X.H₀ b=none
 QF:X.iN.objs.size<=X.oQ.heap.objs.size
 MX:∀b o,X.iN.get? b=some o->b∉X.ex
 QG:∀b∈X.ex,b∉X.fs
 rl:X.oQ.heap.FunFrames X.iN X.lj
 MF:∀b∈X.fs,X.H₀ b=none
structure Inv (X:Cx)(pX:η)(Y:List (Option V))(H:Hp)(s:D'):Prop where
 ok:X.Ok
 os:s.os=X.oQ.os
 bare:Om s.gens
 iN:Un X.fs X.ex X.H₀ H X.oQ.heap s.heap
 loc:∃m,s.heap.Ns X.env.locals m/\∀(i:Nat)(x:Str)(v:V),X.N[i]?=some x->Y[i]?=some (some v)->Vis X.env.scope x->∃u,RelV v u/\Look X.env s.heap m x u
 cell:∀x c,X.env.cells.lookup x=some c->∃v,s.heap.IsCell c v
 free:H X.env.locals=none
 jQ:∀x c,X.env.cells.lookup x=some c->H c=none
 pin:∀p∈X.pn++pX,s.heap.get? p.1=some p.2/\H p.1=none/\p.1≠X.env.locals/\p.1∉X.fs/\∀v,p.2.data≠.cell v
 bZ:lG X.prog X.w H s.heap
 len:Y.length=X.N.length
section
variable {X:Cx}{pX:η}{Y:List (Option V)}{H H':Hp}{s:D'}{h':Heap}
def Cx.Ok.afC (ok:X.Ok)(e:X.iN.get? b=some o):b∉X.fs:=fun hb=>by
 have:=(ok.rl.mem hb).1;erw [e] at this
theorem Inv.bs (I:Inv X pX Y H s):∀b o,X.iN.get? b=some o->s.heap.get? b=some o/\H b=none:=fun b o e=>
 ⟨I.iN.keep b o (I.ok.bs b o e).1 (I.ok.bs b o e).2 (I.ok.afC e) (I.ok.MX b o e),I.iN.free b o (I.ok.bs b o e).1 (I.ok.bs b o e).2 (I.ok.MX b o e)⟩
def Inv.bk (I:Inv X pX Y H s):∀b o,X.iN.get? b=some o->s.heap.get? b=some o:=fun b o e=>(I.bs b o e).1
theorem Inv.mod (I:Inv X pX Y H s):Mod X.K X.mg X.iN:=I.ok.mod
def Inv.mQ (I:Inv X pX Y H s):X.K.In s.heap:=I.ok.mod.XH.keeps I.bk
theorem Inv.nolimit (I:Inv X pX Y H s):s.heap.NoLimit:=I.ok.mod.nolimit.keeps I.bk
theorem Inv.lt (I:Inv X pX Y H s):X.env.locals<s.heap.objs.size:=let ⟨_,hn,_⟩:=I.loc;hn.lt
def Inv.sz (I:Inv X pX Y H s):X.oQ.heap.objs.size<=s.heap.objs.size:=DC I.ok.above (O0 I.lt)
def Inv.afD (I:Inv X pX Y H s){a:AG}(h:s.heap.objs.size<=a):a∉X.fs:=fun hb=>by
 obtain ⟨_,o,ho,_⟩:=I.ok.rl.mem hb;exact DL (Kq (FI ho) (DC I.sz h)) (O6 _)
def Inv.Vi (I:Inv X pX Y H s):∀x c,X.env.cells.lookup x=some c->c≠X.env.locals:=fun x c e z=>by
 obtain ⟨v,o,ho,hd⟩:=I.cell x c e;obtain ⟨m,⟨o',es,ep,QH,Tx,_⟩,_⟩:=I.loc;erw [z,QH] at ho;erw [Tx] at hd
theorem Inv.rl (I:Inv X pX Y H s):s.heap.FunFrames X.iN X.lj:=by
 let all:∀(l:List Env),(∀b∈HH l,b∈X.fs)->X.oQ.heap.FunFrames X.iN l->s.heap.FunFrames X.iN l:=by
  intro l
  induction l with
  | nil=>intro _ _;trivial
  | cons env r ih=>
   intro hs hl;obtain ⟨hk,⟨L,o,hf,hn,ho,hd⟩,hr⟩:=hl;let hL:L∈X.fs:=hs L (by unfold HH;rw [mG,hf];exact EJ);obtain ⟨sl,e⟩:=I.iN.slot L o ho (I.ok.MF L hL) hL fun z=>I.ok.QG L z hL;show ⟨hk,⟨L,_,hf,hn,e,hd⟩,ih (fun b hb=>hs b (by unfold HH;rw [mG,hf];exact FF _ hb)) hr⟩
 exact all X.lj (fun _ hb=>hb) I.ok.rl
theorem Inv.stack (I:Inv X pX Y H s):s.heap.FunFrames X.iN X.stack:=by
 rcases I.ok.stk with e|⟨e,hf⟩
 ·rw [e];exact I.rl
 ·rw [e]
  obtain ⟨m,hn,_⟩:=I.loc;refine .cons (by rw [I.ok.kind];decide) hf hn ?_ I.rl;exact Heap.get?_none_of_le (DC I.ok.QF I.ok.above)
def Inv.CQ (I:Inv X pX Y H s):∀b∈HH X.stack,b∈X.env.locals::X.fs:=fun b hb=>by
 rcases I.ok.stk with e|⟨e,hf⟩
 ·rw [e] at hb;exact FF _ hb
 ·rw [e] at hb
  unfold HH at hb;rwa [mG,hf] at hb
def Inv.HI (I:Inv X pX Y H s):∀b∈HH X.stack,H b=none:=fun b hb=>by
 rcases KD.mp (I.CQ b hb) with e|hb
 ·rw [e];exact I.free
 ·obtain ⟨_,o,ho,_⟩:=I.ok.rl.mem hb
  exact I.iN.free b o ho (I.ok.MF b hb) fun z=>I.ok.QG b z hb
def Inv.step {ch:ω}(I:Inv X pX Y H s)
  (P2:∀b∈ch,(b∈X.ex\/X.oQ.heap.objs.size<=b)/\b≠X.env.locals/\(∀x c,X.env.cells.lookup x=some c->c≠b)/\∀p∈X.pn++pX,p.1≠b)
  (keep:∀b o,b≠X.env.locals->b∉X.fs->b∉ch->s.heap.get? b=some o->H b=none->h'.get? b=some o)
  (slot:∀b o,b≠X.env.locals->b∈X.fs->b∉ch->s.heap.get? b=some o->H b=none->∃sl,h'.get? b=some {o with slots:=sl}) (free:∀b o,b∉ch->s.heap.get? b=some o->H b=none->H' b=none)
  (there:∀b o,b∉ch->s.heap.get? b=some o->∃o',h'.get? b=some o')
  (vZ:∀b xs,H b=some (.tup xs)->H' b=some (.tup xs)) (uQ:∀b o u,H b=some (.fV o u)->H' b=some (.fV o u)) (v3:∀b ps,H b=some (.Vg ps)->∃more,H' b=some (.Vg (ps++more)))
  (ns:∀m,s.heap.Ns X.env.locals m->h'.Ns X.env.locals m) (bZ:lG X.prog X.w H' h') (hg:Om g'):
  Inv X pX Y H' {s with heap:=h',gens:=g',drawn:=d',toks:=t'}:=by
 let neL:∀b o,X.oQ.heap.get? b=some o->b≠X.env.locals:=fun b o e=>KJ (Kq (FI e) I.ok.above)
 let neC:∀b o,X.oQ.heap.get? b=some o->b∉X.ex->b∉ch:=fun b o e hx hb=>by
  rcases (P2 b hb).1 with z|z
  ·exact hx z
  ·exact DL (Kq (FI e) z) (O6 _)
 let cellK:∀x c,X.env.cells.lookup x=some c->∀v,s.heap.IsCell c v->h'.IsCell c v:=fun x c e v ⟨o,ho,hd⟩=>by
  let Yi:c∉ch:=fun z=>(P2 c z).2.2.1 x c e rfl;by_cases hc:c∈X.fs
  ·obtain ⟨sl,q⟩:=slot c o (I.Vi x c e) hc Yi ho (I.jQ x c e)
   show ⟨_,q,hd⟩
  ·show ⟨o,keep c o (I.Vi x c e) hc Yi ho (I.jQ x c e),hd⟩
 show ⟨I.ok,I.os,hg,⟨fun b o e n hb hx=>?_,fun b o e n hb hx=>?_,fun b o e n hx=>?_,fun b o e hx=>?_,fun b xs e=>vZ b xs (I.iN.vZ b xs e),fun b o xs e=>uQ b o xs (I.iN.uQ b o xs e),fun b ps e=>?_⟩,?_,fun x c e=>?_,?_,fun x c e=>?_,fun p hp=>?_,bZ,I.len⟩
 ·exact keep b o (neL b o e) hb (neC b o e hx) (I.iN.keep b o e n hb hx) (I.iN.free b o e n hx)
 ·obtain ⟨sl,e1⟩:=I.iN.slot b o e n hb hx
  obtain ⟨sl',e2⟩:=slot b _ (neL b o e) hb (neC b o e hx) e1 (I.iN.free b o e n hx);show ⟨sl',e2⟩
 ·obtain ⟨o',e1⟩:=I.iN.there b o e hx
  exact free b o' (neC b o e hx) e1 (I.iN.free b o e n hx)
 ·obtain ⟨o',e1⟩:=I.iN.there b o e hx
  exact there b o' (neC b o e hx) e1
 ·obtain ⟨m1,e1⟩:=I.iN.v3 b ps e
  obtain ⟨m2,e2⟩:=v3 b _ e1;show ⟨m1++m2,by rw [e2,Array.append_assoc]⟩
 ·obtain ⟨m,hn,hl⟩:=I.loc
  show ⟨m,ns m hn,fun i x v e1 e2 e3=>?_⟩;obtain ⟨u,r,l⟩:=hl i x v e1 e2 e3;show ⟨u,r,?_⟩
  rcases l with l|⟨k,c,e,z⟩
  ·exact .inl l
  ·exact .inr ⟨k,c,e,cellK x c e _ z⟩
 ·obtain ⟨v,z⟩:=I.cell x c e
  show ⟨v,cellK x c e v z⟩
 ·obtain ⟨m,⟨o,_,_,ho,_⟩,_⟩:=I.loc
  exact free _ o (fun z=>(P2 _ z).2.1 rfl) ho I.free
 ·obtain ⟨v,o,ho,hd⟩:=I.cell x c e
  exact free c o (fun z=>(P2 c z).2.2.1 x c e rfl) ho (I.jQ x c e)
 ·obtain ⟨e,n,ne,nf,d⟩:=I.pin p hp
  let Yi:p.1∉ch:=fun z=>(P2 p.1 z).2.2.2 p hp rfl;show ⟨keep p.1 p.2 ne nf Yi e n,free p.1 p.2 Yi e n,ne,nf,d⟩
def Inv.un (I:Inv X pX Y H s)(u:Un X.fs [] H H' s.heap h')(bZ:lG X.prog X.w H' h'):Inv X pX Y H' {s with heap:=h',toks:=t'}:=by
 obtain ⟨m,⟨o,es,ep,ho,r⟩,_⟩:=id I.loc;obtain ⟨sl,hL⟩:=u.any ho I.free gV
 exact I.step (g':=s.gens) (d':=s.drawn) (ch:=[]) (fun _ z=>nomatch z) (fun b o _ hb _ e n=>u.keep b o e n hb gV) (fun b o _ hb _ e n=>u.slot b o e n hb gV) (fun b o _ e n=>u.free b o e n gV) (fun b o _ e=>u.there b o e gV) u.vZ u.uQ u.v3 (fun m' hm=>by
  obtain ⟨o',XI,XJ,QH,r'⟩:=hm;erw [ho] at QH
  show ⟨_,XI,XJ,hL,r'⟩) bZ I.bare
def Inv.call (I:Inv X pX Y H s)(u:Un (HH X.stack) ch H H' s.heap h')(bZ:lG X.prog X.w H' h')(hg:Om g')
  (P2:∀b∈ch,(b∈X.ex\/X.oQ.heap.objs.size<=b)/\b≠X.env.locals/\(∀x c,X.env.cells.lookup x=some c->c≠b)/\∀p∈X.pn++pX,p.1≠b):
  Inv X pX Y H' {s with heap:=h',gens:=g',drawn:=d',toks:=t'}:=by
 obtain ⟨m,⟨o,es,ep,ho,r⟩,_⟩:=id I.loc;obtain ⟨sl,hL⟩:=u.any ho I.free fun z=>(P2 _ z).2.1 rfl
 exact I.step (ch:=ch) P2 (fun b o hL hb hc e n=>u.keep b o e n (fun z=>(KD.mp (I.CQ b z)).elim hL hb) hc) (fun b o _ _ hc e n=>u.any e n hc) (fun b o hc e n=>u.free b o e n hc) (fun b o hc e=>u.there b o e hc) u.vZ u.uQ u.v3 (fun m' hm=>by
  obtain ⟨o',XI,XJ,QH,r'⟩:=hm;erw [ho] at QH
  show ⟨_,XI,XJ,hL,r'⟩) bZ hg
def Inv.turned (I:Inv X pX Y H s)(k:∀b o,b≠it->s.heap.get? b=some o->h'.get? b=some o)(hn:H it=none)(hL:it≠X.env.locals)
  (h1:it∈X.ex\/X.oQ.heap.objs.size<=it) (h2:∀x c,X.env.cells.lookup x=some c->c≠it) (h3:∀p∈X.pn++pX,p.1≠it):Inv X pX Y H {s with heap:=h',toks:=t'}:=by
 let Tz:∀b u,H b=some u->b≠it:=fun b u e z=>by erw [z,hn] at e
 refine I.step (g':=s.gens) (d':=s.drawn) (ch:=[it]) (fun b hb=>?_) (fun b o _ _ hc e _=>k b o (fun z=>hc (by simp [z])) e) (fun b o _ _ hc e _=>⟨o.slots,k b o (fun z=>hc (by simp [z])) e⟩) (fun _ _ _ _ n=>n)
  (fun b o hc e=>⟨o,k b o (fun z=>hc (by simp [z])) e⟩) (fun _ _ e=>e) (fun _ _ _ e=>e) (fun b ps e=>⟨#[],by rw [e];simp⟩) (fun m hm=>?_) (fun b u e=>?_) I.bare
 ·let e:b=it:=by simpa using hb
  subst e;show ⟨h1,hL,h2,h3⟩
 ·obtain ⟨o,es,ep,ho,r⟩:=hm
  show ⟨o,es,ep,k _ o (FG hL) ho,r⟩
 ·refine (I.bZ b u e).vY (fun c v hc q=>k c v ?_ q) (fun _ q=>q) fun _ _ q=>q
  rcases hc with z|z
  ·rw [z];exact Tz b u e
  ·exact Tz c _ z
def Inv.tok (I:Inv X pX Y H s)(t:Nat):Inv X pX Y H {s with toks:=t}:=I.un (h':=s.heap) (t':=t) Un.refl I.bZ
theorem Inv.kept (I:Inv X pX Y H s)(k:∀b u,s.heap.get? b=some u->h'.get? b=some u):Inv X pX Y H {s with heap:=h',toks:=t'}:=I.un (Un.kept k) (I.bZ.kept k)
theorem Inv.laid {a:AG}(I:Inv X pX Y H s)(k:∀b u,s.heap.get? b=some u->h'.get? b=some u)(hp:s.heap.objs.size<=a)(new:dr X.prog X.w (upd H a o) h' a o):
  Inv X pX Y (upd H a o) {s with heap:=h',toks:=t'}:=I.un (Un.laid k hp (I.bZ.fresh hp)) (I.bZ.laid k hp new)
theorem Inv.write (I:Inv X pX Y H s)(mu:Yf (H x))(he:e=x\/H e=some (.own x))(k:∀b u,b≠e->s.heap.get? b=some u->h'.get? b=some u)(XG:∃u,h'.get? e=some u)
  (new:dr X.prog X.w (upd H x o) h' x o):Inv X pX Y (upd H x o) {s with heap:=h',toks:=t'}:=I.un (Un.write mu he k XG) (I.bZ.write mu he k XG new)
def Inv.HJ (I:Inv X pX Y H s)(h:∀p∈TB,s.heap.get? p.1=some p.2/\H p.1=none/\p.1≠X.env.locals/\p.1∉X.fs/\∀v,p.2.data≠.cell v):Inv X TB Y H s:=
 ⟨I.ok,I.os,I.bare,I.iN,I.loc,I.cell,I.free,I.jQ,fun p hp=>(K2.mp hp).elim (fun z=>I.pin p (O1 _ z)) (h p),I.bZ,I.len⟩
def cT {N:ψ}(hN:N.Nodup){i j:Nat}(a:N[i]?=some x)(b:N[j]?=some x):i=j:=by
 obtain ⟨h1,e1⟩:=be.mp a;obtain ⟨h2,e2⟩:=be.mp b;exact (anK hN).mp (e1.trans e2.symm)
def ve {E:ε}(I:Inv X pX Y H s)(hN:X.N.Nodup)(hi:X.N[i]?=some x)(hx:Loc X.env.scope x)(r:RelV v u)
  (h:∀s',Inv X pX (Y.set i (some v)) H s' ->(∃a,Xo a s.heap s'.heap/\(a=X.env.locals\/X.env.cells.lookup x=some a))->Q () s') (hf:X.fn x=true\/X.env.scope.names.lookup x=some .local:=by first|exact .inl rfl|exact .inr rfl|assumption):C' M A (storeName X.env x u) Q E s:=by
 obtain ⟨m,hn,hl⟩:=id I.loc;let afE:(X.env.scope.kind==.class || (X.env.scope.kind==.module && X.env.locals !=X.env.globals))=false:=by rw [I.ok.kind];rfl
 let hiσ:i < Y.length:=by rw [I.len];exact (be.mp hi).1
 let Vi:=I.Vi
 let tracked:∀{a:AG} {h':Heap},(∃o,s.heap.get? a=some o/\H a=none)->Xo a s.heap h' ->lG X.prog X.w H h':=fun {a h'} ha hs b ob e=>by
  obtain ⟨_,_,TC⟩:=ha;refine (I.bZ b ob e).vY (fun c w' hc q=>(hs.2 c ?_).trans q) (fun _ q=>q) fun _ _ q=>q;rintro rfl
  rcases hc with rfl|hc
  ·erw [TC] at e
  ·erw [TC] at hc
 rcases hx with hk|hk
 ·refine wpAny_storeName_local hk hn (fun h' hn' hs=>?_) afE
  obtain ⟨oL,_,_,hoL,_⟩:=id hn;refine h _ ⟨I.ok,I.os,I.bare,⟨fun b o e n hb hx=>?_,fun b o e n hb hx=>?_,I.iN.free,fun b o e hx=>?_,I.iN.vZ,I.iN.uQ,I.iN.v3⟩,⟨_,hn',fun j y v' e1 e2 e3=>?_⟩,fun y c e=>?_,I.free,I.jQ,fun p hp=>?_,tracked ⟨oL,hoL,I.free⟩ hs,by simpa using I.len⟩ ⟨_,hs,.inl rfl⟩
  ·exact (hs.2 b (KJ (Kq (FI e) I.ok.above))).trans (I.iN.keep b o e n hb hx)
  ·obtain ⟨sl,e1⟩:=I.iN.slot b o e n hb hx
   show ⟨sl,(hs.2 b (KJ (Kq (FI e) I.ok.above))).trans e1⟩
  ·obtain ⟨o',e1⟩:=I.iN.there b o e hx
   show ⟨o',(hs.2 b (KJ (Kq (FI e) I.ok.above))).trans e1⟩
  ·by_cases hj:j=i
   ·subst hj
    erw [hi] at e1;erw [ahE hiσ] at e2;show ⟨u,r,.inl ⟨hk,by simp⟩⟩
   ·rw [ahV (FG hj)] at e2
    obtain ⟨u',r',q⟩:=hl j y v' e1 e2 e3;show ⟨u',r',?_⟩
    rcases q with ⟨k,e⟩|⟨k,c,e,z⟩
    ·refine .inl ⟨k,?_⟩
     have:y≠x:=fun e=>hj (cT hN e1 (e▸hi));simp [this,e]
    ·exact .inr ⟨k,c,e,z.sameBut hs (Vi y c e)⟩
  ·obtain ⟨w',z⟩:=I.cell y c e
   show ⟨w',z.sameBut hs (Vi y c e)⟩
  ·obtain ⟨e,n,ne,nf,d⟩:=I.pin p hp
   show ⟨(hs.2 p.1 ne).trans e,n,ne,nf,d⟩
 ·let hfn:X.fn x=true:=by
   rcases hf with z|z
   ·exact z
   ·erw [z] at hk
  obtain ⟨c,hc⟩:=I.ok.has x (.inl hk);obtain ⟨w',z⟩:=I.cell x c hc;refine wpAny_storeName_cell I.ok.kind hk hc z (fun h' v9 hs=>?_);obtain ⟨oc,hoc,afH⟩:=id z;refine h {s with heap:=h'} ⟨I.ok,I.os,I.bare,⟨fun b o e n hb hx=>?_,fun b o e n hb hx=>?_,I.iN.free,fun b o e hx=>?_,I.iN.vZ,I.iN.uQ,I.iN.v3⟩,⟨m,hn.sameBut hs (FG (Vi x c hc)),fun j y v' e1 e2 e3=>?_⟩,fun y c' e=>?_,I.free,I.jQ,fun p hp=>?_,tracked ⟨oc,hoc,I.jQ x c hc⟩ hs,by simpa using I.len⟩ ⟨c,hs,.inr hc⟩
  ·exact (hs.2 b (KJ (Kq (FI e) (I.ok.Yh x c hfn hc)))).trans (I.iN.keep b o e n hb hx)
  ·obtain ⟨sl,e1⟩:=I.iN.slot b o e n hb hx
   show ⟨sl,(hs.2 b (KJ (Kq (FI e) (I.ok.Yh x c hfn hc)))).trans e1⟩
  ·obtain ⟨o',e1⟩:=I.iN.there b o e hx
   show ⟨o',(hs.2 b (KJ (Kq (FI e) (I.ok.Yh x c hfn hc)))).trans e1⟩
  ·by_cases hj:j=i
   ·subst hj
    erw [hi] at e1;erw [ahE hiσ] at e2;show ⟨u,r,.inr ⟨.inl hk,c,hc,v9⟩⟩
   ·rw [ahV (FG hj)] at e2
    obtain ⟨u',r',q⟩:=hl j y v' e1 e2 e3;show ⟨u',r',?_⟩
    rcases q with q|⟨k,c',e,z'⟩
    ·exact .inl q
    ·refine .inr ⟨k,c',e,z'.sameBut hs ?_⟩
     rintro rfl;exact hj (cT hN e1 (I.ok.inj _ _ _ e hc▸hi))
  ·by_cases hcc:c'=c
   ·subst hcc;show ⟨_,v9⟩
   ·obtain ⟨w2,z2⟩:=I.cell y c' e
    show ⟨w2,z2.sameBut hs hcc⟩
  ·obtain ⟨e,n,ne,nf,d⟩:=I.pin p hp
   show ⟨(hs.2 p.1 ?_).trans e,n,ne,nf,d⟩;intro q;rw [q,hoc] at e;let q':oc=p.2:=FA e;exact d w' (by rwa [<-q'])
def mU {E:ε}(I:Inv X pX Y H s)(hN:X.N.Nodup)(hi:X.N[i]?=some x)(hx:Loc X.env.scope x)(r:RelV v u)
  (h:∀s',Inv X pX (Y.set i (some v)) H s' ->Q () s') (hf:X.fn x=true\/X.env.scope.names.lookup x=some .local:=by first|exact .inl rfl|exact .inr rfl|assumption):C' M A (storeName X.env x u) Q E s:=
 ve I hN hi hx r (fun s' I' _=>h s' I') hf
def Inv.Yj (I:Inv X pX Y H s)(ho:s'.os=s.os)(u:Un (HH X.stack) ch H H' s.heap s'.heap)(bZ:lG X.prog X.w H' s'.heap)(hg:Om s'.gens)
  (P2:∀b∈ch,(b∈X.ex\/X.oQ.heap.objs.size<=b)/\b≠X.env.locals/\(∀x c,X.env.cells.lookup x=some c->c≠b)/\∀p∈X.pn++pX,p.1≠b):Inv X pX Y H' s':=by
 obtain ⟨h',g',d',t',o'⟩:=s';let e:o'=s.os:=ho;subst e;exact I.call (g':=g') (t':=t') (d':=d') u bZ hg P2
end
abbrev XK:=Value->Option AG->Hp->Prop
abbrev St:=List (Option V)
abbrev VK:=V->Hp->Prop
abbrev TE:=St->Hp->VK->Prop
abbrev TT:=St->Hp->(Bool->Hp->Prop)->Prop
abbrev TA:=St->Hp->(List V->Hp->Prop)->Prop
structure Ends where
 nx:St->Hp->Prop
 rt:VK
 bk:St->Hp->Prop:=fun _ _=>False
 ct:St->Hp->Prop:=fun _ _=>False
abbrev TS:=Ends->St->Hp->Prop
def EP (X:Cx)(pX:η)(Y:St)(Q:VK)(u:Value)(s':D'):Prop:=∃v H',Inv X pX Y H' s'/\RelV v u/\Q v H'
def TP (X:Cx)(pX:η)(Y:St)(Q:Bool->Hp->Prop)(b:Bool)(s':D'):Prop:=∃H',Inv X pX Y H' s'/\Q b H'
def lead (X:Cx)(pX:η)(Y:St)(Q:List V->Hp->Prop)(us:τ)(s':D'):Prop:=∃vs H',Inv X pX Y H' s'/\Vals vs us/\Q vs H'
def SP (X:Cx)(pX:η)(D:Ends)(f:Flow)(s':D'):Prop:=
 match f with
 | .next=>∃Y' H',Inv X pX Y' H' s'/\D.nx Y' H'
 | .brk=>∃Y' H',Inv X pX Y' H' s'/\D.bk Y' H'
 | .cont=>∃Y' H',Inv X pX Y' H' s'/\D.ct Y' H'
 | .ret u=>∃v Y' H',Inv X pX Y' H' s'/\RelV v u/\D.rt v H'
def PE (X:Cx)(e:Expr)(t:TE):Prop:=
 ∀(pX:η)(s:D')(Y:St)(H:Hp)(Q:VK),Inv X pX Y H s->t Y H Q->C' (CY X.prog X.w) X.A (DX e X.env) (EP X pX Y Q) X.xe s
def PT (X:Cx)(e:Expr)(t:TT):Prop:=
 ∀(pX:η)(s:D')(Y:St)(H:Hp)(Q:Bool->Hp->Prop),Inv X pX Y H s->t Y H Q->C' (CY X.prog X.w) X.A (isTrue e X.env (DX e X.env)) (TP X pX Y Q) X.xe s
def PW (X:Cx)(e:Expr)(t:TT):Prop:=
 ∀(whole:Sem Value)(pX:η)(s:D')(Y:St)(H:Hp)(Q:Bool->Hp->Prop),Inv X pX Y H s->t Y H Q->C' (CY X.prog X.w) X.A (isTrue e X.env whole) (TP X pX Y Q) X.xe s
def PW.pt (h:PW X e t):PT X e t:=h _
def PA (X:Cx)(es:Β)(t:TA):Prop:=
 ∀(pos:Pos)(pX:η)(s:D')(Y:St)(H:Hp)(Q:List V->Hp->Prop),Inv X pX Y H s->t Y H Q->C' (CY X.prog X.w) X.A (spliced (Kw pos (EX es X.env))) (lead X pX Y Q) X.xe s
def PS (X:Cx)(st:Stmt)(t:TS):Prop:=
 ∀(pX:η)(s:D')(Y:St)(H:Hp)(D:Ends),Inv X pX Y H s->t D Y H->C' (CY X.prog X.w) X.A (exec st X.env) (SP X pX D) X.xe s
def qv (X:Cx)(st:List Stmt)(t:TS):Prop:=
 ∀(pX:η)(s:D')(Y:St)(H:Hp)(D:Ends),Inv X pX Y H s->t D Y H->C' (CY X.prog X.w) X.A (execs st X.env) (SP X pX D) X.xe s
def cY {Q Q':Z->D'->Prop}{E:ε}(h:C' M A t Q E s)(hQ:∀a s,Q a s->Q' a s):C' M A t Q' E s:=Ku h hQ fun _ _ x=>x
section
variable {X:Cx}
inductive MY (i:Nat)(Y:St)(H:Hp)(Q:VK):Prop
|mk (v:_)(_:Y[i]?=some (some v))(_:Q v H)
def tC (v:V):TE:=fun _ H Q=>Q v H
def ait {pos:Pos}(hN:X.N[i]?=some x)(hv:Vis X.env.scope x)(hd:(x==("__debug__":Str))=false:=by decide)(uR:(x==("__classdict__":Str))=false:=by decide):PE X (.Name x pos) (MY i):=by
 intro pX s Y H Q I h;obtain ⟨v,e,h⟩:=h;obtain ⟨m,hn,hl⟩:=I.loc;obtain ⟨u,r,l⟩:=hl i x v hN e hv;let fin:EP X pX Y Q u s:=⟨v,H,I,r,h⟩
 rcases l with ⟨hk,hm⟩|⟨hk,c,hc,hcell⟩
 ·exact wpAny_Name (wpAny_loadName_local I.ok.kind hk hn hm fin) hd
 ·rcases hk with hk|hk
  ·exact wpAny_Name (wpAny_loadName_cell I.ok.kind hk hc hcell fin) hd
  ·exact wpAny_Name (wpAny_loadName_free I.ok.kind hk hc hcell fin uR) hd
def ag :PE X (.Constant (.int i) j pos) (tC (.int i)):=fun _ _ _ H _ I h=>wpAny_Constant_int ⟨.int i,H,I.tok _,⟨_,rfl⟩,h⟩
def jA :PE X (.Constant (.bool b) j pos) (tC (.bl b)):=fun _ _ _ H _ I h=>Constant_bool ⟨.bl b,H,I,rfl,h⟩
def sH :PE X (.Constant .none j pos) (tC .dw):=fun _ _ _ H _ I h=>Constant_none ⟨.dw,H,I,rfl,h⟩
def cU :PE X (.Constant (.str x) j pos) (tC (.str x)):=fun _ _ _ H _ I h=>Calls.Constant_str ⟨.str x,H,I.tok _,⟨_,rfl⟩,h⟩
def Gl (X:Cx)(x:Str):Prop:=X.env.kindOf x=some .globalImplicit
def mV {E:ε}{Y:St}{Q:ε}(I:Inv X pX Y H s)(hg:Gl X x)(hm:X.mg x=some u)(h:Q u s)
  (hd:(x==("__debug__":Str))=false:=by decide):C' (CY X.prog X.w) X.A (DX (.Name x pos) X.env) Q E s:=
 Calls.Name_function_global I.ok.kind hg (Calls.loadGlobal_global (by rw [I.ok.glob];exact I.mod.glob.keeps I.bk) hm h) hd
def jR {E:ε}{Y:St}{pos:Pos}{Q:ε}(I:Inv X pX Y H s)(hg:Gl X x)(hm:X.mg x=none)(hv:Kv x=some u)(h:Q u s)
  (hn:x≠ "__name__":=by decide) (hd:(x==("__debug__":Str))=false:=by decide):C' (CY X.prog X.w) X.A (DX (.Name x pos) X.env) Q E s:=by
 obtain ⟨mb,h1,h2⟩:=I.mod.blt;exact Calls.Name_function_global I.ok.kind hg (Calls.loadGlobal_builtin (by rw [I.ok.glob];exact I.mod.glob.keeps I.bk) hm (by rw [I.ok.blt];exact h1.keeps I.bk) ((h2 x hn).trans hv) h) hd
def gN (hg:Gl X x)(hm:X.mg x=some u)(r:RelV v u)(hd:(x==("__debug__":Str))=false:=by decide):PE X (.Name x pos) (tC v):=
 fun _ _ _ H _ I h=>mV I hg hm ⟨v,H,I,r,h⟩ hd
def zaa {pos:Pos}(hg:Gl X x)(hm:X.mg x=none)(hv:Kv x=some u)(r:RelV v u)(hn:x≠ "__name__":=by decide)(hd:(x==("__debug__":Str))=false:=by decide):PE X (.Name x pos) (tC v):=
 fun _ _ _ H _ I h=>jR I hg hm hv ⟨v,H,I,r,h⟩ hn hd
variable {a b:Expr}{ta tb:TE}{pos:Pos}
def PC (X:Cx)(op:CmpOp)(a b:Expr)(t:TE):Prop:=
 ∀(pX:η)(s:D')(Y:St)(H:Hp)(Q:VK),Inv X pX Y H s->t Y H Q->
  C' (CY X.prog X.w) X.A (DX a X.env) (fun v mM=>C' (CY X.prog X.w) X.A (DX b X.env) (fun u qu=>C' (CY X.prog X.w) X.A (Mg op v u) (EP X pX Y Q) X.xe qu) X.xe mM) X.xe s
inductive tB_ (Q:(Bool->Hp->Prop))(x:V)(H1:Hp):Prop
|mk (c:_)(_:x=.bl c)(_:Q c H1)
def tB (t:TE):TT:=fun Y H Q=>t Y H fun x H1=>tB_ Q x H1
def sI (h:PC X op a b t)(h1:VL op b=false:=by first|exact nobehind _ gt gt|rfl):PT X (.Compare a [op] [b] pos) (tB t):=by
 intro pX s Y H Q I hw;refine wpAny_isTrue_Compare1 (cY (h pX s Y H _ I hw) fun v s1 h1=>cY h1 fun u s2 h2=>cY h2 fun c s3 ⟨x,H1,I1,r1,q1⟩=>?_) h1;obtain ⟨d,rfl,q⟩:=q1;cases r1;exact RG ⟨H1,I1,q⟩
def gD (h:PE X e t)(he:∀whole,isTrue e X.env whole=(do let v <- whole;standAt e.pos;Py [v] (truthy v)):=by intro _;rfl):PT X e (tB t):=by
 intro pX s Y H Q I hw;refine isTrue_plain (cY (h pX s Y H _ I hw) fun v s1 ⟨x,H1,I1,r1,q1⟩=>?_) (he _);obtain ⟨d,rfl,q⟩:=q1;cases r1;exact RG ⟨H1,I1,q⟩
variable {tA tB':TT}{rest:Β}
def afI (t u:TT):TT:=fun Y H Q=>t Y H fun c H1=>if c=true then u Y H1 Q else Q false H1
def tOr (t u:TT):TT:=fun Y H Q=>t Y H fun c H1=>if c=true then Q true H1 else u Y H1 Q
def afJ (t:TT):TT:=fun Y H Q=>t Y H fun c H1=>Q (!c) H1
def zaH (ha:PT X a tA):PW X (.BoolOp .And [a] pos) tA:=by
 intro wh pX s Y H Q I h;refine isTrue_and (cY (ha pX s Y H Q I h) fun c s1 e=>?_);cases c with
 | true=>exact isTrue_and_nil e
 | false=>exact e
def CS (ha:PT X a tA):PW X (.BoolOp .Or [a] pos) tA:=by
 intro wh pX s Y H Q I h;refine isTrue_or (cY (ha pX s Y H Q I h) fun c s1 e=>?_);cases c with
 | false=>exact isTrue_or_nil e
 | true=>exact e
def aiH (ha:PT X a tA)(hb:PW X (.BoolOp .And (b::rest) pos) tB'):PW X (.BoolOp .And (a::b::rest) pos) (afI tA tB'):=by
 intro wh pX s Y H Q I h;refine isTrue_and (cY (ha pX s Y H _ I h) fun c s1 ⟨H1,I1,q1⟩=>?_);cases c with
 | true=>exact hb wh pX s1 Y H1 Q I1 q1
 | false=>show ⟨H1,I1,q1⟩
def yx (ha:PT X a tA)(hb:PW X (.BoolOp .Or (b::rest) pos) tB'):PW X (.BoolOp .Or (a::b::rest) pos) (tOr tA tB'):=by
 intro wh pX s Y H Q I h;refine isTrue_or (cY (ha pX s Y H _ I h) fun c s1 ⟨H1,I1,q1⟩=>?_);cases c with
 | true=>show ⟨H1,I1,q1⟩
 | false=>exact hb wh pX s1 Y H1 Q I1 q1
def sJ (ha:PT X a tA):PT X (.UnaryOp .Not a pos) (afJ tA):=by
 intro pX s Y H Q I h;exact isTrue_not (ha pX s Y H (fun c H1=>Q (!c) H1) I h)
def zaS (ta tb:TE):TE:=fun Y H Q=>ta Y H fun x H1=>∃c,x=.bl c/\if c=true then tb Y H1 Q else Q (.bl false) H1
def afK (ta tb:TE):TE:=fun Y H Q=>ta Y H fun x H1=>∃c,x=.bl c/\if c=true then Q (.bl true) H1 else tb Y H1 Q
inductive MZ (Q:VK)(x:V)(H1:Hp):Prop
|mk (c:_)(_:x=.bl c)(_:Q (.bl (!c)) H1)
def zaR (ta:TE):TE:=fun Y H Q=>ta Y H fun x H1=>MZ Q x H1
def CT (h:PE X a t):PE X (.BoolOp op [a] pos) t:=fun pX s Y H Q I hw=>BoolOp_one (h pX s Y H Q I hw)
def M0 (ha:PE X a ta)(hb:PE X (.BoolOp .And (b::rest) pos) tb):PE X (.BoolOp .And (a::b::rest) pos) (zaS ta tb):=by
 intro pX s Y H Q I h;refine BoolOp_and (cY (ha pX s Y H _ I h) fun v s1 ⟨x,H1,I1,r1,q1⟩=>?_);obtain ⟨c,rfl,q1⟩:=q1;cases r1;refine RG ?_;cases c with
 | true=>exact hb pX s1 Y H1 Q I1 q1
 | false=>show ⟨.bl false,H1,I1,rfl,q1⟩
def zaN (ha:PE X a ta)(hb:PE X (.BoolOp .Or (b::rest) pos) tb):PE X (.BoolOp .Or (a::b::rest) pos) (afK ta tb):=by
 intro pX s Y H Q I h;refine BoolOp_or (cY (ha pX s Y H _ I h) fun v s1 ⟨x,H1,I1,r1,q1⟩=>?_);obtain ⟨c,rfl,q1⟩:=q1;cases r1;refine RG ?_;cases c with
 | false=>exact hb pX s1 Y H1 Q I1 q1
 | true=>show ⟨.bl true,H1,I1,rfl,q1⟩
def ah8 (ha:PE X a ta):PE X (.UnaryOp .Not a pos) (zaR ta):=by
 intro pX s Y H Q I h;refine UnaryOp_ (cY (ha pX s Y H _ I h) fun v s1 ⟨x,H1,I1,r1,q1⟩=>?_);obtain ⟨c,rfl,q1⟩:=q1;cases r1;exact not_of (RG ⟨.bl (!c),H1,I1,rfl,q1⟩)
def tIf (t:TT)(ta tb:TE):TE:=fun Y H Q=>t Y H fun c H1=>if c=true then ta Y H1 Q else tb Y H1 Q
def yy (hc:PT X c tA)(ha:PE X a ta)(hb:PE X b tb):PE X (.IfExp c a b pos) (tIf tA ta tb):=by
 intro pX s Y H Q I h;refine wpAny_IfExp (cY (hc pX s Y H _ I h) fun d s1 ⟨H1,I1,q1⟩=>?_);cases d with
 | true=>exact ha pX s1 Y H1 Q I1 q1
 | false=>exact hb pX s1 Y H1 Q I1 q1
end
def aU (K:Frag)(H:Hp)(a:AG)(xs:θ):Prop:=
 Rd H a (.lst xs)\/
  ∃(o:Obj)(AI:Ρ)(n:Nat),K.lookup a=some o/\o.cls=.type "list"/\o.dict=none/\o.data=.seq AI n/\AI.size<=C_/\Vals xs AI.toList
def bK (K:Frag)(H:Hp)(a:AG)(xs:θ):Prop:=
 Rd H a (.tup xs)\/
  ∃(o:Obj)(AI:Ρ)(n:Nat),K.lookup a=some o/\o.cls=.type "tuple"/\o.data=.seq AI n/\AI.size<=C_/\Vals xs AI.toList
def afL:Value->Option V
 | .none=>some .dw
 | .bool b=>some (.bl b)
 | .int i _=>some (.int i)
 | .str x _=>some (.str x)
 | .bytes b _=>some (.rj b)
 | .float b _=>some (.Vf b)
 | .ref a=>some (.ref a)
 | .type n=>some (.ty n)
 | _=>none
def RelV.abs (r:RelV x u):afL u=some x:=by
 cases x with
 | dw=>cases r;rfl
 | bl _=>cases r;rfl
 | int _=>obtain ⟨t,rfl⟩:=r;rfl
 | str _=>obtain ⟨t,rfl⟩:=r;rfl
 | rj _=>obtain ⟨t,rfl⟩:=r;rfl
 | Vf _=>obtain ⟨t,rfl⟩:=r;rfl
 | ref _=>cases r;rfl
 | ty _=>cases r;rfl
def RelV.inj (r:RelV x u)(q:RelV y u):x=y:=FA (r.abs.symm.trans q.abs)
theorem Vals.inj:∀{xs ys:θ} {us:τ},Vals xs us->Vals ys us->xs=ys
 | _,_,_,.nil,.nil=>rfl
 | _,_,_,.cons r t,.cons r' t'=>by rw [r.inj r',Vals.inj t t']
section
variable {X:Cx}{pX:η}{Y:St}{H:Hp}{s:D'}{a:AG}{xs ys:θ}
def aU.of {K:Frag}(h:H a=some (.lst xs)):aU K H a xs:=.inl (.inl h)
def bK.of {K:Frag}(h:H a=some (.tup xs)):bK K H a xs:=.inl (.inl h)
def Inv.list (I:Inv X pX Y H s)(h:aU X.K H a xs):∃AI:List Value,Vals xs AI/\PlainL s.heap a AI.toArray/\xs.length<=C_:=by
 rcases h with h|⟨o,AI,n,hk,hc,hd,hs,hz,r⟩
 ·obtain ⟨z,AI,n,r,e⟩:=h.ok I.bZ
  show ⟨AI,r,⟨_,n,e,rfl,rfl,rfl⟩,z⟩
 ·show ⟨AI.toList,r,⟨o,n,I.mQ a o hk,hc,hd,by simpa using hs⟩,?_⟩
  let e:=r.length;simp only [ag1] at e;omega
def Inv.tuple (I:Inv X pX Y H s)(h:bK X.K H a xs):∃AI:List Value,Vals xs AI/\IsTup s.heap a AI.toArray/\xs.length<=C_:=by
 rcases h with h|⟨o,AI,n,hk,hc,hs,hz,r⟩
 ·obtain ⟨z,AI,r,p⟩:=h.ok I.bZ
  show ⟨AI,r,p,z⟩
 ·show ⟨AI.toList,r,⟨o,I.mQ a o hk,hc,n,by simpa using hs⟩,?_⟩
  let e:=r.length;simp only [ag1] at e;omega
def Inv.jS (I:Inv X pX Y H s)(h:aU X.K H a xs)(h':aU X.K H a ys):xs=ys:=by
 obtain ⟨AI,r,⟨o,n,e,_,_,d⟩,_⟩:=I.list h;obtain ⟨oU,r',⟨o',n',e',_,_,d'⟩,_⟩:=I.list h';erw [e] at e';rw [d] at d';injection d' with d1 _
 have:AI=oU:=by simpa using oP aol d1
 subst this;exact r.inj r'
def Inv.Kn (I:Inv X pX Y H s)(h:bK X.K H a xs)(h':bK X.K H a ys):xs=ys:=by
 obtain ⟨AI,r,⟨o,e,_,n,d⟩,_⟩:=I.tuple h;obtain ⟨oU,r',⟨o',e',_,n',d'⟩,_⟩:=I.tuple h';erw [e] at e';rw [d] at d';injection d' with d1 _
 have:AI=oU:=by simpa using oP aol d1
 subst this;exact r.inj r'
end
abbrev Cx.uS (X:Cx)(E:ε):Cx:={X with xe:=E}
abbrev Cx.yq (X:Cx):Cx:=X.uS fun _ _=>False
theorem Cx.Ok.uS {X:Cx}(ok:X.Ok)(E:ε):(X.uS E).Ok:=
 ⟨ok.mod,ok.kind,ok.glob,ok.blt,ok.above,ok.inj,ok.has,ok.Yh,ok.hd,ok.frames,ok.stk,ok.exf,ok.bs,ok.QF,ok.MX,ok.QG,ok.rl,ok.MF⟩
def Cx.Ok.jT {X:Cx}(ok:(X.uS E).Ok):X.Ok:=
 ⟨ok.mod,ok.kind,ok.glob,ok.blt,ok.above,ok.inj,ok.has,ok.Yh,ok.hd,ok.frames,ok.stk,ok.exf,ok.bs,ok.QF,ok.MX,ok.QG,ok.rl,ok.MF⟩
section
variable {X:Cx}{pX:η}{Y:St}{H:Hp}{s:D'}{E:ε}
theorem Inv.uS (I:Inv X pX Y H s)(E:ε):Inv (X.uS E) pX Y H s:=⟨I.ok.uS E,I.os,I.bare,I.iN,I.loc,I.cell,I.free,I.jQ,I.pin,I.bZ,I.len⟩
theorem Inv.jT (I:Inv (X.uS E) pX Y H s):Inv X pX Y H s:=⟨I.ok.jT,I.os,I.bare,I.iN,I.loc,I.cell,I.free,I.jQ,I.pin,I.bZ,I.len⟩
theorem SP.jT (h:SP (X.uS E) pX D f s'):SP X pX D f s':=by
 cases f with
 | next=>obtain ⟨Y',H',I,q⟩:=h;show ⟨Y',H',I.jT,q⟩
 | brk=>obtain ⟨Y',H',I,q⟩:=h;show ⟨Y',H',I.jT,q⟩
 | cont=>obtain ⟨Y',H',I,q⟩:=h;show ⟨Y',H',I.jT,q⟩
 | ret u=>obtain ⟨v,Y',H',I,r,q⟩:=h;show ⟨v,Y',H',I.jT,r,q⟩
theorem qv.yq {st:List Stmt}(h:qv X.yq st t):qv X st t:=fun pX s Y H D I hw=>
 Ku (h pX s Y H D (I.uS _) hw) (fun _ _ q=>q.jT) fun _ _ z=>False.elim z
end
section
variable {X:Cx}{st:Stmt}{rest:List Stmt}{t u:TS}{e:Expr}{te:TE}{pos:Pos}
def zaM:TS:=fun D Y H=>D.nx Y H
def Yo (t u:TS):TS:=fun D Y H=>t {D with nx:=u D} Y H
def a_:qv X [] zaM:=fun _ _ Y H _ I h=>tF ⟨Y,H,I,h⟩
def aa (h1:PS X st t)(h2:qv X rest u):qv X (st::rest) (Yo t u):=by
 intro pX s Y H D I h;refine wpAny_execs_cons (cY (h1 pX s Y H {D with nx:=u D} I h) fun f s1 q=>?_);cases f with
 | next=>
  obtain ⟨Y',H',I',q⟩:=q;exact h2 pX s1 Y' H' D I' q
 | ret v=>exact q
 | brk=>exact q
 | cont=>exact q
def ah (h1:PS X st t):qv X [st] t:=by
 intro pX s Y H D I h;refine wpAny_execs_cons (cY (h1 pX s Y H D I h) fun f s1 q=>?_);cases f with
 | next=>exact tF q
 | ret v=>exact q
 | brk=>exact q
 | cont=>exact q
def zaF:TS:=fun D Y H=>D.ct Y H
def ahu:PS X (.Continue pos) zaF:=fun _ _ Y H _ I h=>wpAny_Continue ⟨Y,H,I,h⟩
def Inv.quiet {Y:St}(I:Inv X pX Y H s):interactive X.env=false:=by simp [interactive,I.ok.kind]
def zaE (te:TE):TS:=fun D Y H=>te Y H fun _ H1=>D.nx Y H1
def cu (he:PE X e te)(hs:Q9 e none pos.line X.env=pure false:=by rfl):PS X (.Expr e pos) (zaE te):=by
 intro pX s Y H D I h;exact wpAny_Expr_any (cY (he pX s Y H _ I h) fun v s1 ⟨x,H1,I1,r1,q1⟩=>⟨Y,H1,I1,q1⟩) I.quiet hs
def afM (te:TE):TS:=fun D Y H=>te Y H D.rt
def aJ (he:PE X e te):PS X (.Return (some e) pos) (afM te):=by
 intro pX s Y H D I h;exact wpAny_Return_some (cY (he pX s Y H _ I h) fun v s1 ⟨x,H1,I1,r1,q1⟩=>⟨x,Y,H1,I1,r1,q1⟩)
def afN (c:TT)(t u:TS):TS:=fun D Y H=>c Y H fun b H1=>if b=true then t D Y H1 else u D Y H1
def bI (hc:PT X c tc)(ha:qv X a t)(hb:qv X b u):PS X (.If c a b pos) (afN tc t u):=by
 intro pX s Y H D I h;refine wpAny_If (cY (hc pX s Y H _ I h) fun d s1 ⟨H1,I1,q1⟩=>?_);cases d with
 | true=>exact ha pX s1 Y H1 D I1 q1
 | false=>exact hb pX s1 Y H1 D I1 q1
def agz:TS:=fun _ _ _=>False
def dR:PS X st agz:=fun _ _ _ _ _ _ h=>h.elim
end
abbrev TG:=V->St->Hp->(St->Hp->Prop)->Prop
abbrev TF:=List V->St->Hp->(St->Hp->Prop)->Prop
def PG (X:Cx)(target:Expr)(t:TG):Prop:=
 ∀(pX:η)(s:D')(Y:St)(H:Hp)(v:V)(u:Value)(Q:St->Hp->Prop),Inv X pX Y H s->RelV v u->t v Y H Q->
  C' (CY X.prog X.w) X.A (assign target X.env u) (fun _ s'=>∃Y' H',Inv X pX Y' H' s'/\Q Y' H') X.xe s
def Yr (X:Cx)(ts:Β)(t:TF):Prop:=
 ∀(pX:η)(s:D')(Y:St)(H:Hp)(vs:θ)(us:τ)(Q:St->Hp->Prop),Inv X pX Y H s->Vals vs us->t vs Y H Q->
  C' (CY X.prog X.w) X.A (assignInOrder ((RH ts X.env).map (·.2)) us) (fun _ s'=>∃Y' H',Inv X pX Y' H' s'/\Q Y' H') X.xe s
abbrev Vn:=V->V->V->Hp->(Hp->Prop)->Prop
def Ys (X:Cx)(t:Vn):Prop:=
 ∀(pX:η)(s:D')(Y:St)(H:Hp)(o i v:V)(ov iv u:Value)(Q:Hp->Prop),Inv X pX Y H s->RelV o ov->RelV i iv->RelV v u->t o i v H Q->
  C' (CY X.prog X.w) X.A (setItem ov iv u) (fun _ s'=>∃H',Inv X pX Y H' s'/\Q H') X.xe s
section
variable {X:Cx}{pos:Pos}
def b_ (i:Nat):TG:=fun v Y H Q=>Q (Y.set i (some v)) H
def fj (hN:X.N.Nodup)(hi:X.N[i]?=some x)(hx:Loc X.env.scope x)(hf:X.fn x=true\/X.env.scope.names.lookup x=some .local:=by first|exact .inl rfl|exact .inr rfl|assumption):PG X (.Name x pos) (b_ i):=by
 intro pX s Y H v u Q I r h;exact wpAny_assign_Name (mU I hN hi hx r (fun s' I'=>⟨_,H,I',h⟩) hf)
def QK:TF:=fun vs Y H Q=>vs=[]/\Q Y H
def sL (t:TG)(u:TF):TF:=fun vs Y H Q=>∃v r,vs=v::r/\t v Y H fun Y' H'=>u r Y' H' Q
def cZ:Yr X [] QK:=by
 intro pX s Y H vs us Q I r h;obtain ⟨e,h⟩:=h;subst e;cases r;exact assignInOrder_nil ⟨Y,H,I,h⟩
def aY (h1:PG X e t)(h2:Yr X es u)
  (hs:(RH (e::es) X.env).map (·.2)=assign e X.env::(RH es X.env).map (·.2):=by rfl):Yr X (e::es) (sL t u):=by
 intro pX s Y H vs us Q I r h;obtain ⟨v,vr,e1,h⟩:=h;subst e1;cases r with
 | cons r rr=>
  rw [hs];refine assignInOrder_cons (cY (h1 pX s Y H _ _ _ I r h) fun _ s1 ⟨Y1,H1,I1,q1⟩=>?_);exact h2 pX s1 Y1 H1 _ _ Q I1 rr q1
inductive Ko (K:Frag)(n:Nat)(t:TF)(v:V)(Y:St)(H:Hp)(Q:(St->Hp->Prop)):Prop
|mk (a xs:_)(_:v=.ref a)(_:bK K H a xs)(_:xs.length=n)(_:t xs Y H Q)
def ft {k:Nat}(hc:X.calm=true)(h:Yr X es t)
  (hn:(RH es X.env).length=n:=by rfl) (M1:(RH es X.env).findIdx? (·.1)=none:=by rfl):PG X (.Tuple es k pos) (Ko X.K n t):=by
 intro pX s Y H v u Q I r hw;obtain ⟨a,xs,e1,hq,hl,hw⟩:=hw;subst e1;cases r;obtain ⟨AI,rv,ht,hz⟩:=I.tuple hq;refine assign_Tuple_tuple (I.ok.hd hc) ht (by simp [hn,<-hl,rv.length]) M1 fun h' hx=>?_;let I1:Inv X pX Y H {s with heap:=h'}:=I.kept (t':=s.toks) fun b o e=>hx b o (KJ (FI e)) e;exact h pX _ Y H xs _ Q I1 (by simpa using rv) hw
def afO (to ti:TE)(t:Vn):TG:=fun v Y H Q=>to Y H fun o H1=>ti Y H1 fun i H2=>t o i v H2 fun H3=>Q Y H3
def lO (ho:PE X o to)(hi:PE X i ti)(hs:Ys X t)
  (ha:∀v,assign (.Subscript o i pos) X.env v=(do
   let ov <- Py [v] (DX o X.env);let iv <- Py [v,ov] (DX i X.env)
   standAt pos
   Py [v,ov,iv] (setItem ov iv v)
   release [v,ov,iv] []):=by intro _;rfl):PG X (.Subscript o i pos) (afO to ti t):=by
 intro pX s Y H v u Q I r h;rw [ha];refine CV (Nj (cY (ho pX s Y H _ I h) fun ov s1 ⟨x,H1,I1,r1,q1⟩=>?_));refine CV (Nj (cY (hi pX s1 Y H1 _ I1 q1) fun iv s2 ⟨y,H2,I2,r2,q2⟩=>?_));refine CV (wpAny_standAt (CV (Nj (cY (hs pX s2 Y H2 x y v ov iv u _ I2 r1 r2 r q2) fun _ s3 ⟨H3,I3,q3⟩=>?_))));exact wpAny_release ⟨Y,H3,I3,q3⟩
def CU (te:TE)(g:TG):TS:=fun D Y H=>te Y H fun x H1=>g x Y H1 D.nx
def iO (he:PE X e te)(hg:PG X tg g)(hs:swapsWithSole [tg] e pos.line X.env=pure false:=by rfl)(hw:swappedStores [tg] e X.env=pure none:=by rfl)
  (h1:(RH [tg] X.env).map (·.2)=[assign tg X.env]:=by rfl):PS X (.Assign [tg] e pos) (CU te g):=by
 intro pX s Y H D I h;refine wpAny_Assign_stores (cY (he pX s Y H _ I h) fun v s1 ⟨x,H1,I1,r1,q1⟩=>?_) hs hw;rw [h1];exact cY (hg pX s1 Y H1 x v _ I1 r1 q1) fun _ s2 q=>q
def agx (hN:X.N.Nodup)(hi:X.N[i]?=some x)(hx:Loc X.env.scope x)(he:PE X e te)(hs:Q9 e (some (.Name x pos')) pos.line X.env=pure false:=by rfl)(hf:X.fn x=true\/X.env.scope.names.lookup x=some .local:=by first|exact .inl rfl|exact .inr rfl|assumption):
  PS X (.Assign [.Name x pos'] e pos) (CU te (b_ i)):=by
 intro pX s Y H D I h;refine wpAny_Assign_Name (cY (he pX s Y H _ I h) fun v s1 ⟨y,H1,I1,r1,q1⟩=>?_) hs;exact mU I1 hN hi hx r1 (fun s2 I2=>⟨_,H1,I2,q1⟩) hf
inductive TH (i:Nat)(j:Nat)(D:Ends)(Y:St)(vs:θ)(H1:Hp):Prop
|mk (v w:_)(_:vs=[v,w])(_:D.nx ((Y.set i (some v)).set j (some w)) H1)
def afP (i j:Nat)(ta:TA):TS:=fun D Y H=>ta Y H fun vs H1=>TH i j D Y vs H1
def agw (hc:X.calm=true)(hN:X.N.Nodup)(hi:X.N[i]?=some x)(hj:X.N[j]?=some y)(hij:i≠j)
  (hx:X.env.scope.names.lookup x=some .local) (hy:X.env.scope.names.lookup y=some .local) (ha:PA X [a,b] ta)
  (hw:swappedStores [.Tuple [.Name x px,.Name y py] kt pt] (.Tuple [a,b] k2 pt2) X.env=pure (some [x,y]))
  (hs:swapsWithSole [.Tuple [.Name x px,.Name y py] kt pt] (.Tuple [a,b] k2 pt2) pos.line X.env=pure false:=by rfl):
  PS X (.Assign [.Tuple [.Name x px,.Name y py] kt pt] (.Tuple [a,b] k2 pt2) pos) (afP i j ta):=by
 intro pX s Y H D I h;rw [exec_Assign_arm];refine CV (wpAny_standAt ?_);rw [hs];refine CV (DV ?_);rw [mJ gt];refine CV (Tuple_ (cY (ha _ pX s Y H _ I h) fun us s1 ⟨vs,H1,I1,r1,q1⟩=>?_));obtain ⟨v,w,e1,q1⟩:=q1;subst e1
 obtain ⟨u1,u2,rfl,rv,yr⟩:∃u1 u2,us=[u1,u2]/\RelV v u1/\RelV w u2:=by
  cases r1 with
  | cons p q=>
   cases q with
   | cons p' q'=>
    cases q';show ⟨_,_,rfl,p,p'⟩
 refine VF ?_ (by show 2<=C_;decide);let I2:Inv X pX Y H1 {s1 with heap:=s1.heap.push {cls:=.type "tuple",data:=.seq [u1,u2].toArray}}:=I1.kept (t':=s1.toks) fun b o e=>K1 _ e;rw [hw];refine CV (DV ?_);show C' (CY X.prog X.w) X.A (do rule "assign.swapped-stores";let items <- unpackItems (.ref s1.heap.objs.size) 2 none;assignInOrder [fun v=>bindName X.env y v,fun v=>bindName X.env x v] items.reverse;pure Flow.next) _ _ _;refine CV (wpAny_rule (CV (unpackItems_tuple (items:= #[u1,u2]) (I.ok.hd hc) (IsTup.new s1.heap _) fun h' BZ =>?_)));let I3:=I2.kept (h':=h') (t':=s1.toks) fun b o e=>BZ b o (KJ (FI e)) e;show C' _ _ (assignInOrder [fun v=>bindName X.env y v,fun v=>bindName X.env x v] [u2,u1] >>=fun _=>pure Flow.next) _ _ _;refine CV (assignInOrder_cons (wpAny_bindName (mU I3 hN hj (.inl hy) yr (fun s2 I4=>?_) (.inr hy))));refine assignInOrder_cons (wpAny_bindName (mU I4 hN hi (.inl hx) rv (fun s3 I5=>assignInOrder_nil (DV ?_)) (.inr hx)));rw [List.set_comm _ _ (FG hij)] at I5;show ⟨_,H1,I5,q1⟩
def M3 (c:TT)(tb:TS):TS:=fun D Y H=>∃W:Nat->St->Hp->Prop,(∃m,W m Y H)/\∀m Y H,W m Y H->
 c Y H fun b H1=>if b=true then ∃N:St->Hp->Prop,(∀Y' H',N Y' H' ->∃m',m'<m/\W m' Y' H')/\tb {D with nx:=N,ct:=N,bk:=D.nx} Y H1 else D.nx Y H1
def yA (hp:PassesOwn (CY X.prog X.w) X.A X.env X.xe)(hc:PT X c tc)(hb:qv X body tb):PS X (.While c body [] pos) (M3 tc tb):=by
 intro pX s Y H D I h;obtain ⟨W,⟨m0,w0⟩,turn⟩:=h;refine wpAny_While (codeAny_whileLoop (fun n s'=>∃Y' H',Inv X pX Y' H' s'/\W n Y' H') ?_ m0 ⟨Y,H,I,w0⟩);rintro n s1 ⟨Y1,H1,I1,w1⟩;refine Rp hp (cY (hc pX s1 Y1 H1 _ I1 (turn n Y1 H1 w1)) fun b s2 ⟨H2,I2,q2⟩=>?_);cases b with
 | true=>
  obtain ⟨N,hN,q2⟩:=q2;rw [mK rfl];refine Rp hp (cY (hb pX s2 Y1 H2 _ I2 q2) fun f s3 q3=>?_);cases f with
  | next=>
   obtain ⟨Y3,H3,I3,n3⟩:=q3;obtain ⟨m',hm,w3⟩:=hN Y3 H3 n3;show ⟨m',hm,Y3,H3,I3,w3⟩
  | cont=>
   obtain ⟨Y3,H3,I3,n3⟩:=q3;obtain ⟨m',hm,w3⟩:=hN Y3 H3 n3;show ⟨m',hm,Y3,H3,I3,w3⟩
  | brk=>exact q3
  | ret v=>exact q3
 | false=>
  rw [mJ KQ];exact tF ⟨Y1,H2,I2,q2⟩
end
structure It where
 go:Nat->Hp->Prop
 M6:Nat->Hp->V->Hp->Prop
 stop:Nat->Hp->Prop
def o_ (X:Cx)(pX:η)(H:Hp)(b:AG):Prop:=
 H b=none/\b≠X.env.locals/\b∉X.fs/\(b∈X.ex\/X.oQ.heap.objs.size<=b)/\(∀x c,X.env.cells.lookup x=some c->c≠b)/\∀p∈X.pn++pX,p.1≠b
def Inv.uT {Y:St}{b:AG}(I:Inv X pX Y H s)(hb:s.heap.objs.size<=b)(hn:H' b=none):o_ X pX H' b:=by
 show ⟨hn,WW (Kq I.lt hb),I.afD hb,.inr (DC I.sz hb),fun x c e z=>?_,fun p hp z=>?_⟩
 ·obtain ⟨v,q⟩:=I.cell x c e
  exact DL (Kq q.lt (by rwa [z])) (O6 _)
 ·exact DL (Kq (FI (I.pin p hp).1) (by rwa [z])) (O6 _)
structure Turn (P:FQ)(w:World)(K:Frag)(tg:Expr)(J:It)(fp:ω)(it:AG)(tn:Nat->Heap->Prop):Prop where
 mem:it∈fp
 obj:∀i h,tn i h->∀b∈fp,∃o,h.get? b=some o/\∀v,o.data≠.cell v
 keep:∀i h h',tn i h->(∀b∈fp,∀o,h.get? b=some o->h'.get? b=some o)->tn i h'
 item:∀(X:Cx),X.prog=P->X.w=w->X.K=K->X.calm=true->∀(i:Nat)(pX:η)(s:D')(Y:St)(H:Hp)(E:ε),Inv X pX Y H s->(∀b∈fp,o_ X pX H b)->tn i s.heap->J.go i H->
  C' (CY P w) X.A (pyNext (.ref it)) (fun r s1=>∃u,r=some u/\
   C' (CY P w) X.A (qh tg (.ref it) u) (fun _ s2=>∃x H',Inv X pX Y H' s2/\RelV x u/\J.M6 i H x H'/\tn (i+1) s2.heap/\∀b∈fp,H' b=none) E s1) E s
 done:∀(X:Cx),X.prog=P->X.w=w->X.K=K->X.calm=true->∀(i:Nat)(pX:η)(s:D')(Y:St)(H:Hp)(E:ε),Inv X pX Y H s->(∀b∈fp,o_ X pX H b)->tn i s.heap->J.stop i H->
  C' (CY P w) X.A (pyNext (.ref it)) (fun r s1=>r=none/\Inv X pX Y H s1) E s
 self:∀(A:KH)(i:Nat)(s:D')(Q:ε)(E:ε),tn i s.heap->Q (.ref it) s->C' (CY P w) A (pyIter (.ref it)) Q E s
abbrev TI:=St->Hp->(It->Hp->Prop)->Prop
def PIE (X:Cx)(pX:η)(Y:St)(tg:Expr)(R:It->Hp->Prop)(itv:Value)(s2:D'):Prop:=
 ∃(it:AG)(fp:ω)(tn:Nat->Heap->Prop)(J:It)(H':Hp),itv=.ref it/\Inv X pX Y H' s2/\Turn X.prog X.w X.K tg J fp it tn/\tn 0 s2.heap/\(∀b∈fp,o_ X pX H' b)/\R J H'
def PI (X:Cx)(tg iter:Expr)(wi:TI):Prop:=
 ∀(pX:η)(s:D')(Y:St)(H:Hp)(R:It->Hp->Prop),Inv X pX Y H s->wi Y H R->
  C' (CY X.prog X.w) X.A (DX iter X.env) (fun v s1=>C' (CY X.prog X.w) X.A (pyIter v) (PIE X pX Y tg R) X.xe s1) X.xe s
def M7            (ho : s.heap.get? it = some o) (hc : o.cls = .type n) (hd : o.data = .fields vs)
    (hn : ["enumerate", "zip", "dict_itemiterator", "dict_reverseitemiterator", "odict_iterator", "itertools.zip_longest", "itertools.pairwise"].contains n = false) (hQ : Q () s) : C' M A (qh tg (.ref it) u) Q E s := by
  unfold qh
  cases tg<;>first
    | exact DV hQ
    | (cases u<;>first
        | exact DV hQ
        | (refine CV (wpAny_load ho ?_)
           rw [hc, hd];show C' M A (if (["enumerate", "zip", "dict_itemiterator", "dict_reverseitemiterator", "odict_iterator", "itertools.zip_longest", "itertools.pairwise"].contains n && vs[0]? == some (Nr _)) = true then _ else _) Q E s;rw [mJ (by intro h; rw [hn, Bool.false_and] at h; cases h)]
           exact DV hQ))
def M8 (K:Frag)(a:AG):It:=
 ⟨fun i H=>∃xs x,aU K H a xs/\xs[i]?=some x,fun i H x H'=>H'=H/\∀xs,aU K H a xs->xs[i]?=some x,fun i H=>∃xs,aU K H a xs/\xs.length<=i⟩
def TJ (lo:Int)(n:Nat):It:=⟨fun i _=>i<n,fun i H x H'=>H'=H/\x=.int (lo+i),fun i _=>n<=i⟩
def aeS {K:Frag}(a it:AG):Turn P w K tg (M8 K a) [it] it (fun i h=>h.IsListIter it a i) where
 mem:=by simp
 obj:=fun i h st b hb=>by
  let e:b=it:=by simpa using hb
  subst e;obtain ⟨o,e,c,d⟩:=st;show ⟨o,e,fun v z=>by erw [d] at z⟩
 keep:=fun i h h' st k=>st.at fun o e=>k it gV o e
 item:=by
  intro X hP hw hK hc i pX s Y H E I hf st hg;subst hP hw hK;obtain ⟨xs,x,hq,hx⟩:=hg;obtain ⟨AI,rv,p,hz⟩:=I.list hq;obtain ⟨u,hu,ru⟩:=rv.get hx;obtain ⟨f0,f1,f2,f3,f4,f5⟩:=hf it gV;refine wpAny_pyNext_list_item st p.isList (x:=u) (by simpa using hu) fun h' M9 sb=>?_;let I1:Inv X pX Y H {s with heap:=h'}:=I.turned (t':=s.toks) (fun b o hb e=>(sb.2 b hb).trans e) f0 f1 f3 f4 f5;obtain ⟨o,e,c,d⟩:=id M9;show ⟨u,rfl,M7 (s:={s with heap:=h'}) e c d gt ⟨x,H,I1,ru,⟨rfl,fun ys hy=>by rwa [I.jS hy hq]⟩,M9,fun b hb=>(hf b hb).1⟩⟩
 done:=by
  intro X hP hw hK hc i pX s Y H E I hf st hg;subst hP hw hK;obtain ⟨xs,hq,hx⟩:=hg;obtain ⟨AI,rv,p,hz⟩:=I.list hq;obtain ⟨f0,f1,f2,f3,f4,f5⟩:=hf it gV;let hl:=rv.length;exact wpAny_pyNext_list_end (I.ok.hd hc) st p.isList (by simp;omega) fun h' eb=>⟨rfl,I.turned (t':=s.toks) (fun b o hb e=>eb b o hb e) f0 f1 f3 f4 f5⟩
 self:=fun _ _ _ _ _ st h=>wpAny_pyIter_listiter st h
def abT {K:Frag}(it:AG)(lo:Int)(n:Nat):Turn P w K tg (TJ lo n) [it] it (fun i h=>IsRangeIter h it (lo+(i:Nat)*1) ((n:Int)-(i:Nat)) 1) where
 mem:=by simp
 obj:=fun i h st b hb=>by
  let e:b=it:=by simpa using hb
  subst e
  show ⟨_,st,fun v z=>by
   let z':Data.fields _=Data.cell v:=z
   cases z'⟩
 keep:=fun i h h' st k=>k it gV _ st
 item:=by
  intro X hP hw hK hc i pX s Y H E I hf st hg;subst hP hw hK;obtain ⟨f0,f1,f2,f3,f4,f5⟩:=hf it gV;let W:=Walks.range (prog:=X.prog) (w:=X.w) (I.ok.hd hc) it lo 1 n;refine W.item i s _ _ hg st fun v h' tk hv M9 kk=>?_;obtain ⟨t,rfl⟩:=hv;let I1:Inv X pX Y H {s with heap:=h',toks:=tk}:=I.turned (fun b o hb e=>kk b o (by simpa using hb) e) f0 f1 f3 f4 f5;show ⟨_,rfl,M7 (s:={s with heap:=h',toks:=tk}) (n:="range_iterator") M9 rfl rfl gt ⟨.int (lo+i),H,I1,⟨t,?_⟩,⟨rfl,rfl⟩,M9,fun b hb=>(hf b hb).1⟩⟩;rw [Int.mul_one]
 done:=by
  intro X hP hw hK hc i pX s Y H E I hf st hg;subst hP hw hK;obtain ⟨f0,f1,f2,f3,f4,f5⟩:=hf it gV;exact wpAny_pyNext_range_end (I.ok.hd hc) st (by have:n<=i:=hg;omega) fun h' eb=>⟨rfl,I.turned (t':=s.toks) (fun b o hb e=>eb b o hb e) f0 f1 f3 f4 f5⟩
 self:=fun _ _ _ _ _ st h=>wpAny_pyIter_rangeiter st h
section
variable {X:Cx}{tg:Expr}
inductive M_ (K:Frag)(R:(It->Hp->Prop))(x:V)(H1:Hp):Prop
|mk (a:_)(_:x=.ref a)(_:(∃xs,aU K H1 a xs))(_:R (M8 K a) H1)
def zaD (K:Frag)(tl:TE):TI:=fun Y H R=>tl Y H fun x H1=>M_ K R x H1
def bu (hl:PE X l tl):PI X tg l (zaD X.K tl):=by
 intro pX s Y H R I h;refine cY (hl pX s Y H _ I h) fun v s1 ⟨x,H1,I1,r1,q1⟩=>?_;obtain ⟨a,e,⟨xs,hq⟩,q⟩:=q1;subst e;cases r1;obtain ⟨AI,rv,p,hz⟩:=I1.list hq;refine wpAny_pyIter_list p.isList ?_;show ⟨s1.heap.objs.size,[s1.heap.objs.size],_,_,H1,rfl,I1.kept (t':=s1.toks) fun b o e=>K1 _ e,aeS a _,⟨_,L6 _ rfl,rfl,rfl⟩,fun b hb=>?_,q⟩;let e:b=s1.heap.objs.size:=by simpa using hb
 subst e;exact I1.uT (DU _) (I1.bZ.fresh (DU _))
def acr {Y:St}{E:ε}{lo hi:Int}(I:Inv X pX Y H s)(h1: -(2^62)<=lo)(h2:lo<2^62)(h3: -(2^62)<=hi)(h4:hi<2^62)
  (q:R (TJ lo (hi-lo).toNat) H):C' (CY X.prog X.w) X.A (pyIter (.ref s.heap.objs.size)) (PIE X pX Y tg R) E {s with heap:=s.heap.push {cls:=.type "range",data:=.fields #[.int lo t,.int hi u,.int 1 v]},toks:=tk}:=by
 refine wpAny_pyIter_range (IsRange.new ..) (small_one h1 h2 h3 h4) ?_;let I1:Inv X pX Y H {s with heap:=s.heap.push {cls:=.type "range",data:=.fields #[.int lo t,.int hi u,.int 1 v]},toks:=tk}:=I.kept fun b o e=>K1 _ e
 show ⟨(s.heap.push {cls:=.type "range",data:=.fields #[.int lo t,.int hi u,.int 1 v]}).objs.size,[(s.heap.push {cls:=.type "range",data:=.fields #[.int lo t,.int hi u,.int 1 v]}).objs.size],_,_,H,rfl,
  I1.kept (t':=tk) fun b o e=>K1 _ e,abT _ lo (hi-lo).toNat,?_,fun b hb=>?_,q⟩
 ·let e1:lo+((0:Nat):Int)*1=lo:=by simp
  let e2:(((hi-lo).toNat:Nat):Int)-((0:Nat):Int)=Builtin.Range.rangeSize lo hi 1:=by rw [rangeSize_one];split<;>omega
  show IsRangeIter _ _ (lo+((0:Nat):Int)*1) ((((hi-lo).toNat:Nat):Int)-((0:Nat):Int)) 1;rw [e1,e2];exact L6 _ rfl
 ·let e:b=(s.heap.push {cls:=.type "range",data:=.fields #[.int lo t,.int hi u,.int 1 v]}).objs.size:=by simpa using hb
  subst e;exact I1.uT (DU _) (I1.bZ.fresh (DU _))
inductive Nb (R:(It->Hp->Prop))(vs:θ)(H1:Hp):Prop
|mk (j:Int)(_:vs=[.int j])(_: -(2^62)<=j)(_:j<2^62)(_:R (TJ 0 j.toNat) H1)
def zaB (ta:TA):TI:=fun Y H R=>ta Y H fun vs H1=>Nb R vs H1
def bS (hg:Gl X "range")(hm:X.mg "range"=none)(ha:PA X [a] ta)(hs:EX [a] X.env=[(false,DX a X.env)]:=by rfl):PI X tg (.Call (.Name "range" p) [a] [] pos) (zaB ta):=by
 intro pX s Y H R I h;refine Call_ (jR I hg hm boot_range (VB (cY (ha pos pX s Y H _ I h) fun us s1 ⟨vs,H1,I1,r1,q1⟩=>?_) hs rfl));obtain ⟨j,e,q1,q2,q⟩:=q1;subst e;cases r1 with
 | cons r rr=>
  cases rr;obtain ⟨t,rfl⟩:=r;exact call_range_1 (acr I1 ga ga q1 q2 (by simpa using q))
def afS (wi:TI)(g:TG)(tb:TS):TS:=fun D Y H=>wi Y H fun J H1=>∃W:Nat->Nat->St->Hp->Prop,(∃m,W 0 m Y H1)/\∀i m Y H,W i m Y H->
 (J.stop i H/\D.nx Y H)\/(J.go i H/\∃N:St->Hp->Prop,(∀Y' H',N Y' H' ->∃m',m'<m/\W (i+1) m' Y' H')/\∀x H',J.M6 i H x H' ->g x Y H' fun Y2 H2=>tb {D with nx:=N,ct:=N,bk:=D.nx} Y2 H2)
def sM (fp:ω)(h:Heap):List (AG×Obj):=fp.filterMap fun b=>(h.get? b).map fun o=>(b,o)
def jj (hb:b∈fp)(e:h.get? b=some o):(b,o)∈sM fp h:=zj.mpr ⟨b,hb,by rw [e];rfl⟩
def ad_ (hp:p∈sM fp h):p.1∈fp/\h.get? p.1=some p.2:=by
 obtain ⟨b,hb,e⟩:=zj.mp hp;cases q:h.get? b with
 | none=>erw [q] at e
 | some o=>
  rw [q] at e;let e':(b,o)=p:=FA e;subst e';show ⟨hb,q⟩
def Inv.pinned {Y:St}(I:Inv X pX Y H s)(hf:∀b∈fp,o_ X pX H b)(ho:∀b∈fp,∃o,s.heap.get? b=some o/\∀v,o.data≠.cell v):Inv X (pX++sM fp s.heap) Y H s:=
 I.HJ fun p hp=>(K2.mp hp).elim (fun z=>I.pin p (N8 _ z)) fun z=>by
  obtain ⟨hb,e⟩:=ad_ z;obtain ⟨f0,f1,f2,_⟩:=hf p.1 hb;obtain ⟨o,e',d⟩:=ho p.1 hb;erw [e] at e';show ⟨e,f0,f1,f2,d⟩
def Inv.jU {Y:St}(I:Inv X (pX++pl) Y H s):Inv X pX Y H s:=I.HJ fun p hp=>I.pin p (N8 _ (O1 _ hp))
def bG (hp:PassesOwn (CY X.prog X.w) X.A X.env X.xe)(hc:X.calm=true)(hi:PI X tg iter wi)(hg:PG X tg g)(hb:qv X body tb)
  (hs:∀x,Q0 iter X.env x=pure x:=by intro _;rfl):PS X (.For tg iter body [] pos) (afS wi g tb):=by
 intro pX s Y H D I h;refine wpAny_For (cY (hi pX s Y H _ I h) fun v s1 h1=>cY h1 fun itv s2 h2=>?_) hs;obtain ⟨it,fp,tn,J,H2,e,I2,T,TK,f2,W,⟨m0,w0⟩,turn⟩:=h2;subst e;let stat:∀{H':Hp},(∀b∈fp,H' b=none)->∀b∈fp,o_ X pX H' b:=fun hn b hb=>⟨hn b hb,(f2 b hb).2⟩;refine codeAny_forLoop_any (fun n s'=>∃i Y' H',Inv X pX Y' H' s'/\tn i s'.heap/\(∀b∈fp,H' b=none)/\W i n Y' H') ?_ m0 ⟨0,Y,H2,I2,TK,fun b hb=>(f2 b hb).1,w0⟩;rintro n s3 ⟨i,Y3,H3,I3,XM,MG,w3⟩
 rcases turn i n Y3 H3 w3 with ⟨stop,qn⟩|⟨go,N,hN,step⟩
 ·refine Rp hp (cY (T.done X rfl rfl rfl hc i pX s3 Y3 H3 X.xe I3 (stat MG) XM stop) fun r s4 ⟨hr,I4⟩=>?_)
  subst hr;exact tF ⟨Y3,H3,I4,qn⟩
 ·refine Rp hp (cY (T.item X rfl rfl rfl hc i pX s3 Y3 H3 X.xe I3 (stat MG) XM go) fun r s4 ⟨u,hr,h4⟩=>?_)
  subst hr;refine Rp hp (cY h4 fun _ s5 ⟨x,H5,I5,r5,y5,XN,Yv⟩=>?_);let I5':=I5.pinned (stat Yv) (T.obj _ _ XN);refine Rp hp (cY (hg _ s5 Y3 H5 x u _ I5' r5 (step x H5 y5)) fun _ s6 ⟨Y6,H6,I6,q6⟩=>?_);refine Rp hp (cY (hb _ s6 Y6 H6 _ I6 q6) fun f s7 q7=>?_)
  let again:∀{Y7:St} {H7:Hp},Inv X (pX++sM fp s5.heap) Y7 H7 s7->N Y7 H7->∃m,m<n/\∃i Y' H',Inv X pX Y' H' s7/\tn i s7.heap/\(∀b∈fp,H' b=none)/\W i m Y' H':=fun {Y7 H7} I7 n7=>by
   obtain ⟨m',hm,w7⟩:=hN Y7 H7 n7;show ⟨m',hm,i+1,Y7,H7,I7.jU,T.keep _ _ _ XN fun b hb o e=>(I7.pin (b,o) (N8 _ (N8 _ (jj hb e)))).1,fun b hb=>?_,w7⟩;obtain ⟨o,e,d⟩:=T.obj _ _ XN b hb;exact (I7.pin (b,o) (N8 _ (N8 _ (jj hb e)))).2.1
  cases f with
  | next=>obtain ⟨Y7,H7,I7,n7⟩:=q7;exact again I7 n7
  | cont=>obtain ⟨Y7,H7,I7,n7⟩:=q7;exact again I7 n7
  | brk=>obtain ⟨Y7,H7,I7,q7⟩:=q7;show ⟨Y7,H7,I7.jU,q7⟩
  | ret v=>obtain ⟨x7,Y7,H7,I7,r7,q7⟩:=q7;show ⟨x7,Y7,H7,I7.jU,r7,q7⟩
end
def cC {K:Frag}{g:TG}{tb:TS}{D:Ends}(Pv:Nat->St->Hp->Prop)(h0:Pv 0 Y H)(hl:∀i Y H,i<=xs.length->Pv i Y H->aU K H a xs)
  (hs:∀i x Y H,xs[i]?=some x->Pv i Y H->g x Y H fun Y2 H2=>tb {D with nx:=Pv (i+1),ct:=Pv (i+1),bk:=D.nx} Y2 H2) (hd:∀Y H,Pv xs.length Y H->D.nx Y H):
  ∃W:Nat->Nat->St->Hp->Prop,(∃m,W 0 m Y H)/\∀i m Y H,W i m Y H->
   ((M8 K a).stop i H/\D.nx Y H)\/((M8 K a).go i H/\∃N:St->Hp->Prop,(∀Y' H',N Y' H' ->∃m',m'<m/\W (i+1) m' Y' H')/\∀x H',(M8 K a).M6 i H x H' ->g x Y H' fun Y2 H2=>tb {D with nx:=N,ct:=N,bk:=D.nx} Y2 H2):=by
 show ⟨fun i m Y H=>m=xs.length-i/\i<=xs.length/\Pv i Y H,⟨xs.length,by simp,KZ _,h0⟩,?_⟩;rintro i m Y H ⟨rfl,hi,p⟩;let q:=hl i Y H hi p;by_cases lQ:i<xs.length
 ·refine .inr ⟨⟨xs,xs[i],q,by simp [lQ]⟩,Pv (i+1),fun Y' H' p'=>⟨xs.length-(i+1),ga,rfl,lQ,p'⟩,fun x H' y=>?_⟩
  obtain ⟨e,y⟩:=y;subst e;exact hs i x Y _ (y xs q) p
 ·let e:i=xs.length:=ga
  subst e;exact .inl ⟨⟨xs,q,DU _⟩,hd Y H p⟩
def cP {lo:Int}{g:TG}{tb:TS}{D:Ends}(Pv:Nat->St->Hp->Prop)(h0:Pv 0 Y H)
  (hs:∀i Y H,i<n->Pv i Y H->g (.int (lo+i)) Y H fun Y2 H2=>tb {D with nx:=Pv (i+1),ct:=Pv (i+1),bk:=D.nx} Y2 H2) (hd:∀Y H,Pv n Y H->D.nx Y H):
  ∃W:Nat->Nat->St->Hp->Prop,(∃m,W 0 m Y H)/\∀i m Y H,W i m Y H->
   ((TJ lo n).stop i H/\D.nx Y H)\/((TJ lo n).go i H/\∃N:St->Hp->Prop,(∀Y' H',N Y' H' ->∃m',m'<m/\W (i+1) m' Y' H')/\∀x H',(TJ lo n).M6 i H x H' ->g x Y H' fun Y2 H2=>tb {D with nx:=N,ct:=N,bk:=D.nx} Y2 H2):=by
 show ⟨fun i m Y H=>m=n-i/\i<=n/\Pv i Y H,⟨n,by simp,KZ _,h0⟩,?_⟩;rintro i m Y H ⟨rfl,hi,p⟩;by_cases lQ:i<n
 ·refine .inr ⟨lQ,Pv (i+1),fun Y' H' p'=>⟨n-(i+1),ga,rfl,lQ,p'⟩,fun x H' y=>?_⟩
  obtain ⟨e,y⟩:=y;subst e y;exact hs i Y _ lQ p
 ·let e:i=n:=ga
  subst e;exact .inl ⟨DU _,hd Y H p⟩
def yB (Pv:St->Hp->Prop)(μ:St->Hp->Nat)(h0:Pv Y H)
  (hs:∀Y H,Pv Y H->c Y H fun b H1=>if b=true then tb {D with nx:=fun Y' H'=>Pv Y' H'/\μ Y' H' < μ Y H,ct:=fun Y' H'=>Pv Y' H'/\μ Y' H' < μ Y H,bk:=D.nx} Y H1 else D.nx Y H1)
  (mono:∀Y H Q Q',(∀b H1,Q b H1->Q' b H1)->c Y H Q->c Y H Q'):M3 c tb D Y H:=by
 show ⟨fun m Y H=>m=μ Y H/\Pv Y H,⟨_,rfl,h0⟩,?_⟩;rintro m Y H ⟨rfl,p⟩;refine mono Y H _ _ (fun b H1 q=>?_) (hs Y H p);cases b with
 | true=>show ⟨_,fun Y' H' ⟨p',l⟩=>⟨_,l,rfl,p'⟩,q⟩
 | false=>exact q
abbrev R2:=V->V->Hp->VK->Prop
def kA (X:Cx)(f:Value->Value->Sem Value)(r:R2):Prop:=
 ∀(pX:η)(s:D')(Y:St)(H:Hp)(x y:V)(v u:Value)(Q:VK),Inv X pX Y H s->RelV x v->RelV y u->r x y H Q->
  C' (CY X.prog X.w) X.A (f v u) (EP X pX Y Q) X.xe s
def UnR (X:Cx)(f:Value->Sem Value)(r:V->Hp->VK->Prop):Prop:=
 ∀(pX:η)(s:D')(Y:St)(H:Hp)(x:V)(v:Value)(Q:VK),Inv X pX Y H s->RelV x v->r x H Q->
  C' (CY X.prog X.w) X.A (f v) (EP X pX Y Q) X.xe s
def iz (X:Cx)(f:Value)(r:List V->Hp->VK->Prop):Prop:=
 ∀(pX:η)(s:D')(Y:St)(H:Hp)(xs:θ)(us:τ)(Q:VK),Inv X pX Y H s->Vals xs us->r xs H Q->
  C' (CY X.prog X.w) X.A (call f us) (EP X pX Y Q) X.xe s
def QL (r:R2)(ta tb:TE):TE:=fun Y H Q=>ta Y H fun x H1=>tb Y H1 fun y H2=>r x y H2 Q
def tUn (r:V->Hp->VK->Prop)(ta:TE):TE:=fun Y H Q=>ta Y H fun x H1=>r x H1 Q
inductive rI (C:Int->Int->Prop)(g:Int->Int->V)(x:V)(y:V)(H:Hp)(Q:VK):Prop
|mk (i j:_)(_:x=.int i)(_:y=.int j)(_:C i j)(_:Q (g i j) H)
inductive QM (g:Int->Int->V)(x:V)(y:V)(H:Hp)(Q:VK):Prop
|mk (i j:_)(_:x=.int i)(_:y=.int j)(_:Q (g i j) H)
inductive rU (g:Int->V)(x:V)(H:Hp)(Q:VK):Prop
|mk (i:_)(_:x=.int i)(_:Q (g i) H)
section
variable {X:Cx}{a b c:Expr}{ta tb tc:TE}{pos:Pos}
def Vq (ha:PE X a ta)(hb:PE X b tb){Y:St}{R:V->V->Hp->Prop}(I:Inv X pX Y H s)
  (h:ta Y H fun x H1=>tb Y H1 fun y H2=>R x y H2) {Q:ε} {f:Value->Value->Sem Value}
  (hf:∀v u s2 x y H2,Inv X pX Y H2 s2->RelV x v->RelV y u->R x y H2->C' (CY X.prog X.w) X.A (f v u) Q X.xe s2):
  C' (CY X.prog X.w) X.A (DX a X.env) (fun v mM=>C' (CY X.prog X.w) X.A (DX b X.env) (fun u qu=>C' (CY X.prog X.w) X.A (f v u) Q X.xe qu) X.xe mM) X.xe s:=by
 refine cY (ha pX s Y H _ I h) fun v s1 ⟨x,H1,I1,r1,q1⟩=>?_;refine cY (hb pX s1 Y H1 _ I1 q1) fun u s2 ⟨y,H2,I2,r2,q2⟩=>?_;exact hf v u s2 x y H2 I2 r1 r2 q2
def aF (ho:kA X (Nn op) r)(ha:PE X a ta)(hb:PE X b tb):PE X (.BinOp a op b pos) (QL r ta tb):=by
 intro pX s Y H Q I h;exact wpAny_BinOp (Vq ha hb I h fun v u s2 x y H2 I2 rx ry q=>ho pX s2 Y H2 x y v u Q I2 rx ry q)
def iA (ho:UnR X (unaryOp op) r)(ha:PE X a ta):PE X (.UnaryOp op a pos) (tUn r ta):=by
 intro pX s Y H Q I h;exact UnaryOp_ (cY (ha pX s Y H _ I h) fun v s1 ⟨x,H1,I1,r1,q1⟩=>ho pX s1 Y H1 x v Q I1 r1 q1)
def Yw {g:Int->Int->Int}
  (rule:∀(i j:Int)(t u:Tok)(s:D')(Q:ε)(E:ε),C i j->Q (.int (g i j) s.toks) {s with toks:=s.toks+1}->C' (CY X.prog X.w) X.A (f (.int i t) (.int j u)) Q E s):
  kA X f (rI C fun i j=>.int (g i j)):=by
 intro pX s Y H x y v u Q I rx ry h;obtain ⟨i,j,rfl,rfl,hc,q⟩:=h;obtain ⟨t,rfl⟩:=rx;obtain ⟨t',rfl⟩:=ry;exact rule i j t t' s _ _ hc ⟨.int (g i j),H,I.tok _,⟨_,rfl⟩,q⟩
def Yx {g:Int->Int->Int}
  (rule:∀(i j:Int)(t u:Tok)(s:D')(Q:ε)(E:ε),Q (.int (g i j) s.toks) {s with toks:=s.toks+1}->C' (CY X.prog X.w) X.A (f (.int i t) (.int j u)) Q E s):
  kA X f (QM fun i j=>.int (g i j)):=by
 intro pX s Y H x y v u Q I rx ry h;obtain ⟨i,j,rfl,rfl,q⟩:=h;obtain ⟨t,rfl⟩:=rx;obtain ⟨t',rfl⟩:=ry;exact rule i j t t' s _ _ ⟨.int (g i j),H,I.tok _,⟨_,rfl⟩,q⟩
def QN {g:Int->Int->Bool}
  (rule:∀(i j:Int)(t u:Tok)(s:D')(Q:ε)(E:ε),Q (.bool (g i j)) s->C' (CY X.prog X.w) X.A (f (.int i t) (.int j u)) Q E s):
  kA X f (QM fun i j=>.bl (g i j)):=by
 intro pX s Y H x y v u Q I rx ry h;obtain ⟨i,j,rfl,rfl,q⟩:=h;obtain ⟨t,rfl⟩:=rx;obtain ⟨t',rfl⟩:=ry;exact rule i j t t' s _ _ ⟨.bl (g i j),H,I,rfl,q⟩
def Vr (i j:Int):Prop:=0<=j/\j<=1000000/\i.natAbs<2^64
def cD:kA X (Nn .Add) (QM fun i j=>.int (i+j)):=Yx fun _ _ _ _ _ _ _ q=>add_int q
def dB:kA X (Nn .Sub) (QM fun i j=>.int (i-j)):=Yx fun _ _ _ _ _ _ _ q=>sub_int q
def zaG:kA X (Nn .Mod) (rI (fun _ j=>j≠0) fun i j=>.int (i.fmod j)):=Yw fun _ _ _ _ _ _ _ hc q=>mod_int' hc q
def Nc:kA X (Nn .Pow) (rI Vr fun i j=>.int (i^j.toNat)):=Yw fun _ _ _ _ _ _ _ hc q=>pow_int_small hc.1 hc.2.1 hc.2.2 q
def unI {g:Int->Int}
  (rule:∀(i:Int)(t:Tok)(s:D')(Q:ε)(E:ε),Q (.int (g i) s.toks) {s with toks:=s.toks+1}->C' (CY X.prog X.w) X.A (f (.int i t)) Q E s):
  UnR X f (rU fun i=>.int (g i)):=by
 intro pX s Y H x v Q I rx h;obtain ⟨i,rfl,q⟩:=h;obtain ⟨t,rfl⟩:=rx;exact rule i t s _ _ ⟨.int (g i),H,I.tok _,⟨_,rfl⟩,q⟩
def fO:UnR X (unaryOp .USub) (rU fun i=>.int (-i)):=unI fun _ _ _ _ _ q=>neg_int q
end
def Yy:V->V->Bool
 | .dw,.dw=>true | .dw,.int _=>true | .int _,.dw=>true | .dw,.bl _=>true | .bl _,.dw=>true | .dw,.str _=>true | .str _,.dw=>true
 | .int _,.int _=>true | .bl _,.bl _=>true | .str _,.str _=>true | .rj _,.rj _=>true
 | .int _,.str _=>true | .str _,.int _=>true | .bl _,.str _=>true | .str _,.bl _=>true
 | _,_=>false
def rEq:R2:=fun x y H Q=>Yy x y=true/\Q (.bl (decide (x=y))) H
def rNe:R2:=fun x y H Q=>Yy x y=true/\Q (.bl (!decide (x=y))) H
def HK :decide (V.int i=V.int j)=(i==j):=by
 rw [RS];simp
def Nd :decide (V.bl i=V.bl j)=(i==j):=by
 rw [RS];simp
def HL :decide (V.str i=V.str j)=(i==j):=by
 rw [RS];simp
def HM :decide (V.rj i=V.rj j)=(i.toList==j.toList):=by
 rw [RS];cases i;cases j;simp
section
variable {X:Cx}{a b c:Expr}{ta tb tc:TE}{pos:Pos}
def bT {Y:St}(I:Inv X pX Y H s)(q:Q (.bl k) H)(e:k=k'):EP X pX Y Q (.bool k') s:=by
 subst e;show ⟨.bl k,H,I,rfl,q⟩
def eR:kA X (Mg .Eq) rEq:=by
 intro pX s Y H x y v u Q I rx ry h;obtain ⟨hs,q⟩:=h;cases x with
 | dw=>
  cases rx;cases y with
  | dw=>cases ry;exact PySem.EqNone.eq_none_none (bT I q gV)
  | bl j=>cases ry;exact PySem.EqNone.eq_none_bool (bT I q gV)
  | int j=>obtain ⟨t',rfl⟩:=ry;exact PySem.EqNone.eq_none_int (bT I q gV)
  | str j=>obtain ⟨t',rfl⟩:=ry;exact PySem.EqNone.eq_none_str (bT I q gV)
  | _=>exact DL (show false=true from hs) KQ
 | bl i=>
  cases rx;cases y with
  | dw=>cases ry;exact PySem.EqNone.eq_bool_none (bT I q gV)
  | bl j=>cases ry;exact eq_bool (bT I q Nd)
  | str j=>obtain ⟨t',rfl⟩:=ry;exact PySem.EqMixed.eq_bool_str (bT I q gV)
  | _=>exact DL (show false=true from hs) KQ
 | int i=>
  obtain ⟨t,rfl⟩:=rx;cases y with
  | dw=>cases ry;exact PySem.EqNone.eq_int_none (bT I q gV)
  | int j=>obtain ⟨t',rfl⟩:=ry;exact eq_int (bT I q HK)
  | str j=>obtain ⟨t',rfl⟩:=ry;exact PySem.EqMixed.eq_int_str (bT I q gV)
  | _=>exact DL (show false=true from hs) KQ
 | str i=>
  obtain ⟨t,rfl⟩:=rx;cases y with
  | dw=>cases ry;exact PySem.EqNone.eq_str_none (bT I q gV)
  | bl j=>cases ry;exact PySem.EqMixed.eq_str_bool (bT I q gV)
  | int j=>obtain ⟨t',rfl⟩:=ry;exact PySem.EqMixed.eq_str_int (bT I q gV)
  | str j=>obtain ⟨t',rfl⟩:=ry;exact eq_str (bT I q HL)
  | _=>exact DL (show false=true from hs) KQ
 | rj i=>
  obtain ⟨t,rfl⟩:=rx;cases y with
  | rj j=>obtain ⟨t',rfl⟩:=ry;exact PySem.W.eq_bytes (bT I q HM)
  | _=>exact DL (show false=true from hs) KQ
 | _=>cases y<;>exact DL (show false=true from hs) KQ
def qB:kA X (Mg .NotEq) rNe:=by
 intro pX s Y H x y v u Q I rx ry h;obtain ⟨hs,q⟩:=h;cases x with
 | dw=>
  cases rx;cases y with
  | dw=>cases ry;exact PySem.EqNone.ne_none_none (bT I q gV)
  | bl j=>cases ry;exact PySem.EqNone.ne_none_bool (bT I q gV)
  | int j=>obtain ⟨t',rfl⟩:=ry;exact PySem.EqNone.ne_none_int (bT I q gV)
  | str j=>obtain ⟨t',rfl⟩:=ry;exact PySem.EqNone.ne_none_str (bT I q gV)
  | _=>exact DL (show false=true from hs) KQ
 | bl i=>
  cases rx;cases y with
  | dw=>cases ry;exact PySem.EqNone.ne_bool_none (bT I q gV)
  | bl j=>cases ry;exact ne_bool (bT I q (oP not Nd))
  | str j=>obtain ⟨t',rfl⟩:=ry;exact PySem.EqMixed.ne_bool_str (bT I q gV)
  | _=>exact DL (show false=true from hs) KQ
 | int i=>
  obtain ⟨t,rfl⟩:=rx;cases y with
  | dw=>cases ry;exact PySem.EqNone.ne_int_none (bT I q gV)
  | int j=>obtain ⟨t',rfl⟩:=ry;exact ne_int (bT I q (oP not HK))
  | str j=>obtain ⟨t',rfl⟩:=ry;exact PySem.EqMixed.ne_int_str (bT I q gV)
  | _=>exact DL (show false=true from hs) KQ
 | str i=>
  obtain ⟨t,rfl⟩:=rx;cases y with
  | dw=>cases ry;exact PySem.EqNone.ne_str_none (bT I q gV)
  | bl j=>cases ry;exact PySem.EqMixed.ne_str_bool (bT I q gV)
  | int j=>obtain ⟨t',rfl⟩:=ry;exact PySem.EqMixed.ne_str_int (bT I q gV)
  | str j=>obtain ⟨t',rfl⟩:=ry;exact ne_str (bT I q (oP not HL))
  | _=>exact DL (show false=true from hs) KQ
 | rj i=>
  obtain ⟨t,rfl⟩:=rx;cases y with
  | rj j=>obtain ⟨t',rfl⟩:=ry;exact PySem.W.ne_bytes (bT I q (oP not HM))
  | _=>exact DL (show false=true from hs) KQ
 | _=>cases y<;>exact DL (show false=true from hs) KQ
def Nf:kA X (Mg .Lt) (QM fun i j=>.bl (decide (i<j))):=QN fun _ _ _ _ _ _ _ q=>lt_int q
def aix:kA X (Mg .LtE) (QM fun i j=>.bl (decide (i<=j))):=QN fun _ _ _ _ _ _ _ q=>le_int q
def Ng:kA X (Mg .Gt) (QM fun i j=>.bl (decide (j<i))):=QN fun _ _ _ _ _ _ _ q=>gt_int q
def TL:kA X (Mg .GtE) (QM fun i j=>.bl (decide (j<=i))):=QN fun _ _ _ _ _ _ _ q=>ge_int q
def Nh:kA X (Mg .Is) (fun x y H Q=>y=.dw/\Q (.bl (decide (x=.dw))) H):=by
 intro pX s Y H x y v u Q I rx ry h;obtain ⟨rfl,q⟩:=h;cases ry;refine is_none_gen (bT I q ?_)
 cases x<;>first
  | (cases rx;rfl)
  | (obtain ⟨t,rfl⟩:=rx;rfl)
def afo:kA X (Mg .IsNot) (fun x y H Q=>y=.dw/\Q (.bl (!decide (x=.dw))) H):=by
 intro pX s Y H x y v u Q I rx ry h;obtain ⟨rfl,q⟩:=h;cases ry;refine isnot_none_gen (bT I q ?_)
 cases x<;>first
  | (cases rx;rfl)
  | (obtain ⟨t,rfl⟩:=rx;rfl)
def fY (b:Expr)(h:op≠.In:=by decide)(h2:op≠.NotIn:=by decide):VL op b=false:=by
 let e1:(op==CmpOp.In)=false:=by cases op<;>first|rfl|exact DL rfl h
 let e2:(op==CmpOp.NotIn)=false:=by cases op<;>first|rfl|exact DL rfl h2
 cases b<;>simp [VL,e1,e2]
def fk (ho:kA X (Mg op) r)(ha:PE X a ta)(hb:PE X b tb)(hm:VL op b=false):PE X (.Compare a [op] [b] pos) (QL r ta tb):=by
 intro pX s Y H Q I h;exact wpAny_Compare1 (Vq ha hb I h fun v u s2 x y H2 I2 rx ry q=>ho pX s2 Y H2 x y v u Q I2 rx ry q) hm
inductive Ni (Q:(Bool->Hp->Prop))(x:V)(H':Hp):Prop
|mk (k:_)(_:x=.bl k)(_:Q k H')
def TM (t:TE):TT:=fun Y H Q=>t Y H fun x H'=>Ni Q x H'
def v_ (ho:kA X (Mg op) r)(ha:PE X a ta)(hb:PE X b tb)(hm:VL op b=false):PT X (.Compare a [op] [b] pos) (TM (QL r ta tb)):=by
 intro pX s Y H Q I h
 refine wpAny_isTrue_Compare1 (cY (ha pX s Y H _ I h) fun v s1 ⟨x,H1,I1,r1,q1⟩=>cY (hb pX s1 Y H1 _ I1 q1) fun u s2 ⟨y,H2,I2,r2,q2⟩=>
  cY (ho pX s2 Y H2 x y v u _ I2 r1 r2 q2) fun c s3 ⟨z,H3,I3,r3,k,e,q3⟩=>?_) hm
 subst e;cases r3;exact RG ⟨H3,I3,q3⟩
def agt (r r':R2)(ta tb tc:TE):TE:=fun Y H Q=>ta Y H fun x H1=>tb Y H1 fun y H2=>r x y H2 fun z H3=>∃k,z=.bl k/\
 (if k=true then tc Y H3 fun w' H4=>r' y w' H4 Q else Q (.bl false) H3)
def aco (ho:kA X (Mg op) r)(QH :kA X (Mg op') r')(ha:PE X a ta)(hb:PE X b tb)(hc:PE X c tc)
  (hm:lastMarks [op,op'] [b,c]=false:=by with_unfolding_all rfl):PE X (.Compare a [op,op'] [b,c] pos) (agt r r' ta tb tc):=by
 intro pX s Y H Q I h
 refine Compare_chain (cY (ha pX s Y H _ I h) fun v s1 ⟨x,H1,I1,r1,q1⟩=>chain_link (cY (hb pX s1 Y H1 _ I1 q1) fun u s2 ⟨y,H2,I2,r2,q2⟩=>
  cY (ho pX s2 Y H2 x y v u _ I2 r1 r2 q2) fun d s3 ⟨z,H3,I3,r3,k,e,q3⟩=>?_)) hm
 subst e;cases r3;refine RG ?_;cases k with
 | false=>exact ite_ff ⟨.bl false,H3,I3,rfl,q3⟩
 | true=>exact ite_tt (chain_last (cY (hc pX s3 Y H3 _ I3 q3) fun w' s4 ⟨z',H4,I4,r4,q4⟩=>QH pX s4 Y H4 y z' u w' Q I4 r2 r4 q4))
def we:(C_:Nat)<2^63:=by rw [Vk];decide
def lR:kA X (Nn .Add) (fun x y H Q=>∃i j,x=.str i/\y=.str j/\i.length+j.length<=C_/\Q (.str (i++j)) H):=by
 intro pX s Y H x y v u Q I rx ry h;obtain ⟨i,j,rfl,rfl,hz,q⟩:=h;obtain ⟨t,rfl⟩:=rx;obtain ⟨t',rfl⟩:=ry;exact add_str (fun t' tk=>⟨.str (i++j),H,I.tok _,⟨_,rfl⟩,q⟩) hz
def vals1 {us:τ}(r:Vals [x] us):∃u,us=[u]/\RelV x u:=by
 cases r with
 | cons r1 r2=>cases r2;show ⟨_,rfl,r1⟩
def vals2 {us:τ}(r:Vals [x,y] us):∃u w',us=[u,w']/\RelV x u/\RelV y w':=by
 cases r with
 | cons r1 r2=>
  cases r2 with
  | cons r3 r4=>cases r4;show ⟨_,_,rfl,r1,r3⟩
def yC:iz X (.builtin "abs") (fun xs H Q=>∃i,xs=[.int i]/\Q (.int (if i<0 then -i else i)) H):=by
 intro pX s Y H xs us Q I r h;obtain ⟨i,rfl,q⟩:=h;obtain ⟨u,rfl,t,rfl⟩:=vals1 r;exact call_abs_int fun u tk=>⟨.int (if i<0 then -i else i),H,I.tok _,⟨_,rfl⟩,q⟩
def pd:iz X (.type "int") (fun xs H Q=>(∃i,xs=[.int i]/\Q (.int i) H)\/∃k,xs=[.bl k]/\Q (.int (if k then 1 else 0)) H):=by
 intro pX s Y H xs us Q I r h
 rcases h with ⟨i,rfl,q⟩|⟨k,rfl,q⟩
 ·obtain ⟨u,rfl,t,rfl⟩:=vals1 r
  exact call_int_int ⟨.int i,H,I,⟨_,rfl⟩,q⟩
 ·obtain ⟨u,rfl,r1⟩:=vals1 r
  cases r1;exact call_int_bool ⟨.int (if k then 1 else 0),H,I.tok _,⟨_,rfl⟩,q⟩
def mX:iz X (.type "str") (fun xs H Q=>∃i,xs=[.int i]/\i.natAbs.log2<1920/\Q (.str (toString i)) H):=by
 intro pX s Y H xs us Q I r h;obtain ⟨i,rfl,hz,q⟩:=h;obtain ⟨u,rfl,t,rfl⟩:=vals1 r;exact PySem.P.str_of_int hz ⟨.str _,H,I.tok _,⟨_,rfl⟩,q⟩
end
structure CW (h:Heap)(x dx C:AG)(mA:ξ):Prop where
 obj:h.get? x=some (Nk C dx)
 ns:h.Ns1 dx mA
 ne:dx≠x
def aeG {h:Heap}{mA:ξ}(n:h.Ns1 dx mA):∃od,h.get? dx=some od/\∀name,α9 name od=some (mA name):=by
 obtain ⟨o,es,ep,ho,hd,hk,_,hm⟩:=n;show ⟨o,ho,fun name=>?_⟩;let e:=hm name;unfold nsFind findBy at e;rw [<-Array.find?_toList] at e;unfold α9;rw [hd];dsimp only;split
 ·rename_i y q
  rw [q] at e;exact oP some e
 ·rename_i q
  rw [q] at e
  let a:es.toList.any (·.refKey)=false:=by
   rw [List.any_eq_false];intro y hy;obtain ⟨z,t,yD⟩:=hk y (Array.mem_toList_iff.mp hy);simp [DictEntry.refKey,yD]
  let a':¬ es.toList.any (·.refKey)=true:=by rw [a];exact KQ
  rw [mJ a'];exact oP some e
def CW.look (I:CW h x dx C mA):∃od,PySem.W.InstAt h x (Nk C dx) C (some od)/\∀name,α9 name od=some (mA name):=
 let ⟨od,ho,hl⟩:=aeG I.ns
 ⟨od,⟨I.obj,rfl,rfl,ho⟩,hl⟩
section
variable {prog:FQ}{w:World}{A:KH}{E:ε}{s:D'}{K:Frag}{x dx C f:AG}{mA:ξ}{name:Str}{v:Value}
def get_map {Q:ε}(X:K.In s.heap)(I:CW s.heap x dx C mA)(hg:RF K C name=true)(hh:Rr K C=true)
  (ha:Kl K (.ref C) name=some none) (hv:mA name=some v) (Vt :PySem.W.handedIn v=true) (h:Q v {s with toks:=s.toks+1}):
  C' (CY prog w) A (getAttr (.ref x) name expr) Q E s:=by
 obtain ⟨od,J,hl⟩:=I.look;exact PySem.W.get_value X J (PySem.W.plainGet_of hg).1 (PySem.W.findObj_own hh ha rfl (by rw [hl,hv])) Vt h
def ack (X:K.In s.heap)(I:CW s.heap x dx C mA)(hg:RF K C name=true)
  (hf:Kl K (.ref C) name=some (some (.ref f))) (ht:Vl K (.ref f)=true) (hv:mA name=none) (h:Q (.ref f,[.ref x]) s):
  C' (CY prog w) A (getMethod (.ref x) name pl) Q E s:=by
 obtain ⟨od,J,hl⟩:=I.look;exact PySem.W.method_fn X J (PySem.W.plainGet_of hg).1 (PySem.W.plainGet_of hg).2 hf (beq_iff_eq.mp ht) (by show (α9 name od).map (·.isSome)=some false;rw [hl,hv];rfl) h
def afl {ns:ψ}(X:K.In s.heap)(I:CW s.heap x dx C mA)
  (hs:Kl K (.ref C) "__setattr__"=some (some (.builtin "object.__setattr__"))) (hp:VC K C=true) (ht:PySem.W.takerIn K C name=some none) (hh:Rr K C=true)
  (hw:PySem.Within mA ns) (hsz:ns.length<=C_)
  (h:∀h',CW h' x dx C (fun y=>if y=name then some v else mA y)->Xo dx s.heap h' ->Q () {s with heap:=h',toks:=s.toks+2}):
  C' (CY prog w) A (setAttr (.ref x) name v) Q E s:=by
 obtain ⟨od,J,hl⟩:=I.look;refine PySem.W.set_plain X J hs (PySem.W.osa_open (s:={s with toks:=s.toks+1}) (r:=none) X J hp ht fun b=>?_);obtain ⟨cd,hc,Tx⟩:=PySem.W.any_some hh;let hx:s.heap.get? x=some ⟨.ref C,some dx,.plain, #[]⟩:=I.obj;refine CV (DV (CV (CV (wpAny_loadPart hx (CV (PySem.W.Looks.here (s:={s with toks:=s.toks+1}) (PySem.W.looks_clsIn X hc) ?_))))));rw [Tx];refine DV (a:=some dx) (CV (DV (CV ?_)));refine wpAny_nsSet1 (s:={s with toks:=s.toks+1}) I.ns fun h' hn2 P4=>?_;obtain ⟨oD,esD,epD,hoD,hdD,hcD⟩:=hn2.count (PySem.Within.cons name v hw);refine CV (wpAny_lookBehind hoD (by rw [hdD];exact pastItsLine_dict (DC hcD (by rw [Me];omega))) ?_);exact DV (h _ ⟨(P4.2 _ (FG I.ne)).trans I.obj,hn2,I.ne⟩ P4)
def ach {R:Φ}{vs:τ}(X:K.In s.heap)(hm:RB K C=true)
  (hi:Kl K (.ref C) "__init__"=some (some (.ref f))) (hf:PySem.W.typeIn K (.ref f)=some (.type "function"))
  (h:NF (CY prog w) (A.under (.builtin "type.__call__" ⟨.ref C::vs,kw⟩)) (.call (.ref f) ⟨.ref (s.heap.objs.size+1)::vs,kw⟩) (PySem.W.InitBack (s.heap.objs.size+1) R)
   {s with heap:=(s.heap.push Nl).push (Nk C s.heap.objs.size)}):
  NF (CY prog w) A (.call (.ref C) ⟨vs,kw⟩) R s:=by
 obtain ⟨hh,g,d,t,os⟩:=s;exact PySem.W.make_core (PySem.W.makes_of X hm) (PySem.W.looks_findIn X hi) (fun self=>PySem.W.bind_fn X self hf) (.inl rfl) h
def acj {R:Φ}(X:K.In s.heap)(hm:RB K C=true)
  (hi:Kl K (.ref C) "__init__"=some (some (.builtin "object.__init__")))
  (hb:∀self,PySem.W.Looks (CY prog w) s.heap (bindSpecial (.builtin "object.__init__") self) (.builtin "object.__init__",[self]))
  (h:NF (CY prog w) (A.under (.builtin "type.__call__" ⟨[.ref C],[]⟩)) (.call (.builtin "object.__init__") ⟨[.ref (s.heap.objs.size+1)],[]⟩) (PySem.W.InitBack (s.heap.objs.size+1) R)
   {s with heap:=(s.heap.push Nl).push (Nk C s.heap.objs.size)}):
  NF (CY prog w) A (.call (.ref C) ⟨[],[]⟩) R s:=by
 obtain ⟨hh,g,d,t,os⟩:=s;exact PySem.W.make_core (PySem.W.makes_of X hm) (PySem.W.looks_findIn X hi) hb (.inr ⟨rfl,rfl⟩) h
end
def fP (f:Str)(v:V):List (Str×V)->List (Str×V)
 | []=>[(f,v)]
 | (g,x)::r=>if g=f then (g,v)::r else (g,x)::fP f v r
theorem qC (f g:Str)(v:V):∀fs:List (Str×V),(fP f v fs).lookup g=if g=f then some v else fs.lookup g
 | []=>by
  show OS g [(f,v)]=_;by_cases h:g=f
  ·let hb:(g==f)=true:=beq_iff_eq.mpr h
   simp only [OS,hb,mK h]
  ·let hb:(g==f)=false:=beq_eq_false_iff_ne.mpr h
   simp only [OS,hb,mJ h]
 | (k,x)::r=>by
  let ih:=qC f g v r;rw [show fP f v ((k,x)::r)=(if k=f then (k,v)::r else (k,x)::fP f v r) from rfl];by_cases hk:k=f
  ·rw [mK hk]
   by_cases h:g=k
   ·let hb:(g==k)=true:=beq_iff_eq.mpr h
    simp only [OS,hb,mK (h.trans hk)]
   ·let hb:(g==k)=false:=beq_eq_false_iff_ne.mpr h
    simp only [OS,hb,mJ (fun e:g=f=>h (e.trans hk.symm))]
  ·rw [mJ hk]
   by_cases h:g=k
   ·let hb:(g==k)=true:=beq_iff_eq.mpr h
    simp only [OS,hb,mJ (fun e:g=f=>hk (h.symm.trans e))]
   ·let hb:(g==k)=false:=beq_eq_false_iff_ne.mpr h
    simp only [OS,hb];exact ih
theorem ph (f:Str)(v:V):∀fs:List (Str×V),f∈(fP f v fs).map (·.1)/\∀g,g∈fs.map (·.1)->g∈(fP f v fs).map (·.1)
 | []=>⟨by simp [fP],fun g h=>by simp at h⟩
 | (k,x)::r=>by
  obtain ⟨i1,i2⟩:=ph f v r;rw [show fP f v ((k,x)::r)=(if k=f then (k,v)::r else (k,x)::fP f v r) from rfl];by_cases hk:k=f
  ·rw [mK hk]
   subst hk;show ⟨by simp,fun g h=>by simpa using h⟩
  ·rw [mJ hk]
   show ⟨?_,fun g h=>?_⟩
   ·rw [DG]
    exact FF _ i1
   ·rw [DG] at h ⊢
    rcases KD.mp h with e|e
    ·exact KD.mpr (.inl e)
    ·exact FF _ (i2 g e)
theorem qD (f:Str)(v:V):∀fs:List (Str×V),(fP f v fs).length<=fs.length+1
 | []=>by simp [fP]
 | (k,x)::r=>by
  let ih:=qD f v r;rw [show fP f v ((k,x)::r)=(if k=f then (k,v)::r else (k,x)::fP f v r) from rfl];by_cases hk:k=f
  ·rw [mK hk,Me,Me];omega
  ·rw [mJ hk,Me,Me];omega
def jL.some_of (r:jL (some v) o):∃u,o=some u/\RelV v u:=by
 cases o with
 | none=>exact (show False from r).elim
 | some u=>show ⟨u,rfl,r⟩
def jL.none_of (r:jL none o):o=none:=by
 cases o with
 | none=>rfl
 | some u=>exact (show False from r).elim
def acm (r:RelV v u):PySem.W.handedIn u=true:=by
 cases v with
 | dw=>cases (show u=Value.none from r);rfl
 | bl b=>cases (show u=Value.bool b from r);rfl
 | int i=>obtain ⟨t,e⟩:=(show ∃t,u=Value.int i t from r);cases e;rfl
 | str x=>obtain ⟨t,e⟩:=(show ∃t,u=Value.str x t from r);cases e;rfl
 | rj b=>obtain ⟨t,e⟩:=(show ∃t,u=Value.bytes b t from r);cases e;rfl
 | Vf b=>obtain ⟨t,e⟩:=(show ∃t,u=Value.float b t from r);cases e;rfl
 | ref a=>cases (show u=Value.ref a from r);rfl
 | ty n=>cases (show u=Value.type n from r);rfl
section
variable {P:FQ}{w:World}{H H':Hp}{h h':Heap}{a C dx:AG}{fs fs':List (Str×V)}
def rL (bZ:lG P w H h)(e:H a=some (.ins C dx fs)):∃mA,CW h a dx C mA/\(∀f,jL (fs.lookup f) (mA f))/\PySem.Within mA (fs.map (·.1))/\fs.length<=1000/\H dx=some (.own a):=by
 obtain ⟨d,z,ne,ob,mA,n,r,q⟩:=(show dr P w H h a (.ins C dx fs) from bZ a _ e);show ⟨mA,⟨ob,n,ne⟩,r,q,z,d⟩
end
structure yE (K:Frag)(C:AG):Prop where
 pg:RF K C Str.empty=true
 hd:Rr K C=true
 po:VC K C=true
 sa:Kl K (.ref C) "__setattr__"=some (some (.builtin "object.__setattr__"))
def yE.get {K:Frag}(c:yE K C)(f:Str):RF K C f=true:=c.pg
def gX (K:Frag)(C:AG)(f:Str):Prop:=Kl K (.ref C) f=some none
def gX.YA {K:Frag}(n:gX K C f):PySem.W.takerIn K C f=some none:=by
 unfold PySem.W.takerIn;rw [show Kl K (.ref C) f=some none from n];rfl
structure Meth (K:Frag)(C:AG)(m:Str)(f:AG):Prop where
 at_:Kl K (.ref C) m=some (some (.ref f))
 fn:Vl K (.ref f)=true
 kp:keepIn K (.ref f)=true
section
variable {X:Cx}{pX:η}{Y:St}{H:Hp}{s:D'}{a C dx:AG}{fs:List (Str×V)}{f:Str}{v:V}{A:KH}{E:ε}
def ab1 {Q:ε}(I:Inv X pX Y H s)(e:H a=some (.ins C dx fs))(c:yE X.K C)(n:gX X.K C f)(l:fs.lookup f=some v)
  (h:∀u s',Inv X pX Y H s' ->RelV v u->Q u s'):C' (CY X.prog X.w) A (getAttr (.ref a) f b) Q E s:=by
 obtain ⟨mA,O,r,_,_,_⟩:=rL I.bZ e;obtain ⟨u,hu,ru⟩:=jL.some_of (v:=v) (o:=mA f) (by rw [<-l];exact r f);exact get_map I.mQ O (c.get f) c.hd n hu (acm ru) (h u _ (I.tok _) ru)
def lT (I:Inv X pX Y H s)(e:H a=some (.ins C dx fs))(c:yE X.K C)(k:Meth X.K C m g)(l:fs.lookup m=none)
  (h:Q (.ref g,[.ref a]) s):C' (CY X.prog X.w) A (getMethod (.ref a) m pl) Q E s:=by
 obtain ⟨mA,O,r,_,_,_⟩:=rL I.bZ e;let hn:mA m=none:=jL.none_of (by rw [<-l];exact r m);exact ack I.mQ O (c.get m) k.at_ k.fn hn h
def aaJ (I:Inv X pX Y H s)(e:H a=some (.ins C dx fs))(c:yE X.K C)(n:gX X.K C f)(hl:fs.length<1000)(ry:RelV y u)
  (h:∀s',Inv X pX Y (upd H a (.ins C dx (fP f y fs))) s' ->Q () s'):C' (CY X.prog X.w) A (setAttr (.ref a) f u) Q E s:=by
 obtain ⟨mA,O,r,wi,_,ho⟩:=rL I.bZ e;let hz:(fs.map (·.1)).length<=C_:=by rw [ir,Vk];omega
 refine afl I.mQ O c.sa c.po n.YA c.hd wi hz fun h' O' sb=>h _ ?_;let hd:∃o,h'.get? dx=some o:=let ⟨o,_,_,e',_⟩:=O'.ns;⟨o,e'⟩;refine I.write (x:=a) (e:=dx) (by rw [e];exact True.intro) (.inr ho) (fun b q hb z=>(sb.2 b hb).trans z) hd ?_;show ⟨by rwa [ao O.ne],?_,O.ne,O'.obj,_,O'.ns,fun g=>?_,fun g hg=>?_⟩
 ·have:=qD f y fs;omega
 ·show jL ((fP f y fs).lookup g) (if g=f then some u else mA g)
  rw [qC];by_cases q:g=f
  ·rwa [mK q,mK q]
  ·rw [mJ q,mJ q];exact r g
 ·by_cases q:g=f
  ·rw [q];exact (ph f y fs).1
  ·refine (ph f y fs).2 g (wi g fun z=>hg ?_)
   show (if g=f then some u else mA g)=none;rwa [mJ q]
def Inv.made (I:Inv X pX Y H s):Inv X pX Y (upd (upd H s.heap.objs.size (.own (s.heap.objs.size+1))) (s.heap.objs.size+1) (.ins C s.heap.objs.size []))
  {s with heap:=(s.heap.push Nl).push (Nk C s.heap.objs.size)}:=by
 let e1:(s.heap.push Nl).get? s.heap.objs.size=some Nl:=L6 s.heap rfl
 let e2:((s.heap.push Nl).push (Nk C s.heap.objs.size)).get? (s.heap.objs.size+1)=some (Nk C s.heap.objs.size):=by
  have:=L6 (s.heap.push Nl) (o:=Nk C s.heap.objs.size) rfl
  rwa [Rn] at this
 let e3:(s.heap.push Nl).Ns s.heap.objs.size (fun _=>none):=⟨Nl, #[],_,e1,rfl,(fun e he=>DL he gV),fun _=>rfl⟩;let I1:=I.laid (a:=s.heap.objs.size) (o:=.own (s.heap.objs.size+1)) (h':=s.heap.push Nl) (t':=s.toks) (fun b u q=>K1 _ q) (DU _) ⟨_,e1⟩;refine I1.laid (a:=s.heap.objs.size+1) (o:=.ins C s.heap.objs.size []) (t':=s.toks) (fun b u q=>K1 _ q) (WV (Rn _ _)) ?_;let ne:s.heap.objs.size≠s.heap.objs.size+1:=KJ (NM _);show ⟨by rw [ao ne,aj],KZ _,ne,e2,fun _=>none,(Heap.Ns1.of_empty e3).at fun o q=>K1 _ q,fun _=>True.intro,fun y hy=>DL rfl hy⟩
def afk {Q:ε}(hb:V6 e f env (DX e env)=DX e env)
  (h:C' (CY prog w) A (DX e env) (fun o mM=>C' (CY prog w) A (getAttr o f true) Q E mM) E s):C' (CY prog w) A (DX (.Attribute e f pos) env) Q E s:=
 Attribute_any_ h (by rw [arm_eval_Attribute,hb])
end
inductive TN (K:Frag)(f:Str)(Q:VK)(x:V)(H1:Hp):Prop
|mk (a C dx fs v:_)(_:x=.ref a)(_:H1 a=some (.ins C dx fs))(_:yE K C)(_:gX K C f)(_:fs.lookup f=some v)(_:Q v H1)
def afV (K:Frag)(ta:TE)(f:Str):TE:=fun Y H Q=>ta Y H fun x H1=>TN K f Q x H1
inductive TQ (K:Frag)(f:Str)(D:Ends)(Y:St)(y:V)(x:V)(H2:Hp):Prop
|mk (a C dx fs:_)(_:x=.ref a)(_:H2 a=some (.ins C dx fs))(_:yE K C)(_:gX K C f)(_:fs.length<1000)(_:D.nx Y (upd H2 a (.ins C dx (fP f y fs))))
def afW (K:Frag)(ta tv:TE)(f:Str):TS:=fun D Y H=>tv Y H fun y H1=>ta Y H1 fun x H2=>TQ K f D Y y x H2
section
variable {X:Cx}{o e value:Expr}{f:Str}{pos pos' wg:Pos}{ta tv:TE}
def eU (he:PE X e ta)(hb:V6 e f X.env (DX e X.env)=DX e X.env):PE X (.Attribute e f pos) (afV X.K ta f):=by
 intro pX s Y H Q I h;refine afk hb (cY (he pX s Y H _ I h) fun u s1 ⟨x,H1,I1,rx,a,C,dx,fs,v,ex,ea,c,n,l,q⟩=>?_);subst ex;obtain rfl:u=Value.ref a:=rx;exact ab1 I1 ea c n l fun u' s2 I2 ru=>⟨v,H1,I2,ru,q⟩
def wj (ha:PE X o ta)(hv:PE X value tv)(hs:Q9 value (some (.Attribute o f pos')) pos.line X.env=pure false):PS X (.Assign [.Attribute o f pos'] value pos) (afW X.K ta tv f):=by
 intro pX s Y H D I h;refine plainObj_wpAny_Assign_Attribute (cY (hv pX s Y H _ I h) fun u s1 ⟨y,H1,I1,ry,q⟩=>cY (ha pX s1 Y H1 _ I1 q) fun ov s2 ⟨x,H2,I2,rx,a,C,dx,fs,ex,ea,c,n,l,q2⟩=>?_) hs;subst ex;obtain rfl:ov=Value.ref a:=rx;exact aaJ I2 ea c n l ry fun s3 I3=>⟨Y,_,I3,q2⟩
end
section
variable {X:Cx}{pX:η}{Y:St}{H:Hp}{s:D'}{A:KH}{E:ε}{Q:ε}{c:Value}{b:Bool}
inductive pj (K:Frag)(H:Hp):V->Value->Prop where
 | dw:pj K H .dw (.type "NoneType")
 | bl (x:Bool):pj K H (.bl x) (.type "bool")
 | int (i:Int):pj K H (.int i) (.type "int")
 | str (x:Str):pj K H (.str x) (.type "str")
 | Vf (x:UInt64):pj K H (.Vf x) (.type "float")
 | lst {a:AG} {xs:θ} (e:H a=some (.lst xs)):pj K H (.ref a) (.type "list")
 | fV {a:AG} {o:Obj} {xs:θ} (e:H a=some (.fV o (.lst xs))):pj K H (.ref a) (.type "list")
 | tup {a:AG} {xs:θ} (e:H a=some (.tup xs)):pj K H (.ref a) (.type "tuple")
 | dK {a:AG} {AD:δ} (e:H a=some (.dK AD)):pj K H (.ref a) (.type "dict")
 | dT {a:AG} {AD:Ε} (e:H a=some (.dT AD)):pj K H (.ref a) (.type "dict")
 | ins {a C dx:AG} {fs:List (Str×V)} (e:H a=some (.ins C dx fs)) (cl:yE K C) (ha:Kl K (.ref C) "__class__"=some (some (.builtin "object.__class__")))
   (hn:PySem.W.specialIn K (.builtin "object.__class__") "__get__"=some (some (.builtin "getset_descriptor.__get__"))) (htk:PySem.W.takesIn K (.builtin "object.__class__")=some true)
   (hm:PySem.W.mroIn K C (.type "object")=some true):pj K H (.ref a) (.ref C)
def acg (I:Inv X pX Y H s)(rx:RelV x u)(ty:pj X.K H x t)(e:VM X.K t c=some b)(h:∀tk,Q (.bool b) {s with toks:=tk}):
  C' (CY X.prog X.w) A (call (.builtin "isinstance") [u,c]) Q E s:=by
 cases ty with
 | dw=>cases (show u=Value.none from rx);exact OX PySem.W.kitx_none I.mQ True.intro e (fun z=>nomatch z) h
 | bl y=>cases (show u=Value.bool y from rx);exact OX PySem.W.kitx_bool I.mQ True.intro e (fun z=>nomatch z) h
 | int i=>obtain ⟨t,q⟩:=(show ∃t,u=Value.int i t from rx);cases q;exact OX PySem.W.kitx_int I.mQ True.intro e (fun z=>nomatch z) h
 | str y=>obtain ⟨t,q⟩:=(show ∃t,u=Value.str y t from rx);cases q;exact OX PySem.W.kitx_str I.mQ True.intro e (fun z=>nomatch z) h
 | Vf y=>obtain ⟨t,q⟩:=(show ∃t,u=Value.float y t from rx);cases q;exact OX PySem.W.kitx_float I.mQ True.intro e (fun z=>nomatch z) h
 | @lst a xs ea=>
  cases (show u=Value.ref a from rx);obtain ⟨_,_,n,_,h1⟩:=(show dr X.prog X.w H s.heap a (.lst xs) from I.bZ a _ ea);exact OX PySem.W.kitx_list I.mQ ⟨_,h1,rfl⟩ e (fun z=>nomatch z) h
 | @fV a ob xs ea=>
  cases (show u=Value.ref a from rx);obtain ⟨_,_,_,n,_,h1⟩:=(show dr X.prog X.w H s.heap a (.fV ob (.lst xs)) from I.bZ a _ ea);exact OX PySem.W.kitx_list I.mQ ⟨_,h1,rfl⟩ e (fun z=>nomatch z) h
 | @tup a xs ea=>
  cases (show u=Value.ref a from rx);obtain ⟨_,_,_,p⟩:=(show dr X.prog X.w H s.heap a (.tup xs) from I.bZ a _ ea);obtain ⟨o,h1,h2,_⟩:=p;exact OX PySem.W.kitx_tuple I.mQ ⟨o,h1,h2⟩ e (fun z=>nomatch z) h
 | @dK a AD ea=>
  cases (show u=Value.ref a from rx);obtain ⟨_,_,vs,_,p⟩:=(show dr X.prog X.w H s.heap a (.dK AD) from I.bZ a _ ea);obtain ⟨o,es,ep,h1,h2,_⟩:=p;exact OX PySem.W.kitx_dict I.mQ ⟨o,h1,h2.1⟩ e (fun z=>nomatch z) h
 | @dT a AD ea=>
  cases (show u=Value.ref a from rx);obtain ⟨_,_,xs,_,o,es,ep,h1,h2,_⟩:=(show dr X.prog X.w H s.heap a (.dT AD) from I.bZ a _ ea);exact OX PySem.W.kitx_dict I.mQ ⟨o,h1,h2.1⟩ e (fun z=>nomatch z) h
 | @ins a C dx fs ea cl ha hn htk hm=>
  cases (show u=Value.ref a from rx);obtain ⟨mA,O,_⟩:=rL I.bZ ea;obtain ⟨od,J,_⟩:=O.look;exact OX (PySem.W.kitx_own (cl.get _) cl.hd ha hn htk hm) I.mQ J e (fun z=>nomatch z) h
end
structure cK (k:Nat)(A:KH):Prop where
 hd:A.handled=none
 dp:A.depth+3*k+5<α8
 un:A.units+16*k+200<Mn
def cK.mono (r:cK k A)(h:j<=k):cK j A:=⟨r.hd,by have:=r.dp;omega,by have:=r.un;omega⟩
theorem cK.deeper (r:cK (k+1) A)(env:Env):cK k (A.deeper env):=
 ⟨r.hd,by have:=r.dp;show A.depth+1+3*k+5<_;omega,by have:=r.un;show A.units+3+16*k+200<_;omega⟩
def abW {A:KH}{us:τ}:(A.under (.builtin "type.__call__" ⟨.ref C::us,kw⟩)).depth=A.depth+1:=by
 first|rfl|simp [Around.under,Code.weight,Code.isCreation,Code.isGuard,Code.isCaller,Code.frames,Code.isFrame,guardIds]
def abY {A:KH}{us:τ}:(A.under (.builtin "type.__call__" ⟨.ref C::us,kw⟩)).units=A.units+1:=by
 first|rfl|simp [Around.under,Code.cUnits,Code.frames,Code.isFrame]
def cK.make (r:cK (k+1) A)(C:AG)(us:τ)(kw:List (Str×Value)):cK k (A.under (.builtin "type.__call__" ⟨.ref C::us,kw⟩)):=
 ⟨r.hd,by have:=r.dp;rw [abW];omega,by have:=r.un;rw [abY];omega⟩
theorem cK.depth (r:cK k A):A.depth<α8:=by have:=r.dp;omega
theorem cK.units (r:cK k A):A.units+64<Mn:=by have:=r.un;omega
def iP:TA:=fun _ H Q=>Q [] H
def qE (ta:TE)(tr:TA):TA:=fun Y H Q=>ta Y H fun x H1=>tr Y H1 fun xs H2=>Q (x::xs) H2
section
variable {X:Cx}{e:Expr}{es:Β}{te:TE}{t:TA}{pos:Pos}
def gF:PA X [] iP:=fun _ _ _ _ H Q I h=>Calls.spliced_nil ⟨[],H,I,.nil,h⟩
def afg (ha:PE X e te)(hr:PA X es t)(hs:EX (e::es) X.env=(false,DX e X.env)::EX es X.env:=by rfl):PA X (e::es) (qE te t):=by
 intro pos pX s Y H Q I h;rw [hs];show C' _ _ (spliced ((false,DX e X.env)::Kw pos (EX es X.env))) _ _ s;refine tE (cY (ha pX s Y H _ I h) fun u s1 ⟨x,H1,I1,r1,q1⟩=>?_);exact cY (hr pos pX s1 Y H1 _ I1 q1) fun us s2 ⟨xs,H2,I2,r2,q2⟩=>⟨x::xs,H2,I2,.cons r1 r2,q2⟩
def afX (t:TA):TE:=fun Y H Q=>t Y H fun xs H1=>xs.length<=C_/\∀p,H1 p=none->Q (.ref p) (upd H1 p (.tup xs))
def afY (t:TA):TE:=fun Y H Q=>t Y H fun xs H1=>xs.length<=C_/\∀p,H1 p=none->Q (.ref p) (upd H1 p (.lst xs))
def aR (h:PA X es t):PE X (.Tuple es x1 pos) (afX t):=by
 intro pX s Y H Q I hq;refine wpAny_Tuple_spliced (cY (h pos pX s Y H _ I hq) fun us s1 ⟨xs,H1,I1,r,z,q⟩=>⟨by rwa [<-r.length],?_⟩);let hf:H1 s1.heap.objs.size=none:=I1.bZ.fresh (DU _);show ⟨.ref s1.heap.objs.size,upd H1 s1.heap.objs.size (.tup xs),I1.laid (t':=s1.toks) (fun b u e=>K1 _ e) (DU _) ?_,rfl,q _ hf⟩;show ⟨z,us,r,⟨_,L6 _ rfl,rfl,_,rfl⟩⟩
def bQ (h:PA X es t):PE X (.List es pos) (afY t):=by
 intro pX s Y H Q I hq;refine wpAny_List_spliced (cY (h pos pX s Y H _ I hq) fun us s1 ⟨xs,H1,I1,r,z,q⟩=>⟨by rwa [<-r.length],?_⟩);let hf:H1 s1.heap.objs.size=none:=I1.bZ.fresh (DU _);show ⟨.ref s1.heap.objs.size,upd H1 s1.heap.objs.size (.lst xs),I1.laid (t':=s1.toks) (fun b u e=>K1 _ e) (DU _) ?_,rfl,q _ hf⟩;show ⟨z,us,0,r,L6 _ rfl⟩
end
abbrev Sp:=List V->Hp->VK->XK->Prop
abbrev mR:=List Env->Hp->D'->XK->Value->D'->Prop
structure DA (P:FQ)(w:World)(K:Frag)(mg:ξ)(iN:Heap)(A:KH)(lj:List Env)(s:D')(H:Hp):Prop where
 frames:A.frames=some lj
 mod:Mod K mg iN
 bs:∀b o,iN.get? b=some o->s.heap.get? b=some o/\H b=none
 QF:iN.objs.size<=s.heap.objs.size
 rl:s.heap.FunFrames iN lj
 MF:∀b∈HH lj,H b=none
 bZ:lG P w H s.heap
 bare:Om s.gens
def CE (lj:List Env)(P:FQ)(w:World)(H:Hp)(s:D')(Q:VK)(u:Value)(s':D'):Prop:=
 ∃v H',s'.os=s.os/\Om s'.gens/\Un (HH lj) [] H H' s.heap s'.heap/\lG P w H' s'.heap/\RelV v u/\Q v H'
def CR (CX:mR)(lj:List Env)(P:FQ)(w:World)(H:Hp)(s:D')(Q:VK)(E:XK)(r:Result)(s':D'):Prop:=
 match r with
 | .ok (.ret u)=>CE lj P w H s Q u s'
 | .ok _=>False
 | .error e=>CX lj H s E e s'
structure dI (P:FQ)(w:World)(K:Frag)(mg:ξ)(iN:Heap)(CX:mR)(k:Nat)(f:AG)(fd:FuncData)(ps:ψ)(sp:Sp):Prop where
 len:∀vs H Q E,sp vs H Q E->vs.length=ps.length
 run:∀(A:KH)(lj:List Env)(s:D')(H:Hp)(args:Args)(us:τ)(vs:θ)(Q:VK)(E:XK),cK k A->DA P w K mg iN A lj s H->BindsTo s fd args (ps.zip us)->Vals vs us->sp vs H Q E->
  NF (CY P w) A (.call (.ref f) args) (CR CX lj P w H s Q E) s
theorem dI.mono {K:Frag}(F:dI P w K mg iN CX j f fd ps sp)(h:j<=k):
  dI P w K mg iN CX k f fd ps sp:=⟨F.len,fun A lj s H args us vs Q E hr=>F.run A lj s H args us vs Q E (hr.mono h)⟩
def dI.imp {K:Frag}(F:dI P w K mg iN CX k f fd ps sp)
  (h:∀vs H Q E,sp' vs H Q E->sp vs H Q E):dI P w K mg iN CX k f fd ps sp':=
 ⟨fun vs H Q E q=>F.len vs H Q E (h _ _ _ _ q),fun A lj s H args us vs Q E hr he hb hv hs=>F.run A lj s H args us vs Q E hr he hb hv (h _ _ _ _ hs)⟩
def DA.make {K:Frag}(e:DA P w K mg iN A lj s H)(C:AG)(us:τ)(kw:List (Str×Value)):
  DA P w K mg iN (A.under (.builtin "type.__call__" ⟨.ref C::us,kw⟩)) lj s H:=⟨by first|exact e.frames|(simpa [Around.under,Code.envs,Code.isFrame,pushEnvs] using e.frames),e.mod,e.bs,e.QF,e.rl,e.MF,e.bZ,e.bare⟩
section
variable {X:Cx}{pX:η}{Y:St}{H:Hp}{s s':D'}
def Inv.YB (I:Inv X pX Y H s):DA X.prog X.w X.K X.mg X.iN X.A X.stack s H:=
 ⟨I.ok.frames,I.ok.mod,I.bs,DC I.ok.QF I.sz,I.stack,I.HI,I.bZ,I.bare⟩
def Inv.after (I:Inv X pX Y H s)(h:CE X.stack X.prog X.w H s Q u s'):EP X pX Y Q u s':=by
 obtain ⟨v,H',os,bare,un,bZ,r,q⟩:=h;obtain ⟨hh,g,d,t,os'⟩:=s';obtain rfl:os'=s.os:=os;show ⟨v,H',I.call (h':=hh) (g':=g) (d':=d) (t':=t) (ch:=[]) un bZ bare (fun b z=>DL z gV),r,q⟩
end
def HN (sp:Sp)(qw:θ)(E:XK)(t:TA):TE:=fun Y H Q=>t Y H fun vs H1=>sp (vs++qw) H1 Q E
def TR (C:AG)(sp:Sp)(qw:θ)(E:XK)(t:TA):TE:=fun Y H Q=>t Y H fun vs H1=>∀x dx,H1 x=none->H1 dx=none->dx≠x->
 sp (.ref x::(vs++qw)) (upd (upd H1 dx (.own x)) x (.ins C dx [])) (fun v H2=>v=.dw/\Q (.ref x) H2) E
def Binds (K:Frag)(fd:FuncData)(ps:ψ)(ds:τ):Prop:=
 ∀(s:D')(us:τ),K.In s.heap->(us++ds).length=ps.length->BindsTo s fd ⟨us,[]⟩ (ps.zip (us++ds))
def Binds.all {K:Frag}(h:∀us:List Value,us.length=ps.length->bindArgs fd ⟨us,[]⟩=pure (ps.zip us)):Binds K fd ps []:=fun s us _ hl=>by
 rw [Zl] at hl ⊢;exact .of_eq (h us hl)
def Passes (CX:mR)(X:Cx)(E:XK):Prop:=∀(pX:η)(Y:St)(H:Hp)(s:D')(e:Value)(s':D'),Inv X pX Y H s->CX X.stack H s E e s' ->X.xe e s'
section
variable {X:Cx}{CX:mR}{k:Nat}{f C:AG}{fd:FuncData}{ps:ψ}{sp:Sp}{qw:θ}{ds:τ}{E:XK}{x m:Str}{p pos apos:Pos}{e o:Expr}{es:Β}{ta:TE}{t:TA}
def wk {Y:St}{us:τ}{vs:θ}(F:dI X.prog X.w X.K X.mg X.iN CX k f fd ps sp)(hr:cK k X.A)(hb:Binds X.K fd ps ds)(hd:Vals qw ds)(hx:Passes CX X E)
  (I:Inv X pX Y H s) (r:Vals vs us) (h:sp (vs++qw) H Q E):C' (CY X.prog X.w) X.A (call (.ref f) us) (EP X pX Y Q) X.xe s:=by
 let r2:Vals (vs++qw) (us++ds):=r.append hd;let hl:(us++ds).length=ps.length:=by rw [<-r2.length];exact F.len _ _ _ _ h
 refine wpAny_call (codeAny_mono (F.run X.A X.stack s H ⟨us,[]⟩ (us++ds) (vs++qw) Q E hr I.YB (hb s us I.mQ hl) r2 h) fun r s' hq=>?_);cases r with
 | error e=>exact hx pX Y H s e s' I hq
 | ok fl=>
  cases fl with
  | ret u=>exact I.after hq
  | next=>exact False.elim hq
  | brk=>exact False.elim hq
  | cont=>exact False.elim hq
def afe (F:dI X.prog X.w X.K X.mg X.iN CX k f fd ps sp)(hr:cK k X.A)(hg:Gl X x)(hm:X.mg x=some (.ref f))(hk:keepIn X.K (.ref f)=true)(hb:Binds X.K fd ps ds)(hd:Vals qw ds)(hx:Passes CX X E)
  (ha:PA X (e::es) t) (uU:(x==("__debug__":Str))=false:=by decide) (he:EX (e::es) X.env=(false,DX e X.env)::EX es X.env:=by rfl) (vf:(Kw pos (EX es X.env)).any (·.1)=false:=by rfl):
  PE X (.Call (.Name x p) (e::es) [] pos) (HN sp qw E t):=by
 intro pX s Y H Q I h;refine VI (mV I hg hm ?_ uU);refine rn (h₀:=X.iN) I.ok.mod.XH hk (cY (ha pos pX s Y H _ I h) fun us s1 ⟨vs,H1,I1,r,q⟩=>⟨I1.mQ,?_⟩) he vf;exact wk F hr hb hd hx I1 r q
structure Mk (K:Frag)(C f:AG):Prop where
 makes:RB K C=true
 init:Kl K (.ref C) "__init__"=some (some (.ref f))
 fn:Vl K (.ref f)=true
 kp:keepIn K (.ref C)=true
def yF {Y:St}{us:τ}{vs:θ}(M:Mk X.K C f)(F:dI X.prog X.w X.K X.mg X.iN CX k f fd ps sp)(hr:cK (k+1) X.A)(hb:Binds X.K fd ps ds)(hd:Vals qw ds)
  (hx:Passes CX X E) (I:Inv X pX Y H s) (r:Vals vs us)
  (h:∀x dx,H x=none->H dx=none->dx≠x->sp (.ref x::(vs++qw)) (upd (upd H dx (.own x)) x (.ins C dx [])) (fun v H2=>v=.dw/\Q (.ref x) H2) E):
  C' (CY X.prog X.w) X.A (call (.ref C) us) (EP X pX Y Q) X.xe s:=by
 let hq:=h (s.heap.objs.size+1) s.heap.objs.size (I.bZ.fresh (ZI _)) (I.bZ.fresh (DU _)) (KJ (NM _));let I2:=Inv.made (C:=C) I;let r2:Vals (V.ref (s.heap.objs.size+1)::(vs++qw)) (Value.ref (s.heap.objs.size+1)::(us++ds)):=.cons rfl (r.append hd)
 let hl:(Value.ref (s.heap.objs.size+1)::us++ds).length=ps.length:=by
  let e:=r2.length;rw [F.len _ _ _ _ hq] at e;exact e.symm
 refine wpAny_call (ach (f:=f) I.mQ M.makes M.init (beq_iff_eq.mp M.fn) (codeAny_mono (F.run _ X.stack _ _ ⟨Value.ref (s.heap.objs.size+1)::us,[]⟩ (Value.ref (s.heap.objs.size+1)::(us++ds)) _ _ E (hr.make C us [])
  (I2.YB.make C us []) (hb _ (Value.ref (s.heap.objs.size+1)::us) I2.mQ hl) r2 hq) fun r s' DB =>?_))
 cases r with
 | error e=>exact hx pX Y _ _ e s' I2 DB
 | ok fl=>
  cases fl with
  | ret u=>
   obtain ⟨v,H',I3,rv,ev,q3⟩:=I2.after DB;subst ev;show ⟨rv,⟨V.ref (s.heap.objs.size+1),H',I3,rfl,q3⟩⟩
  | next=>exact False.elim DB
  | brk=>exact False.elim DB
  | cont=>exact False.elim DB
def afd (M:Mk X.K C f)(F:dI X.prog X.w X.K X.mg X.iN CX k f fd ps sp)(hr:cK (k+1) X.A)(hg:Gl X x)(hm:X.mg x=some (.ref C))(hb:Binds X.K fd ps ds)(hd:Vals qw ds)(hx:Passes CX X E)
  (ha:PA X (e::es) t) (uU:(x==("__debug__":Str))=false:=by decide) (he:EX (e::es) X.env=(false,DX e X.env)::EX es X.env:=by rfl) (vf:(Kw pos (EX es X.env)).any (·.1)=false:=by rfl):
  PE X (.Call (.Name x p) (e::es) [] pos) (TR C sp qw E t):=by
 intro pX s Y H Q I h;refine VI (mV I hg hm ?_ uU);refine rn (h₀:=X.iN) I.ok.mod.XH M.kp (cY (ha pos pX s Y H _ I h) fun us s1 ⟨vs,H1,I1,r,q⟩=>⟨I1.mQ,?_⟩) he vf;exact yF M F hr hb hd hx I1 r q
def acG (M:Mk X.K C f)(F:dI X.prog X.w X.K X.mg X.iN CX k f fd ps sp)(hr:cK (k+1) X.A)(hg:Gl X x)(hm:X.mg x=some (.ref C))(hb:Binds X.K fd ps ds)(hd:Vals qw ds)(hx:Passes CX X E)
  (uU:(x==("__debug__":Str))=false:=by decide):PE X (.Call (.Name x p) [] [] pos) (TR C sp qw E iP):=by
 intro pX s Y H Q I h;refine VI (mV I hg hm ?_ uU);exact PySem.W.callWith_K0 I.mQ M.kp (yF (us:=[]) M F hr hb hd hx I .nil h)
end
structure aE (N P:ψ)(sc:Scope):Prop where
 kind:sc.kind=.function
 co:sc.isCoroutine=false
 gen:sc.isGenerator=false
 nd:N.Nodup
 pre:N.take P.length=P
 par:∀x∈P,sc.names.lookup x=some .local\/sc.names.lookup x=some .cell
 Vu:∀y∈sc.names,y.2≠.free
theorem vg {Np:Str->Option NameKind}:∀{binds:List (Str×Value)} {m:ξ},(∀v,(x,v)∉binds)->bindL Np binds m x=m x
 | [],_,_=>rfl
 | (n,v)::r,m,h=>by
  unfold bindL;rw [vg fun w hw=>h w (FF _ hw)];split
  ·have:x≠n:=by rintro rfl;exact h v EJ
   simp [this]
  ·rfl
theorem vh {Np:Str->Option NameKind}:∀{binds:List (Str×Value)} {m:ξ},(∀v,(x,v)∉binds)->bindC Np binds m x=m x
 | [],_,_=>rfl
 | (n,v)::r,m,h=>by
  unfold bindC;rw [vh fun w hw=>h w (FF _ hw)];split
  ·rfl
  ·have:x≠n:=by rintro rfl;exact h v EJ
   simp [this]
theorem vi {Np:Str->Option NameKind}:∀{P:ψ} {vs:τ} {i:Nat} {m:ξ},P.Nodup->P[i]?=some x->vs[i]?=some v->Np x=some .local->
  bindL Np (P.zip vs) m x=some v
 | [],_,_,_,_,h,_,_=>by simp at h
 | _::_,[],_,_,_,_,h,_=>by simp at h
 | p::P,w::vs,0,m,nd,h1,h2,hk=>by
  simp at h1 h2;subst h1;subst h2;show bindL Np ((p,w)::P.zip vs) m p=_;unfold bindL;rw [vg fun v hv=>(Kr.mp nd).1 (ahO hv).1,mK hk];simp
 | p::P,w::vs,i+1,m,nd,h1,h2,hk=>by
  show bindL Np ((p,w)::P.zip vs) m x=_;unfold bindL;exact vi (i:=i) (Kr.mp nd).2 (by simpa using h1) (by simpa using h2) hk
theorem vk {Np:Str->Option NameKind}:∀{P:ψ} {vs:τ} {i:Nat} {m:ξ},P.Nodup->P[i]?=some x->vs[i]?=some v->Np x≠some .local->
  bindC Np (P.zip vs) m x=some v
 | [],_,_,_,_,h,_,_=>by simp at h
 | _::_,[],_,_,_,_,h,_=>by simp at h
 | p::P,w::vs,0,m,nd,h1,h2,hk=>by
  simp at h1 h2;subst h1;subst h2;show bindC Np ((p,w)::P.zip vs) m p=_;unfold bindC;rw [vh fun v hv=>(Kr.mp nd).1 (ahO hv).1,mJ hk];simp
 | p::P,w::vs,i+1,m,nd,h1,h2,hk=>by
  show bindC Np ((p,w)::P.zip vs) m x=_;unfold bindC;exact vk (i:=i) (Kr.mp nd).2 (by simpa using h1) (by simpa using h2) hk
def start (N:ψ)(vs:θ):St:=vs.map some++EI (N.length-vs.length) none
def pC (CX:mR)(P:FQ)(w:World)(K:Frag)(mg:ξ)(iN:Heap)(N:ψ)(qual:Str)(scope:Scope)(f:AG)(cd:Value)(A:KH)(lj:List Env)(s:D')(H:Hp)(E:XK):Cx where
 prog:=P
 w:=w
 K:=K
 mg:=mg
 iN:=iN
 A:=A.deeper (NT qual scope s.heap.objs.size f cd)
 N:=N
 oQ:=s
 H₀:=H
 env:=NT qual scope s.heap.objs.size f cd
 lj:=lj
 stack:=NT qual scope s.heap.objs.size f cd::lj
 ex:=[]
 calm:=true
 fn:=fun _=>true
 pn:=[]
 xe:=fun e s'=>C' (CY P w) (A.deeper (NT qual scope s.heap.objs.size f cd)) (leaving (NT qual scope s.heap.objs.size f cd) e) (fun _ YC =>CX lj H s E e YC) (fun e' YC =>CX lj H s E e' YC) s'
def yG {sc:Scope}(h:sc.names.lookup x=some .cell):∃c,(cellsFrom n sc.names []).lookup x=some c:=by
 let q:=PySem.W.cellsFrom_some sc.names n [] (.inl h);exact ahy.mp q
def acC {K:Frag}{us:τ}{vs:θ}
  (S:aE N ps scope) (hd:A.handled=none) (e0:DA P w K mg iN A lj s H) (hl:vs.length=ps.length) (r:Vals vs us)
  (x:InCallC s s.heap.objs.size (bindL (NT qual scope s.heap.objs.size f cd).kindOf (ps.zip us) fun _=>none) (cellsFrom (s.heap.objs.size+1) scope.names []) (bindC (NT qual scope s.heap.objs.size f cd).kindOf (ps.zip us) fun _=>none) s1):
  Inv (pC CX P w K mg iN N qual scope f cd A lj s H E) [] (start N vs) H s1:=by
 let vf:ps.length<=N.length:=by have:=oP NO S.pre;rw [KI] at this;omega
 obtain ⟨h1,tk,rfl,hk⟩:=x.done;let YD:∀b:AG,b∉(pC CX P w K mg iN N qual scope f cd A lj s H E).ex:=fun b z=>DL (show b∈([]:List AG) from z) gV
 show ⟨⟨e0.mod,S.kind,rfl,rfl,DU _,fun y z c h1 h2=>?_,fun y hy=>?_,fun y c _ h=>?_,fun _=>hd,Around.frames_deeper e0.frames,.inr ⟨rfl,rfl⟩,fun b z=>DL z (YD b),e0.bs,e0.QF,fun b _ _=>YD b,fun b z=>DL z (YD b),e0.rl,e0.MF⟩,
  rfl,e0.bare,Un.kept hk,⟨_,x.toInCall.ns,fun i y v h1 h2 h3=>?_⟩,fun y c h=>⟨_,x.cell y c h⟩,e0.bZ.fresh (DU _),fun y c h=>?_,fun p hp=>DL (show p∈([]:List (AG×Obj)) from hp) gV,e0.bZ.kept hk,?_⟩
 ·exact name_of_addr x.apart (σ' h1) (σ' h2)
 ·let hy:scope.names.lookup y=some .cell\/scope.names.lookup y=some .free:=hy
  rcases hy with hy|hy
  ·exact yG hy
  ·exact DL rfl (S.Vu _ (σ' hy))
 ·exact O0 (x.above y c (σ' h))
 ·let hi:i<vs.length:=by
   unfold start at h2;by_cases hi:i<vs.length
   ·exact hi
   ·rw [Kx (by simpa using hi)] at h2
    rw [OV] at h2;split at h2<;>cases h2
  let ha:vs[i]?=some v:=by
   unfold start at h2;rw [K_ (by simpa using hi),Wp] at h2;cases e:vs[i]? with
   | none=>erw [e] at h2
   | some a=>erw [e] at h2;rfl
  obtain ⟨u,hu,rv⟩:=r.get ha
  let hp:ps[i]?=some y:=by
   rwa [<-S.pre,QV ga]
  let ndP:ps.Nodup:=by rw [<-S.pre];exact S.nd.sublist (List.take_sublist _ _)
  show ⟨u,rv,?_⟩
  rcases S.par y (DE hp) with k|k
  ·exact .inl ⟨k,vi ndP hp hu k⟩
  ·obtain ⟨c,e⟩:=yG (n:=s.heap.objs.size+1) k
   refine .inr ⟨.inl k,c,e,?_⟩;let q:=x.cell y c e;rw [vk ndP hp hu (by show scope.names.lookup y≠_;rw [k];decide)] at q;exact q
 ·exact e0.bZ.fresh (O0 (x.above y c (σ' h)))
 ·unfold start
  show _=N.length;rw [ER,ir,OT];omega
def HQ {K:Frag}{dV kV doc pm cL ct oc:Value}{an od:Ι}
  {uM:Ο}   (lk:K.lookup f=some ⟨oc,od,.func (fnOf name qual params body scope dV kV doc pm an cL ct),uM⟩) (uR:codeIn K cL qual=true) (S:aE N ps scope)
  (len:∀vs H Q E,sp vs H Q E->vs.length=ps.length)
  (gY:∀(A:KH)(lj:List Env)(s:D')(H:Hp)(vs:θ)(Q:VK)(E:XK),cK k (A.deeper (NT qual scope s.heap.objs.size f cL))->sp vs H Q E->
   ∃t,qv (pC CX P w K mg iN N qual scope f cL A lj s H E) body t/\t {nx:=fun _ H'=>Q .dw H',rt:=Q} (start N vs) H):
  dI P w K mg iN CX (k+1) f (fnOf name qual params body scope dV kV doc pm an cL ct) ps sp:=by
 show ⟨len,fun A lj s H args us vs Q E hr e0 hb r HR=>?_⟩;let hl:=len _ _ _ _ HR;let KX:K.In s.heap:=e0.mod.XH.keeps fun b o e=>(e0.bs b o e).1;let lim:s.heap.NoLimit:=e0.mod.nolimit.keeps fun b o e=>(e0.bs b o e).1
 let YE:∀y∈ps.zip us,scope.names.lookup y.1=some .local\/(scope.names.lookup y.1=some .cell/\((cellsFrom (s.heap.objs.size+1) scope.names []).lookup y.1).isSome=true):=fun ⟨n,v⟩ hy=>by
  rcases S.par n (ahO hy).1 with q|q
  ·exact .inl q
  ·exact .inr ⟨q,PySem.W.cellsFrom_some _ _ _ (.inl q)⟩
 refine codeAny_call_function hr.depth (KX _ _ lk) rfl S.co S.gen rfl (PySem.W.codeRec_of KX uR) (hb _ _ _ _ ?_);refine wpAny_newFunctionEnv_cells S.kind YE fun env he s1 x=>?_;subst he;show ⟨lim.keeps x.toInCall.keep,codeAny_func ?_⟩;obtain ⟨t,ht,hq⟩:=gY A lj s H vs Q E (hr.deeper _) HR;let I:Inv (pC CX P w K mg iN N qual scope f cL A lj s H E) [] (start N vs) H s1:=acC S hr.hd e0 hl r x;refine Ku (ht [] s1 (start N vs) H _ I hq) (fun fl s' hs=>?_) fun e s' hs=>hs
 let fin:∀{Y' :St} {H':Hp} {v:V} {u:Value},Inv (pC CX P w K mg iN N qual scope f cL A lj s H E) [] Y' H' s' ->RelV v u->Q v H' ->CE lj P w H s Q u s':=
  fun {Y' H' v u} J rv q=>⟨v,H',J.os,J.bare,J.iN,J.bZ,rv,q⟩
 cases fl with
 | ret u=>
  obtain ⟨v,Y',H',J,rv,q⟩:=hs;exact fin J rv q
 | next=>
  obtain ⟨Y',H',J,q⟩:=hs;exact fin (v:=V.dw) (u:=Value.none) J rfl q
 | brk=>
  obtain ⟨_,_,_,q⟩:=hs;exact False.elim q
 | cont=>
  obtain ⟨_,_,_,q⟩:=hs;exact False.elim q
section
variable {X:Cx}{x:Str}{p pos:Pos}{e:Expr}{es:Β}{t:TA}{id T:String}{r:List V->Hp->VK->Prop}
def tCB (r:List V->Hp->VK->Prop)(t:TA):TE:=fun Y H Q=>t Y H fun vs H1=>r vs H1 Q
def aK (hc:iz X (.builtin id) r)(hg:Gl X x)(hm:X.mg x=none)(hv:Kv x=some (.builtin id))(ha:PA X (e::es) t)(hn:x≠ "__name__":=by decide)(uU:(x==("__debug__":Str))=false:=by decide)
  (he:EX (e::es) X.env=(false,DX e X.env)::EX es X.env:=by rfl) (vf:(Kw pos (EX es X.env)).any (·.1)=false:=by rfl):PE X (.Call (.Name x p) (e::es) [] pos) (tCB r t):=by
 intro pX s Y H Q I h;refine VI (jR I hg hm hv ?_ hn uU);exact PyProof.Rows.callWith_builtin1 (cY (ha pos pX s Y H _ I h) fun us s1 ⟨vs,H1,I1,r1,q1⟩=>hc pX s1 Y H1 vs us Q I1 r1 q1) he vf
def cQ (hc:iz X (.type T) r)(hg:Gl X x)(hm:X.mg x=none)(hv:Kv x=some (.type T))(ha:PA X (e::es) t)(hn:x≠ "__name__":=by decide)(uU:(x==("__debug__":Str))=false:=by decide)
  (he:EX (e::es) X.env=(false,DX e X.env)::EX es X.env:=by rfl) (vf:(Kw pos (EX es X.env)).any (·.1)=false:=by rfl):PE X (.Call (.Name x p) (e::es) [] pos) (tCB r t):=by
 intro pX s Y H Q I h;refine VI (jR I hg hm hv ?_ hn uU);exact VB (cY (ha pos pX s Y H _ I h) fun us s1 ⟨vs,H1,I1,r1,q1⟩=>hc pX s1 Y H1 vs us Q I1 r1 q1) he vf
end
end L2
namespace HT
open PySem PyProof.Rows
section
variable {prog:FQ}{w:World}{A:KH}{E:ε}{s:D'}
def fW (n d:Nat):Option Int->Nat
 | none=>d
 | some v=>if v<0 then (v+(n:Int)).toNat else min v.toNat n
def yH (n d:Nat):fW n d none=d:=rfl
def rM (n d k:Nat):fW n d (some (k:Int))=min k n:=by
 show (if (k:Int)<0 then ((k:Int)+(n:Int)).toNat else min (k:Int).toNat n)=min k n;rw [mJ ga,ais]
def agm (n d:Nat)(hd:d<=n)(o:Υ):fW n d o<=n:=by
 cases o with
 | none=>exact hd
 | some v=>
  show (if v<0 then (v+(n:Int)).toNat else min v.toNat n)<=n;by_cases hv:v<0
  ·rw [mK hv];omega
  ·rw [mJ hv];exact Nat.min_le_right _ _
def HS (v:Int)(n d:Nat):(if v<0 then max (v+(n:Int)) 0 else min v (n:Int))=((fW n d (some v):Nat):Int):=by
 show (if v<0 then max (v+(n:Int)) 0 else min v (n:Int))=(((if v<0 then (v+(n:Int)).toNat else min v.toNat n):Nat):Int);by_cases hv:v<0
 ·simp only [mK hv];omega
 ·simp only [mJ hv];omega
def aaT (lo hi:Υ)(n:Nat):Builtin.Slice.sliceAdjust lo hi 1 (n:Int)=(((fW n 0 lo:Nat):Int),((fW n n hi:Nat):Int)):=by
 let h1:¬ ((1:Int)<0):=ga
 unfold Builtin.Slice.sliceAdjust;simp only [h1,if_false];refine Vj ?_ ?_
 ·cases lo with
  | none=>rfl
  | some v=>exact HS v n 0
 ·cases hi with
  | none=>rfl
  | some v=>exact HS v n n
def aau (i j:Nat):uY (i:Int) (j:Int) 1=j-i:=by
 unfold uY;let h1:(1:Int) > 0:=ga
 simp only [h1,if_true,Int.ediv_one];split<;>omega
def sN {o:Υ}(p:IsPart v o)(h:Q o s):C' (CY prog w) A (Builtin.Slice.slicePartIndex v) Q E s:=by
 cases p with
 | none=>exact slicePart_none h
 | int i t=>exact slicePart_int h
def aft {lo hi:Υ}{Q:Int×Int×Nat->D'->Prop}(hs:s.heap.IsSliceOf sl vl vu .none)(pl:IsPart vl lo)(pu:IsPart vu hi)
  (h:Q (((fW n 0 lo:Nat):Int),1,fW n n hi-fW n 0 lo) s):C' (CY prog w) A (Builtin.Slice.sliceApplied (.ref sl) (pure (n:Int))) Q E s:=by
 obtain ⟨os,YF,hcs,YG⟩:=id hs;unfold Builtin.Slice.sliceApplied Builtin.Slice.sliceFields;refine CV (CV (Q7 YF YG (x:=vl) rfl (CV (Q7 YF YG (x:=vu) rfl (CV (Q7 YF YG (x:=.none) rfl (DV ?_)))))));refine CV (slicePart_none ?_);show C' _ _ (if ((1:Int)==0)=true then _ else _) _ _ s;rw [mJ gt];refine CV (sN pl (CV (sN pu (CV (DV ?_)))));show C' _ _ (match Builtin.Slice.sliceAdjust lo hi 1 (n:Int) with|(lo,hi)=>pure (lo,(1:Int),uY lo hi 1)) _ _ s;rw [aaT lo hi n];show C' _ _ (pure (((fW n 0 lo:Nat):Int),(1:Int),uY ((fW n 0 lo:Nat):Int) ((fW n n hi:Nat):Int) 1)) _ _ s;rw [aau];exact DV h
def ac3 (xs:Ρ)(i k:Nat):((KC k).filterMap fun (m:Nat)=>xs[((i:Int)+(m:Int)*1).toNat]?).toArray=((xs.toList.drop i).take k).toArray:=by
 let e:(fun (m:Nat)=>xs[((i:Int)+(m:Int)*1).toNat]?)=fun m=>xs[i+m]? :=by
  funext m;have:((i:Int)+(m:Int)*1).toNat=i+m:=ga
  rw [this]
 rw [e];have:=pick_run xs i k;rw [List.filterMap_map] at this;let e2:((fun x=>xs[x]?) ∘ fun x=>i+x)=fun m=>xs[i+m]? :=rfl;rw [e2] at this;rw [this]
def mY {items:Ρ}{lo hi:Υ}{Q:ε}(ht:IsTup s.heap t items)(hs:s.heap.IsSliceOf sl vl vu .none)(pl:IsPart vl lo)(pu:IsPart vu hi)
  (hw:¬ (fW items.size 0 lo=0/\fW items.size items.size hi=items.size))
  (h:Q (.ref s.heap.objs.size) {s with heap:=s.heap.push {cls:=.type "tuple",data:=.seq ((items.toList.drop (fW items.size 0 lo)).take (fW items.size items.size hi-fW items.size 0 lo)).toArray}})
  (hsz:items.size<=C_):C' (CY prog w) A (getItem (.ref t) (.ref sl)) Q E s:=by
 let HU:sizeOk (.seq ((items.toList.drop (fW items.size 0 lo)).take (fW items.size items.size hi-fW items.size 0 lo)).toArray):=by
  show ((items.toList.drop (fW items.size 0 lo)).take (fW items.size items.size hi-fW items.size 0 lo)).toArray.size<=C_;rw [KW,KI,QR,ag1];omega
 let hj:fW items.size items.size hi<=items.size:=agm _ _ (DU _) hi;obtain ⟨os,YF,hcs,YG⟩:=id hs;let hTs:s.TypeIs (.ref sl) "slice":=⟨os,YF,hcs⟩;unfold getItem;try with_reducible refine Nj ?_
 first|refine CV (DV ?_)|skip
 refine CV (wpAny_sequenceKey ht.typeIs gt ?_)
 refine CV (wpAny_callSpecial?_slot (name:=Na "__getitem__") ht.typeIs PyProof.Rows.slot_tuple_getitem
  (σ2 PyProof.Rows.slot_tuple_getitem ht.typeIs entry_tuple_getitem ?_ (args_tuple_getitem _ _)))
 show C' _ _ (Builtin.Tuple.tupleItemsOf (.ref t) >>=_) _ _ s;refine CV (tupleItemsOf_ ht ?_);refine CV (Ve hTs ?_);rw [mK gt];refine CV (aft hs pl pu ?_)
 let Vw:¬ ((((fW items.size 0 lo:Nat):Int)==0 && (1:Int)==1 && (fW items.size items.size hi-fW items.size 0 lo)==items.size)=true):=by
  intro q;rw [QQ,QQ] at q;let q1:((fW items.size 0 lo:Nat):Int)=0:=eq_of_beq q.1.1;let q2:fW items.size items.size hi-fW items.size 0 lo=items.size:=eq_of_beq q.2;exact hw ⟨ga,ga⟩
 show C' _ _ (if (((fW items.size 0 lo:Nat):Int)==0 && (1:Int)==1 && (fW items.size items.size hi-fW items.size 0 lo)==items.size)=true then _ else _) _ _ s;rw [mJ Vw,ac3]
 first
  | exact CV (m:=uV _) (VF (DV ⟨_,rfl,DV h⟩) HU)
  | exact CV (m:=uV _) (VF (CV (DV (DV ⟨_,rfl,DV h⟩))) HU)
  | exact CV (CV (m:=uV _) (VF (DV (DV ⟨_,rfl,DV h⟩)) HU))
  | exact CV (CV (m:=uV _) (VF (DV ⟨_,rfl,DV h⟩) HU))
end
end HT
namespace L2
open PySem PySem.Spec PyProof.Rows
abbrev TO:=St->Hp->(Option Int->Hp->Prop)->Prop
def PO (X:Cx)(e:Option Expr)(t:TO):Prop:=
 ∀(pX:η)(s:D')(Y:St)(H:Hp)(Q:Option Int->Hp->Prop),Inv X pX Y H s->t Y H Q->
  C' (CY X.prog X.w) X.A (evalPart e X.env) (fun u s'=>∃o H',Inv X pX Y H' s'/\IsPart u o/\Q o H') X.xe s
def aeY:TO:=fun _ H Q=>Q none H
inductive Nq (Q:(Option Int->Hp->Prop))(x:V)(H1:Hp):Prop
|mk (i:_)(_:x=.int i)(_:Q (some i) H1)
def zap (t:TE):TO:=fun Y H Q=>t Y H fun x H1=>Nq Q x H1
section
variable {X:Cx}{e:Expr}{te:TE}{lo hi:Option Expr}{tl th:TO}{pos p2:Pos}
def dP:PO X none aeY:=by
 intro pX s Y H Q I h;rw [evalPart_none];exact DV ⟨none,H,I,.none,h⟩
def dy (h:PE X e te):PO X (some e) (zap te):=by
 intro pX s Y H Q I hw;rw [evalPart_some];refine cY (h pX s Y H _ I hw) fun u s1 ⟨x,H1,I1,r1,q1⟩=>?_;obtain ⟨i,rfl,q⟩:=q1;obtain ⟨t,rfl⟩:=r1;show ⟨some i,H1,I1,.int i t,q⟩
def SlR (X:Cx)(r:V->Option Int->Option Int->Hp->VK->Prop):Prop:=
 ∀(pX:η)(s:D')(Y:St)(H:Hp)(x:V)(v vl vu:Value)(lo hi:Υ)(sl:AG)(Q:VK),Inv X pX Y H s->RelV x v->s.heap.IsSliceOf sl vl vu .none->IsPart vl lo->IsPart vu hi->r x lo hi H Q->
  ∃T id,typeLookup (.type T) "__getitem__"=pure (some (.builtin id))/\s.TypeIs v T/\C' (CY X.prog X.w) X.A (getItem v (.ref sl)) (EP X pX Y Q) X.xe s
def tSl (r:V->Option Int->Option Int->Hp->VK->Prop)(te:TE)(tl th:TO):TE:=fun Y H Q=>te Y H fun x H1=>tl Y H1 fun l H2=>th Y H2 fun u H3=>r x l u H3 Q
def cV (hr:SlR X r)(he:PE X e te)(hl:PO X lo tl)(hu:PO X hi th):PE X (.Subscript e (.Slice lo hi none p2) pos) (tSl r te tl th):=by
 intro pX s Y H Q I h;refine Subscript_ (cY (he pX s Y H _ I h) fun v s1 ⟨x,H1,I1,r1,q1⟩=>?_);refine wpAny_Slice (cY (hl pX s1 Y H1 _ I1 q1) fun vl s2 ⟨l,H2,I2,pl,q2⟩=>cY (hu pX s2 Y H2 _ I2 q2) fun vu s3 ⟨u,H3,I3,pu,q3⟩=>?_);rw [evalPart_none];refine DV ?_;let I4:Inv X pX Y H3 {s3 with heap:=s3.heap.push {cls:=.type "slice",data:=.fields #[vl,vu,.none]}}:=I3.kept (t':=s3.toks) fun b ob q=>K1 _ q;obtain ⟨T,id,hT,ht,hg⟩:=hr pX {s3 with heap:=s3.heap.push {cls:=.type "slice",data:=.fields #[vl,vu,.none]}} Y H3 x v vl vu l u s3.heap.objs.size Q I4 r1 (Heap.IsSliceOf.new ..) pl pu q3;show C' (CY X.prog X.w) X.A (subscriptTail e (.Slice lo hi none p2) v (.ref s3.heap.objs.size)) (EP X pX Y Q) X.xe {s3 with heap:=s3.heap.push {cls:=.type "slice",data:=.fields #[vl,vu,.none]}};exact tail_any (ops:=[.ref s3.heap.objs.size,v]) ht hT hg (by with_unfolding_all rfl)
def gO (xs:θ)(lo hi:Υ):List V:=(xs.drop (HT.fW xs.length 0 lo)).take (HT.fW xs.length xs.length hi-HT.fW xs.length 0 lo)
def qF (xs:θ)(lo hi:Υ):(gO xs lo hi).length<=xs.length:=by
 unfold gO;rw [KI,QR];omega
inductive YI (K:Frag)(x:V)(lo:Υ)(hi:Υ)(H:Hp)(Q:VK):Prop
|mk (a xs:_)(_:x=.ref a)(_:bK K H a xs)(_:¬ (HT.fW xs.length 0 lo=0/\HT.fW xs.length xs.length hi=xs.length))(_:∀p,H p=none->Q (.ref p) (upd H p (.tup (gO xs lo hi))))
def DF:SlR X (YI X.K):=by
 intro pX s Y H x v vl vu lo hi sl Q I rx hs pl pu h;obtain ⟨a,xs,rfl,hx,hw,q⟩:=h;cases rx;obtain ⟨AI,r,ht,hz⟩:=I.tuple hx;let hlen:AI.toArray.size=xs.length:=by rw [KW];exact r.length.symm
 show ⟨"tuple",_,PyProof.Rows.slot_tuple_getitem.lookup,ht.typeIs,HT.mY ht hs pl pu (by rwa [hlen]) ?_ (by rwa [hlen])⟩;rw [hlen];show ⟨.ref s.heap.objs.size,_,I.laid (t':=s.toks) (o:=.tup (gO xs lo hi)) (fun b ob q=>K1 _ q) (DU _) ?_,rfl,q _ (I.bZ.fresh (DU _))⟩;show ⟨DC (qF xs lo hi) hz,_,(r.drop (HT.fW xs.length 0 lo)).take (HT.fW xs.length xs.length hi-HT.fW xs.length 0 lo),IsTup.new _ _⟩
end
def wo (n:Nat)(i:Int):Option Nat:=if 0<=i then (if i<n then some i.toNat else none) else if -(n:Int)<=i then some (i+n).toNat else none
def gS {Z:Type}(xs:List Z)(i:Int):Option Z:=(wo xs.length i).bind fun j=>xs[j]?
def HX (h:wo n i=some j):seqIndex? i n=some j/\j<n/\ -(n:Int)<=i/\i<n:=by
 unfold wo at h;by_cases h0:0<=i
 ·rw [mK h0] at h
  by_cases h1:i<n
  ·rw [mK h1] at h
   let e:i.toNat=j:=FA h;show ⟨by rw [seqIndex_of h0 h1,e],ga,ga,h1⟩
  ·erw [mJ h1] at h
 ·rw [mJ h0] at h
  by_cases h1: -(n:Int)<=i
  ·rw [mK h1] at h
   let e:(i+n).toNat=j:=FA h;show ⟨by rw [seqIndex_neg ga h1,e],ga,h1,ga⟩
  ·erw [mJ h1] at h
def HY {v:Z}(h:gS xs i=some v):∃j,seqIndex? i xs.length=some j/\xs[j]?=some v/\j<xs.length/\ -(xs.length:Int)<=i/\i<xs.length:=by
 unfold gS at h;cases e:wo xs.length i with
 | none=>erw [e] at h
 | some j=>
  rw [e] at h;obtain ⟨h1,h2,h3,h4⟩:=HX e;show ⟨j,h1,h,h2,h3,h4⟩
def bE {j:Nat}{v:Z}(h:xs[j]?=some v):gS xs (j:Int)=some v:=by
 let hj:j<xs.length:=(be.mp h).1
 let e:wo xs.length (j:Int)=some j:=by
  unfold wo;rw [mK ga,mK ga];simp
 unfold gS;rwa [e]
def ac1 (xs:List Z)(v:Z):gS (xs++[v]) (-1)=some v:=by
 let hl:(xs++[v]).length=xs.length+1:=by simp
 let e:wo (xs++[v]).length (-1)=some xs.length:=by
  unfold wo;rw [hl,mJ gt,mK ga];congr 1;omega
 unfold gS;rw [e];show (xs++[v])[xs.length]?=some v;simp
def HZ (b:Expr):Prop:=∀o i,subscripted b false o i=operate [o,i] (getItem o i)
def XO (X:Cx)(r:R2):Prop:=
 ∀(value slice:Expr)(pX:η)(s:D')(Y:St)(H:Hp)(x y:V)(v u:Value)(Q:VK),Inv X pX Y H s->RelV x v->RelV y u->r x y H Q->
  subscripted slice false v u=operate [v,u] (getItem v u)->C' (CY X.prog X.w) X.A (subscriptTail value slice v u) (EP X pX Y Q) X.xe s
def MtR (X:Cx)(id:String)(r:V->List V->Hp->VK->Prop):Prop:=
 ∀(pX:η)(s:D')(Y:St)(H:Hp)(x:V)(xs:θ)(v:Value)(us:τ)(Q:VK),Inv X pX Y H s->RelV x v->Vals xs us->r x xs H Q->
  C' (CY X.prog X.w) X.A (call (.builtin id) (v::us)) (EP X pX Y Q) X.xe s
section
variable {X:Cx}{a b:Expr}{ta tb:TE}{pos:Pos}
def Nt (hr:XO X r)(ha:PE X a ta)(hb:PE X b tb)(hs:HZ b):PE X (.Subscript a b pos) (QL r ta tb):=by
 intro pX s Y H Q I h;exact Subscript_ (Vq ha hb I h fun v u s2 x y H2 I2 rx ry q=>hr a b pX s2 Y H2 x y v u Q I2 rx ry q (hs _ _))
inductive QW (K:Frag)(x:V)(y:V)(H:Hp)(Q:VK):Prop
|mk (p xs i v:_)(_:x=.ref p)(_:y=.int i)(_:aU K H p xs)(_:gS xs i=some v)(_:Q v H)
inductive Nu (K:Frag)(x:V)(y:V)(H:Hp)(Q:VK):Prop
|mk (p xs i v:_)(_:x=.ref p)(_:y=.int i)(_:bK K H p xs)(_:gS xs i=some v)(_:Q v H)
def aS:XO X (QW X.K):=by
 intro value slice pX s Y H x y v u Q I rx ry h hs;obtain ⟨p,xs,i,z,rfl,rfl,hq,he,q⟩:=h;cases rx;obtain ⟨t,rfl⟩:=ry;obtain ⟨AI,r,pl,hz⟩:=I.list hq;obtain ⟨j,h1,h2,h3,h4,h5⟩:=HY he;obtain ⟨w,ew,yr⟩:=r.get h2;let hl:=r.length;let hn:=we;let fin:EP X pX Y Q w s:=⟨z,H,I,yr,q⟩;by_cases h0:0<=i
 ·let hj:i.toNat=j:=by
   rw [seqIndex_of h0 h5] at h1;exact FA h1
  exact item_listR pl.isList h0 ga (by rw [hj];simpa using ew) fin hs
 ·let hj:(i+(AI.toArray.size:Int)).toNat=j:=by
   rw [seqIndex_neg ga h4] at h1;rw [KW,<-hl];exact FA h1
  exact subscriptTail_builtinR (x:=w) pl.isList.typeIs slot_list_getitem.lookup
   (wpAny_getItem_list_neg (Q:=fun r s'=>r=w/\EP X pX Y Q r s') pl.isList ga (by rw [KW]<;>omega) ga (by rw [hj];simpa using ew) ⟨rfl,fin⟩) hs
def sQ:XO X (Nu X.K):=by
 intro value slice pX s Y H x y v u Q I rx ry h hs;obtain ⟨p,xs,i,z,rfl,rfl,hq,he,q⟩:=h;cases rx;obtain ⟨t,rfl⟩:=ry;obtain ⟨AI,r,pl,hz⟩:=I.tuple hq;obtain ⟨j,h1,h2,h3,h4,h5⟩:=HY he;obtain ⟨w,ew,yr⟩:=r.get h2;let hl:=r.length;let hn:=we;let fin:EP X pX Y Q w s:=⟨z,H,I,yr,q⟩
 exact subscriptTail_builtinR (x:=w) pl.typeIs slot_tuple_getitem.lookup
  (getItem_tuple (j:=j) (Q:=fun r s'=>r=w/\EP X pX Y Q r s') pl ga ga (by rwa [KW,<-hl]) (by simpa using ew) ⟨rfl,fin⟩) hs
def aaR (AI:τ)(n j:Nat)(u:Value):PD (·.setIfInBounds j u) {cls:=.type "list",data:=.seq AI.toArray n}={cls:=.type "list",data:=.seq (AI.set j u).toArray n}:=by
 simp [PD]
theorem Inv.lst {pX:η}{Y:St}{H:Hp}{s:D'}{p:AG}{xs:θ}(I:Inv X pX Y H s)(h:H p=some (.lst xs)):
  ∃(AI:τ)(n:Nat),Vals xs AI/\s.heap.get? p=some {cls:=.type "list",data:=.seq AI.toArray n}/\xs.length<=C_:=by
 obtain ⟨z,AI,n,r,e⟩:=I.bZ p _ h;show ⟨AI,n,r,e,z⟩
def Inv.Vx {Y:St}{xs ys:θ}{AI oU:τ}(I:Inv X pX Y H s)(h:H p=some (.lst xs))
  (ho:s.heap.get? p=some {cls:=.type "list",data:=.seq AI.toArray n}) (hf:f {cls:=.type "list",data:=.seq AI.toArray n}={cls:=.type "list",data:=.seq oU.toArray n'}) (r:Vals ys oU) (hz:ys.length<=C_) (t:Nat):
  Inv X pX Y (upd H p (.lst ys)) {s with heap:=s.heap.update p f,toks:=t}:=by
 let e:(s.heap.update p f).get? p=some {cls:=.type "list",data:=.seq oU.toArray n'}:=by
  rw [wD f ho (by rw [hf]<;>rfl),hf]
 refine I.write (x:=p) (e:=p) (by rw [h];trivial) (.inl rfl) (fun b u hb q=>(Q3 _ _ (FG hb)).trans q) ⟨_,e⟩ ?_;show ⟨hz,oU,n',r,e⟩
inductive TU (o:V)(i:V)(v:V)(H:Hp)(Q:(Hp->Prop)):Prop
|mk (p xs k j:_)(_:o=.ref p)(_:i=.int k)(_:H p=some (.lst xs))(_:wo xs.length k=some j)(_:Q (upd H p (.lst (xs.set j v))))
def set_list:Ys X TU:=by
 intro pX s Y H o i v ov iv u Q I ro ri rv h;obtain ⟨p,xs,k,j,rfl,rfl,hp,hj,q⟩:=h;cases ro;obtain ⟨t,rfl⟩:=ri;obtain ⟨AI,n,r,ho,hz⟩:=I.lst hp;obtain ⟨h1,h2,h3,h4⟩:=HX hj;let hl:=r.length;let hn:=we
 let I':Inv X pX Y (upd H p (.lst (xs.set j v))) {s with heap:=s.heap.update p (PD (·.setIfInBounds j u))}:=
  I.Vx hp ho (aaR AI n j u) (r.set rv j) (by rwa [RQ]) s.toks
 by_cases h0:0<=k
 ·let hk:k.toNat=j:=by
   rw [seqIndex_of h0 h4] at h1;exact FA h1
  exact PySem.W.ki_setAt ho h0 ga (by rwa [KW,<-hl]) (by rw [hk];show ⟨_,I',q⟩)
 ·let hk:(k+(AI.toArray.size:Int)).toNat=j:=by
   rw [seqIndex_neg ga h3] at h1;rw [KW,<-hl];exact FA h1
  exact PySem.W.ki_setBack ho ga (by rwa [KW,<-hl]) ga (by rw [hk];show ⟨_,I',q⟩)
def aoF (lo hi:Υ)(n:Nat):(Rg lo hi none n).1=((HT.fW n 0 lo:Nat):Int)/\(Rg lo hi none n).2.1=((HT.fW n n hi:Nat):Int)/\(Rg lo hi none n).2.2=1:=by
 show ⟨?_,?_,rfl⟩
 ·cases lo with
  | none=>simp [Rg,HT.fW]
  | some i=>
   simp only [Rg,HT.fW,anL,show (1:Int) > 0 by decide,if_true];by_cases h:i<0
   ·simp only [h,if_true]<;>omega
   ·simp only [h,if_false]<;>omega
 ·cases hi with
  | none=>simp [Rg,HT.fW]
  | some i=>
   simp only [Rg,HT.fW,anL,show (1:Int) > 0 by decide,if_true];by_cases h:i<0
   ·simp only [h,if_true]<;>omega
   ·simp only [h,if_false]<;>omega
def acS (AI:τ)(lo hi:Υ):slicePick AI.toArray lo hi none=((AI.drop (HT.fW AI.length 0 lo)).take (HT.fW AI.length AI.length hi-HT.fW AI.length 0 lo)).toArray:=by
 obtain ⟨h1,h2,h3⟩:=aoF lo hi AI.toArray.size;unfold slicePick;rw [h1,h2,h3];simp only [sliceRange_one,pick_run,KW]<;>rfl
inductive YJ (K:Frag)(x:V)(lo:Υ)(hi:Υ)(H:Hp)(Q:VK):Prop
|mk (a xs:_)(_:x=.ref a)(_:aU K H a xs)(_:∀p,H p=none->Q (.ref p) (upd H p (.lst (gO xs lo hi))))
def fQ:SlR X (YJ X.K):=by
 intro pX s Y H x v vl vu lo hi sl Q I rx hs pl pu h;obtain ⟨a,xs,rfl,hx,q⟩:=h;cases rx;obtain ⟨AI,r,ht,hz⟩:=I.list hx;let hlen:=r.length;show ⟨"list",_,slot_list_getitem.lookup,ht.isList.typeIs,wpAny_getItem_list_slice ht.isList hs pl pu .none gV ?_ (by rw [KW]<;>omega)⟩;rw [acS,<-hlen];show ⟨.ref s.heap.objs.size,_,I.laid (t':=s.toks) (o:=.lst (gO xs lo hi)) (fun b ob q=>K1 _ q) (DU _) ?_,rfl,q _ (I.bZ.fresh (DU _))⟩;show ⟨DC (qF xs lo hi) hz,_,0,(r.drop (HT.fW xs.length 0 lo)).take (HT.fW xs.length xs.length hi-HT.fW xs.length 0 lo),L6 _ rfl⟩
def jV:V->Bool
 | .dw=>true
 | .bl _=>true
 | .int _=>true
 | .str _=>true
 | _=>false
def lV:V->V->Bool
 | .dw,.dw=>true
 | .bl a,.bl b=>a==b
 | .bl a,.int b=>(if a then 1 else 0)==b
 | .int a,.bl b=>a==(if b then 1 else 0)
 | .int a,.int b=>a==b
 | .str a,.str b=>a==b
 | _,_=>false
def Nv (ry:RelV y u)(rx:RelV x v)(fy:jV y=true)(fx:jV x=true):SeqAt.EqAt A s u v (lV y x):=by
 cases y with
 | dw=>
  cases ry;cases x with
  | dw=>cases rx;exact SeqAt.EqAt.same _
  | bl b=>cases rx;exact SeqAt.EqAt.none_bool b
  | int b=>obtain ⟨t,rfl⟩:=rx;exact SeqAt.EqAt.none_int b t
  | str b=>obtain ⟨t,rfl⟩:=rx;exact SeqAt.EqAt.none_str b t
  | _=>exact DL (show false=true from fx) KQ
 | bl a=>
  cases ry;cases x with
  | dw=>cases rx;exact SeqAt.EqAt.bool_none a
  | bl b=>cases rx;exact SeqAt.EqAt.bool_bool a b
  | int b=>obtain ⟨t,rfl⟩:=rx;exact SeqAt.EqAt.bool_int a b t
  | str b=>obtain ⟨t,rfl⟩:=rx;exact SeqAt.EqAt.bool_str a b t
  | _=>exact DL (show false=true from fx) KQ
 | int a=>
  obtain ⟨t',rfl⟩:=ry;cases x with
  | dw=>cases rx;exact SeqAt.EqAt.int_none a t'
  | bl b=>cases rx;exact SeqAt.EqAt.int_bool a t' b
  | int b=>obtain ⟨t,rfl⟩:=rx;exact SeqAt.EqAt.int_int a t' b t
  | str b=>obtain ⟨t,rfl⟩:=rx;exact SeqAt.EqAt.int_str a t' b t
  | _=>exact DL (show false=true from fx) KQ
 | str a=>
  obtain ⟨t',rfl⟩:=ry;cases x with
  | dw=>cases rx;exact SeqAt.EqAt.str_none a t'
  | bl b=>cases rx;exact SeqAt.EqAt.str_bool a t' b
  | int b=>obtain ⟨t,rfl⟩:=rx;exact SeqAt.EqAt.str_int a t' b t
  | str b=>obtain ⟨t,rfl⟩:=rx;exact SeqAt.EqAt.str_str a t' b t
  | _=>exact DL (show false=true from fx) KQ
 | _=>exact DL (show false=true from fy) KQ
def QX (x:V)(u:Value):Bool:=match u with
 | .none=>lV .dw x
 | .bool b=>lV (.bl b) x
 | .int i _=>lV (.int i) x
 | .str z _=>lV (.str z) x
 | _=>false
def Nw (r:RelV y u)(f:jV y=true):QX x u=lV y x:=by
 cases y with
 | dw=>cases r;rfl
 | bl b=>cases r;rfl
 | int i=>obtain ⟨t,rfl⟩:=r;rfl
 | str z=>obtain ⟨t,rfl⟩:=r;rfl
 | _=>exact DL (show false=true from f) KQ
theorem wz :∀{xs:θ} {us:τ},Vals xs us->xs.all jV=true->us.any (QX x)=xs.any fun y=>lV y x
 | _,_,.nil,_=>rfl
 | y::xs,u::us,.cons r t,f=>by
  rw [ah7,QQ] at f;rw [Sg,Sg,Nw r f.1,wz t f.2]
theorem sR (rx:RelV x v)(fx:jV x=true):∀{xs:θ} {us:τ},Vals xs us->xs.all jV=true->∀u∈us,SeqAt.EqAt A s u v (QX x u)
 | _,_,.nil,_=>fun u hu=>by cases hu
 | y::xs,u::us,.cons r t,f=>fun u' hu=>by
  rw [ah7,QQ] at f
  rcases KD.mp hu with rfl|hu
  ·rw [Nw r f.1];exact Nv r rx f.1 fx
  ·exact sR rx fx t f.2 u' hu
def XQ (x:V)(xs:θ):Bool:=xs.any fun y=>lV y x
inductive rIn (K:Frag)(neg:Bool)(x:V)(y:V)(H:Hp)(Q:VK):Prop
|mk (p xs:_)(_:y=.ref p)(_:(aU K H p xs\/bK K H p xs))(_:jV x=true)(_:xs.all jV=true)(_:Q (.bl (if neg then !XQ x xs else XQ x xs)) H)
def mZ:kA X (Mg .NotIn) (rIn X.K true):=by
 intro pX s Y H x y v u Q I rx ry h;obtain ⟨p,xs,rfl,hq,fx,fs,q⟩:=h;cases ry
 rcases hq with hq|hq
 ·obtain ⟨AI,r,pl,hz⟩:=I.list hq
  refine SeqAt.notIn_listAt (QX x) pl.isList (fun w hw=>sR rx fx r fs w (by simpa using hw)) ⟨.bl _,H,I,rfl,?_⟩;rwa [show AI.toArray.any (QX x)=AI.any (QX x) by simp,wz r fs]
 ·obtain ⟨AI,r,pl,hz⟩:=I.tuple hq
  refine SeqAt.notIn_tupleAt (QX x) pl (fun w hw=>sR rx fx r fs w (by simpa using hw)) ⟨.bl _,H,I,rfl,?_⟩;rwa [show AI.toArray.any (QX x)=AI.any (QX x) by simp,wz r fs]
def av:iz X (.builtin "len") (fun xs H Q=>∃p ys,xs=[.ref p]/\(aU X.K H p ys\/bK X.K H p ys)/\Q (.int ys.length) H):=by
 intro pX s Y H xs us Q I r h;obtain ⟨p,ys,rfl,hq,q⟩:=h;obtain ⟨u,rfl,rx⟩:=vals1 r;cases rx;let hn:=we
 rcases hq with hq|hq
 ·obtain ⟨AI,r',pl,hz⟩:=I.list hq
  let hlen:=r'.length;exact Calls.call_len_list pl.isList (by simp only [KW]<;>omega) ⟨.int ys.length,H,I.tok _,⟨s.toks+1,by rw [KW,hlen]⟩,q⟩
 ·obtain ⟨AI,r',pl,hz⟩:=I.tuple hq
  let hlen:=r'.length;exact len_tuple pl (by simp only [KW]<;>omega) ⟨.int ys.length,H,I.tok _,⟨s.toks+1,by rw [KW,hlen]⟩,q⟩
def tyV (K:Frag)(T:String)(x:V)(H:Hp):Prop:=match x with
 | .str _=>T="str"
 | .int _=>T="int"
 | .ref p=>(T="list"/\∃xs,aU K H p xs)\/(T="tuple"/\∃o,K.lookup p=some o/\o.cls=.type "tuple"/\o.dict=none)\/
   (T="dict"/\((∃AD,H p=some (.dK AD))\/∃AD,H p=some (.dT AD)))\/(T="set"/\∃S n,H p=some (.set S n))
 | _=>False
def Ny {Y:St}(I:Inv X pX Y H s)(r:RelV x v)(ty:tyV X.K T x H):
  s.TypeIs v T/\∀a,v=.ref a->∃ob,s.heap.get? a=some ob/\ob.dict=none:=by
 cases x with
 | str z=>
  obtain ⟨t,rfl⟩:=r;cases (show T="str" from ty);show ⟨typeIs_str s z t,fun _ e=>nomatch e⟩
 | int i=>
  obtain ⟨t,rfl⟩:=r;cases (show T="int" from ty);show ⟨typeIs_int s i t,fun _ e=>nomatch e⟩
 | ref p=>
  cases r
  rcases ty with ⟨rfl,xs,hq⟩|⟨rfl,o,hk,hc,hd⟩|⟨rfl,hk⟩|⟨rfl,S,n,hk⟩
  ·obtain ⟨AI,_,pl,_⟩:=I.list hq
   show ⟨pl.isList.typeIs,fun a e=>?_⟩;cases e;obtain ⟨o,n,e,c,hd,_⟩:=pl;show ⟨o,e,hd⟩
  ·show ⟨⟨o,I.mQ p o hk,hc⟩,fun a e=>?_⟩
   cases e;show ⟨o,I.mQ _ o hk,hd⟩
  ·let z:∃o,s.heap.get? p=some o/\o.ExactDict:=by
    rcases hk with ⟨AD,hk⟩|⟨AD,hk⟩
    ·obtain ⟨_,_,_,_,o,_,_,e,ex,_⟩:=I.bZ p _ hk
     show ⟨o,e,ex⟩
    ·obtain ⟨_,_,_,_,o,_,_,e,ex,_⟩:=I.bZ p _ hk
     show ⟨o,e,ex⟩
   obtain ⟨o,e,ex⟩:=z;show ⟨⟨o,e,ex.1⟩,fun a e2=>?_⟩;cases e2;show ⟨o,e,ex.2.1⟩
  ·obtain ⟨o,_,_,_,e,ex,_⟩:=I.bZ p _ hk
   show ⟨⟨o,e,ex.1⟩,fun a e2=>?_⟩;cases e2;show ⟨o,e,ex.2.1⟩
 | _=>exact False.elim ty
def tBM (K:Frag)(T:String)(r:V->List V->Hp->VK->Prop)(to:TE)(t:TA):TE:=fun Y H Q=>to Y H fun x H1=>tyV K T x H1/\t Y H1 fun xs H2=>r x xs H2 Q
variable {o e:Expr}{es:Β}{to:TE}{t:TA}{name:Str}{apos iw:Pos}{T id:String}{r:V->List V->Hp->VK->Prop}
def lH (pa:PlainAttrs T)(slot:Slot T name id)(hty:typeOf (.builtin id)=pure (.type "method_descriptor"))(hm:MtR X id r)(ho:PE X o to)(ha:PA X (e::es) t)
  (yI:V6 o name X.env (DX o X.env)=DX o X.env:=by rfl)
  (af0:((Kw iw (EX (e::es) X.env)).all (fun x=> !x.1) && (backToKw iw (V8 [] X.env)).all (fun x=>x.1.isSome)
   && decide ((e::es).length+([]:List Keyword).length+(if ([]:List Keyword).isEmpty then 0 else 1)<30))=true:=by rfl)
  (yJ:(apos.endLine==iw.line)=true:=by rfl) (hs:EX (e::es) X.env=(false,DX e X.env)::EX es X.env:=by rfl) (Vy:(Kw iw (EX es X.env)).any (·.1)=false:=by rfl):
  PE X (.Call (.Attribute o name apos) (e::es) [] iw) (tBM X.K T r to t):=by
 intro pX s Y H Q I h;refine wpAny_Call_method_late yI af0 yJ rfl (cY (ho pX s Y H _ I h) fun v s1 ⟨x,H1,I1,r1,ty,q1⟩=>?_);obtain ⟨h1,h2⟩:=Ny I1 r1 ty;show ⟨T,id,pa,slot,hty,h1,h2,?_⟩;let hA:=ha iw pX s1 Y H1 _ I1 q1;rw [hs] at hA ⊢;refine u5 (by show (false || (Kw iw (EX es X.env)).any (·.1))=false;rw [Vy]<;>rfl) (Calls.evalArgs_plain ?_);exact cY hA fun us s2 ⟨vs,H2,I2,r2,q2⟩=>hm pX s2 Y H2 x vs v us Q I2 r1 r2 q2
end
def MtM (X:Cx)(id:String)(r:V->List V->Hp->VK->Prop):Prop:=
 ∀(pX:η)(s:D')(Y:St)(H:Hp)(x:V)(xs:θ)(v:Value)(us:τ)(Q:VK),Inv X pX Y H s->RelV x v->Vals xs us->r x xs H Q->
  C' (CY X.prog X.w) X.A (call (.builtin id) (v::us)) (EP X pX Y Q) X.xe s
def Vals.one:∀{x:V} {us:τ},Vals [x] us->∃u,us=[u]/\RelV x u
 | _,_,.cons r .nil=>⟨_,rfl,r⟩
theorem Vals.rep {xs:θ}{us:τ}(h:Vals xs us):∀k:Nat,Vals (EI k xs).flatten (EI k us).flatten
 | 0=>.nil
 | k+1=>by
  rw [Q_,Q_,lh,lh];exact Vals.append h (Vals.rep h k)
theorem foldl_rep (AI:τ):∀(k:Nat)(acc:τ),
  y4 (fun x1 x2=>x1++x2) acc.toArray (EI k AI.toArray)=(acc++(EI k AI).flatten).toArray
 | 0,acc=>by simp
 | k+1,acc=>by
  let e:acc.toArray++AI.toArray=(acc++AI).toArray:=by simp
  let e2:(acc++AI)++(EI k AI).flatten=acc++(EI (k+1) AI).flatten:=by
   rw [Q_,lh,QU]
  rw [<-e2,<-foldl_rep AI k (acc++AI),<-e,Q_,List.foldl_cons]
section
variable {X:Cx}{pX:η}{Y:St}{H:Hp}{s:D'}{l b:AG}{xs ys zs:θ}
def Inv.Vz {AI oU:τ}(I:Inv X pX Y H s)(hH:H l=some (.lst xs))
  (e:s.heap.get? l=some {cls:=.type "list",data:=.seq AI.toArray n}) (hf:f AI.toArray=oU.toArray) (hv:Vals ys oU) (hz:ys.length<=C_):
  Inv X pX Y (upd H l (.lst ys)) {s with heap:=s.heap.update l (PD f),toks:=t'}:=by
 let q:=PySem.IsL.update e f;rw [hf] at q;refine I.write (x:=l) (e:=l) (by rw [hH];exact trivial) (.inl rfl) (fun b' u hb hu=>(Q3 s.heap (PD f) (FG hb)).trans hu) ⟨_,q⟩ ?_;show ⟨hz,oU,_,hv,q⟩
def Inv.VA {AI:τ}(I:Inv X pX Y H s)(hv:Vals ys AI)(hz:ys.length<=C_):
  Inv X pX Y (upd H s.heap.objs.size (.lst ys)) {s with heap:=s.heap.push {cls:=.type "list",data:=.seq AI.toArray},toks:=t'}:=
 I.laid (fun _ _ q=>K1 _ q) (DU _) ⟨hz,AI,0,hv,L6 _ rfl⟩
theorem Inv.fresh (I:Inv X pX Y H s):H s.heap.objs.size=none:=I.bZ.fresh (DU _)
def Inv.m4 (I:Inv X pX Y H s)(hH:H l=some (.lst xs)):xs.length<=C_/\∃(AI:τ)(n:Nat),Vals xs AI/\xs.length=AI.length/\s.heap.get? l=some {cls:=.type "list",data:=.seq AI.toArray n}:=by
 obtain ⟨z,AI,n,r,e⟩:=I.bZ l _ hH;show ⟨z,AI,n,r,r.length,e⟩
def sS (h:n<=C_):V9 n=false:=by
 unfold V9;exact O7 ga
end
section
variable {X:Cx}
inductive H_ (x:V)(vs:θ)(H:Hp)(Q:VK):Prop
|mk (l xs y:_)(_:x=.ref l)(_:vs=[y])(_:H l=some (.lst xs))(_:xs.length<C_)(_:Q .dw (upd H l (.lst (xs++[y]))))
def fE:MtM X "list.append" H_:=by
 intro pX s Y H x vs v us Q I rx rv h;obtain ⟨l,xs,y,rfl,rfl,hH,hz,q⟩:=h;cases rx;obtain ⟨u,rfl,ru⟩:=rv.one;obtain ⟨z,AI,n,r,hl,e⟩:=I.m4 hH;refine Rf F.slot_list_append ⟨_,e,rfl⟩ F.entry_list_append (F.args_list_append_2 _ _) (PySem.list_append l AI.toArray n u (by rw [KW];omega)) ⟨e,?_⟩;show ⟨.dw,_,I.Vz (oU:=AI++[u]) hH e gV (r.append (.cons ru .nil)) ?_,rfl,q⟩;rw [ER,Wx];omega
inductive IA (x:V)(vs:θ)(H:Hp)(Q:VK):Prop
|mk (l b xs zs:_)(_:x=.ref l)(_:vs=[.ref b])(_:H l=some (.lst xs))(_:H b=some (.lst zs))(_:xs.length+zs.length<=C_)(_:Q .dw (upd H l (.lst (xs++zs))))
def aby:MtM X "list.extend" IA:=by
 intro pX s Y H x vs v us Q I rx rv h;obtain ⟨l,b,xs,zs,rfl,rfl,hH,hB,hz,q⟩:=h;cases rx;obtain ⟨u,rfl,ru⟩:=rv.one;cases ru;obtain ⟨z,AI,n,r,hl,e⟩:=I.m4 hH;obtain ⟨z2,eV,n2,r2,B_,e2⟩:=I.m4 hB;let hsz:AI.toArray.size+eV.toArray.size<=C_:=by rw [KW,KW];omega
 let yK:¬ (!AI.toArray.isEmpty && V9 (AI.toArray.size+eV.toArray.size))=true:=by
  rw [sS hsz,WH];exact KQ
 refine Rf F.slot_list_extend ⟨_,e,rfl⟩ F.entry_list_extend (F.args_list_extend_2 _ _)
  (AutoSeq1.list_extend_list_list_0 l AI.toArray n b eV.toArray n2 yK (by rw [KW];omega) ga) ⟨e,e2,?_⟩
 show ⟨.dw,_,I.Vz (oU:=AI++eV) hH e gV (r.append r2) ?_,rfl,q⟩;rw [ER];omega
inductive YK (x:V)(y:V)(H:Hp)(Q:VK):Prop
|mk (l b xs zs:_)(_:x=.ref l)(_:y=.ref b)(_:H l=some (.lst xs))(_:H b=some (.lst zs))(_:xs.length+zs.length<=C_)(_:∀p,H p=none->Q (.ref p) (upd H p (.lst (xs++zs))))
def gZ:kA X (Nn .Add) YK:=by
 intro pX s Y H x y v u Q I rx ry h;obtain ⟨l,b,xs,zs,rfl,rfl,hH,hB,hz,q⟩:=h;cases rx;cases ry;obtain ⟨z,AI,n,r,hl,e⟩:=I.m4 hH;obtain ⟨z2,eV,n2,r2,B_,e2⟩:=I.m4 hB;refine PySem.P.add_list e e2 ?_ (by rw [KW,KW];omega);let ea:AI.toArray++eV.toArray=(AI++eV).toArray:=by simp
 rw [ea];show ⟨.ref _,_,I.VA (t':=s.toks) (r.append r2) (by rw [ER];omega),rfl,q _ I.fresh⟩
inductive YL (x:V)(y:V)(H:Hp)(Q:VK):Prop
|mk (l k xs:_)(_:x=.ref l)(_:y=.int k)(_:H l=some (.lst xs))(_: -(2^63)<=k)(_:k<2^63)(_:xs.length*k.toNat<=C_)(_:∀p,H p=none->Q (.ref p) (upd H p (.lst (EI k.toNat xs).flatten)))
def len_rep {Z:Type}(xs:List Z)(k:Nat):(EI k xs).flatten.length=k*xs.length:=by
 induction k with
 | zero=>simp
 | succ k ih=>rw [Q_,lh,ER,ih,Nat.succ_mul,WO]
def wA:kA X (Nn .Mult) YL:=by
 intro pX s Y H x y v u Q I rx ry h;obtain ⟨l,k,xs,rfl,rfl,hH,h1,h2,hz,q⟩:=h;cases rx;obtain ⟨t,rfl⟩:=ry;obtain ⟨z,AI,n,r,hl,e⟩:=I.m4 hH;let hlen:AI.toArray.size*k.toNat<=C_:=by rwa [KW,<-hl]
 let af1:¬ AI.toArray.size*k.toNat > (2^63-1) / 8:=by
  have:(C_:Nat)<=(2^63-1) / 8:=gt
  omega
 let af2:¬ (!Builtin.List.listFitsIndex k)=true:=by
  rw [fitsIndex_both h1 h2];exact KQ
 let yK:¬ V9 (AI.toArray.size*k.toNat)=true:=by
  rw [sS hlen];exact KQ
 let af3:y4 (fun x1 x2=>x1++x2) #[] (EI (if AI.toArray.isEmpty=true then 0 else k.toNat) AI.toArray)=(EI k.toNat AI).flatten.toArray:=by
  let f0:∀m:Nat,y4 (fun x1 x2=>x1++x2) #[] (EI m AI.toArray)=(EI m AI).flatten.toArray:=fun m=>by
   have:=foldl_rep AI m [];rwa [WM] at this
  rw [f0];cases AI with
  | nil=>simp
  | cons a r'=>rw [mJ gV]
 refine wpAny_binaryOp_repeat_ref (T:="list") (U:="int") gt ⟨_,e,rfl⟩ (fun s'=>typeIs_int s' k t) noFill_list_mul F.fills_int_mul F.slot_int_rmul repeat_list F.slot_int_index.lookup
  (Rf F.slot_int_rmul (typeIs_int s k t) F.entry_int_rmul (F.args_int_rmul_2 _ _) (int___rmul___int_list k t l AI.toArray n)
   ⟨e,rfl,⟨_,e,rfl⟩,Rf F.slot_list_mul ⟨_,e,rfl⟩ F.entry_list_mul (F.args_list_mul_2 _ _) (AutoListH.list___mul___list_int_3 l AI.toArray n k t af2 af1 yK) ⟨e,?_⟩⟩)
 rw [af3];show ⟨.ref _,_,I.VA (t':=s.toks) (r.rep k.toNat) (by rwa [len_rep,W7]),rfl,q _ I.fresh⟩
end
end L2
namespace Att
open PySem PySem.W PySem.Calls PyProof.Rows
def adK :∀(ns:π)(vs:τ),WellAll P h vs (ns.map WData.int)->IntsAre vs ns:=by
 intro ns
 induction ns with
 | nil=>
  intro vs w;erw [MV] at w;exact .nil
 | cons n ns ih=>
  intro vs w;rw [DG] at w;cases w with
  | cons a b=>
   cases a;exact .cons _ _ (ih _ b)
def Ky {l:OpenLaw}(hn:l.most=some n){vals:τ}
  (QY:l.row.toRowW.claim.pre args=true) (hwl:WellAll P h vals args):
  ∃a vs ns,vals=[Value.ref a]/\args=[WData.list (ns.map WData.int)]/\h.get? a=some {cls:=.type "list",data:=.seq vs.toArray}/\IntsAre vs ns/\ns.length<=n:=by
 let hsh:WShape.hasAll [] args [.list .int]=true:=(pre_splitW QY).1;let hc:l.pre.holds [] {args:=args}=true:=(pre_splitW QY).2;obtain ⟨d,r,rfl,h1,h2⟩:=hasAllW_cons hsh;obtain rfl:=hasAllW_nil h2;obtain ⟨xs,rfl,h3⟩:=hasW_list h1;obtain ⟨ns,rfl⟩:=items_int h3
 let hlen:ns.length<=n:=by
  unfold OpenLaw.pre at hc
  let h4:(WTm.not (.lt (.lit (.int (n:Int))) (.len (.arg 0)))).holds [] {args:=[.list (ns.map .int)]}=true:=by
   let h4:=(holds_andW hc).1;rwa [hn] at h4
  let h5:=condW_of h4 (w_not (w_lt w_lit (w_len_list (w_arg rfl))));rw [ir] at h5;refine ahB fun q=>?_;let q':(n:Int)<((ns.length:Nat):Int):=ga
  first
   | (rw [Kk q'] at h5;exact DL h5 gt)
   | (simp at h5;omega)
 cases hwl with
 | cons w1 w2=>
  cases w2;cases w1 with
  | list ho Nz=>show ⟨_,_,ns,rfl,rfl,ho,adK ns _ Nz,hlen⟩
def Kz (l:OpenLaw)(args:List WData):l.row.toRowW.claim.post args (.bool true) args=true:=
 postW_of (r:=l.row.toRowW) (X:=(true==true))
  (show WShape.has [] (.bool true) .bool=true by first|rfl|decide|simp [WShape.has,WShape.arms,WShape.armsAll])
  (show (WTm.eq .res (.lit (.bool true))).value [] {args:=args,res:=some (.bool true),after:=args}=some (.bool (true==true)) from w_eq_bool (w_res rfl) w_lit) rfl
end Att
namespace L2
open PySem PySem.Spec PyProof.Rows
theorem vm:∀{vs:τ} {ns:π},IntsAre vs ns->Vals (ns.map V.int) vs
 | _,_,.nil=>.nil
 | _,_,.cons n t h=>.cons ⟨t,rfl⟩ (vm h)
def YM (H:Hp):Prop:=∀b,H b=none\/∃o xs,H b=some (.fV o (.lst xs))
def ae1 {K:Frag}{mg mb:ξ}{vs:τ}{ns:π}
  (KX:K.In mM.heap) (hns:mM.heap.Ns K0 mg) (hb:mM.heap.Ns builtinsNs mb) (hbb:∀x:Str,x≠ "__name__"->mb x=Kv x) (af5:mM.heap.NoLimit) (QZ:mM.heap.NoSeer) (hg:mM.gens= #[])
  (ha:mM.heap.get? a=some {cls:=.type "list",data:=.seq vs.toArray}) (hi:IntsAre vs ns) (hl:ns.length<=C_) (hr:cK k callerA)
  (F:∀iN:Heap,K.In iN->iN.Ns K0 mg->dI P w K mg iN CX k fa fd [x] sp) (YN:∀(s:D')(u:Value),BindsTo s fd ⟨[u],[]⟩ [(x,u)])
  (HR:∀H:Hp,YM H->aU K H a (ns.map V.int)->sp [.ref a] H (fun v _=>v=.bl true) fun _ _ _=>False)
  (hCX:∀H e s',CX [] H mM (fun _ _ _=>False) e s' ->False):
  NF (CY P w) callerA (.call (.ref fa) ⟨[.ref a],[]⟩) (fun r s'=>r=.ok (.ret (.bool true))/\OldK mM.heap s'.heap/\s'.os=mM.os/\Om s'.gens) mM:=by
 let rv:=vm hi;let af6:=hi.length
 let core:∀H:Hp,YM H->aU K H a (ns.map V.int)->lG P w H mM.heap->(∀b,H b≠none->b=a)->(H a≠none->K.lookup a=none)->
   NF (CY P w) callerA (.call (.ref fa) ⟨[.ref a],[]⟩) (fun r s'=>r=.ok (.ret (.bool true))/\OldK mM.heap s'.heap/\s'.os=mM.os/\Om s'.gens) mM:=by
  intro H hO hS bZ hA hK;let wB:∀{b:AG} {o:Obj},mM.heap.get? b=some o->H b=none->(v8 mM.heap H).get? b=some o:=fun e n=>aeV e n
  let YD:∀{b:AG} {o:Obj} {es:Array DictEntry} {ep:Nat},mM.heap.get? b=some o->o.data=.dict es ep->H b=none:=fun {b o es ep} e d=>by
   cases q:H b with
   | none=>rfl
   | some u=>
    let e':b=a:=hA b (by rw [q];simp);subst e';erw [ha] at e;let d':Data.seq vs.toArray _=Data.dict es ep:=d;cases d'
  let TV:∀{b:AG} {m:ξ},mM.heap.Ns b m->(v8 mM.heap H).Ns b m:=fun {b m} ⟨o,es,ep,e,d,r⟩=>⟨o,es,ep,wB e (YD e d),d,r⟩
  let hKb:K.In (v8 mM.heap H):=fun b o e=>wB (KX b o e) (by
   cases q:H b with
   | none=>rfl
   | some u=>
    let e':b=a:=hA b (by rw [q];simp);subst e'
    rw [hK (by rw [q];simp)] at e;cases e)
  let hM:Mod K mg (v8 mM.heap H):=⟨hKb,TV hns,⟨mb,TV hb,hbb⟩,let ⟨mc,h1,h2⟩:=af5;⟨mc,TV h1,h2⟩,
   ⟨let ⟨mc,h1,h2⟩:=QZ.statics;⟨mc,TV h1,h2⟩,let ⟨mc,h1,h2⟩:=QZ.mods;⟨mc,TV h1,h2⟩,let ⟨mc,h1,h2⟩:=QZ.imp;⟨mc,TV h1,h2⟩,
    let ⟨mg',bm,ob,h1,h2,h3,h4,h5⟩:=QZ.main;⟨mg',bm,ob,TV h1,h2,wB h3 (by
     cases q:H bm with
     | none=>rfl
     | some u=>
      let e':bm=a:=hA bm (by rw [q];simp);subst e';erw [ha] at h3;let h4':Value.type "list"=Value.type "module":=h4;injection h4' with e9
      exact DL e9 gt),h4,h5⟩⟩⟩
  let e0:DA P w K mg (v8 mM.heap H) callerA [] mM H:=⟨rfl,hM,fun b o e=>zaq e,WV (ab8 _ _),trivial,fun b hb=>DL (show b∈([]:List AG) from hb) gV,bZ,.of_eq hg⟩;refine codeAny_mono ((F _ hKb (TV hns)).run callerA [] mM H ⟨[.ref a],[]⟩ [.ref a] [.ref a] _ _ hr e0 (YN mM (.ref a)) (.cons rfl .nil) (HR H hO hS)) fun r s' h=>?_;cases r with
  | error e=>exact (hCX H e s' h).elim
  | ok fl=>
   cases fl with
   | next=>exact False.elim h
   | brk=>exact False.elim h
   | cont=>exact False.elim h
   | ret u=>
    obtain ⟨v,H',os,bare,un,af7,r',q⟩:=h;let q':v=.bl true:=q;subst q';obtain rfl:u=Value.bool true:=r';show ⟨rfl,OldK.of_keep fun b o e=>?_,os,bare⟩;cases q:H b with
    | none=>exact un.keep b o e q (by intro z;exact DL (show b∈([]:List AG) from z) gV) gV
    | some u=>
     rcases hO b with z|⟨ob,xs,z⟩
     ·erw [q] at z
     ·let z2:=un.uQ b ob _ z
      obtain ⟨e1,_⟩:=bZ b _ z;obtain ⟨e2,_⟩:=af7 b _ z2;erw [e] at e1;exact e2
 cases hk:K.lookup a with
 | some o=>
  let e:=KX a o hk;erw [ha] at e;refine core (fun _=>none) (fun _=>.inl rfl) (.inr ⟨_,vs.toArray,_,hk,rfl,rfl,rfl,by rwa [KW,af6],by simpa using rv⟩) (fun b u z=>by have z':(none:Option HO)=some u:=z;cases z') (fun b z=>DL rfl z) fun z=>DL rfl z
 | none=>
  refine core (fun b=>if b=a then some (.fV {cls:=.type "list",data:=.seq vs.toArray} (.lst (ns.map V.int))) else none) (fun b=>?_) (.inl (.inr ⟨{cls:=.type "list",data:=.seq vs.toArray},mK rfl⟩)) (fun b u z=>?_) (fun b z=>?_) fun _=>hk
  ·by_cases hb:b=a
   ·exact .inr ⟨_,_,mK hb⟩
   ·exact .inl (mJ hb)
  ·by_cases hb:b=a
   ·let z':=(mK hb).symm.trans z
    cases z';subst hb;show ⟨ha,by rwa [ir],vs,_,rv,ha⟩
   ·let z':=(mJ hb).symm.trans z
    cases z'
  ·by_cases hb:b=a
   ·exact hb
   ·exact DL (mJ hb) z
abbrev KOf {K:Frag}{h:Heap}(_:K.In h):Frag:=K
def inClass (s:Stmt)(j:Nat):Stmt:=match s with
 | .ClassDef _ _ _ body _ _ _ _ _ _ _=>body.getD j (.Pass ⟨0,0,0,0⟩)
 | _=>.Pass ⟨0,0,0,0⟩
def aC (s:Stmt):Arguments:=match s with
 | .FunctionDef _ a _ _ _ _ _ _ _ _=>a
 | _=>{posonlyargs:=[],args:=[],vararg:=none,kwonlyargs:=[],kw_defaults:=[],kwarg:=none,defaults:=[]}
def au (s:Stmt):List Stmt:=match s with
 | .FunctionDef _ _ b _ _ _ _ _ _ _=>b
 | _=>[]
def ae (s:Stmt):Scope:=match s with
 | .FunctionDef _ _ _ _ _ _ sc _ _ _=>sc
 | _=>{kind:=.function,names:=[],isGenerator:=false,isCoroutine:=false}
abbrev E0:XK:=fun _ _ _=>False
structure sU (K:Frag)(x qual:Str)(st:Stmt)(f:AG)(fd:FuncData):Prop where
 ex:∃(oc:Value)(od:Ι)(kV doc pm:Value)(an:Ι)(cL ct:Value)(uM:Ο),
  fd=fnOf x qual (aC st) (au st) (ae st) .none kV doc pm an cL ct/\K.lookup f=some ⟨oc,od,.func fd,uM⟩/\codeIn K cL qual=true
 kp:keepIn K (.ref f)=true
section
variable {P:FQ}{w:World}{K:Frag}{mg:ξ}{iN:Heap}
def sU.binds {st:Stmt}(F:sU K x qual st f fd)
  (h:∀(kV doc pm:Value)(an:Ι)(cL ct:Value)(us:τ),us.length=ps.length->bindArgs (fnOf x qual (aC st) (au st) (ae st) .none kV doc pm an cL ct) ⟨us,[]⟩=pure (ps.zip us)):Binds K fd ps []:=by
 obtain ⟨oc,od,kV,doc,pm,an,cL,ct,uM,rfl,lk,uR⟩:=F.ex;exact .all (h kV doc pm an cL ct)
def eY {st:Stmt}{od an:Ι}{uM:Ο}{kV doc pm cL ct:Value}(l:K.lookup f=some ⟨oc,od,.func (fnOf x qual (aC st) (au st) (ae st) .none kV doc pm an cL ct),uM⟩)
  (c:codeIn K cL qual=true) (k:keepIn K (.ref f)=true):sU K x qual st f (fnOf x qual (aC st) (au st) (ae st) .none kV doc pm an cL ct):=⟨⟨oc,od,kV,doc,pm,an,cL,ct,uM,rfl,l,c⟩,k⟩
end
def cW (hr:cK k A):A.units+1<Mn:=FU (Nat.add_le_add_left (by decide:1<=64) _) hr.units
section
variable {X:Cx}
def pv (i:Nat){pos:Pos}(hN:X.N[i]?=some x:=by rfl)(hv:Vis X.env.scope x:=by first|exact NY rfl|exact RP (NY rfl)|exact RP (RP rfl))(hd:(x==("__debug__":Str))=false:=by decide)
  (uR:(x==("__classdict__":Str))=false:=by decide):PE X (.Name x pos) (MY i):=ait hN hv hd uR
end
def YO {A B:Prop}(h:B):if false=true then A else B:=by
 rwa [mJ KQ]
def YQ {A B:Prop}(h:A):if true=true then A else B:=by
 rwa [mK rfl]
def bU {c A B:Prop}[Decidable c](h1:c->A)(h2:¬ c->B):if c then A else B:=by
 by_cases h:c
 ·rw [mK h]
  exact h1 h
 ·rw [mJ h]
  exact h2 h
def IC {c A B:Prop}[Decidable c](hc:c)(h:B):if (!decide c)=true then A else B:=by
 rw [Kk hc];exact YO h
def aq (H H':Hp):Prop:=∀b o,H b=some o->H' b=some o
def aq.refl (H:Hp):aq H H:=fun _ _ h=>h
def aq.trans (a:aq H H1)(b:aq H1 H2):aq H H2:=fun c o h=>b c o (a c o h)
def aq.free (e:aq H H')(h:H' l=aoB):H l=aoB:=by
 cases q:H l with
 | none=>rfl
 | some o=>
  erw [e l o q] at h
def aq.seq {K:Frag}(e:aq H H')(h:aU K H a xs):aU K H' a xs:=by
 rcases h with (h|⟨o,h⟩)|h
 ·exact .inl (.inl (e _ _ h))
 ·exact .inl (.inr ⟨o,e _ _ h⟩)
 ·exact .inr h
end L2
namespace Ty
def gz (t b:Int):Int:=(KP t b:Nat)
def sg (t b:Int):Int:=if b<0 then -gz t b else gz t b
def low (t b:Int):Int×Int:=(t.fdiv (sg t b),b.fdiv (sg t b))
def yL (a b:Int):KP b (a.fmod b)=KP a b:=by
 rw [yU,Int.gcd_sub_mul_left_right,Int.gcd_comm]
def vn {a b:Int}(h:b≠0):(a.fmod b).natAbs<b.natAbs:=by
 rcases zH b 0 with q|q|q
 ·let h1:(-a).fmod (-b)= -(a.fmod b):=by
   rw [yU,yU,Int.neg_fdiv_neg,Int.neg_mul];omega
  let h2:=Zc (-a) (show 0 < -b by omega);let h3:=zg (-a) (show 0 < -b by omega);omega
 ·exact DL q h
 ·let h2:=Zc a q
  let h3:=zg a q;omega
def wC (h:b≠0):0<gz t b:=by
 have:=anV.mpr (RP h:t≠0\/b≠0);show (0:Int)<((KP t b:Nat):Int);omega
def zaj (h:b≠0):(gz t b).natAbs<=b.natAbs:=by
 let h1:KP t b ∣ b.natAbs:=Z_.mpr (V3 t b);let h2:=Nat.le_of_dvd ga h1;show ((KP t b:Nat):Int).natAbs<=_;omega
def sX (h:b≠0):sg t b≠0:=by
 have:=wC (t:=t) h;unfold sg;split<;>omega
def acw :(sg t b).natAbs=(gz t b).natAbs:=by
 unfold sg;split
 ·exact ZG _
 ·rfl
def aj_ (t b:Int):sg t b ∣ t:=by
 unfold sg gz;split
 ·exact Int.neg_dvd.mpr (V4 t b)
 ·exact V4 t b
def ac4 (t b:Int):sg t b ∣ b:=by
 unfold sg gz;split
 ·exact Int.neg_dvd.mpr (V3 t b)
 ·exact V3 t b
def de {a g:Int}(h:g≠0)(d:g ∣ a):a=g*a.fdiv g:=by
 obtain ⟨c,hc⟩:=d;have:=ags h hc;rwa [this]
def rN (h:b≠0):t=sg t b*(low t b).1:=de (sX h) (aj_ t b)
def m7 (h:b≠0):b=sg t b*(low t b).2:=de (sX h) (ac4 t b)
def m_ (h:b≠0):0<(low t b).2:=by
 let e:=m7 (t:=t) h;let g:=wC (t:=t) h
 rcases zH (low t b).2 0 with q|q|q
 ·exfalso
  by_cases c:b<0
  ·let s:sg t b= -gz t b:=by unfold sg;rw [mK c]
   rw [s] at e;have:=Int.mul_pos_of_neg_of_neg (show -gz t b<0 by omega) q;omega
  ·let s:sg t b=gz t b:=by unfold sg;rw [mJ c]
   rw [s] at e;have:=ahn g q;omega
 ·exfalso
  rw [q,Sf] at e;exact h e
 ·exact q
def aeW (h:b≠0):(low t b).1*b=t*(low t b).2:=by
 let e1:=rN (t:=t) h;let e2:=m7 (t:=t) h
 calc (low t b).1*b=(low t b).1*(sg t b*(low t b).2):=by rw [<-e2]
  _=sg t b*(low t b).1*(low t b).2:=by rw [<-WE,Px (low t b).1]
  _=t*(low t b).2:=by rw [<-e1]
def rO (h:b≠0):KP (low t b).1 (low t b).2=1:=by
 let e1:=rN (t:=t) h;let e2:=m7 (t:=t) h
 let k:KP t b=(sg t b).natAbs*KP (low t b).1 (low t b).2:=by
  let q:=anN (sg t b) (low t b).1 (low t b).2;rwa [<-e1,<-e2] at q
 let g:(sg t b).natAbs=KP t b:=by
  rw [acw];rfl
 let p:=anV.mpr (RP h:t≠0\/b≠0);rw [g] at k;let k':KP t b*1=KP t b*KP (low t b).1 (low t b).2:=by rwa [Nat.mul_one]
 exact (Nat.eq_of_mul_eq_mul_left p k').symm
def e_ {g a:Int}(h:g≠0):a.natAbs<=(g*a).natAbs:=by
 rw [NL];have:1<=g.natAbs:=ga
 have:=N2 a.natAbs this;omega
def sY (h:b≠0):(low t b).1.natAbs<=t.natAbs:=by
 let e:=rN (t:=t) h;have:=e_ (g:=sg t b) (a:=(low t b).1) (sX h);rwa [<-e] at this
def sZ (h:b≠0):(low t b).2.natAbs<=b.natAbs:=by
 let e:=m7 (t:=t) h;have:=e_ (g:=sg t b) (a:=(low t b).2) (sX h);rwa [<-e] at this
def NC (hg:g≠0)(ht:t=g*x)(hb:b=g*y)(hy:0<y)(h1:KP x y=1):low t b=(x,y):=by
 let hbn:b≠0:=by
  rw [hb];exact anW hg ga
 let gg:KP t b=g.natAbs:=by
  rw [ht,hb,anN,h1,Nat.mul_one]
 let s:sg t b=g:=by
  unfold sg gz;rw [gg];by_cases c:g<0
  ·have:b<0:=by rw [hb];exact Int.mul_neg_of_neg_of_pos c hy
   rw [mK this];omega
  ·have:¬ b<0:=by
    have:=Int.mul_nonneg (show 0<=g by omega) (show 0<=y by omega);omega
   rw [mJ this];omega
 unfold low;rw [s];rw [ags hg ht,ags hg hb]
def yN (hy:0<y)(h:KP x y=1):low x y=(x,y):=NC (g:=1) gt ga ga hy h
def vo (hk:k≠0)(h:b≠0):low (k*t) (k*b)=low t b:=by
 refine NC (g:=k*sg t b) (anW hk (sX h)) ?_ ?_ (m_ h) (rO h)
 ·rw [WE]
  exact oP (k*·) (rN h)
 ·rw [WE]
  exact oP (k*·) (m7 h)
def acP (hb:b≠0)(hc:c≠0)(h:t*c=u*b):low t b=low u c:=by
 rw [<-vo (t:=t) (b:=b) hc hb,<-vo (t:=u) (b:=c) hb hc];rw [Px c t,h,Px u b,Px c b]
end Ty
set_option maxHeartbeats 4000000
namespace Ty
open PySem PySem.Spec PyProof.Rows L2
open Builtin.Int (intBits)
section
variable {X:Cx}
def qG (i j:Int):Prop:=intBits i<=33554432/\intBits j<=33554432
def bY:kA X (Nn .Mult) (rI qG fun i j=>.int (i*j)):=
 Yw fun _ _ _ _ _ _ _ hc q=>mul_int q (IntMulOk.of_le hc.1 hc.2 gt)
def zaf (i j:Int):Prop:=j≠0/\intBits j<=9000
def af8 (h:intBits j<=9000):Builtin.divisionGoesByPylong i j=false:=by
 refine PyProof.noPylong_of_log2 ?_;let h1:=intBits_le_iff.mp h;by_cases h0:j.natAbs=0
 ·rw [h0]
  decide+kernel
 ·exact (Nat.log2_lt h0).mpr h1
def s_:kA X (Nn .FloorDiv) (rI zaf fun i j=>.int (i.fdiv j)):=
 Yw fun _ _ _ _ _ _ _ hc q=>floordiv_int hc.1 q (.inl (af8 hc.2))
end
inductive Da where
 | v (x:V)
 | t (ds:List Da)
 | l (ds:List Da)
mutual
def Is (K:Frag)(H:Hp):Da->V->Prop
 | .v x,u=>u=x/\jV x=true
 | .t ds,u=>∃p xs,u=.ref p/\bK K H p xs/\iY K H ds xs
 | .l ds,u=>∃p xs,u=.ref p/\aU K H p xs/\iY K H ds xs
def iY (K:Frag)(H:Hp):List Da->List V->Prop
 | [],[]=>True
 | d::ds,x::xs=>Is K H d x/\iY K H ds xs
 | _,_=>False
end
mutual
def iQ:Da->Da->Bool
 | .v x,.v y=>lV x y
 | .t ds,.t es=>c7 ds es
 | .l ds,.l es=>c7 ds es
 | _,_=>false
def c7:List Da->List Da->Bool
 | [],[]=>true
 | d::ds,e::es=>iQ d e && c7 ds es
 | _,_=>false
end
mutual
def alike:Da->Da->Bool
 | .v _,.v _=>true
 | .t ds,.t es=>dS ds es
 | .l ds,.l es=>dS ds es
 | _,_=>false
def dS:List Da->List Da->Bool
 | d::ds,e::es=>alike d e && dS ds es
 | _,_=>true
end
mutual
def dep:Da->Nat
 | .v _=>0
 | .t ds=>jk ds+1
 | .l ds=>jk ds+1
def jk:List Da->Nat
 | []=>0
 | d::ds=>max (dep d) (jk ds)
end
theorem iY.length {K:Frag}:∀{ds:List Da} {xs:θ},iY K H ds xs->ds.length=xs.length
 | [],[],_=>rfl
 | _::_,_::_,h=>oP (·+1) (iY.length (by unfold iY at h;exact h.2))
 | [],_::_,h=>by unfold iY at h;exact h.elim
 | _::_,[],h=>by unfold iY at h;exact h.elim
def jW (ds es:List Da)(j:Nat):Bool:=match ds[j]?,es[j]? with
 | some d,some e=>iQ d e
 | _,_=>true
theorem dW:∀ds es:List Da,c7 ds es=((KC (min ds.length es.length)).all (jW ds es) && ds.length==es.length)
 | [],[]=>rfl
 | [],_::_=>by simp [c7]
 | _::_,[]=>by simp [c7]
 | d::ds,e::es=>by
  let ih:=dW ds es;let r:min (d::ds).length (e::es).length=min ds.length es.length+1:=by simp [Nat.succ_min_succ]
  rw [r,ahF,ah7,List.all_map];let b0:jW (d::ds) (e::es) 0=iQ d e:=rfl
  let b1:(jW (d::ds) (e::es) ∘ Nat.succ)=jW ds es:=by
   funext j;rfl
  let l1:((d::ds).length==(e::es).length)=(ds.length==es.length):=by simp
  rw [b0,b1,l1,Bool.and_assoc,<-ih];rfl
section
variable {X:Cx}{pX:η}{Y:L2.St}{H:Hp}{s:D'}
def acH (h:jV x=true):lV x x=true:=by
 cases x<;>first|rfl|(simp [lV];done)|(cases h;done)
mutual
theorem wG (I:Inv X pX Y H s):∀(d e:Da)(x:V),Is X.K H d x->Is X.K H e x->alike d e=true->iQ d e=true
 | .v a,.v b,x,h1,h2,_=>by
  unfold Is at h1 h2;obtain ⟨rfl,f⟩:=h1;obtain ⟨rfl,_⟩:=h2;unfold iQ;exact acH f
 | .t ds,.t es,x,h1,h2,a=>by
  unfold Is at h1 h2;obtain ⟨p,xs,rfl,q1,k1⟩:=h1;obtain ⟨p',ys,e',q2,k2⟩:=h2;cases e';cases I.Kn q1 q2;unfold iQ;unfold alike at a;exact tf I ds es xs k1 k2 a
 | .l ds,.l es,x,h1,h2,a=>by
  unfold Is at h1 h2;obtain ⟨p,xs,rfl,q1,k1⟩:=h1;obtain ⟨p',ys,e',q2,k2⟩:=h2;cases e';cases I.jS q1 q2;unfold iQ;unfold alike at a;exact tf I ds es xs k1 k2 a
 | .v _,.t _,_,_,_,a=>by unfold alike at a;cases a
 | .v _,.l _,_,_,_,a=>by unfold alike at a;cases a
 | .t _,.v _,_,_,_,a=>by unfold alike at a;cases a
 | .t _,.l _,_,_,_,a=>by unfold alike at a;cases a
 | .l _,.v _,_,_,_,a=>by unfold alike at a;cases a
 | .l _,.t _,_,_,_,a=>by unfold alike at a;cases a
theorem tf (I:Inv X pX Y H s):∀(ds es:List Da)(xs:θ),iY X.K H ds xs->iY X.K H es xs->dS ds es=true->c7 ds es=true
 | [],[],_,_,_,_=>by unfold c7;rfl
 | d::ds,e::es,x::xs,h1,h2,a=>by
  unfold iY at h1 h2;unfold dS at a;rw [QQ] at a;unfold c7;rw [wG I d e x h1.1 h2.1 a.1,tf I ds es xs h1.2 h2.2 a.2];rfl
 | [],_::_,[],_,h2,_=>by unfold iY at h2;exact h2.elim
 | [],_::_,_::_,h1,_,_=>by unfold iY at h1;exact h1.elim
 | _::_,[],[],h1,_,_=>by unfold iY at h1;exact h1.elim
 | _::_,[],_::_,_,h2,_=>by unfold iY at h2;exact h2.elim
 | _::_,_::_,[],h1,_,_=>by unfold iY at h1;exact h1.elim
end
def in1_units (A:KH):A.in1.units=A.units+1:=rfl
mutual
theorem ID (I:Inv X pX Y H s):∀(d e:Da)(x y:V)(u w:Value)(A:KH),Is X.K H d x->Is X.K H e y->alike d e=true->RelV x u->RelV y w->A.units+dep d<Mn->SeqAt.EqAt A s u w (iQ d e)
 | .v a,.v b,x,y,u,w,A,h1,h2,_,r1,r2,_=>by
  unfold Is at h1 h2;obtain ⟨rfl,f1⟩:=h1;obtain ⟨rfl,f2⟩:=h2;unfold iQ;exact Nv r1 r2 f1 f2
 | .t ds,.t es,x,y,u,w,A,h1,h2,a,r1,r2,hu=>by
  have jX :=h1;let h2':=h2;unfold Is at h1 h2;obtain ⟨p,xs,rfl,q1,k1⟩:=h1;obtain ⟨p',ys,rfl,q2,k2⟩:=h2;cases r1;cases r2;by_cases e:p=p'
  ·subst e
   rw [wG I _ _ _ jX h2' a];exact .same _
  ·refine .of_refs e ?_
   obtain ⟨AI,v1,t1,_⟩:=I.tuple q1;obtain ⟨eV,v2,t2,_⟩:=I.tuple q2;unfold iQ;rw [dW,k1.length,k2.length,v1.length,v2.length]
   let z:=SeqAt.RcAt.tuples (A:=A) (e:=jW ds es) t1 t2 (by unfold dep at hu;omega) fun j g1 g2=>by
    unfold dep at hu;unfold alike at a;exact g6 I ds es xs ys AI eV A.in1 k1 k2 a v1 v2 (by rw [in1_units];omega) j (by simpa using g1) (by simpa using g2)
   simpa using z
 | .l ds,.l es,x,y,u,w,A,h1,h2,a,r1,r2,hu=>by
  have jX :=h1;let h2':=h2;unfold Is at h1 h2;obtain ⟨p,xs,rfl,q1,k1⟩:=h1;obtain ⟨p',ys,rfl,q2,k2⟩:=h2;cases r1;cases r2;by_cases e:p=p'
  ·subst e
   rw [wG I _ _ _ jX h2' a];exact .same _
  ·refine .of_refs e ?_
   obtain ⟨AI,v1,t1,_⟩:=I.list q1;obtain ⟨eV,v2,t2,_⟩:=I.list q2;unfold iQ;unfold dep at hu;unfold alike at a;by_cases el:AI.length=eV.length
   ·rw [dW,k1.length,k2.length,v1.length,v2.length]
    let z:=SeqAt.RcAt.lists (A:=A) (e:=jW ds es) t1.isList t2.isList (by simpa using el) ga fun j g1 g2=>
     g6 I ds es xs ys AI eV A.in1 k1 k2 a v1 v2 (by rw [in1_units];omega) j (by simpa using g1) (by simpa using g2)
    rw [el,yM,beq_self_eq_true,ZU];rwa [KW,el] at z
   ·let ne:c7 ds es=false:=by
     rw [dW,k1.length,k2.length,v1.length,v2.length,beq_eq_false_iff_ne.mpr el,WH]
    rw [ne];exact SeqAt.RcAt.lists_lengths t1.isList t2.isList (by simpa using el) ga
 | .v _,.t _,_,_,_,_,_,_,_,a,_,_,_=>by unfold alike at a;cases a
 | .v _,.l _,_,_,_,_,_,_,_,a,_,_,_=>by unfold alike at a;cases a
 | .t _,.v _,_,_,_,_,_,_,_,a,_,_,_=>by unfold alike at a;cases a
 | .t _,.l _,_,_,_,_,_,_,_,a,_,_,_=>by unfold alike at a;cases a
 | .l _,.v _,_,_,_,_,_,_,_,a,_,_,_=>by unfold alike at a;cases a
 | .l _,.t _,_,_,_,_,_,_,_,a,_,_,_=>by unfold alike at a;cases a
theorem g6 (I:Inv X pX Y H s):∀(ds es:List Da)(xs ys:θ)(us ws:τ)(A:KH),iY X.K H ds xs->iY X.K H es ys->dS ds es=true->Vals xs us->Vals ys ws->A.units+jk ds<Mn->
  ∀(j:Nat)(h1:j<us.length)(h2:j<ws.length),SeqAt.EqAt A s us[j] ws[j] (jW ds es j)
 | d::ds,e::es,xs,ys,us,ws,A,k1,k2,a,v1,v2,hu,j,h1,h2=>by
  cases xs with
  | nil=>unfold iY at k1;exact k1.elim
  | cons x xs=>
   cases ys with
   | nil=>unfold iY at k2;exact k2.elim
   | cons y ys=>
    cases v1 with
    | cons r1 v1=>
     cases v2 with
     | cons r2 v2=>
      unfold iY at k1 k2;unfold dS at a;rw [QQ] at a;unfold jk at hu;cases j with
      | zero=>exact ID I d e x y _ _ A k1.1 k2.1 a.1 r1 r2 ga
      | succ j=>exact g6 I ds es xs ys _ _ A k1.2 k2.2 a.2 v1 v2 ga j (by simpa using h1) (by simpa using h2)
 | [],_,xs,_,us,_,_,k1,_,_,v1,_,_,_,h1,_=>by
  cases xs with
  | nil=>
   cases v1;exact DL h1 (Oi _)
  | cons x xs=>unfold iY at k1;exact k1.elim
 | _::_,[],_,ys,_,ws,_,_,k2,_,_,v2,_,_,_,h2=>by
  cases ys with
  | nil=>
   cases v2;exact DL h2 (Oi _)
  | cons y ys=>unfold iY at k2;exact k2.elim
end
end
section
variable {X:Cx}
inductive NG (K:Frag)(x:V)(y:V)(H:Hp)(Q:VK):Prop
|mk (ds es:_)(_:((Is K H (.t ds) x/\Is K H (.t es) y)\/(Is K H (.l ds) x/\Is K H (.l es) y)))(_:dS ds es=true)(_:jk ds<=60)(_:Q (.bl (c7 ds es)) H)
inductive IE (K:Frag)(x:V)(y:V)(H:Hp)(Q:VK):Prop
|mk (ds es:_)(_:((Is K H (.t ds) x/\Is K H (.t es) y)\/(Is K H (.l ds) x/\Is K H (.l es) y)))(_:dS ds es=true)(_:jk ds<=60)(_:Q (.bl (!c7 ds es)) H)
def jm (hu:X.A.units+64<Mn):kA X (Mg .Eq) (NG X.K):=by
 intro pX s Y H x y v u Q I rx ry h;obtain ⟨ds,es,h,a,hd,q⟩:=h
 rcases h with ⟨h1,h2⟩|⟨h1,h2⟩
 ·unfold Is at h1 h2
  obtain ⟨p,xs,rfl,q1,k1⟩:=h1;obtain ⟨p',ys,rfl,q2,k2⟩:=h2;cases rx;cases ry;obtain ⟨AI,v1,t1,_⟩:=I.tuple q1;obtain ⟨eV,v2,t2,_⟩:=I.tuple q2
  let z:=SeqAt.RcAt.tuples (A:=X.A) (e:=jW ds es) t1 t2 ga fun j g1 g2=>
   g6 I ds es xs ys AI eV X.A.in1 k1 k2 a v1 v2 (by rw [in1_units];omega) j (by simpa using g1) (by simpa using g2)
  refine z X.prog X.w X.xe _ ⟨.bl _,H,I,rfl,?_⟩;let e:=dW ds es;rw [k1.length,k2.length,v1.length,v2.length] at e;simpa [e] using q
 ·unfold Is at h1 h2
  obtain ⟨p,xs,rfl,q1,k1⟩:=h1;obtain ⟨p',ys,rfl,q2,k2⟩:=h2;cases rx;cases ry;obtain ⟨AI,v1,t1,_⟩:=I.list q1;obtain ⟨eV,v2,t2,_⟩:=I.list q2;let e:=dW ds es;rw [k1.length,k2.length,v1.length,v2.length] at e;by_cases el:AI.length=eV.length
  ·let z:=SeqAt.RcAt.lists (A:=X.A) (e:=jW ds es) t1.isList t2.isList (by simpa using el) ga fun j g1 g2=>
    g6 I ds es xs ys AI eV X.A.in1 k1 k2 a v1 v2 (by rw [in1_units];omega) j (by simpa using g1) (by simpa using g2)
   refine z X.prog X.w X.xe _ ⟨.bl _,H,I,rfl,?_⟩;rw [el,yM,beq_self_eq_true,ZU] at e;simpa [e,el] using q
  ·let ne:c7 ds es=false:=by rw [e,beq_eq_false_iff_ne.mpr el,WH]
   rw [ne] at q;exact SeqAt.RcAt.lists_lengths t1.isList t2.isList (by simpa using el) ga X.prog X.w X.xe _ ⟨.bl _,H,I,rfl,q⟩
def ng (hu:X.A.units+64<Mn):kA X (Mg .NotEq) (IE X.K):=by
 intro pX s Y H x y v u Q I rx ry h;obtain ⟨ds,es,h,a,hd,q⟩:=h
 rcases h with ⟨h1,h2⟩|⟨h1,h2⟩
 ·unfold Is at h1 h2
  obtain ⟨p,xs,rfl,q1,k1⟩:=h1;obtain ⟨p',ys,rfl,q2,k2⟩:=h2;cases rx;cases ry;obtain ⟨AI,v1,t1,_⟩:=I.tuple q1;obtain ⟨eV,v2,t2,_⟩:=I.tuple q2
  let z:=SeqAt.RcNeAt.tuples (A:=X.A) (e:=jW ds es) t1 t2 ga fun j g1 g2=>
   g6 I ds es xs ys AI eV X.A.in1 k1 k2 a v1 v2 (by rw [in1_units];omega) j (by simpa using g1) (by simpa using g2)
  refine z X.prog X.w X.xe _ ⟨.bl _,H,I,rfl,?_⟩;let e:=dW ds es;rw [k1.length,k2.length,v1.length,v2.length] at e;simpa [e] using q
 ·unfold Is at h1 h2
  obtain ⟨p,xs,rfl,q1,k1⟩:=h1;obtain ⟨p',ys,rfl,q2,k2⟩:=h2;cases rx;cases ry;obtain ⟨AI,v1,t1,_⟩:=I.list q1;obtain ⟨eV,v2,t2,_⟩:=I.list q2;let e:=dW ds es;rw [k1.length,k2.length,v1.length,v2.length] at e;by_cases el:AI.length=eV.length
  ·let z:=SeqAt.RcNeAt.lists (A:=X.A) (e:=jW ds es) t1.isList t2.isList (by simpa using el) ga fun j g1 g2=>
    g6 I ds es xs ys AI eV X.A.in1 k1 k2 a v1 v2 (by rw [in1_units];omega) j (by simpa using g1) (by simpa using g2)
   refine z X.prog X.w X.xe _ ⟨.bl _,H,I,rfl,?_⟩;rw [el,yM,beq_self_eq_true,ZU] at e;simpa [e,el] using q
  ·let ne:c7 ds es=false:=by rw [e,beq_eq_false_iff_ne.mpr el,WH]
   rw [ne] at q;exact SeqAt.RcNeAt.lists_lengths t1.isList t2.isList (by simpa using el) ga X.prog X.w X.xe _ ⟨.bl _,H,I,rfl,q⟩
def YT:V->Value
 | .ty n=>.type n
 | .ref a=>.ref a
 | _=>.none
def TX:V->Bool
 | .ty _=>true
 | .ref _=>true
 | _=>false
def acx (h:TX c=true)(r:RelV c u):u=YT c:=by
 cases c<;>first|exact r|(cases h;done)
inductive YU (K:Frag)(xs:θ)(H:Hp)(Q:VK):Prop
|mk (x c t b:_)(_:xs=[x,c])(_:TX c=true)(_:pj K H x t)(_:VM K t (YT c)=some b)(_:Q (.bl b) H)
def yO:iz X (.builtin "isinstance") (YU X.K):=by
 intro pX s Y H xs us Q I r h;obtain ⟨x,c,t,b,rfl,hc,ty,e,q⟩:=h;obtain ⟨u,w,rfl,r1,r2⟩:=vals2 r;obtain rfl:=acx hc r2;exact acg I r1 ty e fun tk=>⟨.bl b,H,I.tok tk,rfl,q⟩
end
def bJ:Kv "len"=some (.builtin "len"):=by decide+kernel
def TY:Kv "abs"=some (.builtin "abs"):=by decide+kernel
def nh:Kv "isinstance"=some (.builtin "isinstance"):=by decide+kernel
def NH:Kv "int"=some (.type "int"):=by decide+kernel
def TZ:Kv "str"=some (.type "str"):=by decide+kernel
def jY:Kv "list"=some (.type "list"):=by decide+kernel
def acn:Kv "tuple"=some (.type "tuple"):=by decide+kernel
def acM:Kv "dict"=some (.type "dict"):=by decide+kernel
def T1 {pos:Pos}(hg:Gl X x)(hm:X.mg x=none)(hv:Kv x=some (.type n))(hn:x≠ "__name__":=by decide)(hd:(x==("__debug__":Str))=false:=by decide):PE X (.Name x pos) (tC (.ty n)):=zaa (v:=.ty n) hg hm hv rfl hn hd
def VD (_ j:Int):Prop:=j≠0
def nz (h:j≠0):VD i j:=h
def gP :kA X (Nn .Mod) (rI VD fun i j=>.int (i.fmod j)):=zaG
end Ty
namespace TyAtt
open PySem PySem.W PySem.Calls PyProof.Rows
open Builtin.Int (intBits)
def aeF {ns:π}(h:(WData.list (ns.map WData.int)).layable=true)(hn:n∈ns):intBits n<=1048576:=by
 obtain ⟨_,_,hw⟩:=layableW_iff.mp h
 let a:∀(l:π),n∈l->intBits n<=WData.weightAll (l.map WData.int):=by
  intro l
  induction l with
  | nil=>intro q;cases q
  | cons y r ih=>
   intro q;rw [DG];unfold WData.weightAll
   rcases KD.mp q with z|z
   ·subst z
    have:intBits n<=WData.weight (.int n):=by
     unfold WData.weight;exact DU _
    omega
   ·have:=ih z
    omega
 let b:=a ns hn;unfold WData.weight at hw;omega
def yP {l:OpenLaw}{loose:ψ}
  (hn:l.most=some n) (hdf:d.params.defaults=[])
  (call:∀(w:World)(oQ mM:D')(mg mb:ξ)(fa:AG)(o:Obj)(pm cd doc:Value)(a:AG)(vs:τ)(ns:π),
   Ground q loose [] XP w oQ mg mb mM.heap->YP w mM.heap->
   mM.heap.get? fa=some o->o.data=.func (docDef d.name d.params d.body d.scope pm cd doc)->mM.heap.CodeRec cd d.name->mg d.name=some (.ref fa)->
   mM.heap.get? a=some {cls:=.type "list",data:=.seq vs.toArray}->IntsAre vs ns->ns.length<=n->(∀i∈ns,intBits i<=1048576)->mM.gens= #[]->
   NF (CY l.prog w) callerA (.call (.ref fa) ⟨[.ref a],[]⟩) (fun r s'=>r=.ok (.ret (.bool true))/\OldK mM.heap s'.heap/\s'.os=mM.os/\Om s'.gens) mM):
  WalkO q loose XP YP l.row.toRowW d [] (fun f vs=>PySem.call f vs):=by
 intro w oQ mM mg mb G σ fa o pm cd doc dV kV ho hd uR hD YV hg args vals as QY hlay hrd hwl hlo;obtain rfl:dV=.none:=Dflts.none hD hdf;obtain rfl:kV=.none:=Dflts.noKw hD;obtain ⟨a,vs,ns,rfl,rfl,VE,hints,hlen⟩:=Att.Ky hn QY hwl;let hb:∀i∈ns,intBits i<=1048576:=fun i hi=>aeF (layW_cons hlay).1 hi;refine enter_call (codeAny_mono (call w oQ mM mg mb fa o pm cd doc a vs ns G σ ho (fd_plain hd) uR YV VE hints hlen hb hg) fun r s' hq=>?_);obtain ⟨rfl,h2,h3,h4⟩:=hq;show ⟨.inl ⟨.bool true,.bool true,[],rfl,fun _=>rfl,.bool true,Att.Kz l _,fun _=>⟨z8,fun _ hm=>(nomatch hm)⟩⟩,h2,h3,h4⟩
end TyAtt
namespace Ty
open PySem PySem.Spec PyProof.Rows L2
open Builtin.Int (intBits)
structure Fn (P:FQ)(w:World)(K:Frag)(mg:ξ)(iN:Heap)(CX:mR)(k:Nat)(x:Str)(ps:ψ)(sp:Sp):Prop where
 ex:∃(f:AG)(fd:FuncData),dI P w K mg iN CX k f fd ps sp/\Binds K fd ps []/\mg x=some (.ref f)/\keepIn K (.ref f)=true
structure Def (K:Frag)(mg:ξ)(x:Str)(st:Stmt)(ps:ψ):Prop where
 ex:∃(f:AG)(dV oc:Value)(od:Ι)(kV doc pm:Value)(an:Ι)(cL ct:Value)(uM:Ο),
  K.lookup f=some ⟨oc,od,.func (fnOf x x (aC st) (au st) (ae st) dV kV doc pm an cL ct),uM⟩/\codeIn K cL x=true/\keepIn K (.ref f)=true/\
  Binds K (fnOf x x (aC st) (au st) (ae st) dV kV doc pm an cL ct) ps []/\mg x=some (.ref f)
def Def.of {K:Frag}{st:Stmt}(F:sU K x x st f fd)(b:Binds K fd ps [])(m:mg x=some (.ref f)):Def K mg x st ps:=by
 obtain ⟨oc,od,kV,doc,pm,an,cL,ct,uM,rfl,lk,uR⟩:=F.ex;show ⟨f,.none,oc,od,kV,doc,pm,an,cL,ct,uM,lk,uR,F.kp,b,m⟩
section
variable {P:FQ}{w:World}{K:Frag}{mg:ξ}{iN:Heap}{CX:mR}
def Def.ok {st:Stmt}(D:Def K mg x st ps)(S:aE N ps (ae st))(len:∀vs H Q E,sp vs H Q E->vs.length=ps.length)
  (gY:∀(f:AG)(cL:Value)(A:KH)(lj:List Env)(s:D')(H:Hp)(vs:θ)(Q:VK)(E:XK),cK k (A.deeper (NT x (ae st) s.heap.objs.size f cL))->sp vs H Q E->
   ∃t,qv (pC CX P w K mg iN N x (ae st) f cL A lj s H E).yq (au st) t/\t {nx:=fun _ H'=>Q .dw H',rt:=Q} (start N vs) H):Fn P w K mg iN CX (k+1) x ps sp:=by
 obtain ⟨f,dV,oc,od,kV,doc,pm,an,cL,ct,uM,lk,uR,kp,b,m⟩:=D.ex;show ⟨f,_,HQ lk uR S len fun A lj s H vs Q E hr HR=>?_,b,m,kp⟩;obtain ⟨t,h,q⟩:=gY f cL A lj s H vs Q E hr HR;show ⟨t,h.yq,q⟩
def _root_.L2.sU.okG {st:Stmt}(F:sU K x x st f fd)(S:aE N ps (ae st))(len:∀vs H Q E,sp vs H Q E->vs.length=ps.length)
  (gY:∀(cL:Value)(A:KH)(lj:List Env)(s:D')(H:Hp)(vs:θ)(Q:VK)(E:XK),cK k (A.deeper (NT x (ae st) s.heap.objs.size f cL))->sp vs H Q E->
   ∃t,qv (pC CX P w K mg iN N x (ae st) f cL A lj s H E).yq (au st) t/\t {nx:=fun _ H'=>Q .dw H',rt:=Q} (start N vs) H):dI P w K mg iN CX (k+1) f fd ps sp:=by
 obtain ⟨oc,od,kV,doc,pm,an,cL,ct,uM,rfl,lk,uR⟩:=F.ex;refine HQ lk uR S len fun A lj s H vs Q E hr HR=>?_;obtain ⟨t,h,q⟩:=gY cL A lj s H vs Q E hr HR;show ⟨t,h.yq,q⟩
def DH (CX:mR):Prop:=∀lj H s e s',CX lj H s E0 e s' ->False
def vp {X:Cx}(h:DH CX):Passes CX X.yq E0:=fun _ _ _ _ _ _ _ q=>(h _ _ _ _ _ q).elim
section
variable {X:Cx}{k:Nat}{ps:ψ}{sp:Sp}{E:XK}{x:Str}{p pos:Pos}{e:Expr}{es:Β}{t:TA}
def yQ (F:Fn X.prog X.w X.K X.mg X.iN CX k x ps sp)(hr:cK k X.A)(hx:Passes CX X E)(ha:PA X (e::es) t)(hg:Gl X x:=by rfl)(uU:(x==("__debug__":Str))=false:=by decide)
  (he:EX (e::es) X.env=(false,DX e X.env)::EX es X.env:=by rfl) (vf:(Kw pos (EX es X.env)).any (·.1)=false:=by rfl):PE X (.Call (.Name x p) (e::es) [] pos) (HN sp [] E t):=by
 obtain ⟨f,fd,G,b,m,kp⟩:=F.ex;exact afe G hr hg m kp b .nil hx ha uU he vf
end
end
def NI (K:Frag):Sp:=fun vs H Q _=>∃(a:AG)(ns:π),vs=[.ref a]/\aU K H a (ns.map V.int)/\ns.length<=63/\(∀i∈ns,intBits i<=1048576)/\∀H',Q (.bl true) H'
def walk {l:PySem.W.OpenLaw}{loose:ψ}{K:Params->Frag}{CX:World->mR}
  (hn:l.most=some 63) (hdf:d.params.defaults=[]) (hi:importsNone q=true) (hr:cK k callerA)
  (hY:∀(w:World)(h:Heap),YP w h->(K w.params).In h) (hm:∀w,DH (CX w))
  (F:∀(w:World)(mg:ξ)(fa:AG)(h:Heap),(K w.params).In h->h.Ns K0 mg->mg d.name=some (.ref fa)->
   ∃fd:FuncData,(∀(s:D')(u:Value),BindsTo s fd ⟨[u],[]⟩ [(x,u)])/\
    ∀iN:Heap,(K w.params).In iN->iN.Ns K0 mg->dI l.prog w (K w.params) mg iN (CX w) k fa fd [x] (NI (K w.params))):
  PySem.W.WalkO q loose XP YP l.row.toRowW d [] (fun f vs=>PySem.call f vs):=by
 refine TyAtt.yP hn hdf fun w oQ mM mg mb fa o pm cd doc a vs ns G σ ho hd uR YV VE hints hlen hb hg=>?_;let KX:=hY w _ σ;obtain ⟨fd,hbd,hF⟩:=F w mg fa _ KX G.T.g YV;exact ae1 KX G.T.g G.T.b G.T.builtins G.T.nolimit (G.T.seer hi) hg VE hints (DC hlen gt) hr hF hbd (fun H hO hS=>⟨a,ns,rfl,hS,hlen,hb,fun _=>rfl⟩) fun H e s'=>hm w [] H mM e s'
end Ty
namespace Ty
open PySem PySem.Spec PyProof.Rows L2
def DictAt (h:Heap)(a:AG)(dx:Ι):Prop:=∃o,h.get? a=some o/\o.dict=dx
def ba (P:FQ)(w:World):mR:=fun lj H s E e s'=>∃(a:AG)(cls a0:Value)(dx:Ι)(H':Hp)(B:Heap),
 e=.ref a/\Heap.FlyingW B lj a cls a0 s'.heap/\DictAt s'.heap a dx/\Un (HH lj) [] H H' s.heap s'.heap/\lG P w H' s'.heap/\s'.os=s.os/\Om s'.gens/\
 (∀b o,s.heap.get? b=some o->b∉HH lj->∃o',B.get? b=some o')/\(∀b u,H' b=some u->∃o,B.get? b=some o)/\E cls dx H'
def ba.yR :DH (ba P w):=fun _ _ _ _ _ h=>by obtain ⟨_,_,_,_,_,_,_,_,_,_,_,_,_,_,_,z⟩:=h;exact z
section
variable {P:FQ}{w:World}{K:Frag}{mg:ξ}{iN:Heap}{N:ψ}{qual:Str}{scope:Scope}{f:AG}{cL:Value}{A:KH}{lj:List Env}{s0:D'}{H0:Hp}{E:XK}
abbrev rf (P:FQ)(w:World)(K:Frag)(mg:ξ)(iN:Heap)(N:ψ)(qual:Str)(scope:Scope)(f:AG)(cL:Value)(A:KH)(lj:List Env)(s0:D')(H0:Hp)(E:XK):Cx:=pC (ba P w) P w K mg iN N qual scope f cL A lj s0 H0 E
end
section
variable {X:Cx}{pX:η}{Y:L2.St}{H H':Hp}{s:D'}
def XP (X:Cx)(pX:η)(Y:L2.St)(E:XK)(e:Value)(s':D'):Prop:=∃H s,Inv X pX Y H s/\ba X.prog X.w X.stack H s E e s'
end
set_option maxHeartbeats 1000000
section
variable {prog:FQ}{w:World}{A:KH}{R:Φ}{s:D'}
def zaT {ifs:Β}(I:Nat->D'->Prop)
  (turn:∀n s,I n s->C' (CY prog w) A (pyNext it) (fun r mM=>match r with
   | none=>R (.ok .next) mM
   | some v=>C' (CY prog w) A (qh target it v) (fun _ s₁' =>C' (CY prog w) A (assign target env v) (fun _ qu=>
     C' (CY prog w) A (forIn ifs true fun c r=>if r=true then do let ok <- isTrue c env (DX c env);pure (ForInStep.yield ok) else pure (ForInStep.yield r)) (fun ok s₃=>
      if ok=true then C' (CY prog w) A (DX elt env) (fun x s₄=>
       C' (CY prog w) A (call (.builtin "list.append") [acc,x]) (fun _ s₅=>∃m,m<n/\I m s₅) (fun _ _=>False) s₄) (fun _ _=>False) s₃
      else ∃m,m<n/\I m s₃) (fun _ _=>False) qu) (fun _ _=>False) s₁') (fun _ _=>False) mM) (fun _ _=>False) s)
  (n:Nat) (h:I n s):
  NF (CY prog w) A (.compLoop (.ListComp elt [⟨target,iter,ifs,0⟩] scope pos) 0 it acc env) R s:=by
 refine codeAny_loop rfl I (fun n s hI=>?_) n h;show C' _ A ((compTurn (.ListComp elt [⟨target,iter,ifs,0⟩] scope pos) 0 it acc env).onRaise (fun x=>do noteFrame x env;theTreesLotGoes x)) _ _ s;refine wpAny_noted ?_;rw [compTurn_list];refine CV (wpAny_standAt (CV (Ku (turn n s hI) (fun r mM oR=>?_) fun _ _ h'=>h'.elim)));cases r with
 | none=>exact DV oR
 | some v=>
  refine CV (Ku oR (fun _ s₁' h₁' =>?_) fun _ _ h'=>h'.elim);refine CV (Ku h₁' (fun _ qu ra=>CV (Ku ra (fun ok s₃ h₃=>?_) fun _ _ h'=>h'.elim)) fun _ _ h'=>h'.elim);cases ok with
  | false=>exact DV ⟨rfl,h₃⟩
  | true=>
   exact CV (CV (Ku h₃ (fun x s₄ h₄=>CV (Ku h₄ (fun _ s₅ h₅=>DV (DV ⟨rfl,h₅⟩)) fun _ _ h'=>h'.elim)) fun _ _ h'=>h'.elim))
end
def bx (env:Env)(fr:ψ):List (Str×AG):=fr.filterMap fun n=>(env.cells.lookup n).map fun c=>(n,c)
theorem lookup_mem {Z:Type}{c:Z}:∀{l:List (Str×Z)},l.lookup x=some c->(x,c)∈l
 | [],h=>by simp at h
 | (y,d)::r,h=>by
  rw [anO] at h;cases e:x==y with
  | true=>
   rw [e] at h;let e1:x=y:=by simpa using e
   cases h;rw [e1];exact EJ
  | false=>
   rw [e] at h;exact FF _ (lookup_mem h)
def ab_ (h:(x,c)∈bx env fr):env.cells.lookup x=some c:=by
 obtain ⟨n,_,e⟩:=zj.mp h;cases q:env.cells.lookup n with
 | none=>erw [q] at e
 | some d=>
  rw [q] at e;let e':(n,d)=(x,c):=FA e;cases e';exact q
def gT (h:(bx env fr).lookup x=some c):env.cells.lookup x=some c:=ab_ (lookup_mem h)
theorem pG (q:env.cells.lookup x=some c):∀{fr:ψ},x∈fr->(bx env fr).lookup x=some c
 | [],h=>nomatch h
 | y::r,h=>by
  unfold bx;rw [mG];by_cases e:x=y
  ·subst e
   rw [q];simp
  ·let hr:x∈r:=by
    rcases KD.mp h with z|z
    ·exact DL z e
    ·exact z
   let ih:=pG q hr;cases z:env.cells.lookup y with
   | none=>exact ih
   | some d=>
    show OS x ((y,d)::_)=_;rw [anO];let ne:(x==y)=false:=by simpa using e
    rwa [ne]
def iR (env:Env):List Str->Prop
 | []=>True
 | y::r=>(env.kindOf y=some .cell\/env.kindOf y=some .free)/\iR env r
theorem iR.at :∀{fr:ψ},iR env fr->x∈fr->env.kindOf x=some .cell\/env.kindOf x=some .free
 | [],_,h=>nomatch h
 | y::r,a,h=>by
  rcases KD.mp h with z|z
  ·rw [z]
   exact a.1
  ·exact iR.at a.2 z
section
variable {X:Cx}
def yt (X:Cx)(NB:ψ)(scope:Scope)(fn:Str->Bool)(cl:List (Str×AG))(C:AG)(s:D')(H:Hp)(fp:ω):Cx:=
 {prog:=X.prog,w:=X.w,K:=X.K,mg:=X.mg,iN:=X.iN,A:=X.A,N:=NB,oQ:=s,H₀:=H,env:=compEnvC scope cl C X.env,lj:=X.stack,stack:=X.stack,ex:=fp,fn:=fn,calm:=X.calm,pn:=[],xe:=fun _ _=>False}
abbrev rP (X:Cx)(NB:ψ)(scope:Scope)(cl:List (Str×AG))(C:AG)(s:D')(H:Hp)(fp:ω):Cx:=yt X NB scope (fun _=>false) cl C s H fp
structure Q4 (X:Cx)(scope:Scope)(ow:AG->List (Str×AG))(fn:Str->Bool)(fr:ψ)(mL:Ν):Prop where
 Q6:closureFor scope X.env=pure (bx X.env fr)
 kind:scope.kind=.function
 names:∀y∈scope.names,y.2=.local->scope.names.lookup y.1=some .local
 free:∀y∈scope.names,y.2=.free->y.1∈fr
 mL:mL.map (fun i=>X.N[i]?)=fr.map some
 out:iR X.env fr
 inn:iR (compEnvC scope [] 0 X.env) fr
 new:∀{s:D'} {Q:Env->D'->Prop} {E:ε},(∀h',h'.Ns s.heap.objs.size (fun _=>none)->(∀b o,s.heap.get? b=some o->h'.get? b=some o)->(∀x c,(ow s.heap.objs.size).lookup x=some c->h'.IsCell c none)->
   Q (newEnv scope s.heap.objs.size X.env.globals (ow s.heap.objs.size++bx X.env fr) X.env.qual none .none (some X.env) builtinsNs) {s with heap:=h',toks:=s.toks+([]:List (Str×Value)).length})->
  C' (CY X.prog X.w) X.A (newFunctionEnv scope X.env.globals (bx X.env fr) [] X.env.qual none .none (some X.env)) Q E s
 ge:∀C x c,(ow C).lookup x=some c->C<c
 one:∀C x z c,(ow C).lookup x=some c->(ow C).lookup z=some c->x=z
 fn1:∀C x,fn x=true->(ow C).lookup x≠none
 only:∀z∈scope.names,z.2=.cell->fn z.1=true
 ny:∀C,∀x∈fr,(ow C).lookup x=none
def vq {o cl:List (Str×AG)}(h:(o++cl).lookup x=some c):o.lookup x=some c\/(o.lookup x=none/\cl.lookup x=some c):=by
 rw [zY] at h;cases e:o.lookup x with
 | none=>rw [e] at h;exact .inr ⟨rfl,h⟩
 | some d=>rw [e] at h;exact .inl h
structure wI (X:Cx)(scope:Scope)(fr:ψ)(mL:Ν):Prop where
 Q6:closureFor scope X.env=pure (bx X.env fr)
 cell:∀y∈scope.names,y.2≠.cell
 kind:scope.kind=.function
 names:∀y∈scope.names,y.2=.local->scope.names.lookup y.1=some .local
 free:∀y∈scope.names,y.2=.free->y.1∈fr
 mL:mL.map (fun i=>X.N[i]?)=fr.map some
 out:iR X.env fr
 inn:iR (compEnvC scope [] 0 X.env) fr
def PF (X:Cx)(ifs:Β)(t:TT):Prop:=
 ∀(pX:η)(s:D')(Y:L2.St)(H:Hp)(Q:Bool->Hp->Prop),Inv X pX Y H s->t Y H Q->
  C' (CY X.prog X.w) X.A (forIn ifs true fun c r=>if r=true then do let ok <- isTrue c X.env (DX c X.env);pure (ForInStep.yield ok) else pure (ForInStep.yield r)) (TP X pX Y Q) X.xe s
def jn:TT:=fun _ H Q=>Q true H
def pH:PF X [] jn:=fun _ _ _ H _ I h=>wpAny_tests_nil ⟨H,I,h⟩
def NJ (h:PT X c t):PF X [c] t:=fun pX s Y H Q I q=>wpAny_tests_one (h pX s Y H Q I q)
def sB (k:Nat)(mL:Ν)(Y:L2.St):L2.St:=EI k none++mL.map fun i=>(Y[i]?).getD none
def lW (D:AG)(g:TG)(tt:TT)(te:TE)(J:It)(Y0:L2.St)(H1:Hp)(Q:VK):Prop:=∃W:Nat->Nat->L2.St->List V->Hp->Prop,
 (∃m,W 0 m Y0 [] (upd H1 D (.lst [])))/\∀i m Y2 ys H2,W i m Y2 ys H2->(J.stop i H2/\Q (.ref D) H2)\/(J.go i H2/\∀x H3,J.M6 i H2 x H3->g x Y2 H3 fun Y4 H4=>tt Y4 H4 fun b H5=>
  if b=true then te Y4 H5 fun v H6=>H6 D=some (.lst ys)/\ys.length<C_/\∃m',m'<m/\W (i+1) m' Y4 (ys++[v]) (upd H6 D (.lst (ys++[v]))) else ∃m',m'<m/\W (i+1) m' Y4 ys H5)
def qH (k:Nat)(mL:Ν)(wi:TI)(g:TG)(tt:TT)(te:TE):TE:=fun Y H Q=>wi Y H fun J H1=>∀D,H1 D=none->lW D g tt te J (sB k mL Y) H1 Q
def acL (h:(sB k mL Y)[i]?=some (some v)):k<=i/\∃j,mL[i-k]?=some j/\Y[j]?=some (some v):=by
 unfold sB at h;by_cases c:i<k
 ·rw [K_ (by simpa using c),OV,mK c] at h
  cases h
 ·rw [Kx (by simpa using ahB c),OT,Wp] at h
  show ⟨ahB c,?_⟩;cases e:mL[i-k]? with
  | none=>erw [e] at h
  | some j=>
   rw [e] at h;show ⟨j,rfl,?_⟩;let h':(Y[j]?).getD none=some v:=FA h;cases z:Y[j]? with
   | none=>erw [z] at h'
   | some o=>
    rw [z] at h';exact oP some h'
def tj {Y:L2.St}
    {RR:Value->AG->Result->D'->Prop} {E:ε} (hc:X.calm=true) (B:Q4 X scope ow fn fr mL)
  (hg:∀C s H fp,PG (yt X (tn++fr) scope fn (ow C++bx X.env fr) C s H fp) target g) (ht:∀C s H fp,PF (yt X (tn++fr) scope fn (ow C++bx X.env fr) C s H fp) ifs tt) (he:∀C s H fp,PE (yt X (tn++fr) scope fn (ow C++bx X.env fr) C s H fp) elt te)
  (I2:Inv X pX Y H2 s2) (T:Turn X.prog X.w X.K target J fp it T2) (TK:T2 0 s2.heap) (f2:∀b∈fp,o_ X pX H2 b) (q:∀D,H2 D=none->lW D g tt te J (sB tn.length mL Y) H2 Q)
  (fin:∀D C H' s' m,Inv X pX Y H' s' ->s'.heap.Ns C m->o_ X pX H' C->Q (.ref D) H' ->RR (.ref D) C (.ok .next) s'):
  C' (CY X.prog X.w) X.A (newList []) (fun acc s₃=>C' (CY X.prog X.w) X.A (newFunctionEnv scope X.env.globals (bx X.env fr) [] X.env.qual none .none (some X.env)) (fun YW s₄=>
   NF (CY X.prog X.w) X.A (.compStart (.ListComp elt [⟨target,iter,ifs,0⟩] scope pos) 0 (.ref it) acc {YW with scope:=relabel scope X.env}) (RR acc YW.locals) s₄) E s₃) E s2:=by
 refine VF (B.new (fun oR VG hk₁ hc₁=>?_));let I3:Inv X pX Y (upd H2 s2.heap.objs.size (.lst [])) {s2 with heap:=s2.heap.push {cls:=.type "list",data:=.seq ([]:List Value).toArray}}:=I2.VA (t':=s2.toks) (AI:=[]) .nil (KZ _);obtain ⟨W,⟨m0,w0⟩,turn⟩:=q s2.heap.objs.size (I2.bZ.fresh (DU _));generalize hH3:upd H2 s2.heap.objs.size (.lst [])=H3 at I3 w0
 let f3:∀b∈fp,o_ X pX H3 b:=fun b hb=>by
  obtain ⟨a0,a1⟩:=f2 b hb;show ⟨?_,a1⟩;obtain ⟨o,e,_⟩:=T.obj _ _ TK b hb;rwa [<-hH3,ao (KJ (FI e))]
 generalize hD:s2.heap.objs.size=D at*;generalize hs3:({s2 with heap:=s2.heap.push {cls:=.type "list",data:=.seq ([]:List Value).toArray}}:D')=s3 at*;let e3:s3.heap=s2.heap.push {cls:=.type "list",data:=.seq ([]:List Value).toArray}:=by rw [<-hs3]
 let XM:T2 0 s3.heap:=T.keep _ _ _ TK fun b _ o e=>by rw [e3];exact K1 _ e
 let kept:∀b o,s3.heap.get? b=some o->oR.get? b=some o:=fun b o e=>hk₁ b o e;generalize hC:s3.heap.objs.size=C at*;let YX:s3.heap.objs.size<=C:=WV hC;let I4:Inv X pX Y H3 {s3 with heap:=oR,toks:=s3.toks+([]:List (Str×Value)).length}:=I3.kept kept
 let fpC:∀b∈fp,b≠C:=fun b hb z=>by
  obtain ⟨o,e,_⟩:=T.obj _ _ XM b hb;exact DL z (KJ (Kq (FI e) YX))
 let nst:∀b∈fp,b∉HH X.stack:=fun b hb z=>(KD.mp (I3.CQ b z)).elim (f3 b hb).2.1 (f3 b hb).2.2.1
 let old:∀x c,(bx X.env fr).lookup x=some c->c<C:=fun x c e=>by
  obtain ⟨v,ic⟩:=I3.cell x c (gT e);rw [<-hC];exact ic.lt
 let age:∀x z c,(ow C++bx X.env fr).lookup x=some c->(ow C++bx X.env fr).lookup z=some c->x=z:=fun x z c e1 e2=>by
  rcases vq e1 with b1|⟨_,b1⟩<;>rcases vq e2 with b2|⟨_,b2⟩
  ·exact B.one _ _ _ _ b1 b2
  ·exact DL (old z c b2) (Nat.lt_asymm (B.ge _ _ _ b1))
  ·exact DL (old x c b1) (Nat.lt_asymm (B.ge _ _ _ b2))
  ·exact I3.ok.inj x z c (gT b1) (gT b2)
 let agf:∀x c,fn x=true->(ow C++bx X.env fr).lookup x=some c->s3.heap.objs.size<=c:=fun x c hx e=>by
  rcases vq e with b1|⟨a1,b1⟩
  ·exact DC (WV hC) (O0 (B.ge _ _ _ b1))
  ·exact DL a1 (B.fn1 C x hx)
 let nfp:∀b∈fp,∀x c,(ow C++bx X.env fr).lookup x=some c->c≠b:=fun b hb x c e=>by
  rcases vq e with b1|⟨a1,b1⟩
  ·obtain ⟨o,eo,_⟩:=T.obj _ _ XM b hb
   have:=FI eo;rw [hC] at this;exact FG (KJ (ZP this (B.ge _ _ _ b1)))
  ·exact (f3 b hb).2.2.2.2.1 x c (gT b1)
 let YY:∀{x:Str} {c:AG},x∈fr->(bx X.env fr).lookup x=some c->(ow C++bx X.env fr).lookup x=some c:=fun {x c} hx e=>by
  rwa [zY,B.ny C x hx]
 let okB:(yt X (tn++fr) scope fn (ow C++bx X.env fr) C s3 H3 fp).Ok:=by
  show ⟨I3.ok.mod,B.kind,I3.ok.glob,I3.ok.blt,YX,age,fun x hx=>?_,agf,I3.ok.hd,I3.ok.frames,.inl rfl,
   fun b hb=>⟨fpC b hb,fun x c e=>nfp b hb x c e⟩,I3.bs,DC I3.ok.QF I3.sz,fun b o e hb=>?_,nst,I3.stack,I3.HI⟩
  ·let hm:∃k,(x,k)∈scope.names/\k≠.local/\(k=.cell\/k=.free):=by
    have:∃k',(relabel scope X.env).names.lookup x=some k'/\(k'=.cell\/k'=.free):=by
     rcases hx with z|z
     ·show ⟨_,z,.inl rfl⟩
     ·show ⟨_,z,.inr rfl⟩
    obtain ⟨k',e',h'⟩:=this;obtain ⟨⟨n,k⟩,hn,en⟩:=CZ.mp (lookup_mem e');dsimp only at en;by_cases cc:(k==NameKind.free && X.env.scope.kind==.function && X.env.kindOf n==some .cell)=true
    ·rw [mK cc] at en
     cases en
     let kf:k=.free:=by
      rw [QQ,QQ] at cc;simpa using cc.1.1
     show ⟨k,hn,(by intro z;erw [kf] at z),.inr kf⟩
    ·rw [mJ cc] at en
     cases en;show ⟨k',hn,fun z'=>by rcases h' with y|y<;>(erw [y] at z'),h'⟩
   obtain ⟨k,hk,_,h2⟩:=hm
   rcases h2 with z|z
   ·cases e:(ow C).lookup x with
    | none=>exact DL e (B.fn1 C x (B.only _ hk z))
    | some c=>show ⟨c,by show OS x (ow C++_)=_;rw [zY,e];rfl⟩
   ·let hf:=B.free _ hk z
    obtain ⟨c,ec⟩:=I3.ok.has x (B.out.at hf);show ⟨c,YY hf (pG ec hf)⟩
  ·obtain ⟨_,_,_,h1,_⟩:=f3 b hb
   rcases h1 with z|z
   ·exact I3.ok.MX b o e z
   ·exact O6 _ (Kq (Kq (FI e) I3.ok.QF) z)
 let IB:Inv (yt X (tn++fr) scope fn (ow C++bx X.env fr) C s3 H3 fp) [] (sB tn.length mL Y) H3 {s3 with heap:=oR,toks:=s3.toks+([]:List (Str×Value)).length}:=by
  show ⟨okB,rfl,I3.bare,Un.kept kept,⟨_,VG,fun i x v e1 e2 _=>?_⟩,fun x c e=>(vq e).elim (fun z=>⟨none,hc₁ x c z⟩) (fun z=>I4.cell x c (gT z.2)),?_,fun x c e=>(vq e).elim (fun z=>I3.bZ.fresh (DC YX (O0 (B.ge _ _ _ z)))) (fun z=>I3.jQ x c (gT z.2)),fun p hp=>(nomatch hp),I3.bZ.kept kept,?_⟩
  ·obtain ⟨hk,j,ej,es⟩:=acL e2
   have T3 :fr[i-tn.length]?=some x:=by
    let z:(tn++fr)[i]?=some x:=e1;rwa [Kx hk] at z
   let hx:x∈fr:=DE T3
   let eN:X.N[j]?=some x:=by
    let z:=oP (fun l:List (Option Str)=>l[i-tn.length]?) B.mL;simp only [Wp,ej,T3,R_] at z;exact FA z
   let ko:=B.out.at hx;obtain ⟨m,hn,hl⟩:=I4.loc;obtain ⟨u,r,lk⟩:=hl j x v eN es (by rcases ko with z|z;exact .inr (.inl z);exact .inr (.inr z));show ⟨u,r,?_⟩
   rcases lk with ⟨k1,_⟩|⟨_,c,ec,ic⟩
   ·rcases ko with z|z<;>(erw [z] at k1)
   ·exact .inr ⟨B.inn.at hx,c,YY hx (pG ec hx),ic⟩
  ·exact I3.bZ.fresh YX
  ·have:=oP NO B.mL
   simp only [ir] at this;show (sB tn.length mL Y).length=(tn++fr).length;unfold sB;simp [this]
 let NK:∀{H':Hp},(∀b∈fp,H' b=none)->∀b∈fp,o_ (yt X (tn++fr) scope fn (ow C++bx X.env fr) C s3 H3 fp) [] H' b:=fun hn b hb=>
  ⟨hn b hb,fpC b hb,nst b hb,.inl hb,nfp b hb,fun p hp=>(nomatch hp)⟩
 let st4:T2 0 oR:=T.keep _ _ _ XM fun b _ o e=>kept b o e
 let loop:NF (CY X.prog X.w) X.A (.compLoop (.ListComp elt [⟨target,iter,ifs,0⟩] scope pos) 0 (.ref it) (.ref D) (compEnvC scope (ow C++bx X.env fr) C X.env)) (RR (.ref D) C) {s3 with heap:=oR,toks:=s3.toks+([]:List (Str×Value)).length}:=by
  refine zaT (fun n s'=>∃i Y' ys H',Inv (yt X (tn++fr) scope fn (ow C++bx X.env fr) C s3 H3 fp) [] Y' H' s'/\T2 i s'.heap/\(∀b∈fp,H' b=none)/\W i n Y' ys H') ?_ m0 ⟨0,_,[],H3,IB,st4,fun b hb=>(f3 b hb).1,w0⟩;rintro n s5 ⟨i,Y5,ys,H5,I5,XN,Yv,w5⟩
  rcases turn i n Y5 ys H5 w5 with ⟨stop,qn⟩|⟨go,step⟩
  ·refine Ku (T.done (yt X (tn++fr) scope fn (ow C++bx X.env fr) C s3 H3 fp) rfl rfl rfl hc i [] s5 Y5 H5 (fun _ _=>False) I5 (NK Yv) XN stop) (fun r s6 ⟨hr,I6⟩=>?_) fun _ _ z=>z
   subst hr;obtain ⟨m,hn,_⟩:=I6.loc;let J6:Inv X pX Y H5 s6:=I3.Yj (ch:=fp) I6.os I6.iN I6.bZ I6.bare fun b hb=>⟨(f3 b hb).2.2.2.1,(f3 b hb).2.1,(f3 b hb).2.2.2.2.1,(f3 b hb).2.2.2.2.2⟩;exact fin D C H5 s6 m J6 hn (I3.uT YX I6.free) qn
  ·refine Ku (T.item (yt X (tn++fr) scope fn (ow C++bx X.env fr) C s3 H3 fp) rfl rfl rfl hc i [] s5 Y5 H5 (fun _ _=>False) I5 (NK Yv) XN go) (fun r s6 ⟨u,hr,h6⟩=>?_) fun _ _ z=>z
   subst hr;refine Ku h6 (fun _ s7 ⟨x,H7,I7,r7,y7,st7,fr7⟩=>?_) fun _ _ z=>z;let I7':=I7.pinned (NK fr7) (T.obj _ _ st7)
   let held:∀{Y' :L2.St} {H':Hp} {s':D'},Inv (yt X (tn++fr) scope fn (ow C++bx X.env fr) C s3 H3 fp) ([]++sM fp s7.heap) Y' H' s' ->T2 (i+1) s'.heap/\∀b∈fp,H' b=none:=fun {Y' H' s'} I'=>by
    show ⟨T.keep _ _ _ st7 fun b hb o e=>(I'.pin (b,o) (N8 _ (N8 _ (jj hb e)))).1,fun b hb=>?_⟩;obtain ⟨o,e,d⟩:=T.obj _ _ st7 b hb;exact (I'.pin (b,o) (N8 _ (N8 _ (jj hb e)))).2.1
   refine Ku (hg C s3 H3 fp _ s7 Y5 H7 x u _ I7' r7 (step x H7 y7)) (fun _ s8 ⟨Y8,H8,I8,q8⟩=>?_) fun _ _ z=>z;refine Ku (ht C s3 H3 fp _ s8 Y8 H8 _ I8 q8) (fun ok s9 ⟨H9,I9,q9⟩=>?_) fun _ _ z=>z;cases ok with
   | false=>
    rw [mJ KQ] at q9;obtain ⟨m',hm,w9⟩:=q9;rw [mJ KQ];obtain ⟨a,b⟩:=held I9;show ⟨m',hm,i+1,Y8,ys,H9,I9.jU,a,b,w9⟩
   | true=>
    rw [mK rfl] at q9;rw [mK rfl];refine Ku (he C s3 H3 fp _ s9 Y8 H9 _ I9 q9) (fun v T4 ⟨y9,H10,I10,r10,hDD,hl,m',hm,w10⟩=>?_) fun _ _ z=>z;refine Ku (fE (X:=yt X (tn++fr) scope fn (ow C++bx X.env fr) C s3 H3 fp) _ T4 Y8 H10 (.ref D) [y9] (.ref D) [v] (fun _ H'=>W (i+1) m' Y8 (ys++[y9]) H') I10 rfl (.cons r10 .nil) ⟨D,ys,y9,rfl,rfl,hDD,hl,w10⟩) (fun _ KG ⟨z,XR,I11,_,q11⟩=>?_) fun _ _ z=>z;obtain ⟨a,b⟩:=held I11;show ⟨m',hm,i+1,Y8,ys++[y9],XR,I11.jU,a,b,q11⟩
 exact codeAny_compStart_list loop (T.self X.A 0 _ _ _ st4 loop)
def aeX (hc:X.calm=true)(B:Q4 X scope ow fn fr mL)(hi:PI X target iter wi)
  (hg:∀C s H fp,PG (yt X (tn++fr) scope fn (ow C++bx X.env fr) C s H fp) target g) (ht:∀C s H fp,PF (yt X (tn++fr) scope fn (ow C++bx X.env fr) C s H fp) ifs tt) (he:∀C s H fp,PE (yt X (tn++fr) scope fn (ow C++bx X.env fr) C s H fp) elt te)
  (hs:∀x,Q0 iter X.env x=pure x:=by intro _;rfl):PE X (.ListComp elt [⟨target,iter,ifs,0⟩] scope pos) (qH tn.length mL wi g tt te):=by
 intro pX s Y H Q I h;rw [eval_ListComp];refine wpAny_comprehension_free (use:=none) rfl hs B.Q6 B.kind B.names (cY (hi pX s Y H _ I h) fun v s1 h1=>cY h1 fun itv s2 h2=>?_);obtain ⟨it,fp,T2,J,H2,rfl,I2,T,TK,f2,q⟩:=h2;refine tj (Q:=Q) (RR:=fun acc C=>compPost (CY X.prog X.w) X.A X.xe none (EP X pX Y Q) acc C) hc B hg ht he I2 T TK f2 q ?_;intro D C H' s' m I' hn fc qq;obtain ⟨g0,g1,g2,g3,g4,g5⟩:=fc;show ⟨m,hn,fun h' T5 =>⟨.ref D,H',I'.turned (t':=s'.toks) (fun b o hb e=>(T5.2 b hb).trans e) g0 g1 g3 g4 g5,rfl,qq⟩⟩
def aeT {uX:Pos}(hN:X.N.Nodup)(VH:X.N[i]?=some y)(hx:Loc X.env.scope y)
  (hc:X.calm=true) (B:Q4 X scope ow fn fr mL) (hi:PI X target iter wi)
  (hg:∀C s H fp,PG (yt X (tn++fr) scope fn (ow C++bx X.env fr) C s H fp) target g) (ht:∀C s H fp,PF (yt X (tn++fr) scope fn (ow C++bx X.env fr) C s H fp) ifs tt) (he:∀C s H fp,PE (yt X (tn++fr) scope fn (ow C++bx X.env fr) C s H fp) elt te)
  (MI:Q9 (.ListComp elt [⟨target,iter,ifs,0⟩] scope pos) (some (.Name y py)) uX.line X.env=pure true:=by rfl)
  (hs:∀x,Q0 iter X.env x=pure x:=by intro _;rfl) (hf:X.fn y=true\/X.env.scope.names.lookup y=some .local:=by first|exact .inl rfl|exact .inr rfl|assumption):
  PS X (.Assign [.Name y py] (.ListComp elt [⟨target,iter,ifs,0⟩] scope pos) uX) (CU (qH tn.length mL wi g tt te) (b_ i)):=by
 intro pX s Y H D I h;rw [exec_Assign_Name_used _ _ _ _ MI];refine CV (wpAny_standAt (CV ?_));show C' _ X.A (do let _ <- comprehension (.ListComp elt [⟨target,iter,ifs,0⟩] scope pos) scope X.env _ (newList []) false (DX iter X.env) (some (assign (.Name y py) X.env))) _ _ s
 refine CV (Ku (wpAny_comprehension_free (use:=some (assign (.Name y py) X.env)) (Q:=fun _ s'=>SP X pX D .next s') rfl hs B.Q6 B.kind B.names
  (cY (hi pX s Y H _ I h) fun v s1 h1=>cY h1 fun itv s2 h2=>?_)) (fun _ s' hq=>DV (DV hq)) fun _ _ e=>e)
 obtain ⟨it,fp,T2,J,H2,rfl,I2,T,TK,f2,q⟩:=h2;refine tj (Q:=fun v H1=>b_ i v Y H1 D.nx) (RR:=fun acc C=>compPost (CY X.prog X.w) X.A X.xe (some (assign (.Name y py) X.env)) (fun _ s'=>SP X pX D .next s') acc C) hc B hg ht he I2 T TK f2 q ?_;intro DD C H' s' m I' hn fc qq;obtain ⟨g0,g1,g2,g3,g4,g5⟩:=fc;show C' _ X.A (assign (.Name y py) X.env (.ref DD)) _ _ _;refine wpAny_assign_Name (ve I' hN VH hx (v:=.ref DD) (u:=.ref DD) rfl (fun YC I'' ⟨a,sb,ha⟩=>?_) hf)
 let hCa:C≠a:=by
  rcases ha with z|z
  ·rw [z]
   exact g1
  ·exact fun e=>g4 y a z e.symm
 show ⟨m,hn.sameBut sb hCa,fun h' T5 =>⟨_,H',I''.turned (t':=YC.toks) (fun b o hb e=>(T5.2 b hb).trans e) g0 g1 g3 g4 g5,qq⟩⟩
def wI.g {mL:Ν}(B:wI X scope fr mL):Q4 X scope (fun _=>[]) (fun _=>false) fr mL:=
 ⟨B.Q6,B.kind,B.names,B.free,B.mL,B.out,B.inn,fun hQ=>wpAny_newFunctionEnv B.cell (by intro y hy;simp at hy) (fun oR VG agi=>hQ oR VG (fun b o e=>(agi.2 b (KJ (FI e))).trans (K1 _ e)) fun _ _ z=>(nomatch z)) B.kind,
  fun _ _ _ z=>(nomatch z),fun _ _ _ _ z=>(nomatch z),fun _ _ z=>(nomatch z),fun z hz e=>DL e (B.cell z hz),fun _ _ _=>rfl⟩
def IF (hc:X.calm=true)(B:wI X scope fr mL)(hi:PI X target iter wi)
  (hg:∀C s H fp,PG (rP X (tn++fr) scope (bx X.env fr) C s H fp) target g) (ht:∀C s H fp,PF (rP X (tn++fr) scope (bx X.env fr) C s H fp) ifs tt) (he:∀C s H fp,PE (rP X (tn++fr) scope (bx X.env fr) C s H fp) elt te)
  (hs:∀x,Q0 iter X.env x=pure x:=by intro _;rfl):PE X (.ListComp elt [⟨target,iter,ifs,0⟩] scope pos) (qH tn.length mL wi g tt te):=
 aeX hc B.g hi hg ht he hs
def IG {uX:Pos}(hN:X.N.Nodup)(VH:X.N[i]?=some y)(hx:Loc X.env.scope y)
  (hc:X.calm=true) (B:wI X scope fr mL) (hi:PI X target iter wi)
  (hg:∀C s H fp,PG (rP X (tn++fr) scope (bx X.env fr) C s H fp) target g) (ht:∀C s H fp,PF (rP X (tn++fr) scope (bx X.env fr) C s H fp) ifs tt) (he:∀C s H fp,PE (rP X (tn++fr) scope (bx X.env fr) C s H fp) elt te)
  (MI:Q9 (.ListComp elt [⟨target,iter,ifs,0⟩] scope pos) (some (.Name y py)) uX.line X.env=pure true:=by rfl)
  (hs:∀x,Q0 iter X.env x=pure x:=by intro _;rfl) (hf:X.fn y=true\/X.env.scope.names.lookup y=some .local:=by first|exact .inl rfl|exact .inr rfl|assumption):
  PS X (.Assign [.Name y py] (.ListComp elt [⟨target,iter,ifs,0⟩] scope pos) uX) (CU (qH tn.length mL wi g tt te) (b_ i)):=
 aeT hN VH hx hc B.g hi hg ht he MI hs hf
end
section
variable {D:AG}{te:TE}{oe:L2.St}{H1:Hp}{Q:VK}
def wJ (n:Nat)(xs:Nat->V)(Pv:Nat->List V->Hp->Prop)(h0:Pv 0 [] (upd H1 D (.lst [])))
  (go:∀i ys H,i<n->Pv i ys H->J.go i H/\∀x H',J.M6 i H x H' ->H'=H/\x=xs i) (stop:∀ys H,Pv n ys H->J.stop n H)
  (hs:∀i ys H (R:VK),i<n->Pv i ys H->H D=some (.lst ys)->(∀v H6,H6 D=some (.lst ys)->ys.length<C_->Pv (i+1) (ys++[v]) (upd H6 D (.lst (ys++[v])))->R v H6)->te (some (xs i)::oe) H R)
  (hd:∀ys H,Pv n ys H->H D=some (.lst ys)->Q (.ref D) H):lW D (b_ 0) jn te J (none::oe) H1 Q:=by
 show ⟨fun i m Y ys H=>m=n-i/\i<=n/\(∃o,Y=o::oe)/\Pv i ys H/\H D=some (.lst ys),⟨n,by simp,KZ _,⟨none,rfl⟩,h0,aj⟩,?_⟩;rintro i m Y ys H ⟨rfl,hi,⟨o,rfl⟩,p,hD⟩;by_cases lQ:i<n
 ·obtain ⟨g1,g2⟩:=go i ys H lQ p
  refine .inr ⟨g1,fun x H' y=>?_⟩;obtain ⟨e1,e2⟩:=g2 x H' y;subst e1 e2;unfold b_ jn;dsimp only;rw [mK rfl];exact hs i ys _ _ lQ p hD fun v H6 a b c=>⟨a,b,n-(i+1),ga,rfl,ga,⟨_,rfl⟩,c,aj⟩
 ·let e:i=n:=ga
  subst e;exact .inl ⟨stop ys H p,hd ys H p hD⟩
end
structure YZ (K:Frag)(C:AG):Prop where
 makes:RB K C=true
 init:Kl K (.ref C) "__init__"=some (some (.builtin "object.__init__"))
 kp:keepIn K (.ref C)=true
def σ0 (C:AG):TE:=fun _ H Q=>∀x dx,H x=none->H dx=none->dx≠x->Q (.ref x) (upd (upd H dx (.own x)) x (.ins C dx []))
section
variable {X:Cx}
def acQ {Y:L2.St}(M:YZ X.K C)(I:Inv X pX Y H s)(h:σ0 C Y H Q):C' (CY X.prog X.w) X.A (call (.ref C) []) (EP X pX Y Q) X.xe s:=by
 let hq:=h (s.heap.objs.size+1) s.heap.objs.size (I.bZ.fresh (ZI _)) (I.bZ.fresh (DU _)) (KJ (NM _));let I2:=Inv.made (C:=C) I;have σ:=PySem.W.makes_of (M:=CY X.prog X.w) I.mQ M.makes;refine wpAny_call (acj I.mQ M.makes M.init (fun self=>PySem.W.Looks.of_pure (PySem.W.oi_bind self)) ?_)
 let ho:((s.heap.push Nl).push (Nk C s.heap.objs.size)).get? (s.heap.objs.size+1)=some (Nk C s.heap.objs.size):=by
  have:=L6 (s.heap.push Nl) (o:=Nk C s.heap.objs.size) rfl
  rwa [Rn] at this
 let t1:PySem.W.Looks (CY X.prog X.w) ((s.heap.push Nl).push (Nk C s.heap.objs.size)) (typeOf (.ref (s.heap.objs.size+1))) (.ref C):=(PySem.W.Looks.ld ho).andThen .now
 let t2:PySem.W.Looks (CY X.prog X.w) ((s.heap.push Nl).push (Nk C s.heap.objs.size)) (isInstance (.ref (s.heap.objs.size+1)) (.type "object")) true:=
  t1.andThen (σ.top.keeps fun b o e=>K1 _ (K1 _ e))
 refine codeAny_call_builtin PySem.W.oi_plain PySem.W.entry_oi (@PySem.W.check_slot (CY X.prog X.w) _ _ _ "object.__init__" "object" "__init__" (.ref (s.heap.objs.size+1)) [] [] _ PySem.W.oi_kind PySem.W.oi_split t2 (PySem.W.oi_args (.ref (s.heap.objs.size+1))) ?_);rw [PySem.W.oi_run];exact DV (And.intro rfl ⟨V.ref (s.heap.objs.size+1),_,I2,rfl,hq⟩)
def acI (M:YZ X.K C)(hg:Gl X x)(hm:X.mg x=some (.ref C))(uU:(x==("__debug__":Str))=false:=by decide):PE X (.Call (.Name x p) [] [] pos) (σ0 C):=by
 intro pX s Y H Q I h;refine VI (mV I hg hm ?_ uU);exact PySem.W.callWith_K0 I.mQ M.kp (acQ M I h)
end
structure bL (P:FQ)(w:World)(K:Frag)(mg:ξ)(iN:Heap)(CX:mR)(k:Nat)(C:AG)(m:Str)(ps:ψ)(sp:Sp):Prop where
 ex:∃(f:AG)(fd:FuncData),yE K C/\Meth K C m f/\dI P w K mg iN CX k f fd ps sp/\Binds K fd ps []
theorem bL.mono {K:Frag}(M:bL P w K mg iN CX j C m ps sp)(h:j<=k):bL P w K mg iN CX k C m ps sp:=by
 obtain ⟨f,fd,a,b,c,d⟩:=M.ex;show ⟨f,fd,a,b,c.mono h,d⟩
section
variable {X:Cx}{CX:mR}{k:Nat}{E:XK}{m:Str}{pos apos:Pos}{e o:Expr}{es:Β}{ta:TE}{t:TA}
inductive T6 (P:FQ)(w:World)(K:Frag)(mg:ξ)(iN:Heap)(CX:mR)(k:Nat)(m:Str)(E:XK)(t:TA)(Y:L2.St)(Q:VK)(x:V)(H1:Hp):Prop
|mk (a C dx fs ps sp:_)(_:x=.ref a)(_:H1 a=some (.ins C dx fs))(_:fs.lookup m=none)(_:bL P w K mg iN CX k C m ps sp)(_:t Y H1 fun vs H2=>sp (x::vs) H2 Q E)
def VJ (P:FQ)(w:World)(K:Frag)(mg:ξ)(iN:Heap)(CX:mR)(k:Nat)(m:Str)(E:XK)(ta:TE)(t:TA):TE:=fun Y H Q=>ta Y H fun x H1=>T6 P w K mg iN CX k m E t Y Q x H1
def cM (he:PE X o ta)(hr:cK k X.A)(hx:Passes CX X E)
  (ht:DX (.Call (.Attribute o m apos) [] [] pos) X.env=(do
   let ov <- DX o X.env
   standAt apos.atName
   let (f,first) <- Py [ov] (getMethod ov m pl)
   callWith pos f first (Kw pos (EX [] X.env)) (backToKw pos (V8 [] X.env))):=by rfl):
  PE X (.Call (.Attribute o m apos) [] [] pos) (VJ X.prog X.w X.K X.mg X.iN CX k m E ta iP):=by
 intro pX s Y H Q I h;refine PySem.W.methodCall_KW (pl:=pl) (cY (he pX s Y H _ I h) fun u s1 ⟨x,H1,I1,rx,a,C,dx,fs,ps,sp,ex,ea,l,M,q⟩=>?_) ht;subst ex;obtain rfl:u=Value.ref a:=rx;obtain ⟨f,fd,c,hm,F,hb⟩:=M.ex;refine lT I1 ea c hm l ?_;exact PySem.W.callWith_K0 (first:=[.ref a]) I1.mQ hm.kp (wk (us:=[.ref a]) (vs:=[.ref a]) (qw:=[]) F hr hb .nil hx I1 (.cons rfl .nil) q)
def fu {pl:Sem Bool}(he:PE X o ta)(hr:cK k X.A)(hx:Passes CX X E)(ha:PA X (e::es) t)
  (M1:EX (e::es) X.env=(false,DX e X.env)::EX es X.env:=by rfl) (vf:(Kw pos (EX es X.env)).any (·.1)=false:=by rfl)
  (ht:DX (.Call (.Attribute o m apos) (e::es) [] pos) X.env=(do
   let ov <- DX o X.env
   standAt apos.atName
   let (f,first) <- Py [ov] (getMethod ov m pl)
   callWith pos f first (Kw pos (EX (e::es) X.env)) (backToKw pos (V8 [] X.env))):=by rfl):
  PE X (.Call (.Attribute o m apos) (e::es) [] pos) (VJ X.prog X.w X.K X.mg X.iN CX k m E ta t):=by
 intro pX s Y H Q I h;refine PySem.W.methodCall_KW (pl:=pl) (cY (he pX s Y H _ I h) fun u s1 ⟨x,H1,I1,rx,a,C,dx,fs,ps,sp,ex,ea,l,M,q⟩=>?_) ht;subst ex;obtain rfl:u=Value.ref a:=rx;obtain ⟨f,fd,c,hm,F,hb⟩:=M.ex;refine lT I1 ea c hm l ?_;refine rn (first:=[.ref a]) (h₀:=X.iN) I.ok.mod.XH hm.kp (cY (ha pos pX s1 Y H1 _ I1 q) fun us s2 ⟨vs,H2,I2,r,q2⟩=>⟨I2.mQ,?_⟩) M1 vf;refine wk (us:=.ref a::us) (vs:=.ref a::vs) (qw:=[]) F hr hb .nil hx I2 (.cons rfl r) ?_;rwa [Zl]
end
def T7 (h:DH CX)(e:X.xe=fun _ _=>False):Passes CX X E0:=fun _ _ _ _ _ _ _ q=>(h _ _ _ _ _ q).elim
section
variable {X:Cx}
inductive σ1 (x:V)(lo:Υ)(hi:Υ)(H:Hp)(Q:VK):Prop
|mk (z:_)(_:x=.str z)(_:z.length<=C_)(_:Q (.str (Txt.slice z lo hi)) H)
def ac8:SlR X σ1:=by
 intro pX s Y H x v vl vu lo hi sl Q I rx hs pl pu h;obtain ⟨z,rfl,hz,q⟩:=h;obtain ⟨t,rfl⟩:=rx;show ⟨"str",_,F.slot_str_getitem.lookup,typeIs_str _ _ _,?_⟩;cases pl<;>cases pu
 ·exact u9 (l:=none) (u:=none) (st:=none) hs rfl (Yz ⟨DC (Txt.slice_le z _ _) hz,fun t' k=>⟨.str _,H,I.tok k,⟨t',rfl⟩,q⟩⟩)
 ·rename_i j uj
  exact u9 (l:=none) (u:=some (j,uj)) (st:=none) hs rfl (Yz ⟨DC (Txt.slice_le z _ _) hz,fun t' k=>⟨.str _,H,I.tok k,⟨t',rfl⟩,q⟩⟩)
 ·rename_i i ui
  exact u9 (l:=some (i,ui)) (u:=none) (st:=none) hs rfl (Yz ⟨DC (Txt.slice_le z _ _) hz,fun t' k=>⟨.str _,H,I.tok k,⟨t',rfl⟩,q⟩⟩)
 ·rename_i i ui j uj
  exact u9 (l:=some (i,ui)) (u:=some (j,uj)) (st:=none) hs rfl (Yz ⟨DC (Txt.slice_le z _ _) hz,fun t' k=>⟨.str _,H,I.tok k,⟨t',rfl⟩,q⟩⟩)
inductive T8 (x:V)(y:V)(H:Hp)(Q:VK):Prop
|mk (z n:_)(_:x=.str z)(_:y=.int n)(_:MulOk z n)(_:Q (.str (Txt.mul z n)) H)
def rQ:kA X (Nn .Mult) T8:=by
 intro pX s Y H x y v u Q I rx ry h;obtain ⟨z,n,rfl,rfl,ok,q⟩:=h;obtain ⟨t,rfl⟩:=rx;obtain ⟨t',rfl⟩:=ry;exact SB.mul ok fun t' k=>⟨.str _,H,I.tok k,⟨t',rfl⟩,q⟩
end
end Ty
set_option maxHeartbeats 1000000
set_option maxHeartbeats 4000000
namespace Ty
open PySem PySem.Spec PyProof.Rows L2 PySem.NumText
def dg (m:Nat):List Nat:=(Nat.toDigits 10 m).map Char.toNat
def tx (n:Int):Str:=Na (toString n)
def ac7:Str:=Na "/"
def nt (q:Int×Int):Str:=if q.2=1 then tx q.1 else tx q.1++ac7++tx q.2
def isStar:Expr->Bool
 | .Starred .. =>true
 | _=>false
def ace {es:Β}(h:isStar e=false):EX (e::es) env=(false,DX e env)::EX es env:=by
 cases e<;>first|rfl|(cases h;done)
def iu (ha:PE X e te)(hr:PA X es t)(h:isStar e=false:=by rfl):PA X (e::es) (qE te t):=afg ha hr (ace h)
end Ty
namespace Ty
open PySem PySem.Spec PyProof.Rows L2
section
variable {D:AG}{te:TE}{oe:L2.St}{H1:Hp}{Q:VK}
def bh (D:AG)(H H':Hp):Prop:=∀b o,b≠D->H b=some o->H' b=some o
def bh.of (s:aq H H'):bh D H H':=fun b o _ e=>s b o e
theorem bh.upd :bh D H (upd H D o):=fun b o' n e=>by rwa [ao n]
def yS (n:Nat)(xs:Nat->V)(Rel:Nat->V->Hp->Prop)(nD:H1 D=none)(hn:n<C_)
  (go:∀i H,i<n->aq H1 H->J.go i H/\∀x H',J.M6 i H x H' ->H'=H/\x=xs i) (stop:∀H,aq H1 H->J.stop n H)
  (hR:∀i v H H' ys,H D=some (.lst ys)->bh D H H' ->Rel i v H->Rel i v H')
  (he:∀i H (R:VK),i<n->aq H1 H->(∀v H6,aq H H6->Rel i v H6->R v H6)->te (some (xs i)::oe) H R)
  (hd:∀ys H,ys.length=n->(∀i v,ys[i]?=some v->Rel i v H)->aq H1 H->H D=some (.lst ys)->Q (.ref D) H):
  lW D (b_ 0) jn te J (none::oe) H1 Q:=by
 refine wJ n xs (fun i ys H=>ys.length=i/\(∀i v,ys[i]?=some v->Rel i v H)/\aq H1 H) ⟨rfl,fun i v e=>by simp at e,fun b o e=>by rwa [ao (ak e nD)]⟩ ?_ ?_ ?_ ?_
 ·rintro i ys H hi ⟨_,_,s⟩
  exact go i H hi s
 ·rintro ys H ⟨_,_,s⟩
  exact stop H s
 ·rintro i ys H R hi ⟨l,r,s⟩ hD k
  refine he i H R hi s fun v H6 s6 rv=>k v H6 (s6 _ _ hD) ga ⟨by simp [l],fun j u e=>?_,fun b o e=>?_⟩
  ·by_cases c:j<ys.length
   ·rw [K_ c] at e
    let ru:=hR j u H H6 ys hD (bh.of s6) (r j u e);exact hR j u H6 _ ys (s6 _ _ hD) bh.upd ru
   ·rw [Kx ga] at e
    let ej:j=i:=by
     by_cases z:j-ys.length=0
     ·omega
     ·rw [EZ (by simp;omega)] at e
      cases e
    subst ej
    have:v=u:=by
     rw [show j-ys.length=0 by omega] at e;exact FA e
    subst this;exact hR j v H6 _ ys (s6 _ _ hD) bh.upd rv
  ·rw [ao (ak e nD)]
   exact s6 _ _ (s _ _ e)
 ·rintro ys H ⟨l,r,s⟩ hD
  exact hd ys H l r s hD
def dN {K:Frag}(Rel:Nat->V->Hp->Prop)(nD:H1 D=none)(hn:xs.length<C_)(hS:∀H,aq H1 H->aU K H a xs)
  (hR:∀i v H H' ys,H D=some (.lst ys)->bh D H H' ->Rel i v H->Rel i v H')
  (he:∀i x H (R:VK),xs[i]?=some x->aq H1 H->(∀v H6,aq H H6->Rel i v H6->R v H6)->te (some x::oe) H R)
  (hd:∀ys H,ys.length=xs.length->(∀i v,ys[i]?=some v->Rel i v H)->aq H1 H->H D=some (.lst ys)->Q (.ref D) H):
  lW D (b_ 0) jn te (M8 K a) (none::oe) H1 Q:=by
 refine yS xs.length (fun i=>(xs[i]?).getD .dw) Rel nD hn (fun i H hi s=>⟨⟨xs,xs[i],hS H s,gE hi⟩,fun x H' y=>⟨y.1,?_⟩⟩) (fun H s=>⟨xs,hS H s,DU _⟩) hR (fun i H R hi s k=>?_) hd
 ·rw [y.2 xs (hS H s)];rfl
 ·let e:xs[i]?=some xs[i]:=gE hi
  let k':=he i _ H R e s k;rw [<-(show (xs[i]?).getD .dw=xs[i] by rw [e];rfl)] at k';exact k'
def jo {lo:Int}(Rel:Nat->V->Hp->Prop)(nD:H1 D=none)(hn:n<C_)
  (hR:∀i v H H' ys,H D=some (.lst ys)->bh D H H' ->Rel i v H->Rel i v H')
  (he:∀(i:Nat) H (R:VK),i<n->aq H1 H->(∀v H6,aq H H6->Rel i v H6->R v H6)->te (some (.int (lo+i))::oe) H R)
  (hd:∀ys H,ys.length=n->(∀i v,ys[i]?=some v->Rel i v H)->aq H1 H->H D=some (.lst ys)->Q (.ref D) H):
  lW D (b_ 0) jn te (TJ lo n) (none::oe) H1 Q:=
 yS n (fun i=>.int (lo+i)) Rel nD hn (fun i H hi s=>⟨hi,fun x H' y=>y⟩) (fun H s=>DU n) hR he hd
end
section
variable {X:Cx}{pX:η}{Y:L2.St}{H:Hp}{s:D'}{h':Heap}
def Inv.rR {fp:ω}(I:Inv X pX Y H s)(k:∀b o,b∉fp->s.heap.get? b=some o->h'.get? b=some o)(hf:∀b∈fp,o_ X pX H b):Inv X pX Y H {s with heap:=h',toks:=t'}:=by
 let Tz:∀b u,H b=some u->b∉fp:=fun b u e z=>by erw [(hf b z).1] at e
 refine I.step (g':=s.gens) (d':=s.drawn) (ch:=fp) (fun b hb=>?_) (fun b o _ _ hc e _=>k b o hc e) (fun b o _ _ hc e _=>⟨o.slots,k b o hc e⟩) (fun _ _ _ _ n=>n)
  (fun b o hc e=>⟨o,k b o hc e⟩) (fun _ _ e=>e) (fun _ _ _ e=>e) (fun b ps e=>⟨#[],by rw [e];simp⟩) (fun m hm=>?_) (fun b u e=>?_) I.bare
 ·obtain ⟨f0,f1,f2,f3,f4,f5⟩:=hf b hb
  show ⟨f3,f1,f4,f5⟩
 ·obtain ⟨o,es,ep,ho,r⟩:=hm
  show ⟨o,es,ep,k _ o (fun z=>(hf _ z).2.1 rfl) ho,r⟩
 ·refine (I.bZ b u e).vY (fun c v hc q=>k c v ?_ q) (fun _ q=>q) fun _ _ q=>q
  rcases hc with z|z
  ·rw [z];exact Tz b u e
  ·exact Tz c _ z
def Inv.wK {fp:ω}{T:AG}{xs:θ}{AI:τ}(I:Inv X pX Y H s)(k:∀b o,b∉fp->s.heap.get? b=some o->h'.get? b=some o)(hf:∀b∈fp,o_ X pX H b)(hT:s.heap.objs.size<=T)
  (hz:xs.length<=C_) (rv:Vals xs AI) (ht:IsTup h' T AI.toArray):Inv X pX Y (upd H T (.tup xs)) {s with heap:=h',toks:=t'}:=by
 let hn:=I.bZ.fresh hT;let Tz:∀b u,H b=some u->b∉fp:=fun b u e z=>by erw [(hf b z).1] at e
 let ne:∀b o,s.heap.get? b=some o->b≠T:=fun b o e=>KJ (Kq (FI e) hT)
 refine I.step (g':=s.gens) (d':=s.drawn) (ch:=fp) (fun b hb=>?_) (fun b o _ _ hc e _=>k b o hc e) (fun b o _ _ hc e _=>⟨o.slots,k b o hc e⟩) (fun b o _ e n=>by rwa [ao (ne b o e)])
  (fun b o hc e=>⟨o,k b o hc e⟩) (fun b ys e=>by rwa [ao (ak e hn)]) (fun b o u e=>by rwa [ao (ak e hn)]) (fun b ps e=>⟨#[],by rw [ao (ak e hn),e];simp⟩) (fun m hm=>?_) (fun b u e=>?_) I.bare
 ·obtain ⟨f0,f1,f2,f3,f4,f5⟩:=hf b hb
  show ⟨f3,f1,f4,f5⟩
 ·obtain ⟨o,es,ep,ho,r⟩:=hm
  show ⟨o,es,ep,k _ o (fun z=>(hf _ z).2.1 rfl) ho,r⟩
 ·by_cases hb:b=T
  ·subst hb
   erw [aj] at e;show ⟨hz,AI,rv,ht⟩
  ·rw [ao hb] at e
   refine (I.bZ b u e).vY (fun c v hc q=>k c v ?_ q) (fun c q=>by rwa [ao (ak q hn)]) fun c ys q=>by rwa [ao (ak q hn)]
   rcases hc with z|z
   ·rw [z];exact Tz b u e
   ·exact Tz c _ z
end
def Itz (K:Frag)(a b:AG):It:=
 ⟨fun i H=>∃xs ys x y,aU K H a xs/\aU K H b ys/\xs[i]?=some x/\ys[i]?=some y,
  fun i H v H'=>∃p x y,(∀xs,aU K H a xs->xs[i]?=some x)/\(∀ys,aU K H b ys->ys[i]?=some y)/\v=.ref p/\H p=none/\H'=upd H p (.tup [x,y]),
  fun i H=>∃xs ys,aU K H a xs/\aU K H b ys/\(xs.length<=i\/ys.length<=i)⟩
def ae7 {K:Frag}{es:Β}(a b z TI TO i1 i2:AG)(D:ZipApart z TI TO i1 i2 a b):
  Turn P w K (.Tuple es k pos) (Itz K a b) [z,TI,TO,i1,i2] z (fun i h=>IsZip h z TI TO .none/\IsPair h TI (.ref i1) (.ref i2)/\(∃x y,IsPair h TO x y)/\h.IsListIter i1 a i/\h.IsListIter i2 b i) where
 mem:=by simp
 obj:=fun i h st c hc=>by
  obtain ⟨hz,lX,⟨x,y,vt⟩,⟨o1,e1,c1,d1⟩,⟨o2,e2,c2,d2⟩⟩:=st;have v9 :c=z\/c=TI\/c=TO\/c=i1\/c=i2:=by simpa using hc
  rcases v9 with e|e|e|e|e<;>subst e
  ·show ⟨_,hz,fun v z=>by cases z⟩
  ·show ⟨_,lX,fun v z=>by cases z⟩
  ·show ⟨_,vt,fun v z=>by cases z⟩
  ·show ⟨_,e1,fun v z=>by erw [d1] at z⟩
  ·show ⟨_,e2,fun v z=>by erw [d2] at z⟩
 keep:=fun i h h' st k=>by
  obtain ⟨hz,lX,⟨x,y,vt⟩,h1,h2⟩:=st;show ⟨k z gV _ hz,k TI gV _ lX,⟨x,y,k TO gV _ vt⟩,h1.at fun o e=>k i1 gV o e,h2.at fun o e=>k i2 gV o e⟩
 item:=by
  intro X hP hw hK hc i pX s Y H E I hf st hg;subst hP hw hK;obtain ⟨hz,lX,⟨x0,y0,vt⟩,h1,h2⟩:=st;obtain ⟨xs,ys,x,y,qx,qy,ex,ey⟩:=hg;obtain ⟨AI,rv,p,_⟩:=I.list qx;obtain ⟨σ3,yr,p',_⟩:=I.list qy;obtain ⟨u,hu,ru⟩:=rv.get ex;obtain ⟨v,hv,rv'⟩:=yr.get ey;refine wpAny_pyNext_zip_item D hz lX vt h1 h2 p.isList p'.isList (x:=u) (y:=v) (by simpa using hu) (by simpa using hv) fun h' a1 a2 a3 a4 a5 a6 a7=>?_;show ⟨_,rfl,wpAny_letOwnedTupleGo_zip (s:={s with heap:=h'}) a1 fun P5 b1 sb=>?_⟩;let nz:∀c,c≠z->∀o,h'.get? c=some o->P5.get? c=some o:=fun c hc o e=>(sb.2 c hc).trans e
  let kk:∀b o,b∉[z,TI,TO,i1,i2]->s.heap.get? b=some o->P5.get? b=some o:=fun b o hb e=>by
   have jZ :b≠z/\b≠TI/\b≠TO/\b≠i1/\b≠i2:=by simpa using hb
   exact nz b jZ.1 o (a7 b o jZ.1 jZ.2.2.1 jZ.2.2.2.1 jZ.2.2.2.2 e)
  let sz:∀c o,s.heap.get? c=some o->s.heap.objs.size≠c:=fun c o e=>WW (FI e);let tz:s.heap.objs.size≠z:=sz _ _ hz;let hn:=I.bZ.fresh (DU s.heap.objs.size)
  let I2:Inv X pX Y (upd H s.heap.objs.size (.tup [x,y])) {s with heap:=P5,toks:=s.toks}:=
   Inv.wK I kk hf (DU _) (by show 2<=C_;decide) (AI:=[u,v]) (.cons ru (.cons rv' .nil)) ⟨_,nz _ tz _ a5,rfl,_,rfl⟩
  show ⟨.ref s.heap.objs.size,_,I2,rfl,⟨s.heap.objs.size,x,y,fun xs' q=>by rwa [I.jS q qx],fun ys' q=>by rwa [I.jS q qy],rfl,hn,rfl⟩,⟨b1,nz _ D.TIz _ (a7 _ _ D.TIz D.TITO D.TIi1 D.TIi2 lX),⟨_,_,nz _ D.TOz _ a2⟩,a3.at fun o e=>nz _ D.i1z o e,a4.at fun o e=>nz _ D.i2z o e⟩,fun b hb=>?_⟩
  let ob:∃o,s.heap.get? b=some o:=by
   obtain ⟨o1,e1,_⟩:=h1;obtain ⟨o2,e2,_⟩:=h2;have v9 :b=z\/b=TI\/b=TO\/b=i1\/b=i2:=by simpa using hb
   rcases v9 with e|e|e|e|e<;>subst e
   ·show ⟨_,hz⟩
   ·show ⟨_,lX⟩
   ·show ⟨_,vt⟩
   ·show ⟨_,e1⟩
   ·show ⟨_,e2⟩
  obtain ⟨o,e⟩:=ob;rw [ao (FG (sz _ _ e))];exact (hf b hb).1
 done:=by
  intro X hP hw hK hc i pX s Y H E I hf st hg;subst hP hw hK;obtain ⟨hz,lX,⟨x0,y0,vt⟩,h1,h2⟩:=st;obtain ⟨xs,ys,qx,qy,ee⟩:=hg;obtain ⟨AI,rv,p,_⟩:=I.list qx;obtain ⟨σ3,yr,p',_⟩:=I.list qy;let l1:=rv.length;let l2:=yr.length;refine wpAny_pyNext_zip_end (I.ok.hd hc) D hz lX vt h1 h2 p.isList p'.isList ?_ fun h' kk=>⟨rfl,Inv.rR I (fun b o hb e=>?_) hf⟩
  ·rcases ee with e|e
   ·exact .inl (by simp;omega)
   ·exact .inr (by simp;omega)
  ·have jZ :b≠z/\b≠TI/\b≠TO/\b≠i1/\b≠i2:=by simpa using hb
   exact kk b o jZ.1 jZ.2.2.1 jZ.2.2.2.1 jZ.2.2.2.2 e
 self:=fun _ _ _ _ _ st h=>wpAny_pyIter_zip st.1 h
def boot_zip:Kv "zip"=some (.type "zip"):=by decide+kernel
section
variable {X:Cx}
inductive T9 (K:Frag)(R:(It->Hp->Prop))(vs:θ)(H1:Hp):Prop
|mk (a b:_)(_:vs=[.ref a,.ref b])(_:(∃xs,aU K H1 a xs))(_:(∃ys,aU K H1 b ys))(_:R (Itz K a b) H1)
def agj (K:Frag)(ta:TA):TI:=fun Y H R=>ta Y H fun vs H1=>T9 K R vs H1
def DI {p pos:Pos}{es:Β}{k:Nat}{wg:Pos}(hg:Gl X "zip")(hm:X.mg "zip"=none)(ha:PA X [e1,e2] ta)(hs:EX [e1,e2] X.env=[(false,DX e1 X.env),(false,DX e2 X.env)]:=by rfl)(P4:EX [e2] X.env=[(false,DX e2 X.env)]:=by rfl):
  PI X (.Tuple es k wg) (.Call (.Name "zip" p) [e1,e2] [] pos) (agj X.K ta):=by
 intro pX s Y H R I h;refine Call_ (jR I hg hm boot_zip (VB (cY (ha pos pX s Y H _ I h) fun us s1 ⟨vs,H1,I1,r1,q1⟩=>?_) (by rw [hs,P4]) (by rw [P4];rfl)));obtain ⟨a,b,e,⟨xs,hx⟩,⟨ys,hy⟩,q⟩:=q1;subst e;cases r1 with
 | cons r rr=>
  cases rr with
  | cons r' rr=>
   cases rr;cases r;cases r';obtain ⟨AI,rv,pl,_⟩:=I1.list hx;obtain ⟨σ3,yr,pl',_⟩:=I1.list hy;let lt1:a<s1.heap.objs.size:=by obtain ⟨o,ho,_⟩:=pl.isList;exact FI ho
   let lt2:b<s1.heap.objs.size:=by obtain ⟨o,ho,_⟩:=pl'.isList;exact FI ho
   refine call_zip_2 pl.isList pl'.isList fun h' hz lX vt NP σ4 hsz hk=>wpAny_pyIter_zip (s:={s1 with heap:=h'}) hz ?_;show ⟨s1.heap.objs.size+4,[s1.heap.objs.size+4,s1.heap.objs.size+2,s1.heap.objs.size+3,s1.heap.objs.size,s1.heap.objs.size+1],_,_,H1,rfl,I1.kept (t':=s1.toks) hk,ae7 a b _ _ _ _ _ ?_,⟨hz,lX,⟨_,_,vt⟩,NP,σ4⟩,fun c hc=>?_,q⟩
   ·constructor<;>(intro z;simp only [AG] at*;omega)
   ·have v9 :s1.heap.objs.size<=c:=by
     have:c=s1.heap.objs.size+4\/c=s1.heap.objs.size+2\/c=s1.heap.objs.size+3\/c=s1.heap.objs.size\/c=s1.heap.objs.size+1:=by simpa using hc
     simp only [AG] at*;omega
    exact I1.uT v9 (I1.bZ.fresh v9)
theorem qI (ns:π)(val:Nat->Int)(hv:∀i (h:i<ns.length),val i=ns[i]):∀j,j<=ns.length->preSum val j=(ns.take j).sum
 | 0,_=>by simp [preSum]
 | j+1,h=>by
  rw [preSum,qI ns val hv j ga,hv j ga,List.take_succ_eq_append_getElem ga,zv];simp
inductive σ5 (K:Frag)(xs:θ)(H:Hp)(Q:VK):Prop
|mk (p:AG)(ns:π)(_:xs=[.ref p])(_:aU K H p (ns.map V.int))(_:Q (.int ns.sum) H)
def ae6 (hc:X.calm=true):iz X (.builtin "sum") (σ5 X.K):=by
 intro pX s Y H xs us Q I r h;obtain ⟨p,ns,rfl,hq,q⟩:=h;obtain ⟨u,rfl,r1⟩:=vals1 r;cases r1;obtain ⟨AI,rv,pl,hz⟩:=I.list hq;let hlen:=rv.length;rw [ir] at hlen;refine call_sum_walkG (wpAny_pyIter_list pl.isList ?_);let NR:p≠s.heap.objs.size:=by obtain ⟨o,ho,_⟩:=pl.isList;exact KJ (FI ho)
 show ⟨s.heap.objs.size,_,_,AI.toArray.size,_,_,fun i=>ns.getD i 0,rfl,Walks.list (by exact I.ok.hd hc) s.heap.objs.size p NR AI.toArray,⟨⟨_,L6 _ rfl,rfl,rfl⟩,pl.isList.at fun o e=>K1 _ e⟩,fun b hb=>?_,fun i v hv=>?_,fun h' tk t' hk=>?_⟩
 ·have jZ :b=s.heap.objs.size\/b=p:=by simpa using hb
  rw [Rn]
  rcases jZ with e|e
  ·rw [e];exact NM _
  ·rw [e]
   obtain ⟨o,ho,_⟩:=pl.isList;exact QT (FI ho)
 ·have Vt :AI[i]?=some v:=by simpa using hv
  let hi:i<AI.length:=(be.mp Vt).1;have CA :i<ns.length:=ga
  obtain ⟨u',hu,ru⟩:=rv.get (i:=i) (x:=.int ns[i]) (by rw [Wp,gE CA];rfl);erw [Vt] at hu;obtain ⟨t,e⟩:=ru;show ⟨t,by rw [e];show Value.int ns[i] t=Value.int (ns.getD i 0) t;rw [KU,gE CA];rfl⟩
 ·let e:preSum (fun i=>ns.getD i 0) AI.toArray.size=ns.sum:=by
   rw [qI ns _ (fun i h=>by rw [KU,gE h];rfl) _ (by simp;omega),Si (by simp;omega)]
  rw [e]
  let I2:Inv X pX Y H {s with heap:=h',toks:=tk}:=I.kept (t':=tk) fun b o eb=>hk b o (fun z=>by
   let z':b=s.heap.objs.size:=by simpa using z
   rw [z'] at eb
   exact DL (FI eb) (O6 _)) (K1 _ eb)
  show ⟨.int ns.sum,H,I2,⟨_,rfl⟩,q⟩
def boot_sum:Kv "sum"=some (.builtin "sum"):=by decide+kernel
inductive NS (K:Frag)(xs:θ)(H:Hp)(Q:VK):Prop
|mk (p:AG)(ys:θ)(_:xs=[.ref p])(_:aU K H p ys)(_:∀l,H l=none->Q (.ref l) (upd H l (.lst ys)))
def tm:iz X (.type "list") (NS X.K):=by
 intro pX s Y H xs us Q I r h;obtain ⟨p,ys,rfl,hq,q⟩:=h;obtain ⟨u,rfl,r1⟩:=vals1 r;cases r1;obtain ⟨AI,rv,⟨o,n,e,c,d1,d⟩,hz⟩:=I.list hq;let hlen:=rv.length;refine call_list_seq p (.inl rfl) e c d (fun h' c' hk hl=>?_) (by simp;omega);let hn:=I.bZ.fresh (DU s.heap.objs.size);let I2:Inv X pX Y (upd H s.heap.objs.size (.lst ys)) {s with heap:=h',toks:=s.toks}:=I.laid (t':=s.toks) hk (DU _) ⟨hz,AI,c',rv,hl⟩;show ⟨.ref _,_,I2,rfl,q _ hn⟩
end
section
variable {X:Cx}{K:Frag}
def dz (h:X.K=K):XO X (Nu K):=by subst h;exact sQ
def gy (h:X.K=K):XO X (QW K):=by subst h;exact aS
def acN (h:X.K=K):iz X (.builtin "len") (fun xs H Q=>∃p ys,xs=[.ref p]/\(aU K H p ys\/bK K H p ys)/\Q (.int ys.length) H):=by subst h;exact av
def rS {k:Nat}{pos:Pos}(hK:X.K=K)(hc:X.calm=true)(h:Yr X es t)
  (hn:(RH es X.env).length=n:=by rfl) (M1:(RH es X.env).findIdx? (·.1)=none:=by rfl):PG X (.Tuple es k pos) (Ko K n t):=by subst hK;exact ft hc h hn M1
end
section
variable {D:AG}{te:TE}{oe:L2.St}{H1:Hp}{Q:VK}
def yT {K:Frag}(Rel:Nat->V->Hp->Prop)(nD:H1 D=none)(hn:xs.length<C_)(hl:ys.length=xs.length)(hX:∀H,aq H1 H->aU K H a xs)(hY:∀H,aq H1 H->aU K H b ys)
  (hR:∀i v H H' ys,H D=some (.lst ys)->bh D H H' ->Rel i v H->Rel i v H')
  (he:∀i x y H (R:VK),xs[i]?=some x->ys[i]?=some y->aq H1 H->(∀v H6,aq H H6->Rel i v H6->R v H6)->te (some x::some y::oe) H R)
  (hd:∀zs H,zs.length=xs.length->(∀i v,zs[i]?=some v->Rel i v H)->aq H1 H->H D=some (.lst zs)->Q (.ref D) H):
  lW D (Ko K 2 (sL (b_ 0) (sL (b_ 1) QK))) jn te (Itz K a b) (none::none::oe) H1 Q:=by
 show ⟨fun i m Y zs H=>m=xs.length-i/\i<=xs.length/\(∃o o',Y=o::o'::oe)/\(zs.length=i/\(∀i v,zs[i]?=some v->Rel i v H)/\aq H1 H)/\H D=some (.lst zs),⟨xs.length,by simp,KZ _,⟨none,none,rfl⟩,⟨rfl,fun i v e=>by simp at e,fun b o e=>by rwa [ao (ak e nD)]⟩,aj⟩,?_⟩;rintro i m Y zs H ⟨rfl,hi,⟨o,o',rfl⟩,⟨l,r,s⟩,hD⟩;by_cases lQ:i<xs.length
 ·let e1:xs[i]?=some xs[i]:=gE lQ
  let e2:ys[i]?=some (ys[i]'ga):=gE ga;refine .inr ⟨⟨xs,ys,_,_,hX H s,hY H s,e1,e2⟩,fun v H' y=>?_⟩;obtain ⟨p,x,y,q1,q2,rfl,np,rfl⟩:=y;let e1:=q1 xs (hX H s);let e2:=q2 ys (hY H s);let sp:aq H (upd H p (.tup [x,y])):=fun b o e=>by rwa [ao (ak e np)]
  show ⟨p,_,rfl,bK.of aj,rfl,_,_,rfl,_,_,rfl,rfl,?_⟩;unfold jn;dsimp only;rw [mK rfl];refine he i x y _ _ e1 e2 (fun b o e=>sp _ _ (s _ _ e)) fun v H6 s6 rv=>⟨s6 _ _ (sp _ _ hD),ga,xs.length-(i+1),ga,rfl,ga,⟨_,_,rfl⟩,⟨by simp [l],fun j u e=>?_,fun b o e=>?_⟩,aj⟩
  ·by_cases c:j<zs.length
   ·rw [K_ c] at e
    let ru:=hR j u H H6 zs hD (bh.of fun b o q=>s6 _ _ (sp _ _ q)) (r j u e);exact hR j u H6 _ zs (s6 _ _ (sp _ _ hD)) bh.upd ru
   ·rw [Kx ga] at e
    let ej:j=i:=by
     by_cases z:j-zs.length=0
     ·omega
     ·rw [EZ (by simp;omega)] at e
      cases e
    subst ej
    have:v=u:=by
     rw [show j-zs.length=0 by omega] at e;exact FA e
    subst this;exact hR j v H6 _ zs (s6 _ _ (sp _ _ hD)) bh.upd rv
  ·rw [ao (ak e nD)]
   exact s6 _ _ (sp _ _ (s _ _ e))
 ·let e:i=xs.length:=ga
  subst e;exact .inl ⟨⟨xs,ys,hX H s,hY H s,.inl (DU _)⟩,hd zs H l r s hD⟩
end
open Builtin.Int (intBits)
def ac0:Kv "sum"=some (.builtin "sum"):=boot_sum
def vl (q:Int×Int):Rat:=(q.1:Rat) / (q.2:Rat)
structure Sm (T B:Nat)(q:Int×Int):Prop where
 pos:0<q.2
 low:KP q.1 q.2=1
 top:q.1.natAbs<=2^T
 bot:q.2.natAbs<=2^B
def cO {b:Int}(h:b≠0):(b:Rat)≠0:=by simpa using h
def tq (h:b≠0):vl (low t b)=(t:Rat) / (b:Rat):=by
 let c:=aeW (t:=t) h;let p:=m_ (t:=t) h;let h1:=cO h;let h2:=cO (b:=(low t b).2) ga;let c':((low t b).1:Rat)*b=t*(low t b).2:=by exact_mod_cast c
 unfold vl;grind
def ai_ {t b u c:Int}(hb:b≠0)(hc:c≠0)(h:(t:Rat) / b=(u:Rat) / c):t*c=u*b:=by
 let h1:=cO hb;let h2:=cO hc;have:(t:Rat)*c=u*b:=by grind
 exact_mod_cast this
def ac2 (hq:0<q.2)(hr:0<r.2)(gq:KP q.1 q.2=1)(gr:KP r.1 r.2=1)(h:vl q=vl r):q=r:=by
 let c:=ai_ (t:=q.1) (b:=q.2) (u:=r.1) (c:=r.2) ga ga h;let e:=acP (t:=q.1) (b:=q.2) (u:=r.1) (c:=r.2) ga ga c;rw [yN hq gq,yN hr gr] at e;exact Vj (oP xA e) (oP wu e)
def abx {b d:Int}(hd:d≠0)(h:d ∣ b):((b.fdiv d:Int):Rat)=(b:Rat) / d:=by
 let e:=de hd h;let h1:=cO hd;have:(b:Rat)=d*(b.fdiv d:Int):=by exact_mod_cast e
 grind
def jq (xs ys:ο):Rat:=(NZ (fun a b=>vl a*vl b) xs ys).sum
def aeA {xs ys:ο}:jq (x::xs) (y::ys)=vl x*vl y+jq xs ys:=by simp [jq]
def jB (ts:π)(qs:ο)(b:Int):Prop:=ts.length=qs.length/\∀(i:Nat)(t:Int)(q:Int×Int),ts[i]?=some t->qs[i]?=some q->(t:Rat)=vl q*b
def jB.tail {ts:π}{qs:ο}(h:jB (t::ts) (q::qs) b):jB ts qs b:=⟨by simpa using h.1,fun i t' q' e1 e2=>h.2 (i+1) t' q' (by simpa using e1) (by simpa using e2)⟩
def wL {a b:Int}(h1:a.natAbs<=2^m)(h2:b.natAbs<=2^n):(a*b).natAbs<=2^(m+n):=by
 rw [NL,Rz];exact Mc h1 h2
def zay {a b:Int}(h1:a.natAbs<=2^m)(h2:b.natAbs<=2^m):(a+b).natAbs<=2^(m+1):=by
 have:=Sk a b;rw [Se];omega
def tu {a:Int}(h:a.natAbs<=2^m)(hm:m<=n):a.natAbs<=2^n:=DC h (L8 gt hm)
def kF (h:a.natAbs<=2^m)(hm:m<n):intBits a<=n:=intBits_le_iff.mpr (FU h (Nat.pow_lt_pow_right gt hm))
def rT (h1:a.natAbs<=2^m)(h2:b.natAbs<=2^n)(hm:m<30000000)(hn:n<30000000):qG a b:=⟨DC (kF h1 hm) gt,DC (kF h2 hn) gt⟩
def Sm.up (h:Sm T B q)(hT:T<=T')(hB:B<=B'):Sm T' B' q:=⟨h.pos,h.low,tu h.top hT,tu h.bot hB⟩
def acX {b d:Int}(hb:0<b)(hd:0<d):0<b.fdiv (gz b d)*d/\b ∣ b.fdiv (gz b d)*d/\d ∣ b.fdiv (gz b d)*d/\(b.fdiv (gz b d)*d).natAbs<=b.natAbs*d.natAbs:=by
 let gp:=wC (t:=b) (b:=d) ga;let g1:gz b d ∣ b:=V4 ..;let g2:gz b d ∣ d:=V3 ..;let e1:=de (g:=gz b d) ga g1;let e2:=de (g:=gz b d) ga g2;generalize gz b d=g at*
 let p1:0<b.fdiv g:=by
  rcases zH (b.fdiv g) 0 with z|z|z
  ·exfalso
   have:=ahn gp z;omega
  ·rw [z] at e1;omega
  ·exact z
 show ⟨Og p1 hd,⟨d.fdiv g,?_⟩,⟨b.fdiv g,Px ..⟩,?_⟩
 ·have:b.fdiv g*d=b.fdiv g*(g*d.fdiv g):=by rw [<-e2]
  rw [this];let h3:b*d.fdiv g=g*b.fdiv g*d.fdiv g:=by rw [<-e1]
  rw [h3];rw [<-WE,Px (b.fdiv g) g]
 ·rw [NL]
  exact N2 _ (by
   have:=e_ (g:=g) (a:=b.fdiv g) ga;rw [<-e1] at this
   exact this)
def abN {b:Int}(hq:0<q.2)(h:q.2 ∣ b):((q.1*b.fdiv q.2:Int):Rat)=vl q*b:=by
 let e:=abx (b:=b) (d:=q.2) ga h;have:((q.1*b.fdiv q.2:Int):Rat)=q.1*((b.fdiv q.2:Int):Rat):=by push_cast;rfl
 rw [this,e];unfold vl;grind
def iZ {b d:Int}(hd:d≠0)(h:d ∣ b):(b.fdiv d).natAbs<=b.natAbs:=by
 have:=e_ (g:=d) (a:=b.fdiv d) hd;rwa [<-de hd h] at this
section
variable {D:AG}{te:TE}{oe:L2.St}{H1:Hp}{Q:VK}
def abJ (n:Nat)(xs:Nat->V)(Rel:Nat->V->Hp->Prop)(nD:H1 D=none)(hn:n<C_)
  (go:∀i H,i<n->aq H1 H->J.go i H/\∀x H',J.M6 i H x H' ->H'=H/\x=xs i) (stop:∀H,aq H1 H->J.stop n H)
  (hR:∀i v H H' ys,H D=some (.lst ys)->bh D H H' ->Rel i v H->Rel i v H')
  (he:∀i H (R:VK),i<n->aq H1 H->(∃ys,H D=some (.lst ys))->(∀v H6,aq H H6->Rel i v H6->R v H6)->te (some (xs i)::oe) H R)
  (hd:∀ys H,ys.length=n->(∀i v,ys[i]?=some v->Rel i v H)->aq H1 H->H D=some (.lst ys)->Q (.ref D) H):
  lW D (b_ 0) jn te J (none::oe) H1 Q:=by
 refine wJ n xs (fun i ys H=>ys.length=i/\(∀i v,ys[i]?=some v->Rel i v H)/\aq H1 H) ⟨rfl,fun i v e=>by simp at e,fun b o e=>by rwa [ao (ak e nD)]⟩ ?_ ?_ ?_ ?_
 ·rintro i ys H hi ⟨_,_,s⟩
  exact go i H hi s
 ·rintro ys H ⟨_,_,s⟩
  exact stop H s
 ·rintro i ys H R hi ⟨l,r,s⟩ hD k
  refine he i H R hi s ⟨_,hD⟩ fun v H6 s6 rv=>k v H6 (s6 _ _ hD) ga ⟨by simp [l],fun j u e=>?_,fun b o e=>?_⟩
  ·by_cases c:j<ys.length
   ·rw [K_ c] at e
    let ru:=hR j u H H6 ys hD (bh.of s6) (r j u e);exact hR j u H6 _ ys (s6 _ _ hD) bh.upd ru
   ·rw [Kx ga] at e
    let ej:j=i:=by
     by_cases z:j-ys.length=0
     ·omega
     ·rw [EZ (by simp;omega)] at e
      cases e
    subst ej
    have:v=u:=by
     rw [show j-ys.length=0 by omega] at e;exact FA e
    subst this;exact hR j v H6 _ ys (s6 _ _ hD) bh.upd rv
  ·rw [ao (ak e nD)]
   exact s6 _ _ (s _ _ e)
 ·rintro ys H ⟨l,r,s⟩ hD
  exact hd ys H l r s hD
def lY {K:Frag}(Rel:Nat->V->Hp->Prop)(nD:H1 D=none)(hn:xs.length<C_)(hS:∀H,aq H1 H->aU K H a xs)
  (hR:∀i v H H' ys,H D=some (.lst ys)->bh D H H' ->Rel i v H->Rel i v H')
  (he:∀i x H (R:VK),xs[i]?=some x->aq H1 H->(∃ys,H D=some (.lst ys))->(∀v H6,aq H H6->Rel i v H6->R v H6)->te (some x::oe) H R)
  (hd:∀ys H,ys.length=xs.length->(∀i v,ys[i]?=some v->Rel i v H)->aq H1 H->H D=some (.lst ys)->Q (.ref D) H):
  lW D (b_ 0) jn te (M8 K a) (none::oe) H1 Q:=by
 refine abJ xs.length (fun i=>(xs[i]?).getD .dw) Rel nD hn (fun i H hi s=>⟨⟨xs,xs[i],hS H s,gE hi⟩,fun x H' y=>⟨y.1,?_⟩⟩) (fun H s=>⟨xs,hS H s,DU _⟩) hR (fun i H R hi s dd k=>?_) hd
 ·rw [y.2 xs (hS H s)];rfl
 ·let e:xs[i]?=some xs[i]:=gE hi
  let k':=he i _ H R e s dd k;rw [<-(show (xs[i]?).getD .dw=xs[i] by rw [e];rfl)] at k';exact k'
end
end Ty
namespace L2
open PySem PySem.Spec PyProof.Rows
section
variable {κ:Type}[DecidableEq κ]
def cI (AD:List (κ×V))(k:κ):Option V:=(AD.find? fun kv=>decide (kv.1=k)).map (·.2)
def putK (AD:List (κ×V))(k:κ)(v:V):List (κ×V):=
 if (AD.any fun kv=>decide (kv.1=k))=true then AD.map (fun kv=>if kv.1=k then (kv.1,v) else kv) else AD++[(k,v)]
def cw {k:κ}(e:p.1=k):cI (p::r) k=some p.2:=by simp [cI,Rx,e]
def bO {k:κ}(e:¬ p.1=k):cI (p::r) k=cI r k:=by simp [cI,Rx,e]
theorem i0 (k:κ):∀AD:List (κ×V),(AD.any fun kv=>decide (kv.1=k))=(cI AD k).isSome
 | []=>rfl
 | p::r=>by
  rw [Sg];by_cases e:p.1=k
  ·simp only [cw e,Kk e,Bool.true_or,Option.isSome_some]
  ·rw [bO e,O7 e,aoc];exact i0 k r
theorem yV (k j:κ)(y:V):∀AD:List (κ×V),cI (AD.map fun kv=>if kv.1=k then (kv.1,y) else kv) j=(cI AD j).map fun x=>if j=k then y else x
 | []=>rfl
 | p::r=>by
  let ih:=yV k j y r;rw [DG];by_cases h:p.1=k
  ·rw [mK h]
   by_cases e:p.1=j
   ·rw [cw (p:=(p.1,y)) e,cw e,R_,mK (e.symm.trans h)]
   ·rw [bO (p:=(p.1,y)) e,bO e,ih]
  ·rw [mJ h]
   by_cases e:p.1=j
   ·rw [cw (p:=p) e,cw e,R_,mJ (fun z=>h (e.trans z))]
   ·rw [bO (p:=p) e,bO e,ih]
theorem vv (k j:κ)(y:V):∀AD:List (κ×V),cI AD k=none->cI (AD++[(k,y)]) j=if j=k then some y else cI AD j
 | [],_=>by
  by_cases e:k=j
  ·rw [mK e.symm];exact cw (p:=(k,y)) e
  ·rw [mJ (fun z=>e z.symm)];exact bO (p:=(k,y)) e
 | p::r,hn=>by
  rw [Sj];let hk:¬ p.1=k:=fun z=>by erw [cw z] at hn
  rw [bO hk] at hn;let ih:=vv k j y r hn;by_cases e:p.1=j
  ·rw [cw e,cw e,mJ (fun z=>hk (e.trans z))]
  ·rw [bO e,bO e,ih]
def yW (AD:List (κ×V))(k j:κ)(y:V):cI (putK AD k y) j=if j=k then some y else cI AD j:=by
 unfold putK;by_cases a:(AD.any fun kv=>decide (kv.1=k))=true
 ·rw [mK a,yV]
  rw [i0] at a;by_cases e:j=k
  ·obtain ⟨x,hx⟩:=ahy.mp a
   rw [mK e,e,hx,R_,mK rfl]
  ·rw [mJ e]
   cases cI AD j with
   | none=>rfl
   | some x=>rw [R_,mJ e]
 ·rw [mJ a]
  refine vv k j y AD ?_;rw [i0] at a;cases q:cI AD k with
  | none=>rfl
  | some x=>rw [q] at a;exact (a rfl).elim
def iB (AD:List (κ×V))(k:κ)(v:V):(putK AD k v).length<=AD.length+1:=by
 unfold putK;split
 ·rw [ir];omega
 ·rw [ER,Me,zp];omega
def dJ {k:κ}(v:V)(h:cI AD k=none):putK AD k v=AD++[(k,v)]:=by
 unfold putK;rw [i0,h];exact mJ gt
def jL.i5 {o:Α}(r:jL o u):o.isSome=u.isSome:=by
 cases o with
 | none=>cases u with
  | none=>rfl
  | some _=>exact (show False from r).elim
 | some _=>cases u with
  | none=>exact (show False from r).elim
  | some _=>rfl
theorem jL.getD {o:Α}(r:jL o u)(rd:RelV d d'):RelV (o.getD d) (u.getD d'):=by
 cases o with
 | none=>cases u with
  | none=>exact rd
  | some _=>exact (show False from r).elim
 | some _=>cases u with
  | none=>exact (show False from r).elim
  | some _=>exact r
def KV.val (r:KV AD vs)(k:κ):jL (cI AD k) (valueAt vs k):=by
 unfold KV at r
 induction r with
 | nil=>exact True.intro
 | @cons p q ps qs h t ih=>
  obtain ⟨h1,h2⟩:=h;by_cases e:p.1=k
  ·let e':q.1=k:=h1.symm.trans e
   let b:valueAt (q::qs) k=some q.2:=by simp [valueAt,Rx,e']
   rwa [cw e,b]
  ·let e':¬ q.1=k:=fun z=>e (h1.trans z)
   let b:valueAt (q::qs) k=valueAt qs k:=by simp [valueAt,Rx,e']
   rwa [bO e,b]
theorem KV.any (r:KV AD vs)(k:κ):(AD.any fun kv=>decide (kv.1=k))=vs.any fun kv=>decide (kv.1=k):=by
 unfold KV at r
 induction r with
 | nil=>rfl
 | cons h t ih=>rw [Sg,Sg,ih,h.1]
def KV.VO (r:KV AD vs)(k:κ)(ry:RelV y u):
  KV (AD.map fun kv=>if kv.1=k then (kv.1,y) else kv) (vs.map fun kv=>if kv.1=k then (kv.1,u) else kv):=by
 unfold KV at r ⊢
 induction r with
 | nil=>exact .nil
 | @cons p q ps qs h t ih=>
  rw [DG,DG];refine .cons ?_ ih;obtain ⟨h1,h2⟩:=h;by_cases e:p.1=k
  ·rw [mK e,mK (h1.symm.trans e)];show ⟨h1,ry⟩
  ·rw [mJ e,mJ (fun z=>e (h1.trans z))];show ⟨h1,h2⟩
def KV.put (r:KV AD vs)(k:κ)(ry:RelV y u):KV (putK AD k y) (stored vs k u):=by
 unfold putK stored;rw [r.any k];by_cases e:(vs.any fun kv=>decide (kv.1=k))=true
 ·rw [mK e,mK e];exact r.VO k ry
 ·rw [mJ e,mJ e];exact V7 r ⟨rfl,ry⟩
def KV.keys {vs:List (κ×Value)}(r:KV AD vs):AD.map (·.1)=vs.map (·.1):=by
 unfold KV at r
 induction r with
 | nil=>rfl
 | cons h t ih=>rw [DG,DG,ih,h.1]
theorem KV.length {vs:List (κ×Value)}(r:KV AD vs):AD.length=vs.length:=EO r
end
def qJ (r:RelV (kV k) u):(bN P w).is k u=true:=by
 cases k with
 | inl i=>obtain ⟨t,e⟩:=(show ∃t,u=Value.int i t from r);subst e;exact ahw P w i t
 | inr x=>obtain ⟨t,e⟩:=(show ∃t,u=Value.str x t from r);subst e;exact ahv P w x t
theorem vw :∀{ks:List Key} {us:τ},Vals (ks.map kV) us->ItemsAre (bN P w) ks us
 | [],_,r=>by erw [MV] at r;exact .nil
 | k::ks,_,r=>by
  rw [DG] at r;cases r with
  | cons h t=>exact .cons (qJ h) (vw t)
abbrev KT (H:Hp):List (List Key×V)->List (List Key×AG×Value)->Prop:=Paired fun p q=>p.1=q.1/\H q.2.1=some (.tup (p.1.map kV))/\RelV p.2 q.2.2
def KT.val {AD:Ε}{xs:Χ}(r:KT H AD xs)(k:List Key):jL (cI AD k) ((atKey xs k).map (·.2)):=by
 induction r with
 | nil=>exact True.intro
 | @cons p q ps qs h t ih=>
  obtain ⟨h1,_,h2⟩:=h;by_cases e:p.1=k
  ·let e':q.1=k:=h1.symm.trans e
   let b:atKey (q::qs) k=some q.2:=by simp [atKey,Rx,e']
   rwa [cw e,b]
  ·let e':¬ q.1=k:=fun z=>e (h1.trans z)
   let b:atKey (q::qs) k=atKey qs k:=by simp [atKey,Rx,e']
   rwa [bO e,b]
def KT.VO {AD:Ε}{xs:Χ}(r:KT H AD xs)(k:List Key)(ry:RelV y u):
  KT H (AD.map fun kv=>if kv.1=k then (kv.1,y) else kv) (xs.map (putAt k u)):=by
 induction r with
 | nil=>exact .nil
 | @cons p q ps qs h t ih=>
  rw [DG,DG];refine .cons ?_ ih;obtain ⟨h1,h2,h3⟩:=h;unfold putAt;by_cases e:p.1=k
  ·rw [mK e,mK (h1.symm.trans e)];show ⟨h1,h2,ry⟩
  ·rw [mJ e,mJ (fun z=>e (h1.trans z))];show ⟨h1,h2,h3⟩
def KT.put {AD:Ε}{xs:Χ}(r:KT H AD xs)(k:List Key)(hb:H b=some (.tup (k.map kV)))(ry:RelV y u):
  KT H (putK AD k y) (storedH xs k b u):=by
 let e:(AD.any fun kv=>decide (kv.1=k))=(atKey xs k).isSome:=by
  rw [i0,(r.val k).i5,yz]
 unfold putK storedH;rw [e];by_cases q:(atKey xs k).isSome=true
 ·rw [mK q,mK q];exact r.VO k ry
 ·rw [mJ q,mJ q];exact V7 r ⟨rfl,hb,ry⟩
def KT.keeps {AD:Ε}{xs:Χ}(r:KT H AD xs)(ht:∀b ys,H b=some (.tup ys)->H' b=some (.tup ys)):KT H' AD xs:=
 Paired.cg r fun _ _ z=>⟨z.1,ht _ _ z.2.1,z.2.2⟩
section
variable {P:FQ}{w:World}{H:Hp}{h:Heap}{a:AG}
def T_ (ok:lG P w H h)(e:Rd H a u):dr P w H h a u:=e.ok ok
def jC (ok:lG P w H h)(e:Rd H a (.dK AD)):AD.length<=C_/\(a==Ks)=false/\∃vs,KV AD vs/\h.DictOf (bN P w) a vs:=
 show dr P w H h a (.dK AD) from T_ ok e
def vx (ok:lG P w H h)(e:H a=some (.dK AD)):AD.length<=C_/\(a==Ks)=false/\∃vs,KV AD vs/\h.DictOf (bN P w) a vs:=jC ok (.inl e)
def pI (ok:lG P w H h)(e:H a=some (.tup (ks.map kV))):(tupleKind (bN P w)).is h ks a:=by
 obtain ⟨_,AI,r,o,h1,h2,n,h3⟩:=(show dr P w H h a (.tup (ks.map kV)) from ok a _ e);show ⟨o,AI.toArray,n,h1,h2,h3,by simpa using vw r⟩
def qK (ok:lG P w H h)(e:Rd H a (.dT AD)):AD.length<=C_/\(a==Ks)=false/\
  ∃xs,KT H AD xs/\h.DictOfH (tupleKind (bN P w)) a xs:=by
 obtain ⟨z,y,xs,r,o,es,ep,h1,h2,h3,h4,h5⟩:=(show dr P w H h a (.dT AD) from T_ ok e);show ⟨z,y,xs,r,o,es,ep,h1,h2,h3,h4,fun x hx=>?_,h5⟩
 let all:∀{l:Ε} {m:Χ},KT H l m->∀x∈m,(tupleKind (bN P w)).is h x.1 x.2.1:=by
  intro l m q
  induction q with
  | nil=>intro x hx;exact nomatch hx
  | @cons p q ps qs hq t ih=>
   intro x hx
   rcases KD.mp hx with e|hx
   ·subst e
    exact pI ok (by rw [<-hq.1];exact hq.2.1)
   ·exact ih x hx
 exact all r x hx
def zaz (ok:lG P w H h)(e:H a=some (.dT AD)):AD.length<=C_/\(a==Ks)=false/\
  ∃xs,KT H AD xs/\h.DictOfH (tupleKind (bN P w)) a xs:=qK ok (.inl e)
end
def eZ (H:Hp)(a:AG)(y:V)(r:Α):Prop:=
 (∃AD k,Rd H a (.dK AD)/\y=kV k/\r=cI AD k)\/∃AD k b,Rd H a (.dT AD)/\y=.ref b/\H b=some (.tup (k.map kV))/\r=cI AD k
def iS (H:Hp)(a:AG)(y v:V)(H':Hp):Prop:=
 (∃AD k,H a=some (.dK AD)/\y=kV k/\AD.length<C_/\H'=upd H a (.dK (putK AD k v)))\/
 ∃AD k b,H a=some (.dT AD)/\y=.ref b/\H b=some (.tup (k.map kV))/\AD.length<C_/\H'=upd H a (.dT (putK AD k v))
theorem eZ.k {AD:δ}{k:Key}(e:H a=some (.dK AD)):eZ H a (kV k) (cI AD k):=.inl ⟨AD,k,.inl e,rfl,rfl⟩
theorem iS.k {AD:δ}{k:Key}(e:H a=some (.dK AD))(hl:AD.length<C_):iS H a (kV k) v (upd H a (.dK (putK AD k v))):=.inl ⟨AD,k,e,rfl,hl,rfl⟩
def iS.t {AD:Ε}{k:List Key}(e:H a=some (.dT AD))(eb:H b=some (.tup (k.map kV)))(hl:AD.length<C_):
  iS H a (.ref b) v (upd H a (.dT (putK AD k v))):=.inr ⟨AD,k,b,e,rfl,eb,hl,rfl⟩
section
variable {X:Cx}{pX:η}{Y:St}{H:Hp}{s:D'}{a:AG}{y v:V}{u r:Value}{o:Α}{A:KH}{E:ε}
def Inv.big (I:Inv X pX Y H s):Ks<s.heap.objs.size:=by
 let h:K0<s.heap.objs.size:=(I.mod.glob.keeps I.bk).lt;exact ZP gt h
def ae2 {Q:ε}(hu:A.units+1<Mn)(I:Inv X pX Y H s)(g:eZ H a y (some v))(ry:RelV y u)(h:∀w' s',Inv X pX Y H s' ->RelV v w' ->Q w' s'):
  C' (CY X.prog X.w) A (getItem (.ref a) u) Q E s:=by
 rcases g with ⟨AD,k,e,ey,l⟩|⟨AD,k,b,e,ey,eb,l⟩
 ·subst ey
  obtain ⟨z,hd,vs,rel,dd⟩:=jC I.bZ e;obtain ⟨w',hw,yr⟩:=jL.some_of (v:=v) (o:=valueAt vs k) (by rw [l];exact rel.val k);exact wpAny_getItem_of (qJ ry) dd.mapOf hw (h w' _ (I.tok _) yr)
 ·subst ey
  cases (show u=Value.ref b from ry);obtain ⟨z,hd,xs,rel,dd⟩:=qK I.bZ e;obtain ⟨w',hw,yr⟩:=jL.some_of (v:=v) (o:=(atKey xs k).map (·.2)) (by rw [l];exact rel.val k);obtain ⟨p,hp,σ8⟩:=K9.mp hw;refine wpAny_getItem_heap (Xr hu) (pI I.bZ eb) dd hp ?_;rw [σ8];exact h w' _ (I.tok _) yr
def agk {Q:ε}(hu:A.units+1<Mn)(I:Inv X pX Y H s)(g:eZ H a y o)(ry:RelV y u)(h:∀s',Inv X pX Y H s' ->Q (.bool o.isSome) s'):
  C' (CY X.prog X.w) A (Mg .In u (.ref a)) Q E s:=by
 rcases g with ⟨AD,k,e,ey,l⟩|⟨AD,k,b,e,ey,eb,l⟩
 ·subst ey
  obtain ⟨z,hd,vs,rel,dd⟩:=jC I.bZ e;refine wpAny_in_of (qJ ry) hd dd.mapOf ?_;rw [<-(rel.val k).i5,<-l];exact h _ (I.tok _)
 ·subst ey
  cases (show u=Value.ref b from ry);obtain ⟨z,hd,xs,rel,dd⟩:=qK I.bZ e;refine wpAny_in_heap (Xr hu) (pI I.bZ eb) hd dd ?_;let q:=(rel.val k).i5;rw [yz] at q;rw [<-q,<-l];exact h _ (I.tok _)
def acD {Q:ε}(hu:A.units+1<Mn)(I:Inv X pX Y H s)(g:eZ H a y o)(ry:RelV y u)(h:∀s',Inv X pX Y H s' ->Q (.bool (!o.isSome)) s'):
  C' (CY X.prog X.w) A (Mg .NotIn u (.ref a)) Q E s:=by
 rcases g with ⟨AD,k,e,ey,l⟩|⟨AD,k,b,e,ey,eb,l⟩
 ·subst ey
  obtain ⟨z,hd,vs,rel,dd⟩:=jC I.bZ e;refine wpAny_notIn_of (qJ ry) hd dd.mapOf ?_;rw [<-(rel.val k).i5,<-l];exact h _ (I.tok _)
 ·subst ey
  cases (show u=Value.ref b from ry);obtain ⟨z,hd,xs,rel,dd⟩:=qK I.bZ e;refine wpAny_notIn_heap (Xr hu) (pI I.bZ eb) hd dd ?_;let q:=(rel.val k).i5;rw [yz] at q;rw [<-q,<-l];exact h _ (I.tok _)
def rV (I:Inv X pX Y H s)(mu:Yf (H a))(hs:Xo a s.heap h')(he:∃q,h'.get? a=some q)(new:dr X.prog X.w (upd H a ob) h' a ob):
  Inv X pX Y (upd H a ob) {s with heap:=h',toks:=t'}:=
 I.write (x:=a) (e:=a) mu (.inl rfl) (fun b q hb z=>(hs.2 b hb).trans z) he new
def DJ {AD:δ}(z:AD.length<=C_)(hd:(a==Ks)=false)(rel:KV AD vs)(dd:h'.DictOf (bN P w) a vs):
  dr P w H' h' a (.dK AD):=⟨z,hd,vs,rel,dd⟩
def abz (hu:A.units+1<Mn)(I:Inv X pX Y H s)(g:iS H a y v H')(ry:RelV y u)(rv:RelV v r)(h:∀s',Inv X pX Y H' s' ->Q () s'):
  C' (CY X.prog X.w) A (setItem (.ref a) u r) Q E s:=by
 rcases g with ⟨AD,k,e,ey,l,eH⟩|⟨AD,k,b,e,ey,eb,l,eH⟩
 ·subst ey eH
  obtain ⟨z,hd,vs,rel,dd⟩:=vx I.bZ e;let hz:vs.length<=C_:=by rwa [<-rel.length]
  let hl:(putK AD k v).length<=C_:=by have:=iB AD k v;omega
  refine wpAny_setItem_pairs (hsz:=hz) (qJ ry) dd fun h' VP hs=>h _ ?_;let he:∃q,h'.get? a=some q:=let ⟨q,_,_,hq,_⟩:=VP;⟨q,hq⟩;exact rV I (by rw [e];exact True.intro) hs he (DJ hl hd (rel.put k rv) VP)
 ·subst ey eH
  cases (show u=Value.ref b from ry);obtain ⟨z,hd,xs,rel,dd⟩:=zaz I.bZ e;let hz:xs.length<=C_:=by rwa [<-EO rel]
  let hl:(putK AD k v).length<=C_:=by have:=iB AD k v;omega
  refine wpAny_setItem_heap (hsz:=hz) (Xr hu) (pI I.bZ eb) dd fun h' VP hs=>h _ ?_;obtain ⟨q,es,ep,hq,h2,h3,h4,_,h5⟩:=VP;refine rV I (by rw [e];exact True.intro) hs ⟨q,hq⟩ ⟨hl,hd,_,(rel.put k eb rv).keeps fun c ys ec=>?_,q,es,ep,hq,h2,h3,h4,h5⟩;rwa [ao (zad ec e (fun z=>nomatch z))]
end
section
variable {X:Cx}{pX:η}{Y:St}{H:Hp}{s:D'}{a:AG}{AD:δ}{k:Key}{u:Value}{A:KH}{E:ε}
def zav {Q:ε}(I:Inv X pX Y H s)(e:Rd H a (.dK AD))(h:∀t s',Inv X pX Y H s' ->Q (.int AD.length t) s'):C' (CY X.prog X.w) A (call (.builtin "len") [.ref a]) Q E s:=by
 obtain ⟨z,hd,vs,rel,dd⟩:=jC I.bZ e;refine call_len_dict hd dd (by rw [<-rel.length];rw [Vk] at z;omega) ?_;rw [<-rel.length];exact h _ _ (I.tok _)
end
def Y_ (i:Expr):Prop:=∀ov iv,subscripted i false ov iv=operate [ov,iv] (getItem ov iv)
def ac5 {E:ε}{T id:String}{Q:ε}
  (hl:typeLookup (.type T) "__getitem__"=pure (some (.builtin id))) (hs:Y_ slice)
  (h:C' (CY prog w) A (DX value env) (fun o mM=>C' (CY prog w) A (DX slice env) (fun i qu=>qu.TypeIs o T/\C' (CY prog w) A (getItem o i) Q E qu) E mM) E s):
  C' (CY prog w) A (DX (.Subscript value slice pos) env) Q E s:=by
 refine Subscript_ (Ku h (fun o mM oR=>Ku oR (fun i qu ra=>?_) fun _ _ x=>x) fun _ _ x=>x);obtain ⟨hT,ra⟩:=ra;unfold subscriptTail;refine CV ?_;rw [getitemInPython_of_ne hT.not_modules];refine CV (wpAny_specialOf hT hl ?_)
 let fin:C' (CY prog w) A (subscripted slice false o i) (fun r s₃=>C' (CY prog w) A (letTemporaryGo value o r >>=fun _=>pure r) Q E s₃) E qu:=by
  rw [hs o i];exact wpAny_operating (Ku ra (fun r s₃ h₃=>CV (wpAny_letTemporaryGo (DV h₃))) fun _ _ x=>x)
 first
  | exact DV (CV fin)
  | exact CV (DV (CV fin))
  | exact CV fin
def ahx {Y:St}(I:Inv X pX Y H s)(g:eZ H a y o):s.TypeIs (.ref a) "dict":=by
 rcases g with ⟨AD,k,e,_,_⟩|⟨AD,k,b,e,_,_,_⟩
 ·obtain ⟨_,_,vs,_,dd⟩:=jC I.bZ e
  exact dd.typeIs
 ·obtain ⟨_,_,xs,_,dd⟩:=qK I.bZ e
  exact dd.typeIs
inductive NU (Q:VK)(x:V)(y:V)(H2:Hp):Prop
|mk (a v:_)(_:x=.ref a)(_:eZ H2 a y (some v))(_:Q v H2)
def acU (td ty:TE):TE:=fun Y H Q=>td Y H fun x H1=>ty Y H1 fun y H2=>NU Q x y H2
inductive Ua (Q:VK)(y:V)(x:V)(H2:Hp):Prop
|mk (a o:_)(_:x=.ref a)(_:eZ H2 a y o)(_:Q (.bl o.isSome) H2)
def agl (ty td:TE):TE:=fun Y H Q=>ty Y H fun y H1=>td Y H1 fun x H2=>Ua Q y x H2
inductive yY (Q:VK)(y:V)(x:V)(H2:Hp):Prop
|mk (a o:_)(_:x=.ref a)(_:eZ H2 a y o)(_:Q (.bl (!o.isSome)) H2)
def ae5 (ty td:TE):TE:=fun Y H Q=>ty Y H fun y H1=>td Y H1 fun x H2=>yY Q y x H2
inductive NV (D:Ends)(Y:L2.St)(v:V)(x:V)(y:V)(H3:Hp):Prop
|mk (a H4:_)(_:x=.ref a)(_:iS H3 a y v H4)(_:D.nx Y H4)
def agn (td ty tv:TE):TS:=fun D Y H=>tv Y H fun v H1=>td Y H1 fun x H2=>ty Y H2 fun y H3=>NV D Y v x y H3
section
variable {X:Cx}{o i e value:Expr}{pos pos' wg:Pos}{td ty tv:TE}
def fS (hu:X.A.units+1<Mn)(ho:PE X o td)(hi:PE X i ty)(hs:Y_ i):PE X (.Subscript o i pos) (acU td ty):=by
 intro pX s Y H Q I h;refine ac5 PySem.F.slot_dict_getitem.lookup hs (cY (ho pX s Y H _ I h) fun u s1 ⟨x,H1,I1,rx,q1⟩=>cY (hi pX s1 Y H1 _ I1 q1) fun iv s2 ⟨y,H2,I2,ry,a,v,ex,g,q2⟩=>?_);subst ex;obtain rfl:u=Value.ref a:=rx;show ⟨ahx I2 g,ae2 hu I2 g ry fun w' s3 I3 yr =>⟨v,H2,I3,yr,q2⟩⟩
def NW (hu:X.A.units+1<Mn)(hi:PE X i ty)(ho:PE X o td):PC X .In i o (agl ty td):=by
 intro pX s Y H Q I h;refine cY (hi pX s Y H _ I h) fun iv s1 ⟨y,H1,I1,ry,q1⟩=>cY (ho pX s1 Y H1 _ I1 q1) fun u s2 ⟨x,H2,I2,rx,a,ov,ex,g,q2⟩=>?_;subst ex;obtain rfl:u=Value.ref a:=rx;exact agk hu I2 g ry fun s3 I3=>⟨.bl ov.isSome,H2,I3,rfl,q2⟩
def pJ (hu:X.A.units+1<Mn)(hi:PE X i ty)(ho:PE X o td):PC X .NotIn i o (ae5 ty td):=by
 intro pX s Y H Q I h;refine cY (hi pX s Y H _ I h) fun iv s1 ⟨y,H1,I1,ry,q1⟩=>cY (ho pX s1 Y H1 _ I1 q1) fun u s2 ⟨x,H2,I2,rx,a,ov,ex,g,q2⟩=>?_;subst ex;obtain rfl:u=Value.ref a:=rx;exact acD hu I2 g ry fun s3 I3=>⟨.bl (!ov.isSome),H2,I3,rfl,q2⟩
def dQ (hu:X.A.units+1<Mn)(ho:PE X o td)(hi:PE X i ty)(hv:PE X value tv)(hs:Q9 value (some (.Subscript o i pos')) pos.line X.env=pure false):
  PS X (.Assign [.Subscript o i pos'] value pos) (agn td ty tv):=by
 intro pX s Y H D I h;refine wpAny_Assign_Subscript (cY (hv pX s Y H _ I h) fun r s1 ⟨v,H1,I1,rv,q1⟩=>cY (ho pX s1 Y H1 _ I1 q1) fun u s2 ⟨x,H2,I2,rx,q2⟩=>cY (hi pX s2 Y H2 _ I2 q2) fun iv s3 ⟨y,H3,I3,ry,a,H4,ex,g,q3⟩=>?_) hs;subst ex;obtain rfl:u=Value.ref a:=rx;exact abz hu I3 g ry rv fun s4 I4=>⟨Y,H4,I4,q3⟩
end
def yZ (h:Heap)(hb:Ks<h.objs.size):dr P w H (h.push {cls:=.type "dict",data:=.dict #[]}) h.objs.size (.dK []):=
 ⟨KZ _,beq_eq_false_iff_ne.mpr (FG (KJ hb)),[],.nil,Heap.DictOf.new h⟩
def zam (h:Heap)(hb:Ks<h.objs.size):dr P w H (h.push {cls:=.type "dict",data:=.dict #[]}) h.objs.size (.dT []):=
 ⟨KZ _,beq_eq_false_iff_ne.mpr (FG (KJ hb)),[],.nil,_, #[],0,L6 _ rfl,⟨rfl,rfl,rfl⟩,rfl,rfl,ZF⟩
def zax:TE:=fun _ H Q=>∀p,H p=none->Q (.ref p) (upd H p (.dK []))
def zas:TE:=fun _ H Q=>∀p,H p=none->Q (.ref p) (upd H p (.dT []))
section
variable {X:Cx}{pos:Pos}
def dX:PE X (.Dict [] [] pos) zax:=fun pX s Y H Q I h=>
 wpAny_Dict_empty ⟨.ref s.heap.objs.size,_,I.laid (a:=s.heap.objs.size) (o:=.dK []) (t':=s.toks) (fun _ _ q=>K1 _ q) (DU _) (yZ s.heap I.big),rfl,h _ (I.bZ.fresh (DU _))⟩
def agV:PE X (.Dict [] [] pos) zas:=fun pX s Y H Q I h=>
 wpAny_Dict_empty ⟨.ref s.heap.objs.size,_,I.laid (a:=s.heap.objs.size) (o:=.dT []) (t':=s.toks) (fun _ _ q=>K1 _ q) (DU _) (zam s.heap I.big),rfl,h _ (I.bZ.fresh (DU _))⟩
end
def DK:List (TE×TE)->St->Hp->(List (V×V)->Hp->Prop)->Prop
 | [],_,H,Q=>Q [] H
 | (tk,tv)::r,Y,H,Q=>tk Y H fun x H1=>tv Y H1 fun y H2=>DK r Y H2 fun ps H3=>Q ((x,y)::ps) H3
abbrev VV:List (V×V)->List (Value×Value)->Prop:=Paired fun p q=>RelV p.1 q.1/\RelV p.2 q.2
def PPs (X:Cx)(pos:Pos)(keys:List (Option Expr))(values:Β)(Ra:List (TE×TE)):Prop:=
 ∀(pX:η)(s:D')(Y:St)(H:Hp)(Q:List (V×V)->Hp->Prop),Inv X pX Y H s->DK Ra Y H Q->
  C' (CY X.prog X.w) X.A (evalPairs (pairTrees keys values X.env pos)) (fun vs s'=>∃ps H',Inv X pX Y H' s'/\VV ps vs/\Q ps H') X.xe s
def IH :PPs X pos [] [] []:=fun pX s Y H Q I h=>pairTrees_nil_walk ⟨[],H,I,.nil,h⟩
def tw (hk:PE X k tk)(hv:PE X v tv)(hr:PPs X pos ks vs Ra):
  PPs X pos (some k::ks) (v::vs) ((tk,tv)::Ra):=fun pX s Y H Q I h=>
 pairTrees_cons_walk (cY (hk pX s Y H _ I h) fun u s1 ⟨x,H1,I1,rx,q1⟩=>cY (hv pX s1 Y H1 _ I1 q1) fun w2 s2 ⟨y,H2,I2,ry,q2⟩=>
  cY (hr pX s2 Y H2 _ I2 q2) fun ws s3 ⟨ps,H3,I3,rel,q3⟩=>⟨(x,y)::ps,H3,I3,.cons ⟨rx,ry⟩ rel,q3⟩)
def cX (AD more:δ):List (Key×V):=more.foldl (fun acc kv=>putK acc kv.1 kv.2) AD
def KV.merge:∀{more:δ} {rs:List (Key×Value)} {AD:δ} {vs:List (Key×Value)},KV more rs->KV AD vs->KV (cX AD more) (merged vs rs):=by
 intro more rs AD vs r;unfold KV at r
 induction r generalizing AD vs with
 | nil=>intro q;exact q
 | @cons p q ps qs h t ih=>
  intro r0
  let e:KV (putK AD p.1 p.2) (stored vs q.1 q.2):=by
   have:=r0.put p.1 h.2;rw [<-h.1];exact this
  exact ih e
theorem iV:∀(more AD:δ),(cX AD more).length<=AD.length+more.length
 | [],AD=>by show AD.length<=AD.length+0;omega
 | p::r,AD=>by
  let h1:=iV r (putK AD p.1 p.2);let h2:=iB AD p.1 p.2;show (cX (putK AD p.1 p.2) r).length<=_;rw [Me];omega
theorem tD :∀{AD:δ} {ws:List (Value×Value)},VV (AD.map fun kv=>(kV kv.1,kv.2)) ws->∃rs,Carries (bN P w) ws rs/\KV AD rs
 | [],_,r=>by erw [MV] at r;show ⟨[],True.intro,.nil⟩
 | p::AD,_,r=>by
  rw [DG] at r;cases r with
  | @cons a b as bs h t=>
   obtain ⟨rs,c,q⟩:=tD (P:=P) (w:=w) t;obtain ⟨b1,b2⟩:=b;show ⟨(p.1,b2)::rs,⟨qJ h.1,rfl,c⟩,.cons ⟨rfl,h.2⟩ q⟩
def agh (Ra:List (TE×TE)):TE:=fun Y H Q=>∀p,H p=none->DK Ra Y (upd H p (.dK [])) fun ps H2=>H2 p=some (.dK [])/\∃AD:List (Key×V),ps=AD.map (fun kv=>(kV kv.1,kv.2))/\AD.length<=15/\Q (.ref p) (upd H2 p (.dK (cX [] AD)))
def II (h:PPs X pos keys values Ra)(Nz:keys.all (·.isSome)=true)(hl:keys.length=values.length)(h0:keys≠[])
  (h15:keys.length<=15):PE X (.Dict keys values pos) (agh Ra):=by
 intro pX s Y H Q I q;let hn:=I.bZ.fresh (DU s.heap.objs.size);let I1:=I.laid (a:=s.heap.objs.size) (o:=.dK []) (h':=s.heap.push {cls:=.type "dict",data:=.dict #[]}) (t':=s.toks) (fun _ _ q=>K1 _ q) (DU _) (yZ s.heap I.big);refine wpAny_Dict_walk (knd:=bN X.prog X.w) Nz hl h0 h15 (cY (h pX _ Y _ _ I1 (q _ hn)) fun ws s2 ⟨ps,H2,I2,rel,e,AD,ep,lk,q2⟩=>?_);subst ep;obtain ⟨rs,c,rk⟩:=tD (P:=X.prog) (w:=X.w) rel;obtain ⟨z,hd,vs0,r0,dd⟩:=vx I2.bZ e;cases r0;show ⟨rs,c,dd,fun h' VP hs=>⟨.ref s.heap.objs.size,_,?_,rfl,q2⟩⟩
 let hz:(cX [] AD).length<=C_:=by
  let h1:=iV AD [];rw [zp] at h1;rw [Vk];omega
 let he:∃q,h'.get? s.heap.objs.size=some q:=let ⟨q,_,_,hq,_⟩:=VP;⟨q,hq⟩;exact rV I2 (by rw [e];exact True.intro) hs he (DJ hz hd (rk.merge .nil) VP)
structure M2 (X:Cx)(o:Expr)(m:Str)(apos:Pos)(e f:Expr)(iw:Pos):Prop where
 iN:V6 o m X.env (DX o X.env)=DX o X.env
 few:((Kw iw (EX [e,f] X.env)).all (fun x=> !x.1) && (backToKw iw (V8 [] X.env)).all (fun x=>x.1.isSome)
  && decide (([e,f]:List Expr).length+([]:List Keyword).length+(if ([]:List Keyword).isEmpty then 0 else 1)<30))=true
 line:(apos.endLine==iw.line)=true
 trees:Kw iw (EX [e,f] X.env)=[(false,DX e X.env),(false,DX f X.env)]
def IsD (H:Hp)(a:AG):Prop:=(∃AD,Rd H a (.dK AD))\/∃AD,Rd H a (.dT AD)
def zao {Y:St}(I:Inv X pX Y H s)(d:IsD H a):
  s.TypeIs (.ref a) "dict"/\(∀b,Value.ref a=.ref b->∃ob,s.heap.get? b=some ob/\ob.dict=none)/\(a==Ks)=false:=by
 rcases d with ⟨AD,e⟩|⟨AD,e⟩
 ·obtain ⟨_,hd,vs,_,dd⟩:=jC I.bZ e
  show ⟨dd.typeIs,fun b q=>?_,hd⟩;cases q;obtain ⟨ob,_,_,h1,h2,_⟩:=dd;show ⟨ob,h1,h2.2.1⟩
 ·obtain ⟨_,hd,xs,_,dd⟩:=qK I.bZ e
  show ⟨dd.typeIs,fun b q=>?_,hd⟩;cases q;obtain ⟨ob,_,_,h1,h2,_⟩:=dd;show ⟨ob,h1,h2.2.1⟩
section
variable {X:Cx}{pX:η}{Y:St}{H:Hp}{s:D'}{a:AG}{y d:V}{u r:Value}{o:Α}{A:KH}{E:ε}
def zai {Q:ε}(hu:A.units+1<Mn)(I:Inv X pX Y H s)(g:eZ H a y o)(ry:RelV y u)(rd:RelV d r)(h:∀w' s',Inv X pX Y H s' ->RelV (o.getD d) w' ->Q w' s'):
  C' (CY X.prog X.w) A (call (.builtin "dict.get") [.ref a,u,r]) Q E s:=by
 rcases g with ⟨AD,k,e,ey,l⟩|⟨AD,k,b,e,ey,eb,l⟩
 ·subst ey
  obtain ⟨z,hd,vs,rel,dd⟩:=jC I.bZ e;refine Vd PySem.F.slot_dict_get dd.typeIs PySem.F.entry_dict_get (PySem.F.args_dict_get_3 _ _ _) (meets_dict_get_default (bN X.prog X.w) a (qJ ry) hd r) ⟨_,dd.mapOf,h _ _ (I.tok _) ?_⟩;rw [l];exact (rel.val k).getD rd
 ·subst ey
  cases (show u=Value.ref b from ry);obtain ⟨z,hd,xs,rel,dd⟩:=qK I.bZ e;refine Vd PySem.F.slot_dict_get dd.typeIs PySem.F.entry_dict_get (PySem.F.args_dict_get_3 _ _ _) (meetsH_dict_get_default (tupleKind (bN X.prog X.w)) a b hd r) ⟨Xr hu,k,xs,pI I.bZ eb,dd,h _ _ (I.tok _) ?_⟩;rw [l];exact (rel.val k).getD rd
end
def zaU (td ty tx:TE):TE:=fun Y H Q=>td Y H fun x H1=>∃a,x=.ref a/\IsD H1 a/\ty Y H1 fun y H2=>tx Y H2 fun z H3=>∃o,eZ H3 a y o/\Q (o.getD z) H3
section
variable {X:Cx}{o e f:Expr}{apos iw:Pos}{td ty tx:TE}
def ae4 (hu:X.A.units+1<Mn)(ho:PE X o td)(he:PE X e ty)(hf:PE X f tx)(m:M2 X o "get" apos e f iw):PE X (.Call (.Attribute o "get" apos) [e,f] [] iw) (zaU td ty tx):=by
 intro pX s Y H Q I h;refine wpAny_Call_method m.iN m.few m.line PySem.F.plainAttrs_dict PySem.F.slot_dict_get PySem.F.type_dict_get (cY (ho pX s Y H _ I h) fun u s1 ⟨x,H1,I1,rx,a,ex,d,q1⟩=>?_);subst ex;obtain rfl:u=Value.ref a:=rx;obtain ⟨t1,t2,_⟩:=zao I1 d;show ⟨t1,t2,?_⟩;rw [m.trees]
 refine u5 rfl (Calls.evalArgs_plain (tE (cY (he pX s1 Y H1 _ I1 q1) fun iv s2 ⟨y,H2,I2,ry,q2⟩=>
  tE (cY (hf pX s2 Y H2 _ I2 q2) fun fv s3 ⟨z,H3,I3,rz,ov,g,q3⟩=>Calls.spliced_nil ?_))))
 exact zai hu I3 g ry rz fun w' s4 I4 yr =>⟨_,H3,I4,yr,q3⟩
end
end L2
namespace Ty
open PySem PySem.Spec PyProof.Rows L2
section
variable {X:Cx}
def ae8 {Y:L2.St}(I:Inv X pX Y H s):s.heap.NoSeer:=I.ok.mod.seer.keeps I.bk
def cK.py (r:cK k A)(h:32<=k):A.depth+Builtin.pylongFrames<α8:=by
 have:=r.dp;have:Builtin.pylongFrames=100:=rfl;omega
def g7 (ht:X.prog.given.tree=none)(hd:X.A.depth+Builtin.pylongFrames<α8)(M1:X.stack=env::l)(h1:env.scope.isGenerator=false)(h2:env.scope.isCoroutine=false)(h3:env.builtins=builtinsNs)(h4:env.globals=K0):
  kA X (Nn .FloorDiv) (rI VD fun i j=>.int (i.fdiv j)):=by
 intro pX s Y H x y v u Q I rx ry h;obtain ⟨i,j,rfl,rfl,hc,q⟩:=h;obtain ⟨t,rfl⟩:=rx;obtain ⟨t',rfl⟩:=ry;exact floordiv_int hc ⟨.int _,H,I.tok _,⟨_,rfl⟩,q⟩ (.inr (PylongRoom.of I.nolimit hd (SeerAt.of (ae8 I) ht (by rw [I.ok.frames,M1]) h1 h2 h3 h4)))
end
section
variable {prog:FQ}{w:World}{A:KH}{E:ε}{s:D'}{KK:Type}[DecidableEq KK]{knd:KeyKind prog w KK}
def aeB (hm:s.heap.DictOf knd d AD)(h:Q false s):C' (CY prog w) A (Builtin.List.listLengthHint (.ref d)) Q E s:=by
 unfold Builtin.List.listLengthHint;refine CV (wpAny_specialOf (name:=Na "__len__") hm.typeIs F.slot_dict_len.lookup ?_);generalize hid:("dict.__len__":String)=id0
 wp_delta
 rw [show splitId id0=some ("dict","__len__") from by subst hid;decide+kernel];subst hid;refine CV (wpAny_isInstance (T:="dict") (b:=true) hm.typeIs (by rw [isSubtype_type];kernel_rfl) ?_);refine wpAny_ite_split (fun hab=>DL hab gt) (fun _=>?_);refine wpAny_ite_split (fun _=>?_) (fun hab=>DL (by decide+kernel) hab);refine CV (Ve (T:="dict") hm.typeIs ?_);exact DV h
def an3 {R:Φ}(hh:A.handled=none)(hd:(d==Ks)=false)(hm:s.heap.DictAt knd d AD ep)(hlen:AD.length<=C_)(S:AG)(res:Value)(c₀:Nat)(hS:s.heap.get? S=some {cls:=.type "list",data:=.seq #[] c₀})
  (hR:∀h' tk j0 c',(∀b o,b≠S->s.heap.get? b=some o->h'.get? b=some o)->h'.get? S=some {cls:=.type "list",dict:=none,data:=.seq j0 c',slots:= #[]}->
   ItemsOf (fun i v=>∃k x,AD[i]?=some (k,x)/\knd.is k v=true) j0 AD.length->R (.ok (.ret res)) {s with heap:=h',toks:=tk}):
  C' (CY prog w) A.in1 (uZ (.ref S) (.ref d) res)
   (fun fin s'=>match fin with | .done f=>R (.ok f) s' | .again c'=>c'.quiet=true/\NF (CY prog w) A c' R s') (fun e s'=>R (.error e) s') s:=by
 obtain ⟨od,es,XS,uR,g8,hk0,hp0,hn0⟩:=id hm;let hT:s.TypeIs (.ref d) "dict":=hm.dictOf.typeIs
 let XT:S≠d:=fun e=>by
  rw [e] at hS;erw [hS] at XS;cases g8
 let hdI:d≠s.heap.objs.size:=KJ (FI XS);let hSI:S≠s.heap.objs.size:=KJ (FI hS)
 let hSf:S∉[s.heap.objs.size,d]:=fun hm=>by
  rcases KD.mp hm with z|z
  ·exact hSI z
  ·exact XT (K3.mp z)
 let W:=(Walks.dictKeys (knd:=knd) (A:=A.in1) hh s.heap.objs.size d hdI AD ep).toS;unfold uZ;refine CV (Ve (T:="dict") hT ?_);let h1:Builtin.List.listSameRef (.ref S) (.ref d)=false:=by simp [Builtin.List.listSameRef,XT]
 let h2:(Value.type "dict"==Value.type "list")=false:=gt
 let h3:(Value.type "dict"==Value.type "tuple")=false:=gt
 simp only [h1,h2,h3,Bool.or_false,Vv,if_false];refine CV (wpAny_pyIter_dict hd hm ?_);let XU:(s.heap.push {cls:=.type "dict_keyiterator",data:=.fields #[.ref d,.int 0 0,.int AD.length 0,.int ep 0]}).DictAt knd d AD ep:=hm.at' fun o e=>K1 _ e;refine CV (Nj (aeB (knd:=knd) XU.dictOf ?_));let Zd:=K1 {cls:=.type "dict_keyiterator",data:=.fields #[.ref d,.int 0 0,.int AD.length 0,.int ep 0]} hS;let it₁:(s.heap.push {cls:=.type "dict_keyiterator",data:=.fields #[.ref d,.int 0 0,.int AD.length 0,.int ep 0]}).IsKeyIter s.heap.objs.size d 0 AD.length ep:=⟨_,L6 _ rfl,rfl,rfl⟩
 let key:∀(h:Heap)(c₁ tk:Nat),h.IsKeyIter s.heap.objs.size d 0 AD.length ep->h.DictAt knd d AD ep->(∀b o,b≠S->s.heap.get? b=some o->h.get? b=some o)->
   h.get? S=some {cls:=.type "list",data:=.seq #[] c₁}->NF (CY prog w) A (.builtin "list.extend.loop" ⟨[.ref S,.ref s.heap.objs.size,res],[]⟩) R {s with heap:=h,toks:=tk}:=by
  intro h c₁ tk hit hdm hk Zd;refine codeAny_extend_loopS W hlen S hSf res AD.length 0 _ #[] c₁ rfl (KZ _) ⟨hit,hdm⟩ Zd (ItemsOf.nil _) fun s' j0 c' hm' VW y6=>?_;rw [Moved.eq_with hm'];refine hR s'.heap s'.toks j0 c' (fun b o hb e=>hm'.heap b o (fun KS=>?_) (hk b o hb e)) VW y6
  rcases KD.mp KS with e'|KS
  ·exact hb e'
  ·exact DL (FI e) (by rw [K3.mp KS];exact O6 _)
 refine wpAny_ite_split (fun _=>?_) (fun _=>DV ⟨plainId_quiet F.plain_extend_loop _,key _ c₀ _ it₁ XU (fun b o _ e=>K1 _ e) Zd⟩);refine CV (wpAny_rule ?_);refine CV ?_;show C' _ _ (updateSeq S (·.push .none) >>=fun _=>updateSeq S (·.pop)) _ _ _;refine CV (ZD Zd rfl ?_);let hS₂:=wD (PD (·.push Value.none)) Zd rfl;refine ZD (hz:=by seq_fits) hS₂ rfl ?_;let hS₃:=wD (PD (·.pop)) hS₂ rfl;refine DV ⟨plainId_quiet F.plain_extend_loop _,key _ _ _ (it₁.at fun o e=>?_) (XU.at' fun o e=>?_) (fun b o hb e=>?_) hS₃⟩
 ·exact (Q3 _ _ hSI).trans ((Q3 _ _ hSI).trans e)
 ·exact (Q3 _ _ XT).trans ((Q3 _ _ XT).trans e)
 ·exact (Q3 _ _ (FG hb)).trans ((Q3 _ _ (FG hb)).trans (K1 _ e))
def adC {R:Φ}(hh:A.handled=none)(hd:(d==Ks)=false)(hm:s.heap.DictAt knd d AD ep)(hlen:AD.length<=C_)(S:AG)(hS:s.heap.get? S=some {cls:=.type "list",data:=.seq #[]})
  (hR:∀h' tk j0 c',(∀b o,b≠S->s.heap.get? b=some o->h'.get? b=some o)->h'.get? S=some {cls:=.type "list",dict:=none,data:=.seq j0 c',slots:= #[]}->
   ItemsOf (fun i v=>∃k x,AD[i]?=some (k,x)/\knd.is k v=true) j0 AD.length->R (.ok (.ret .none)) {s with heap:=h',toks:=tk}):
  C' (CY prog w) A.in1 (Builtin.«list.__init__» ⟨[.ref S,.ref d],[]⟩)
   (fun fin s'=>match fin with | .done f=>R (.ok f) s' | .again c'=>c'.quiet=true/\NF (CY prog w) A c' R s') (fun e s'=>R (.error e) s') s:=by
 obtain ⟨od,es,XS,uR,g8,hk0,hp0,hn0⟩:=id hm
 let XT:S≠d:=fun e=>by
  rw [e] at hS;erw [hS] at XS;cases g8
 show C' _ _ (do let old <- Builtin.List.listItems (.ref S);Builtin.List.listUpdate (.ref S) (fun _=> #[]);letGo old.toList.reverse;uZ (.ref S) (.ref d) .none) _ _ s;refine CV ?_;unfold Builtin.List.listItems;refine CV (α7 hS rfl (DV ?_));show C' _ _ (updateSeq S (fun _=> #[]) >>=fun _=>letGo (#[]:Array Value).toList.reverse >>=fun _=>uZ (.ref S) (.ref d) .none) _ _ s;refine CV (ZD hS rfl ?_);let hS₂:=wD (PD (fun _=>(#[]:Array Value))) hS rfl
 let oth:∀b o,b≠S->s.heap.get? b=some o->(s.heap.update S (PD (fun _=>(#[]:Array Value)))).get? b=some o:=
  fun b o hb e=>(Q3 _ _ (FG hb)).trans e
 refine CV (wpAny_letGo ?_);refine an3 hh hd (hm.at' fun o e=>oth d o (FG XT) e) hlen S .none _ hS₂ fun h' tk j0 c' hk VW y6=>?_;exact hR h' tk j0 c' (fun b o hb e=>hk b o hb (oth b o hb e)) VW y6
def ad9 {Q:ε}(hh:A.handled=none)(hd:(d==Ks)=false)(hm:s.heap.DictAt knd d AD ep)(hlen:AD.length<=C_)
  (hQ:∀h' tk j0 c',(∀b o,s.heap.get? b=some o->h'.get? b=some o)->
   h'.get? s.heap.objs.size=some {cls:=.type "list",dict:=none,data:=.seq j0 c',slots:= #[]}->ItemsOf (fun i v=>∃k x,AD[i]?=some (k,x)/\knd.is k v=true) j0 AD.length->Q (.ref s.heap.objs.size) {s with heap:=h',toks:=tk}):
  C' (CY prog w) A (call (.type "list") [.ref d]) Q E s:=by
 refine callType_codes (Q₁:=fun obj mM=>obj=.ref s.heap.objs.size/\mM={s with heap:=s.heap.push {cls:=.type "list",data:=.seq #[]}}) F.called_list (F.typeCall_list_1 _) F.entry_list_init
  (code_list_new _ ⟨rfl,rfl⟩) fun obj mM oR=>?_
 obtain ⟨rfl,rfl⟩:=oR;let hS:(s.heap.push {cls:=.type "list",data:=.seq #[]}).get? s.heap.objs.size=some {cls:=.type "list",data:=.seq #[]}:=L6 _ rfl;show ⟨⟨_,hS,rfl⟩,F.args_list_init_2 _ _,adC (A:=A.in1) hh hd (hm.at' fun o e=>K1 _ e) hlen _ hS fun h' tk j0 c' hk VW y6=>?_⟩;show ⟨rfl,hQ h' tk j0 c' (fun b o e=>hk b o (KJ (FI e)) (K1 _ e)) VW y6⟩
end
theorem aI :∀{oW:List Z} {oV:List β} {i:Nat} {a:Z},Paired F oW oV->oW[i]?=some a->∃b,oV[i]?=some b/\F a b
 | _,_,_,_,.nil,h=>by simp at h
 | _,_,0,_,.cons r _,h=>by
  cases h;show ⟨_,rfl,r⟩
 | _,_,i+1,_,.cons _ t,h=>by
  obtain ⟨b,e,f⟩:=aI (i:=i) t (by simpa using h);show ⟨b,by simpa using e,f⟩
theorem pK :∀{oW:List Z} {oV:List β},oW.length=oV.length->(∀(i:Nat)(a:Z)(b:β),oW[i]?=some a->oV[i]?=some b->F a b)->Paired F oW oV
 | [],[],_,_=>.nil
 | a::oW,b::oV,h,f=>.cons (f 0 a b rfl rfl) (pK (by simpa using h) fun i a b e1 e2=>f (i+1) a b (by simpa using e1) (by simpa using e2))
 | [],_::_,h,_=>by simp at h
 | _::_,[],h,_=>by simp at h
def wM (h:(bN P w).is k u=true):RelV (kV k) u:=by
 rcases cN h with ⟨i,t,rfl,rfl⟩|⟨x,t,rfl,rfl⟩
 ·show ⟨t,rfl⟩
 ·show ⟨t,rfl⟩
section
variable {X:Cx}
inductive N0 (xs:θ)(H:Hp)(Q:VK):Prop
|mk (p:AG)(AD:δ)(_:xs=[.ref p])(_:Rd H p (.dK AD))(_:∀l,H l=none->Q (.ref l) (upd H l (.lst (AD.map fun kv=>kV kv.1))))
def fZ (hc:X.calm=true):iz X (.type "list") N0:=by
 intro pX s Y H xs us Q I r h;obtain ⟨p,AD,rfl,hq,q⟩:=h;obtain ⟨u,rfl,r1⟩:=vals1 r;cases r1;obtain ⟨z,hd,vs,rel,o,es,ep,ho,hx,g8,hk,hp,hn⟩:=jC I.bZ hq;let hl:=rel.length;refine ad9 (knd:=bN X.prog X.w) (I.ok.hd hc) hd ⟨o,es,ho,hx,g8,hk,hp,hn⟩ ga fun h' tk j0 c' kk hS y6=>?_;let hn':=I.bZ.fresh (DU s.heap.objs.size)
 let rv:Vals (AD.map fun kv=>kV kv.1) j0.toList:=pK (by have:=y6.1;simp;omega) fun i a b e1 e2=>by
  rw [Wp] at e1;obtain ⟨kv,ek,rfl⟩:=K9.mp e1;obtain ⟨q',eq,e3,_⟩:=aI rel ek;obtain ⟨k,x,e4,e5⟩:=y6.2 i b (by simpa using e2);erw [eq] at e4;rw [e3];exact wM e5
 let I2:Inv X pX Y (upd H s.heap.objs.size (.lst (AD.map fun kv=>kV kv.1))) {s with heap:=h',toks:=tk}:=I.laid (t':=tk) kk (DU _) ⟨by rwa [ir],j0.toList,c',rv,by simpa using hS⟩;show ⟨.ref _,_,I2,rfl,q _ hn'⟩
def Inv.freeze {Y:L2.St}(I:Inv X pX Y H s)(e:H d=some (.dK AD))(ho:s.heap.get? d=some o):Inv X pX Y (upd H d (.fV o (.dK AD))) s:=by
 let nx:∀b u,H b=some u->b≠d->upd H d (.fV o (.dK AD)) b=some u:=fun b u q n=>by rwa [ao n]
 refine I.step (g':=s.gens) (t':=s.toks) (d':=s.drawn) (ch:=[]) (fun _ z=>nomatch z) (fun b o _ _ _ e _=>e) (fun b o _ _ _ e _=>⟨o.slots,e⟩) (fun b o _ _ n=>by rw [ao (fun z=>by erw [z,e] at n)];exact n) (fun b o _ e=>⟨o,e⟩)
  (fun b xs q=>nx b _ q fun z=>by erw [z,e] at q) (fun b o' u q=>nx b _ q fun z=>by erw [z,e] at q) (fun b ps q=>⟨#[],by rw [nx b _ q fun z=>by erw [z,e] at q];simp⟩) (fun m hm=>hm) (fun b u q=>?_) I.bare
 by_cases hb:b=d
 ·subst hb
  erw [aj] at q;show ⟨ho,I.bZ b _ e⟩
 ·rw [ao hb] at q
  exact (I.bZ b u q).vY (fun _ _ _ k=>k) (fun c k=>nx c _ k fun z=>by erw [z,e] at k) fun c xs k=>nx c _ k fun z=>by erw [z,e] at k
def XW (d:AG)(o:Obj)(AD:δ):It:=
 ⟨fun i H=>H d=some (.fV o (.dK AD))/\i<AD.length,
  fun i H v H'=>∃p k x,AD[i]?=some (k,x)/\v=.ref p/\H p=none/\H'=upd H p (.tup [kV k,x]),
  fun i H=>H d=some (.fV o (.dK AD))/\AD.length<=i⟩
def wN (ok:lG P w H h)(e:H d=some (.fV o (.dK AD)))(he:o.data=.dict XX ep):
  (d==Ks)=false/\∃vs,KV AD vs/\h.DictAt (bN P w) d vs ep/\AD.length<=C_:=by
 obtain ⟨h1,z,hd,vs,rel,o',es,XJ,ho,hx,g8,hk,hp,hn⟩:=ok d _ e;erw [h1] at ho;erw [he] at g8;show ⟨hd,vs,rel,⟨o,XX,h1,hx,he,hk,hp,hn⟩,z⟩
def af4:entryFor table "dict_itemiterator.__iter__"=some Builtin.«dict_keyiterator.__iter__»:=
 entryFor_alias (id':="dict_keyiterator.__iter__") (by kernel_rfl) (by first|rfl|decide+kernel|(unfold String.splitOn;simp+decide [String.splitOnAux])) (by decide+kernel) (by kernel_rfl)
def ab4 {E:ε}{Q:ε}(st:IsItemIter s.heap it d i n ep ok ov)(h:Q (.ref it) s):C' (CY P w) A (pyIter (.ref it)) Q E s:=by
 let hT:s.TypeIs (.ref it) "dict_itemiterator":=⟨_,st,rfl⟩;refine wpAny_pyIter_slot hT F.slot_dict_itemiterator_iter (σ2 F.slot_dict_itemiterator_iter hT af4 ?_ (F.args_dict_itemiterator_iter_1 _));show C' _ _ (ret (.ref it)) _ _ s;exact DV ⟨_,rfl,"dict_itemiterator",_,hT,F.slot_dict_itemiterator_next.lookup,h⟩
def tG {K:Frag}{es:Β}(d it:AG)(o:Obj)(AD:δ)(he:o.data=.dict XX ep)(NR:it≠d):
  Turn P w K (.Tuple es k pos) (XW d o AD) [it] it (fun i h=>∃ok ov,IsItemIter h it d i AD.length ep ok ov) where
 mem:=by simp
 obj:=fun i h st b hb=>by
  let e:b=it:=by simpa using hb
  subst e;obtain ⟨ok,ov,st⟩:=st;show ⟨_,st,fun v z=>by cases z⟩
 keep:=fun i h h' st k=>by
  obtain ⟨ok,ov,st⟩:=st;show ⟨ok,ov,k it gV _ st⟩
 item:=by
  intro X hP hw hK hc i pX s Y H E I hf st hg;subst hP hw hK;obtain ⟨ok,ov,st⟩:=st;obtain ⟨fz,hi⟩:=hg;obtain ⟨hd,vs,rel,da,_⟩:=wN I.bZ fz he;let ek:AD[i]?=some AD[i]:=gE hi;obtain ⟨⟨k',u⟩,ev,e1,ru⟩:=aI rel ek;let lv:=rel.length;rw [lv] at st;refine wpAny_pyNext_items_item st da ev fun key h' yD out tup sz kk=>?_;show ⟨_,rfl,wpAny_letOwnedTupleGo_items (s:={s with heap:=h'}) out fun P5 ago sb=>?_⟩;let hsz:∀c o,s.heap.get? c=some o->s.heap.objs.size≠c:=fun c o e=>WW (FI e);let tz:s.heap.objs.size≠it:=hsz _ _ st;let nz:∀c,c≠it->∀o,h'.get? c=some o->P5.get? c=some o:=fun c hc o e=>(sb.2 c hc).trans e;let hn:=I.bZ.fresh (DU s.heap.objs.size);have T3 :AD[i].1=k':=e1
  let I2:Inv X pX Y (upd H s.heap.objs.size (.tup [kV AD[i].1,AD[i].2])) {s with heap:=P5,toks:=s.toks}:=
   Inv.wK I (fun b o hb e=>nz b (by simpa using hb) o (kk b o (by simpa using hb) e)) hf (DU _) (by show 2<=C_;decide) (AI:=[key,u]) (.cons (by rw [T3];exact wM yD) (.cons ru .nil)) ⟨_,nz _ tz _ tup,rfl,_,rfl⟩
  show ⟨.ref s.heap.objs.size,_,I2,rfl,⟨s.heap.objs.size,AD[i].1,AD[i].2,ek,rfl,hn,rfl⟩,⟨_,_,by rwa [lv]⟩,fun b hb=>?_⟩;let eb:b=it:=by simpa using hb
  rw [ao (by rw [eb];exact FG tz)];exact (hf b hb).1
 done:=by
  intro X hP hw hK hc i pX s Y H E I hf st hg;subst hP hw hK;obtain ⟨ok,ov,st⟩:=st;obtain ⟨fz,hi⟩:=hg;obtain ⟨hd,vs,rel,da,_⟩:=wN I.bZ fz he;let lv:=rel.length;rw [lv] at st;obtain ⟨f0,f1,f2,f3,f4,f5⟩:=hf it gV;exact wpAny_pyNext_items_end (I.ok.hd hc) st da (EZ ga) fun h' eb=>⟨rfl,I.turned (t':=s.toks) (fun b o hb e=>eb b o hb e) f0 f1 f3 f4 f5⟩
 self:=fun _ _ _ _ _ st h=>by
  obtain ⟨ok,ov,st⟩:=st;exact ab4 st h
inductive IJ (R:(It->Hp->Prop))(x:V)(H1:Hp):Prop
|mk (d AD:_)(_:x=.ref d)(_:H1 d=some (.dK AD))(_:∀o,R (XW d o AD) (upd H1 d (.fV o (.dK AD))))
def zaQ (te:TE):TI:=fun Y H R=>te Y H fun x H1=>IJ R x H1
def ni {apos iw:Pos}{es:Β}{k:Nat}{wg:Pos}(ho:PE X e te)(yI:V6 e "items" X.env (DX e X.env)=DX e X.env:=by rfl)(yJ:(apos.endLine==iw.line)=true:=by rfl):
  PI X (.Tuple es k wg) (.Call (.Attribute e "items" apos) [] [] iw) (zaQ te):=by
 intro pX s Y H R I h;refine wpAny_Call_method0_late yI yJ (cY (ho pX s Y H _ I h) fun v s1 ⟨x,H1,I1,r1,q1⟩=>?_);obtain ⟨d,AD,rfl,e,q⟩:=q1;cases r1;obtain ⟨z,hd,vs,rel,o,Ze,ep,MJ,hx,g8,hk,hp,hn⟩:=vx I1.bZ e;obtain ⟨h1,h2⟩:=Ny (T:="dict") I1 (show RelV (.ref d) (.ref d) from rfl) (.inr (.inr (.inl ⟨rfl,.inl ⟨AD,e⟩⟩)));let da:s1.heap.DictAt (bN X.prog X.w) d vs ep:=⟨o,Ze,MJ,hx,g8,hk,hp,hn⟩;let lv:=rel.length;show ⟨"dict","dict.items",F.plainAttrs_dict,rm,F.type_dict_items,h1,h2,u5 rfl (PySem.evalArgs_none ?_)⟩;refine Vd rm h1 F.entry_dict_items (F.args_dict_items_1 _) (meets_dict_items (bN X.prog X.w) d hd) ⟨⟨vs,da.dictOf⟩,?_⟩;let I2:=Inv.freeze I1 e MJ;let da2:(s1.heap.push {cls:=.type "dict_items",data:=.fields #[.ref d]}).DictAt (bN X.prog X.w) d vs ep:=da.at' fun o e=>K1 _ e;show C' (CY X.prog X.w) X.A (pyIter (.ref s1.heap.objs.size)) _ _ _;refine wpAny_pyIter_items (s:={s1 with heap:=s1.heap.push {cls:=.type "dict_items",data:=.fields #[.ref d]}}) ⟨_,L6 _ rfl,rfl,rfl⟩ da2 ?_;let sz:(s1.heap.push {cls:=.type "dict_items",data:=.fields #[.ref d]}).objs.size=s1.heap.objs.size+1:=Rn ..
 let ne:(s1.heap.push {cls:=.type "dict_items",data:=.fields #[.ref d]}).objs.size≠d:=by
  rw [sz];exact FG (KJ (QT (FI MJ)))
 let I3:Inv X pX Y (upd H1 d (.fV o (.dK AD))) {s1 with heap:=(s1.heap.push {cls:=.type "dict_items",data:=.fields #[.ref d]}).push {cls:=.type "dict_itemiterator",data:=.fields #[.none,.bool false,.ref d,.int 0 0,.int vs.length 0,.int ep 0,.none,.none]}}:=I2.kept (t':=s1.toks) fun b o e=>K1 _ (K1 _ e);show ⟨_,[_],_,_,_,rfl,I3,tG d _ o AD g8 ne,⟨_,_,by rw [lv];exact L6 _ rfl⟩,fun b hb=>?_,q o⟩;let eb:b=(s1.heap.push {cls:=.type "dict_items",data:=.fields #[.ref d]}).objs.size:=by simpa using hb
 let le:s1.heap.objs.size<=b:=by rw [eb,sz];exact ZI _
 exact I2.uT le (I2.bZ.fresh le)
end
end Ty
namespace Ty
def ev:List Int->(Nat->Rat)->Rat
 | [],_=>0
 | a::r,z=>(a:Rat)*z 0+ev r (fun i=>z (i+1))
theorem DM:∀(l:π)(z y:Nat->Rat),ev l (fun i=>z i+y i)=ev l z+ev l y
 | [],_,_=>by simp [ev];grind
 | a::r,z,y=>by
  simp only [ev];rw [DM r (fun i=>z (i+1)) (fun i=>y (i+1))];grind
theorem rW:∀(l:π)(z:Nat->Rat),(∀j,((l.getD j 0:Int):Rat)*z j=0)->ev l z=0
 | [],_,_=>rfl
 | a::r,z,h=>by
  let h0:=h 0;let ih:=rW r (fun i=>z (i+1)) (fun j=>by simpa using h (j+1));simp only [ev];rw [ih];simp at h0;grind
theorem lZ:∀(l:π)(z:Nat->Rat)(p:Nat),(∀j,j≠p->((l.getD j 0:Int):Rat)*z j=0)->ev l z=((l.getD p 0:Int):Rat)*z p
 | [],_,_,_=>by simp [ev]
 | a::r,z,0,h=>by
  let ih:=rW r (fun i=>z (i+1)) (fun j=>by simpa using h (j+1) ga);simp only [ev];rw [ih];simp;grind
 | a::r,z,p+1,h=>by
  let h0:=h 0 ga;let ih:=lZ r (fun i=>z (i+1)) p (fun j hj=>by simpa using h (j+1) ga);simp only [ev];rw [ih];simp at h0;simp;grind
theorem N1 :∀{new line AP:π},new.length=line.length->AP.length=line.length->(∀j,s*new.getD j 0=t*line.getD j 0-u*AP.getD j 0)->∀z:Nat->Rat,(s:Rat)*ev new z=t*ev line z-u*ev AP z
 | [],[],[],_,_,_,z=>by simp [ev];grind
 | a::new,b::line,c::AP,h1,h2,h,z=>by
  let h0:=h 0;let ih:=N1 (by simpa using h1) (by simpa using h2) (fun j=>by simpa using h (j+1)) (fun i=>z (i+1));simp at h0;let h0':(s:Rat)*a=t*b-u*c:=by exact_mod_cast h0
  simp only [ev];grind
 | [],_::_,_,h,_,_,_=>by simp at h
 | _::_,[],_,h,_,_,_=>by simp at h
 | _,[],_::_,_,h,_,_=>by simp at h
 | _,_::_,[],_,h,_,_=>by simp at h
def fT:List Rat->List (List Int)->Nat->Rat
 | c::y,o::os,j=>c*((o.getD j 0:Int):Rat)+fT y os j
 | _,_,_=>0
theorem y8 (hs:s≠0)(j:Nat):∀(os:ζ)(y1 y2:Λ),y1.length=os.length->y2.length=os.length->s*fT (NZ (fun a b=>(t*a-u*b) / s) y1 y2) os j=t*fT y1 os j-u*fT y2 os j
 | [],[],[],_,_=>by simp [fT];grind
 | o::os,a::y1,b::y2,h1,h2=>by
  let ih:=y8 (t:=t) (u:=u) hs j os y1 y2 (by simpa using h1) (by simpa using h2);simp only [ahH,fT];grind
 | [],_::_,_,h,_=>by simp at h
 | [],[],_::_,_,h=>by simp at h
 | _::_,[],_,h,_=>by simp at h
 | _::_,_::_,[],_,h=>by simp at h
theorem vy (j:Nat):∀(os:ζ),fT (EI os.length 0) os j=0
 | []=>rfl
 | o::os=>by
  simp only [Me,Q_,fT];rw [vy j os];grind
def pO (os:ζ)(l:π):Prop:=∃y:List Rat,y.length=os.length/\∀j,((l.getD j 0:Int):Rat)=fT y os j
theorem y_:∀{os:ζ} {l:π},l∈os->pO os l
 | o::os,l,h=>by
  rcases KD.mp h with z|z
  ·subst z
   show ⟨1::EI os.length 0,by simp,fun j=>?_⟩;simp only [fT];rw [vy];grind
  ·obtain ⟨y,hl,hy⟩:=y_ z
   show ⟨0::y,by simp [hl],fun j=>?_⟩;simp only [fT];rw [<-hy j];grind
def aeC (hs:s≠0)(h:∀j,s*new.getD j 0=t*line.getD j 0-u*AP.getD j 0)(h1:pO os line)(h2:pO os AP):pO os new:=by
 obtain ⟨y1,l1,e1⟩:=h1;obtain ⟨y2,l2,e2⟩:=h2;have T5 :=cO hs;show ⟨NZ (fun a b=>((t:Rat)*a-u*b) / s) y1 y2,by simp [l1,l2],fun j=>?_⟩;let k:=y8 (t:=(t:Rat)) (u:=(u:Rat)) T5 j os y1 y2 l1 l2;rw [<-e1 j,<-e2 j] at k;let h':(s:Rat)*(new.getD j 0:Int)=t*(line.getD j 0:Int)-u*(AP.getD j 0:Int):=by exact_mod_cast h j
 rw [<-h'] at k;grind
def qL (y:Λ):Nat->Rat:=fun i=>if i<y.length then y.getD i 0 else -1
theorem DN (j:Nat)(c:Int):∀(os:ζ)(y:Λ),y.length=os.length->ev (os.map (fun o=>o.getD j 0)++[c]) (qL y)=fT y os j-c
 | [],[],_=>by simp [ev,qL,fT];grind
 | o::os,a::y,h=>by
  let ih:=DN j c os y (by simpa using h)
  let ez:(fun i=>qL (a::y) (i+1))=qL y:=by
   funext i;simp [qL]
  simp only [DG,Sj,ev,fT];rw [ez,ih];simp [qL];grind
 | [],_::_,h=>by simp at h
 | _::_,[],h=>by simp at h
theorem tH (k:Rat)(j:Nat):∀(os:ζ)(y:Λ),fT (y.map (fun a=>a*k)) os j=fT y os j*k
 | [],_=>by cases ‹List Rat› <;> simp [fT]<;>grind
 | _::_,[]=>by simp [fT]
 | o::os,a::y=>by
  simp only [DG,fT];rw [tH k j os y];grind
structure uN (line AP new:π)(c:Nat):Prop where
 len:new.length=line.length
 N3:new.getD c 0=0
 jD:∃s t u:Int,s≠0/\t≠0/\∀j,s*new.getD j 0=t*line.getD j 0-u*AP.getD j 0
def uN.zero (h:uN line AP new c)(h1:line.getD j 0=0)(h2:AP.getD j 0=0):new.getD j 0=0:=by
 obtain ⟨s,t,u,hs,_,e⟩:=h.jD;have:=e j;rw [h1,h2,Sf,Sf,Int.sub_self] at this
 rcases QP.mp this with z|z
 ·exact DL z hs
 ·exact z
theorem uN.at (h:uN line AP new c)(h2:AP.getD j 0=0)(h1:line.getD j 0≠0):new.getD j 0≠0:=by
 obtain ⟨s,t,u,hs,ht,e⟩:=h.jD;have:=e j;rw [h2] at this;intro z;rw [z,Sf,Sf,Int.sub_zero] at this
 rcases QP.mp this.symm with y|y
 ·exact ht y
 ·exact h1 y
def uN.comb (h:uN line AP new c)(h1:pO os line)(h2:pO os AP):pO os new:=by
 obtain ⟨s,t,u,hs,ht,e⟩:=h.jD;exact aeC hs e h1 h2
theorem uN.ev (h:uN line AP new c)(hl:AP.length=line.length)(h2:Ty.ev AP z=0):Ty.ev new z=0 ↔ Ty.ev line z=0:=by
 obtain ⟨s,t,u,hs,ht,e⟩:=h.jD;let k:=N1 h.len hl e z;rw [h2] at k;have T5 :=cO hs;let ht':=cO ht;constructor
 ·intro w
  rw [w] at k;grind
 ·intro w
  rw [w] at k;grind
end Ty
namespace Ty
open PySem PySem.Spec PyProof.Rows L2
def Zf (K:Frag)(a:AG):It:=
 ⟨fun i H=>∃xs x,aU K H a xs/\xs[i]?=some x,
  fun i H v H'=>∃p x,(∀xs,aU K H a xs->xs[i]?=some x)/\v=.ref p/\H p=none/\H'=upd H p (.tup [.int (i:Int),x]),
  fun i H=>∃xs,aU K H a xs/\xs.length<=i⟩
def aa_ {K:Frag}{es:Β}(a e it:AG)(NR:e≠it):
  Turn P w K (.Tuple es k pos) (Zf K a) [e,it] e (fun i h=>(∃old,IsEnum h e it ((i:Nat):Int) old)/\h.IsListIter it a i) where
 mem:=by simp
 obj:=fun i h st c hc=>by
  obtain ⟨⟨old,he⟩,⟨o1,e1,c1,d1⟩⟩:=st;have v9 :c=e\/c=it:=by simpa using hc
  rcases v9 with z|z<;>subst z
  ·show ⟨_,he,fun v z=>by cases z⟩
  ·show ⟨_,e1,fun v z=>by erw [d1] at z⟩
 keep:=fun i h h' st k=>by
  obtain ⟨⟨old,he⟩,h1⟩:=st;show ⟨⟨old,k e gV _ he⟩,h1.at fun o e=>k it gV o e⟩
 item:=by
  intro X hP hw hK hc i pX s Y H E I hf st hg;subst hP hw hK;obtain ⟨⟨old,he⟩,h1⟩:=st;obtain ⟨xs,x,qx,ex⟩:=hg;obtain ⟨AI,rv,p,_⟩:=I.list qx;obtain ⟨u,hu,ru⟩:=rv.get ex;refine wpAny_pyNext_enum_item he h1 p.isList (x:=u) (by simpa using hu) NR fun h' a1 a2 a3 a4 a5=>?_;show ⟨_,rfl,wpAny_letOwnedTupleGo_enum (s:={s with heap:=h',toks:=s.toks+1}) a1 fun P5 b1 sb=>?_⟩;let nz:∀c,c≠e->∀o,h'.get? c=some o->P5.get? c=some o:=fun c hc o q=>(sb.2 c hc).trans q
  let kk:∀b o,b∉[e,it]->s.heap.get? b=some o->P5.get? b=some o:=fun b o hb q=>by
   have jZ :b≠e/\b≠it:=by simpa using hb
   exact nz b jZ.1 o (a5 b o jZ.1 jZ.2 q)
  let sz:∀c o,s.heap.get? c=some o->s.heap.objs.size≠c:=fun c o q=>WW (FI q);let tz:s.heap.objs.size≠e:=sz _ _ he;let hn:=I.bZ.fresh (DU s.heap.objs.size)
  let I2:Inv X pX Y (upd H s.heap.objs.size (.tup [.int (i:Int),x])) {s with heap:=P5,toks:=s.toks+1}:=
   Inv.wK I kk hf (DU _) (by show 2<=C_;decide) (AI:=[.int i s.toks,u]) (.cons ⟨_,rfl⟩ (.cons ru .nil)) ⟨_,nz _ tz _ a3,rfl,_,rfl⟩
  show ⟨.ref s.heap.objs.size,_,I2,rfl,⟨s.heap.objs.size,x,fun xs' q=>by rwa [I.jS q qx],rfl,hn,rfl⟩,⟨⟨_,by exact b1⟩,a2.at fun o q=>nz _ (FG NR) o q⟩,fun b hb=>?_⟩
  let ob:∃o,s.heap.get? b=some o:=by
   obtain ⟨o1,e1,_⟩:=h1;have v9 :b=e\/b=it:=by simpa using hb
   rcases v9 with z|z<;>subst z
   ·show ⟨_,he⟩
   ·show ⟨_,e1⟩
  obtain ⟨o,q⟩:=ob;rw [ao (FG (sz _ _ q))];exact (hf b hb).1
 done:=by
  intro X hP hw hK hc i pX s Y H E I hf st hg;subst hP hw hK;obtain ⟨⟨old,he⟩,h1⟩:=st;obtain ⟨xs,qx,ee⟩:=hg;obtain ⟨AI,rv,p,_⟩:=I.list qx;let l1:=rv.length;refine wpAny_pyNext_enum_end (I.ok.hd hc) he h1 p.isList (by simp;omega) fun h' kk=>⟨rfl,Inv.rR I (fun b o hb q=>?_) hf⟩;have jZ :b≠e/\b≠it:=by simpa using hb
  exact kk b o jZ.2 q
 self:=fun _ _ _ _ _ st h=>by
  obtain ⟨⟨old,he⟩,_⟩:=st;exact wpAny_pyIter_enum he h
def boot_enumerate:Kv "enumerate"=some (.type "enumerate"):=by decide+kernel
section
variable {X:Cx}
inductive N4 (K:Frag)(R:(It->Hp->Prop))(vs:θ)(H1:Hp):Prop
|mk (a:_)(_:vs=[.ref a])(_:(∃xs,aU K H1 a xs))(_:R (Zf K a) H1)
def agg (K:Frag)(ta:TA):TI:=fun Y H R=>ta Y H fun vs H1=>N4 K R vs H1
def IK {es:Β}(hg:Gl X "enumerate")(hm:X.mg "enumerate"=none)(ha:PA X [e1] ta)(hs:EX [e1] X.env=[(false,DX e1 X.env)]:=by rfl):
  PI X (.Tuple es k wg) (.Call (.Name "enumerate" p) [e1] [] pos) (agg X.K ta):=by
 intro pX s Y H R I h;refine Call_ (jR I hg hm boot_enumerate (VB (cY (ha pos pX s Y H _ I h) fun us s1 ⟨vs,H1,I1,r1,q1⟩=>?_) hs rfl));obtain ⟨a,e,⟨xs,hx⟩,q⟩:=q1;subst e;cases r1 with
 | cons r rr=>
  cases rr;cases r;obtain ⟨AI,rv,pl,_⟩:=I1.list hx;refine call_enumerate_list pl.isList fun h' hE hI hsz hk=>wpAny_pyIter_enum (s:={s1 with heap:=h'}) hE ?_;show ⟨s1.heap.objs.size+1,[s1.heap.objs.size+1,s1.heap.objs.size],_,_,H1,rfl,I1.kept (t':=s1.toks) hk,aa_ a _ _ (Nat.succ_ne_self _),⟨⟨_,hE⟩,hI⟩,fun c hc=>?_,q⟩
  have v9 :s1.heap.objs.size<=c:=by
   have:c=s1.heap.objs.size+1\/c=s1.heap.objs.size:=by simpa using hc
   simp only [AG] at*;omega
  exact I1.uT v9 (I1.bZ.fresh v9)
def any_range (bs:List Bool):(KC bs.length).any (fun i=>(bs[i]?).getD true)=bs.any id:=by
 rw [RS,Vm,Vm];constructor
 ·rintro ⟨i,hi,h⟩
  have CA :i<bs.length:=Md.mp hi;rw [gE CA] at h;show ⟨bs[i],V5 CA,h⟩
 ·rintro ⟨b,hb,h⟩
  obtain ⟨i,hi⟩:=D_ hb;show ⟨i,Md.mpr (be.mp hi).1,by rwa [hi]⟩
inductive Zh (K:Frag)(xs:θ)(H:Hp)(Q:VK):Prop
|mk (p:AG)(bs:List Bool)(_:xs=[.ref p])(_:aU K H p (bs.map V.bl))(_:Q (.bl (bs.any id)) H)
def vA (hc:X.calm=true):iz X (.builtin "any") (Zh X.K):=by
 intro pX s Y H xs us Q I r h;obtain ⟨p,bs,rfl,hq,q⟩:=h;obtain ⟨u,rfl,r1⟩:=vals1 r;cases r1;obtain ⟨AI,rv,pl,hz⟩:=I.list hq;refine call_any_walk (wpAny_pyIter_list pl.isList ?_);let NR:p≠s.heap.objs.size:=by obtain ⟨o,ho,_⟩:=pl.isList;exact KJ (FI ho)
 let I1:Inv X pX Y H {s with heap:=s.heap.push {cls:=.type "list_iterator",data:=.fields #[.ref p,.int 0 0]}}:=I.kept (t':=s.toks) fun b o e=>K1 _ e;obtain ⟨f0,f1,f2,f3,f4,f5⟩:=I.uT (H':=H) (DU s.heap.objs.size) (I.bZ.fresh (DU _));let hl:AI.length=bs.length:=by rw [<-rv.length,ir]
 show ⟨s.heap.objs.size,_,_,_,_,_,fun i=>(bs[i]?).getD true,rfl,Walks.list (A:=X.A.in1) (I.ok.hd hc) s.heap.objs.size p NR AI.toArray,⟨⟨_,L6 _ rfl,rfl,rfl⟩,pl.isList.at fun o e=>K1 _ e⟩,?_,fun h' tk kk=>?_⟩
 ·intro i v s' Q' E' hv DB
  have Vt :AI[i]?=some v:=by simpa using hv
  let hi:i<bs.length:=by rw [<-hl];exact (be.mp Vt).1
  let eb:(bs.map V.bl)[i]?=some (.bl bs[i]):=by rw [Wp,gE hi];rfl
  obtain ⟨u,eu,ru⟩:=rv.get eb;erw [Vt] at eu;cases ru;dsimp only at DB;rw [gE hi] at DB;exact RG DB
 ·show ⟨.bl (bs.any id),H,I1.turned (t':=tk) (it:=s.heap.objs.size) (fun b o hb e=>kk b o (by simpa using hb) e) f0 f1 f3 f4 f5,?_,q⟩
  show _=_;rw [<-any_range bs,KW,hl]
def Ub:Kv "any"=some (.builtin "any"):=by decide+kernel
end
def ze {K:Frag}{g:TG}{tb:TS}{D:Ends}(Pv:Nat->L2.St->Hp->Prop)(h0:Pv 0 Y H)(hl:∀i Y H,i<=xs.length->Pv i Y H->aU K H a xs)
  (hs:∀i x Y H p,xs[i]?=some x->Pv i Y H->H p=none->g (.ref p) Y (upd H p (.tup [.int (i:Int),x])) fun Y2 H2=>tb {D with nx:=Pv (i+1),ct:=Pv (i+1),bk:=D.nx} Y2 H2) (hd:∀Y H,Pv xs.length Y H->D.nx Y H):
  ∃W:Nat->Nat->L2.St->Hp->Prop,(∃m,W 0 m Y H)/\∀i m Y H,W i m Y H->
   ((Zf K a).stop i H/\D.nx Y H)\/((Zf K a).go i H/\∃N:L2.St->Hp->Prop,(∀Y' H',N Y' H' ->∃m',m'<m/\W (i+1) m' Y' H')/\∀x H',(Zf K a).M6 i H x H' ->g x Y H' fun Y2 H2=>tb {D with nx:=N,ct:=N,bk:=D.nx} Y2 H2):=by
 show ⟨fun i m Y H=>m=xs.length-i/\i<=xs.length/\Pv i Y H,⟨xs.length,by simp,KZ _,h0⟩,?_⟩;rintro i m Y H ⟨rfl,hi,p⟩;let q:=hl i Y H hi p;by_cases lQ:i<xs.length
 ·let e:xs[i]?=some xs[i]:=gE lQ
  refine .inr ⟨⟨xs,_,q,e⟩,Pv (i+1),fun Y' H' z=>⟨xs.length-(i+1),ga,rfl,ga,z⟩,fun x H' y=>?_⟩;obtain ⟨pp,x',y1,rfl,np,rfl⟩:=y;exact hs i x' Y H pp (y1 xs q) p np
 ·let e:i=xs.length:=ga
  subst e;exact .inl ⟨⟨xs,q,DU _⟩,hd Y H p⟩
def i6 {g:TG}{tb:TS}{D:Ends}(Pv:Nat->L2.St->Hp->Prop)(h0:Pv 0 Y H)(hl:∀i Y H,i<=AD.length->Pv i Y H->H d=some (.fV o (.dK AD)))
  (hs:∀i k x Y H p,AD[i]?=some (k,x)->Pv i Y H->H p=none->g (.ref p) Y (upd H p (.tup [kV k,x])) fun Y2 H2=>tb {D with nx:=Pv (i+1),ct:=Pv (i+1),bk:=D.nx} Y2 H2) (hd:∀Y H,Pv AD.length Y H->D.nx Y H):
  ∃W:Nat->Nat->L2.St->Hp->Prop,(∃m,W 0 m Y H)/\∀i m Y H,W i m Y H->
   ((XW d o AD).stop i H/\D.nx Y H)\/((XW d o AD).go i H/\∃N:L2.St->Hp->Prop,(∀Y' H',N Y' H' ->∃m',m'<m/\W (i+1) m' Y' H')/\∀x H',(XW d o AD).M6 i H x H' ->g x Y H' fun Y2 H2=>tb {D with nx:=N,ct:=N,bk:=D.nx} Y2 H2):=by
 show ⟨fun i m Y H=>m=AD.length-i/\i<=AD.length/\Pv i Y H,⟨AD.length,by simp,KZ _,h0⟩,?_⟩;rintro i m Y H ⟨rfl,hi,p⟩;let q:=hl i Y H hi p;by_cases lQ:i<AD.length
 ·refine .inr ⟨⟨q,lQ⟩,Pv (i+1),fun Y' H' z=>⟨AD.length-(i+1),ga,rfl,ga,z⟩,fun x H' y=>?_⟩
  obtain ⟨pp,k,x',y1,rfl,np,rfl⟩:=y;exact hs i k x' Y H pp y1 p np
 ·let e:i=AD.length:=ga
  subst e;exact .inl ⟨⟨q,DU _⟩,hd Y H p⟩
open Builtin.Int (intBits)
section
variable {X:Cx}
def N5 (i j:Int):Prop:=intBits i+intBits j<=134217728
def iC:kA X (Nn .Mult) (rI N5 fun i j=>.int (i*j)):=
 Yw fun _ _ _ _ _ _ _ hc q=>mul_int q (IntMulOk.of_le (DU _) (DU _) hc)
def gA (h1:a.natAbs<=2^m)(h2:b.natAbs<=2^n)(h:m+n<=134000000):N5 a b:=by
 let x1:=kF h1 (NM m);let x2:=kF h2 (NM n);unfold N5;omega
end
def aq.cp {K:Frag}(e:aq H H')(h:bK K H a xs):bK K H' a xs:=by
 rcases h with (h|⟨o,h⟩)|h
 ·exact .inl (.inl (e _ _ h))
 ·exact .inl (.inr ⟨o,e _ _ h⟩)
 ·exact .inr h
section
variable {D:AG}{te:TE}{oe:L2.St}{H1:Hp}{Q:VK}
def ac_ {K:Frag}(Rel:Nat->V->Hp->Prop)(nD:H1 D=none)(hn:xs.length<C_)(hl:ys.length=xs.length)(hX:∀H,aq H1 H->aU K H a xs)(hY:∀H,aq H1 H->aU K H b ys)
  (hR:∀i v H H' ys,H D=some (.lst ys)->bh D H H' ->Rel i v H->Rel i v H')
  (he:∀i x y H (R:VK),xs[i]?=some x->ys[i]?=some y->aq H1 H->(∃ys,H D=some (.lst ys))->(∀v H6,aq H H6->Rel i v H6->R v H6)->te (some x::some y::oe) H R)
  (hd:∀zs H,zs.length=xs.length->(∀i v,zs[i]?=some v->Rel i v H)->aq H1 H->H D=some (.lst zs)->Q (.ref D) H):
  lW D (Ko K 2 (sL (b_ 0) (sL (b_ 1) QK))) jn te (Itz K a b) (none::none::oe) H1 Q:=by
 show ⟨fun i m Y zs H=>m=xs.length-i/\i<=xs.length/\(∃o o',Y=o::o'::oe)/\(zs.length=i/\(∀i v,zs[i]?=some v->Rel i v H)/\aq H1 H)/\H D=some (.lst zs),⟨xs.length,by simp,KZ _,⟨none,none,rfl⟩,⟨rfl,fun i v e=>by simp at e,fun b o e=>by rwa [ao (ak e nD)]⟩,aj⟩,?_⟩;rintro i m Y zs H ⟨rfl,hi,⟨o,o',rfl⟩,⟨l,r,s⟩,hD⟩;by_cases lQ:i<xs.length
 ·let e1:xs[i]?=some xs[i]:=gE lQ
  let e2:ys[i]?=some (ys[i]'ga):=gE ga;refine .inr ⟨⟨xs,ys,_,_,hX H s,hY H s,e1,e2⟩,fun v H' y=>?_⟩;obtain ⟨p,x,y,q1,q2,rfl,np,rfl⟩:=y;let e1:=q1 xs (hX H s);let e2:=q2 ys (hY H s);let sp:aq H (upd H p (.tup [x,y])):=fun b o e=>by rwa [ao (ak e np)]
  show ⟨p,_,rfl,bK.of aj,rfl,_,_,rfl,_,_,rfl,rfl,?_⟩;unfold jn;dsimp only;rw [mK rfl];refine he i x y _ _ e1 e2 (fun b o e=>sp _ _ (s _ _ e)) ⟨zs,sp _ _ hD⟩ fun v H6 s6 rv=>⟨s6 _ _ (sp _ _ hD),ga,xs.length-(i+1),ga,rfl,ga,⟨_,_,rfl⟩,⟨by simp [l],fun j u e=>?_,fun b o e=>?_⟩,aj⟩
  ·by_cases c:j<zs.length
   ·rw [K_ c] at e
    let ru:=hR j u H H6 zs hD (bh.of fun b o q=>s6 _ _ (sp _ _ q)) (r j u e);exact hR j u H6 _ zs (s6 _ _ (sp _ _ hD)) bh.upd ru
   ·rw [Kx ga] at e
    let ej:j=i:=by
     by_cases z:j-zs.length=0
     ·omega
     ·rw [EZ (by simp;omega)] at e
      cases e
    subst ej
    have:v=u:=by
     rw [show j-zs.length=0 by omega] at e;exact FA e
    subst this;exact hR j v H6 _ zs (s6 _ _ (sp _ _ hD)) bh.upd rv
  ·rw [ao (ak e nD)]
   exact s6 _ _ (sp _ _ (s _ _ e))
 ·let e:i=xs.length:=ga
  subst e;exact .inl ⟨⟨xs,ys,hX H s,hY H s,.inl (DU _)⟩,hd zs H l r s hD⟩
end
def oY (K:Frag)(H:Hp)(v:V)(q:Int×Int):Prop:=∃p,v=.ref p/\bK K H p [.int q.1,.int q.2]
def oY.ji {K:Frag}(h:oY K H v q)(s:aq H H'):oY K H' v q:=by
 obtain ⟨p,e,k⟩:=h;show ⟨p,e,Ty.aq.cp s k⟩
def c6 (K:Frag)(H:Hp)(us:θ)(qs:ο):Prop:=us.length=qs.length/\∀(i:Nat)(u:V)(q:Int×Int),us[i]?=some u->qs[i]?=some q->oY K H u q
theorem c6.ji {K:Frag}(h:c6 K H us qs)(s:aq H H'):c6 K H' us qs:=⟨h.1,fun i u q e1 e2=>(h.2 i u q e1 e2).ji s⟩
def c6.at {K:Frag}(h:c6 K H us qs){i:Nat}(e:us[i]?=some u):∃q,qs[i]?=some q/\oY K H u q:=by
 let hi:i<us.length:=(be.mp e).1;let hl:=h.1;let e2:qs[i]?=some (qs[i]'ga):=gE ga;show ⟨_,e2,h.2 i u _ e e2⟩
theorem c6.set {K:Frag}(h:c6 K H us qs)(n:oY K H v q):c6 K H (us.set j v) (qs.set j q):=by
 show ⟨by simp [h.1],fun i u q' e1 e2=>?_⟩;rw [Mr] at e1 e2;by_cases c:j=i
 ·subst c
  rw [mK rfl] at e1 e2;let l:=h.1;by_cases hj:j<us.length
  ·rw [mK hj] at e1
   rw [mK ga] at e2;cases e1;cases e2;exact n
  ·rw [mJ hj] at e1
   cases e1
 ·rw [mJ c] at e1 e2
  exact h.2 i u q' e1 e2
def agq (K:Frag)(H:Hp)(a:AG)(qs:ο):Prop:=∃us,aU K H a us/\c6 K H us qs
def sumTo:Nat->(Nat->Rat)->Rat
 | 0,_=>0
 | n+1,f=>f 0+sumTo n (fun i=>f (i+1))
theorem vB:∀(n:Nat)(f g:Nat->Rat),sumTo n (fun i=>f i+g i)=sumTo n f+sumTo n g
 | 0,_,_=>by simp [sumTo];grind
 | n+1,f,g=>by
  simp only [sumTo];rw [vB n (fun i=>f (i+1)) (fun i=>g (i+1))];grind
theorem pQ (c:Rat):∀(n:Nat)(f:Nat->Rat),sumTo n (fun i=>c*f i)=c*sumTo n f
 | 0,_=>by simp [sumTo]
 | n+1,f=>by
  simp only [sumTo];rw [pQ c n (fun i=>f (i+1))];grind
theorem jr:∀(n:Nat)(f:Nat->Rat),(∀i,f i=0)->sumTo n f=0
 | 0,_,_=>rfl
 | n+1,f,h=>by
  simp only [sumTo];rw [h 0,jr n (fun i=>f (i+1)) (fun i=>h (i+1))];grind
theorem nj:∀(n:Nat)(l:π)(z:Nat->Rat),l.length<=n->ev l z=sumTo n (fun j=>((l.getD j 0:Int):Rat)*z j)
 | n,[],z,_=>by
  rw [jr n _ (fun i=>by simp)];rfl
 | 0,_::_,_,h=>by simp at h
 | n+1,a::r,z,h=>by
  simp only [ev,sumTo];rw [nj n r (fun i=>z (i+1)) (by simpa using h)];simp
theorem IL (n:Nat)(z:Nat->Rat):∀(y:Λ)(os:ζ),(∀o∈os,o.length<=n)->(∀o∈os,ev o z=0)->sumTo n (fun j=>fT y os j*z j)=0
 | c::y,o::os,h1,h2=>by
  let ih:=IL n z y os (fun x hx=>h1 x (FF _ hx)) (fun x hx=>h2 x (FF _ hx));let e:=h2 o EJ;rw [nj n o z (h1 o EJ)] at e
  let k:(fun j=>fT (c::y) (o::os) j*z j)=fun j=>c*(((o.getD j 0:Int):Rat)*z j)+fT y os j*z j:=by
   funext j;simp only [fT];grind
  rw [k,vB,pQ,e,ih];grind
 | [],os,_,_=>jr n _ (fun j=>by cases os<;>simp [fT])
 | _::_,[],_,_=>jr n _ (fun j=>by simp [fT])
def ae3 {os:ζ}(h:pO os l)(hl:l.length<=n)(ho:∀o∈os,o.length<=n)(hz:∀o∈os,ev o z=0):ev l z=0:=by
 obtain ⟨y,_,e⟩:=h;rw [nj n l z hl,<-IL n z y os ho hz];congr 1;funext j;rw [e j]
theorem zf:∀{ts:π} {qs xs:ο} {d:Int×Int} {b:Int},jB ts (qs++[d]) b->xs.length=qs.length->ev ts (qL (xs.map vl))=(jq qs xs-vl d)*b
 | [],qs,xs,d,b,h,_=>by have:=h.1;simp at this
 | t::ts,[],[],d,b,h,_=>by
  let e:=h.2 0 t d rfl rfl;let l:=h.1;have:ts=[]:=by simpa using l
  subst this;simp [ev,qL,jq];rw [e];grind
 | t::ts,q::qs,x::xs,d,b,h,hl=>by
  let e:=h.2 0 t q rfl rfl;let ih:=zf (ts:=ts) (qs:=qs) (xs:=xs) (d:=d) (b:=b) h.tail (by simpa using hl)
  let ez:(fun i=>qL ((x::xs).map vl) (i+1))=qL (xs.map vl):=by
   funext i;simp [qL]
  simp only [ev];rw [ez,ih,e];let e0:qL ((x::xs).map vl) 0=vl x:=by simp [qL]
  let ed:jq (q::qs) (x::xs)=vl q*vl x+jq qs xs:=by simp [jq]
  rw [e0,ed];grind
 | _::_,[],_::_,_,_,_,hl=>by simp at hl
 | _::_,_::_,[],_,_,_,hl=>by simp at hl
def zaJ (e:H d=some o):upd H d o=H:=by
 funext b;by_cases z:b=d
 ·subst z
  rw [aj,e]
 ·rw [ao z]
section
variable {X:Cx}
def adI (te:TE):TI:=fun Y H R=>te Y H fun x H1=>∃d AD,x=.ref d/\Rd H1 d (.dK AD)/\∀o,R (XW d o AD) (upd H1 d (.fV o (.dK AD)))
def zaw {apos iw:Pos}{es:Β}{k:Nat}{wg:Pos}(ho:PE X e te)(yI:V6 e "items" X.env (DX e X.env)=DX e X.env:=by rfl)(yJ:(apos.endLine==iw.line)=true:=by rfl):
  PI X (.Tuple es k wg) (.Call (.Attribute e "items" apos) [] [] iw) (adI te):=by
 intro pX s Y H R I h;refine wpAny_Call_method0_late yI yJ (cY (ho pX s Y H _ I h) fun v s1 ⟨x,H1,I1,r1,q1⟩=>?_);obtain ⟨d,AD,rfl,e,q⟩:=q1;cases r1;obtain ⟨z,hd,vs,rel,o,Ze,ep,MJ,hx,g8,hk,hp,hn⟩:=jC I1.bZ e;let da:s1.heap.DictAt (bN X.prog X.w) d vs ep:=⟨o,Ze,MJ,hx,g8,hk,hp,hn⟩;let h1:s1.TypeIs (.ref d) "dict":=da.dictOf.typeIs
 let h2:∀a,Value.ref d=.ref a->∃ob,s1.heap.get? a=some ob/\ob.dict=none:=fun a z=>by
  cases z;show ⟨o,MJ,hx.2.1⟩
 let lv:=rel.length;show ⟨"dict","dict.items",F.plainAttrs_dict,rm,F.type_dict_items,h1,h2,u5 rfl (PySem.evalArgs_none ?_)⟩;refine Vd rm h1 F.entry_dict_items (F.args_dict_items_1 _) (meets_dict_items (bN X.prog X.w) d hd) ⟨⟨vs,da.dictOf⟩,?_⟩
 let I2:Inv X pX Y (upd H1 d (.fV o (.dK AD))) s1:=by
  rcases e with e|⟨o',e⟩
  ·exact Inv.freeze I1 e MJ
  ·let g:=(I1.bZ d _ e).1
   erw [MJ] at g;rwa [zaJ e]
 let da2:(s1.heap.push {cls:=.type "dict_items",data:=.fields #[.ref d]}).DictAt (bN X.prog X.w) d vs ep:=da.at' fun o e=>K1 _ e;show C' (CY X.prog X.w) X.A (pyIter (.ref s1.heap.objs.size)) _ _ _;refine wpAny_pyIter_items (s:={s1 with heap:=s1.heap.push {cls:=.type "dict_items",data:=.fields #[.ref d]}}) ⟨_,L6 _ rfl,rfl,rfl⟩ da2 ?_;let sz:(s1.heap.push {cls:=.type "dict_items",data:=.fields #[.ref d]}).objs.size=s1.heap.objs.size+1:=Rn ..
 let ne:(s1.heap.push {cls:=.type "dict_items",data:=.fields #[.ref d]}).objs.size≠d:=by
  rw [sz];exact FG (KJ (QT (FI MJ)))
 let I3:Inv X pX Y (upd H1 d (.fV o (.dK AD))) {s1 with heap:=(s1.heap.push {cls:=.type "dict_items",data:=.fields #[.ref d]}).push {cls:=.type "dict_itemiterator",data:=.fields #[.none,.bool false,.ref d,.int 0 0,.int vs.length 0,.int ep 0,.none,.none]}}:=I2.kept (t':=s1.toks) fun b o e=>K1 _ (K1 _ e);show ⟨_,[_],_,_,_,rfl,I3,tG d _ o AD g8 ne,⟨_,_,by rw [lv];exact L6 _ rfl⟩,fun b hb=>?_,q o⟩;let eb:b=(s1.heap.push {cls:=.type "dict_items",data:=.fields #[.ref d]}).objs.size:=by simpa using hb
 let le:s1.heap.objs.size<=b:=by rw [eb,sz];exact ZI _
 exact I2.uT le (I2.bZ.fresh le)
end
section
variable {X:Cx}
inductive Uc (xs:θ)(H:Hp)(Q:VK):Prop
|mk (p:AG)(AD:δ)(_:xs=[.ref p])(_:Rd H p (.dK AD))(_:Q (.int (AD.length:Int)) H)
def pR:iz X (.builtin "len") Uc:=by
 intro pX s Y H xs us Q I r h;obtain ⟨p,AD,rfl,hq,q⟩:=h;obtain ⟨u,rfl,r1⟩:=vals1 r;cases r1;exact zav I hq fun t s' I'=>⟨.int _,H,I',⟨t,rfl⟩,q⟩
end
section
variable {X:Cx}
def Inv.Zi {Y:L2.St}(I:Inv X pX Y H s)(e:H d=some (.fV o u))(n:∀o' u',X.H₀ d≠some (.fV o' u'))(nt:∀xs,u≠.tup xs):Inv X pX Y (upd H d u) s:=by
 let nx:∀b u',H b=some u' ->b≠d->upd H d u b=some u':=fun b u q n=>by rwa [ao n]
 let nn:∀b,H b=none->upd H d u b=none:=fun b q=>by rw [ao (fun z=>by erw [z,e] at q)];exact q
 show ⟨I.ok,I.os,I.bare,⟨I.iN.keep,I.iN.slot,fun b ob q z hx=>nn b (I.iN.free b ob q z hx),I.iN.there,fun b xs q=>?_,fun b ob u' q=>?_,fun b ps q=>?_⟩,I.loc,I.cell,nn _ I.free,fun x c q=>nn _ (I.jQ x c q),fun p hp=>?_,?_,I.len⟩
 ·let z:=I.iN.vZ b xs q
  exact nx b _ z fun y=>by erw [y,e] at z
 ·let z:=I.iN.uQ b ob u' q
  exact nx b _ z fun y=>by rw [y] at q;exact n _ _ q
 ·obtain ⟨m,z⟩:=I.iN.v3 b ps q
  show ⟨m,nx b _ z fun y=>by erw [y,e] at z⟩
 ·obtain ⟨a1,a2,a3⟩:=I.pin p hp
  show ⟨a1,nn _ a2,a3⟩
 ·let st:∀{b u'},dr X.prog X.w H s.heap b u' ->dr X.prog X.w (upd H d u) s.heap b u':=fun {b u'} k=>k.vY (fun _ _ _ z=>z) (fun c z=>nx c _ z fun y=>by erw [y,e] at z) fun c xs z=>nx c _ z fun y=>by erw [y,e] at z
  intro b u' q;by_cases hb:b=d
  ·subst hb
   erw [aj] at q;exact st (I.bZ b _ e).2
  ·rw [ao hb] at q
   exact st (I.bZ b u' q)
def agd (H0:Hp)(t:TS):TS:=fun D Y H=>t {D with nx:=fun Y' H'=>∃d o AD,H' d=some (.fV o (.dK AD))/\(∀o' u',H0 d≠some (.fV o' u'))/\D.nx Y' (upd H' d (.dK AD))} Y H
def rX {st:Stmt}(h:PS X st t):PS X st (agd X.H₀ t):=by
 intro pX s Y H D I q;refine Ku (h pX s Y H _ I q) (fun f s' z=>?_) fun _ _ z=>z;cases f with
 | next=>
  obtain ⟨Y',H',I',d,o,AD,e,n,k⟩:=z;show ⟨Y',_,Inv.Zi I' e n (fun _ z=>nomatch z),k⟩
 | brk=>exact z
 | cont=>exact z
 | ret u=>exact z
def Zk (d:AG)(o:Obj)(AD:δ):It:=
 ⟨fun i H=>H d=some (.fV o (.dK AD))/\i<AD.length,
  fun i H v H'=>H'=H/\∃k x,AD[i]?=some (k,x)/\v=kV k,
  fun i H=>H d=some (.fV o (.dK AD))/\AD.length<=i⟩
def aeQ {K:Frag}(d it:AG)(o:Obj)(AD:δ)(he:o.data=.dict XX ep):
  Turn P w K tg (Zk d o AD) [it] it (fun i h=>h.IsKeyIter it d i AD.length ep) where
 mem:=by simp
 obj:=fun i h st b hb=>by
  let e:b=it:=by simpa using hb
  subst e;obtain ⟨o,e,c,d⟩:=st;show ⟨o,e,fun v z=>by erw [d] at z⟩
 keep:=fun i h h' st k=>st.at fun o e=>k it gV o e
 item:=by
  intro X hP hw hK hc i pX s Y H E I hf st hg;subst hP hw hK;obtain ⟨fz,hi⟩:=hg;obtain ⟨hd,vs,rel,da,_⟩:=wN I.bZ fz he;let ek:AD[i]?=some AD[i]:=gE hi;obtain ⟨⟨k',u⟩,ev,e1,ru⟩:=aI rel ek;let lv:=rel.length;rw [lv] at st;obtain ⟨f0,f1,f2,f3,f4,f5⟩:=hf it gV;refine wpAny_pyNext_dict_item st da ev fun key h' yD M9 sb=>?_;let I1:Inv X pX Y H {s with heap:=h'}:=I.turned (t':=s.toks) (fun b o hb e=>(sb.2 b hb).trans e) f0 f1 f3 f4 f5;rw [<-lv] at M9;obtain ⟨o',e',c',d'⟩:=id M9;have T3 :AD[i].1=k':=e1;show ⟨key,rfl,M7 (s:={s with heap:=h'}) e' c' d' gt ⟨kV AD[i].1,H,I1,by rw [T3];exact wM yD,⟨rfl,AD[i].1,AD[i].2,ek,rfl⟩,M9,fun b hb=>(hf b hb).1⟩⟩
 done:=by
  intro X hP hw hK hc i pX s Y H E I hf st hg;subst hP hw hK;obtain ⟨fz,hi⟩:=hg;obtain ⟨hd,vs,rel,da,_⟩:=wN I.bZ fz he;let lv:=rel.length;rw [lv] at st;obtain ⟨f0,f1,f2,f3,f4,f5⟩:=hf it gV;exact wpAny_pyNext_dict_end (I.ok.hd hc) st da (EZ ga) fun h' eb=>⟨rfl,I.turned (t':=s.toks) (fun b o hb e=>eb b o hb e) f0 f1 f3 f4 f5⟩
 self:=fun _ _ _ _ _ st h=>wpAny_pyIter_keyiter st h
inductive N6 (R:(It->Hp->Prop))(x:V)(H1:Hp):Prop
|mk (d AD:_)(_:x=.ref d)(_:H1 d=some (.dK AD))(_:∀o,R (Zk d o AD) (upd H1 d (.fV o (.dK AD))))
def agZ (te:TE):TI:=fun Y H R=>te Y H fun x H1=>N6 R x H1
def adA (ho:PE X e te):PI X tg e (agZ te):=by
 intro pX s Y H R I h;refine cY (ho pX s Y H _ I h) fun v s1 ⟨x,H1,I1,r1,q1⟩=>?_;obtain ⟨d,AD,rfl,e,q⟩:=q1;cases r1;obtain ⟨z,hd,vs,rel,o,Ze,ep,MJ,hx,g8,hk,hp,hn⟩:=vx I1.bZ e;let da:s1.heap.DictAt (bN X.prog X.w) d vs ep:=⟨o,Ze,MJ,hx,g8,hk,hp,hn⟩;let lv:=rel.length;let I2:=Inv.freeze I1 e MJ;refine wpAny_pyIter_dict hd da ?_;let I3:Inv X pX Y (upd H1 d (.fV o (.dK AD))) {s1 with heap:=s1.heap.push {cls:=.type "dict_keyiterator",data:=.fields #[.ref d,.int 0 0,.int vs.length 0,.int ep 0]}}:=I2.kept (t':=s1.toks) fun b o e=>K1 _ e;show ⟨s1.heap.objs.size,[s1.heap.objs.size],_,_,_,rfl,I3,aeQ d _ o AD g8,(show Heap.IsKeyIter _ _ d 0 AD.length ep from ⟨_,L6 _ rfl,rfl,by rw [lv];rfl⟩),fun b hb=>?_,q o⟩;let eb:b=s1.heap.objs.size:=by simpa using hb
 let le:s1.heap.objs.size<=b:=by rw [eb];exact DU _
 exact I2.uT le (I2.bZ.fresh le)
def zak {g:TG}{tb:TS}{D:Ends}(Pv:Nat->L2.St->Hp->Prop)(h0:Pv 0 Y H)(hl:∀i Y H,i<=AD.length->Pv i Y H->H d=some (.fV o (.dK AD)))
  (hs:∀i k x Y H,AD[i]?=some (k,x)->Pv i Y H->g (kV k) Y H fun Y2 H2=>tb {D with nx:=Pv (i+1),ct:=Pv (i+1),bk:=D.nx} Y2 H2) (hd:∀Y H,Pv AD.length Y H->D.nx Y H):
  ∃W:Nat->Nat->L2.St->Hp->Prop,(∃m,W 0 m Y H)/\∀i m Y H,W i m Y H->
   ((Zk d o AD).stop i H/\D.nx Y H)\/((Zk d o AD).go i H/\∃N:L2.St->Hp->Prop,(∀Y' H',N Y' H' ->∃m',m'<m/\W (i+1) m' Y' H')/\∀x H',(Zk d o AD).M6 i H x H' ->g x Y H' fun Y2 H2=>tb {D with nx:=N,ct:=N,bk:=D.nx} Y2 H2):=by
 show ⟨fun i m Y H=>m=AD.length-i/\i<=AD.length/\Pv i Y H,⟨AD.length,by simp,KZ _,h0⟩,?_⟩;rintro i m Y H ⟨rfl,hi,p⟩;let q:=hl i Y H hi p;by_cases lQ:i<AD.length
 ·refine .inr ⟨⟨q,lQ⟩,Pv (i+1),fun Y' H' z=>⟨AD.length-(i+1),ga,rfl,ga,z⟩,fun x H' y=>?_⟩
  obtain ⟨rfl,k,x',ek,rfl⟩:=y;exact hs i k x' Y _ ek p
 ·let e:i=AD.length:=ga
  subst e;exact .inl ⟨⟨q,DU _⟩,hd Y H p⟩
end
section
variable {prog:FQ}{w:World}{KK:Type}[DecidableEq KK]{knd:KeyKind prog w KK}{A:KH}{E:ε}{s:D'}
def adE (ha:(a==Ks)=false)(hb:(b==Ks)=false)(da:s.heap.DictOf knd a vs)(db:s.heap.DictOf knd b ws)
  (hk:vs.map (·.1)=ws.map (·.1)) (he:∀(i:Nat)(x y:KK×Value),vs[i]?=some x->ws[i]?=some y->SeqAt.EqAt A s x.2 y.2 true) (h:Q true s):C' (CY prog w) A (Builtin.Dict.samePairs nm a b) Q E s:=by
 obtain ⟨oa,ea,pa,hoa,hca,hda,hka,hpa,hna⟩:=id da;obtain ⟨ob,eb,pb,hob,hcb,uU,hkb,hpb,hnb⟩:=id db;let la:ea.size=vs.length:=by rw [<-hpa.length];simp
 let lb:eb.size=ws.length:=by rw [<-hpb.length];simp
 let lvw:vs.length=ws.length:=by have:=oP NO hk;simpa using this
 unfold Builtin.Dict.samePairs Builtin.Dict.showsAll;rw [mJ (by rw [ha];exact KQ),mJ (by rw [hb];exact KQ)];refine CV (DV (CV (DV ?_)));refine CV (σ6 hoa hda ?_);refine CV (σ6 hob uU ?_);rw [mJ (by rw [la,lb,lvw];simp)];refine CV (wpAny_dictEpoch hoa hda ?_);refine CV ?_;rw [ahX];simp only [aov,Nat.sub_zero,Nat.add_sub_cancel,Nat.div_one];refine wpAny_forIn_list _ (fun rest r s'=>r=⟨none,PUnit.unit⟩/\s'=s/\∃i,rest=List.range' i (ea.size-i)/\i<=ea.size) _ ?_ ?_ _ _ ⟨rfl,rfl,0,by simp,KZ _⟩
 ·rintro x rest r s' ⟨rfl,rfl,i,hr,hi⟩
  let lQ:i<ea.size:=by
   rcases Nat.lt_or_ge i ea.size with h|h
   ·exact h
   ·rw [Nat.sub_eq_zero_of_le h] at hr;simp at hr
  obtain ⟨rfl,tI⟩:x=i/\rest=List.range' (i+1) (ea.size-(i+1)):=by
   let e:ea.size-i=(ea.size-(i+1))+1:=ga
   rw [e,List.range'_succ] at hr;injection hr with h1 h2
   show ⟨h1,h2⟩
  let hlb:x<eb.size:=ga
  obtain ⟨kv,VZ⟩:∃kv,vs[x]?=some kv:=⟨vs[x]'ga,gE _⟩;obtain ⟨kw,hkw⟩:∃kw,ws[x]?=some kw:=⟨ws[x]'ga,gE _⟩;obtain ⟨k,v⟩:=kv;obtain ⟨k2,v2⟩:=kw
  obtain rfl:k=k2:=by
   let e1:(vs.map (·.1))[x]?=some k:=by rw [Wp,VZ];rfl
   let e2:(ws.map (·.1))[x]?=some k2:=by rw [Wp,hkw];rfl
   rw [hk,e2] at e1;injection e1 with e1
   exact e1.symm
  obtain ⟨yD,agu⟩:=hpa.get? (e:=ea[x]) (by simp [lQ]) VZ;obtain ⟨Zm,Zn⟩:=hpb.get? (e:=eb[x]) (by simp [hlb]) hkw;obtain ⟨k',Zo,Zp⟩:=hka ea[x] (Array.getElem_mem lQ);obtain rfl:k'=k:=knd.inj _ _ _ Zo yD
  let hf:eb.findIdx? (fun e=>knd.is k' e.key)=some x:=by
   rw [Array.findIdx?_eq_some_iff_getElem];show ⟨hlb,Zm,fun j hj z=>?_⟩;let hjb:j<eb.size:=ga
   obtain ⟨⟨kj,vj⟩,hkj⟩:∃kv,ws[j]?=some kv:=⟨ws[j]'ga,gE _⟩;obtain ⟨Zq,_⟩:=hpb.get? (e:=eb[j]) (by simp [hjb]) hkj;let e:=knd.inj _ _ _ z Zq;let e1:(ws.map (·.1))[j]?=some k':=by rw [Wp,hkj,e];rfl
   let e2:(ws.map (·.1))[x]?=some k':=by rw [Wp,hkw];rfl
   have:=(Zu (by simp;omega) hnb).mp (e1.trans e2.symm);omega
  refine CV (σ6 hoa hda ?_);rw [aho lQ];refine CV (Nj (CV ?_));rw [Zp];refine wpAny_dictFind_of yD hob uU hkb ?_;rw [hf];refine CV (σ6 hob uU ?_);rw [aho hlb];refine Nj ?_;rw [agu,Zn];refine he x _ _ VZ hkw prog w _ _ ?_;rw [mJ gt];refine CV (wpAny_dictEpoch hoa hda ?_);rw [mJ gV];exact DV ⟨rfl,rfl,x+1,tI,ga⟩
 ·rintro r s' ⟨rfl,rfl,i,hr,hi⟩
  exact DV h
open MeetsSeq MeetsSeq2 MeetsSeq3 SeqRoads2 in
open MeetsSeq MeetsSeq2 MeetsSeq3 SeqRoads2 in
end
structure V0 (K:Frag)(x qual:Str)(st:Stmt)(f:AG)(fd:FuncData):Prop where
 ex:∃(dV oc:Value)(od:Ι)(kV doc pm:Value)(an:Ι)(cL ct:Value)(uM:Ο),
  fd=fnOf x qual (aC st) (au st) (ae st) dV kV doc pm an cL ct/\K.lookup f=some ⟨oc,od,.func fd,uM⟩/\codeIn K cL qual=true
 kp:keepIn K (.ref f)=true
section
variable {P:FQ}{w:World}{K:Frag}{mg:ξ}{iN:Heap}{CX:mR}
def acu {st:Stmt}{od an:Ι}{uM:Ο}{kV doc pm cL ct:Value}(l:K.lookup f=some ⟨oc,od,.func (fnOf x qual (aC st) (au st) (ae st) dV kV doc pm an cL ct),uM⟩)
  (c:codeIn K cL qual=true) (k:keepIn K (.ref f)=true):V0 K x qual st f (fnOf x qual (aC st) (au st) (ae st) dV kV doc pm an cL ct):=⟨⟨dV,oc,od,kV,doc,pm,an,cL,ct,uM,rfl,l,c⟩,k⟩
def IM {st:Stmt}(F:sU K name qual st f fd)(S:aE N ps (ae st))(len:∀vs H Q E,sp vs H Q E->vs.length=ps.length)
  (gY:∀(cL:Value)(A:KH)(lj:List Env)(s:D')(H:Hp)(vs:θ)(Q:VK)(E:XK),cK k (A.deeper (NT qual (ae st) s.heap.objs.size f cL))->sp vs H Q E->
   ∃t,qv (rf P w K mg iN N qual (ae st) f cL A lj s H E).yq (au st) t/\t {nx:=fun _ H'=>Q .dw H',rt:=Q} (start N vs) H):dI P w K mg iN (ba P w) (k+1) f fd ps sp:=by
 obtain ⟨oc,od,kV,doc,pm,an,cL,ct,uM,rfl,lk,uR⟩:=F.ex
 exact HQ lk uR S len fun A lj s H vs Q E hr HR=>by
  obtain ⟨t,h,q⟩:=gY cL A lj s H vs Q E hr HR;show ⟨t,h.yq,q⟩
def aeD {st:Stmt}(F:V0 K name qual st f fd)(S:aE N ps (ae st))(len:∀vs H Q E,sp vs H Q E->vs.length=ps.length)
  (gY:∀(cL:Value)(A:KH)(lj:List Env)(s:D')(H:Hp)(vs:θ)(Q:VK)(E:XK),cK k (A.deeper (NT qual (ae st) s.heap.objs.size f cL))->sp vs H Q E->
   ∃t,qv (rf P w K mg iN N qual (ae st) f cL A lj s H E).yq (au st) t/\t {nx:=fun _ H'=>Q .dw H',rt:=Q} (start N vs) H):dI P w K mg iN (ba P w) (k+1) f fd ps sp:=by
 obtain ⟨dV,oc,od,kV,doc,pm,an,cL,ct,uM,rfl,lk,uR⟩:=F.ex
 exact HQ lk uR S len fun A lj s H vs Q E hr HR=>by
  obtain ⟨t,h,q⟩:=gY cL A lj s H vs Q E hr HR;show ⟨t,h.yq,q⟩
end
structure DO (P:FQ)(w:World)(K:Frag)(mg:ξ)(iN:Heap)(CX:mR)(k:Nat)(C:AG)(m:Str)(ps:ψ)(ds:τ)(sp:Sp):Prop where
 ex:∃(f:AG)(fd:FuncData),yE K C/\Meth K C m f/\dI P w K mg iN CX k f fd ps sp/\Binds K fd ps ds
section
variable {X:Cx}{CX:mR}{k:Nat}{E:XK}{m:Str}{pos apos:Pos}{e o:Expr}{es:Β}{ta:TE}{t:TA}
inductive N9 (P:FQ)(w:World)(K:Frag)(mg:ξ)(iN:Heap)(CX:mR)(k:Nat)(m:Str)(E:XK)(t:TA)(Y:L2.St)(Q:VK)(x:V)(H1:Hp):Prop
|mk (a C dx fs ps sp:_)(_:x=.ref a)(_:H1 a=some (.ins C dx fs))(_:fs.lookup m=none)(_:DO P w K mg iN CX k C m ps [.none] sp)(_:t Y H1 fun vs H2=>sp (x::vs++[.dw]) H2 Q E)
def agT (P:FQ)(w:World)(K:Frag)(mg:ξ)(iN:Heap)(CX:mR)(k:Nat)(m:Str)(E:XK)(ta:TE)(t:TA):TE:=fun Y H Q=>ta Y H fun x H1=>N9 P w K mg iN CX k m E t Y Q x H1
def acs {pl:Sem Bool}(he:PE X o ta)(hr:cK k X.A)(hx:Passes CX X E)(ha:PA X (e::es) t)
  (M1:EX (e::es) X.env=(false,DX e X.env)::EX es X.env:=by rfl) (vf:(Kw pos (EX es X.env)).any (·.1)=false:=by rfl)
  (ht:DX (.Call (.Attribute o m apos) (e::es) [] pos) X.env=(do
   let ov <- DX o X.env
   standAt apos.atName
   let (f,first) <- Py [ov] (getMethod ov m pl)
   callWith pos f first (Kw pos (EX (e::es) X.env)) (backToKw pos (V8 [] X.env))):=by rfl):
  PE X (.Call (.Attribute o m apos) (e::es) [] pos) (agT X.prog X.w X.K X.mg X.iN CX k m E ta t):=by
 intro pX s Y H Q I h;refine PySem.W.methodCall_KW (pl:=pl) (cY (he pX s Y H _ I h) fun u s1 ⟨x,H1,I1,rx,a,C,dx,fs,ps,sp,ex,ea,l,M,q⟩=>?_) ht;subst ex;obtain rfl:u=Value.ref a:=rx;obtain ⟨f,fd,c,hm,F,hb⟩:=M.ex;refine lT I1 ea c hm l ?_;refine rn (first:=[.ref a]) (h₀:=X.iN) I.ok.mod.XH hm.kp (cY (ha pos pX s1 Y H1 _ I1 q) fun us s2 ⟨vs,H2,I2,r,q2⟩=>⟨I2.mQ,?_⟩) M1 vf;exact wk (us:=.ref a::us) (vs:=.ref a::vs) (qw:=[.dw]) F hr hb (.cons rfl .nil) hx I2 (.cons rfl r) q2
end
theorem cR {κ:Type}[DecidableEq κ]{k:κ}:∀{AD:List (κ×V)},k∉AD.map (·.1)->cI AD k=none
 | [],_=>rfl
 | p::r,h=>by
  rw [DG,KD,not_or] at h;rw [bO (fun e=>h.1 e.symm)];exact cR h.2
theorem pU {κ:Type}[DecidableEq κ]{k:κ}:∀{AD:List (κ×V)},k∈AD.map (·.1)->∃v,cI AD k=some v
 | p::r,h=>by
  by_cases e:p.1=k
  ·show ⟨_,cw e⟩
  ·rw [bO e]
   rw [DG,KD] at h
   rcases h with h|h
   ·exact DL h.symm e
   ·exact pU h
structure N_ (K:Frag)(C:AG):Prop where
 cls:yE K C
 pl:gX K C "pin_places"
 wy:gX K C "pin_ways"
 br:gX K C "bar_ends"
abbrev frF (pP pW pB:AG):List (Str×V):=[("pin_places",.ref pP),("pin_ways",.ref pW),("bar_ends",.ref pB)]
abbrev Pt:=(Int×Int)×(Int×Int)
abbrev _root_.Ξ:=List (Str×Pt)
abbrev i7 (p:Pt):List Da:=[.t [.v (.int p.1.1),.v (.int p.1.2)],.t [.v (.int p.2.1),.v (.int p.2.2)]]
def bF (H H':Hp):Prop:=∀b xs,Rd H b (.tup xs)->Rd H' b (.tup xs)
def bF.of (s:aq H H'):bF H H':=fun b xs e=>by
 rcases e with e|⟨o,e⟩
 ·exact .inl (s _ _ e)
 ·exact .inr ⟨o,s _ _ e⟩
def bF.trans (a:bF H H1)(b:bF H1 H2):bF H H2:=fun c xs e=>b c xs (a c xs e)
def bF.dict (e:H d=some (.dK AD)):bF H (upd H d o):=fun b xs r=>by
 rcases r with r|⟨o,r⟩
 ·exact .inl (by rw [ao (fun z=>by erw [z,e] at r)];exact r)
 ·exact .inr ⟨o,by rw [ao (fun z=>by erw [z,e] at r)];exact r⟩
def bF.list (e:H d=some (.lst xs)):bF H (upd H d o):=fun b xs r=>by
 rcases r with r|⟨o,r⟩
 ·exact .inl (by rw [ao (fun z=>by erw [z,e] at r)];exact r)
 ·exact .inr ⟨o,by rw [ao (fun z=>by erw [z,e] at r)];exact r⟩
def bF.cp {K:Frag}(s:bF H H')(q:bK K H p xs):bK K H' p xs:=by
 rcases q with q|q
 ·exact .inl (s _ _ q)
 ·exact .inr q
def oY.bq {K:Frag}(h:oY K H v q)(s:bF H H'):oY K H' v q:=by
 obtain ⟨p,e,k⟩:=h;show ⟨p,e,s.cp k⟩
def Spot (K:Frag)(H:Hp)(v:V)(p:Pt):Prop:=∃a u1 u2,v=.ref a/\bK K H a [u1,u2]/\oY K H u1 p.1/\oY K H u2 p.2
theorem Spot.bq {K:Frag}(h:Spot K H v p)(s:bF H H'):Spot K H' v p:=by
 obtain ⟨a,u1,u2,e,h1,h2,h3⟩:=h;show ⟨a,u1,u2,e,s.cp h1,h2.bq s,h3.bq s⟩
def IP {K:Frag}(h:oY K H v q):Is K H (.t [.v (.int q.1),.v (.int q.2)]) v:=by
 obtain ⟨p,rfl,e⟩:=h;unfold Is;show ⟨p,_,rfl,e,?_⟩;unfold iY;show ⟨by unfold Is;show ⟨rfl,rfl⟩,?_⟩;unfold iY;show ⟨by unfold Is;show ⟨rfl,rfl⟩,?_⟩;unfold iY;trivial
def Spot.is {K:Frag}(h:Spot K H v p):Is K H (.t (i7 p)) v:=by
 obtain ⟨a,u1,u2,rfl,h1,h2,h3⟩:=h;unfold Is;show ⟨a,_,rfl,h1,?_⟩;unfold iY;show ⟨IP h2,?_⟩;unfold iY;show ⟨IP h3,?_⟩;unfold iY;trivial
def ag3 (p q:Pt):c7 (i7 p) (i7 q)=decide (p=q):=by
 let e:c7 (i7 p) (i7 q)=((p.1.1==q.1.1 && (p.1.2==q.1.2 && true)) && ((p.2.1==q.2.1 && (p.2.2==q.2.2 && true)) && true)):=by
  simp only [i7,c7,iQ,lV]
 rw [e];obtain ⟨⟨a,b⟩,c,d⟩:=p;obtain ⟨⟨a',b'⟩,c',d'⟩:=q;by_cases h:a=a' <;> by_cases h1:b=b' <;> by_cases h2:c=c' <;> by_cases h3:d=d' <;> simp [h,h1,h2,h3,aod]
def ahb (p q:Pt):dS (i7 p) (i7 q)=true:=by simp [i7,dS,alike]
def ab5 (p:Pt):jk (i7 p)<=60:=by simp [i7,jk,dep]
structure iy (K:Frag)(H:Hp)(C a dx pP pW pB:AG)(ps:Ξ)(bs:Ζ)(kP kW kB:δ):Prop where
 obj:H a=some (.ins C dx (frF pP pW pB))
 pl:H pP=some (.dK kP)
 wy:H pW=some (.dK kW)
 br:H pB=some (.dK kB)
 ne1:pP≠pW
 ne2:pP≠pB
 ne3:pW≠pB
 rp:Paired (fun (p:Str×Pt) (kv:Key×V)=>kv.1=.inr p.1/\Spot K H kv.2 p.2) ps kP
 rb:Paired (fun (b:Str×Str×Str) (kv:Key×V)=>kv.1=.inr b.1/\∃p,kv.2=.ref p/\Rd H p (.tup [.str b.2.1,.str b.2.2])) bs kB
section
variable {K:Frag}{H H':Hp}{C a dx pP pW pB:AG}{ps:Ξ}{bs:Ζ}{kP kW kB:δ}
theorem iF {R:(Str×Z)->(Key×V)->Prop}:∀{l:List (Str×Z)} {AD:δ},Paired (fun b kv=>kv.1=.inr b.1/\R b kv) l AD->AD.map (·.1)=l.map (fun b=>(KA b.1:Key))
 | _,_,.nil=>rfl
 | _,_,.cons h t=>by rw [DG,DG,h.1,iF t]
def iG {l:ψ}:(KA x:Key)∈l.map (fun b=>(KA b:Key)) ↔ x∈l:=by
 constructor
 ·intro h
  obtain ⟨y,hy,e⟩:=CZ.mp h;exact NQ e▸hy
 ·exact fun h=>CZ.mpr ⟨x,h,rfl⟩
def iy.j3 (R:iy K H C a dx pP pW pB ps bs kP kW kB)(s:bF H H')(h1:H' a=H a)(h2:H' pP=H pP)(h3:H' pW=H pW)(h4:H' pB=H pB):iy K H' C a dx pP pW pB ps bs kP kW kB:=
 ⟨h1.trans R.obj,h2.trans R.pl,h3.trans R.wy,h4.trans R.br,R.ne1,R.ne2,R.ne3,Paired.cg R.rp fun _ _ h=>⟨h.1,h.2.bq s⟩,Paired.cg R.rb fun _ _ h=>⟨h.1,by obtain ⟨p,e,k⟩:=h.2;show ⟨p,e,s _ _ k⟩⟩⟩
def iy.ji (R:iy K H C a dx pP pW pB ps bs kP kW kB)(s:aq H H'):iy K H' C a dx pP pW pB ps bs kP kW kB:=
 R.j3 (.of s) ((s _ _ R.obj).trans R.obj.symm) ((s _ _ R.pl).trans R.pl.symm) ((s _ _ R.wy).trans R.wy.symm) ((s _ _ R.br).trans R.br.symm)
def iy.qM (R:iy K H C a dx pP pW pB ps bs kP kW kB):kB.map (·.1)=(bs.map (·.1)).map (fun b=>(KA b:Key)):=by
 rw [iF R.rb,K4];rfl
def iy.IQ (R:iy K H C a dx pP pW pB ps bs kP kW kB):kP.map (·.1)=(ps.map (·.1)).map (fun b=>(KA b:Key)):=by
 rw [iF R.rp,K4];rfl
def iy.bar (R:iy K H C a dx pP pW pB ps bs kP kW kB)(x:Str):(cI kB (.inr x)).isSome=decide (x∈bs.map (·.1)):=by
 by_cases h:x∈bs.map (·.1)
 ·obtain ⟨v,e⟩:=pU (AD:=kB) (k:=.inr x) (by rw [R.qM];exact iG.mpr h)
  rw [e,Kk h];rfl
 ·rw [cR (by rw [R.qM];exact fun z=>h (iG.mp z)),O7 h]
  rfl
def iy.pin (R:iy K H C a dx pP pW pB ps bs kP kW kB)(x:Str):(cI kP (.inr x)).isSome=decide (x∈ps.map (·.1)):=by
 by_cases h:x∈ps.map (·.1)
 ·obtain ⟨v,e⟩:=pU (AD:=kP) (k:=.inr x) (by rw [R.IQ];exact iG.mpr h)
  rw [e,Kk h];rfl
 ·rw [cR (by rw [R.IQ];exact fun z=>h (iG.mp z)),O7 h]
  rfl
def iy.ab (R:iy K H C a dx pP pW pB ps bs kP kW kB):a≠pP/\a≠pW/\a≠pB:=
 ⟨fun z=>(by have h:=R.obj;erw [z,R.pl] at h),fun z=>(by have h:=R.obj;erw [z,R.wy] at h),fun z=>(by have h:=R.obj;erw [z,R.br] at h)⟩
def iy.V1 (R:iy K H C a dx pP pW pB ps bs kP kW kB)(ht:Rd H t (.tup [.str one,.str jK])):
  iy K (upd H pB (.dK (kB++[(.inr x,.ref t)]))) C a dx pP pW pB ps (bs++[(x,one,jK)]) kP kW (kB++[(.inr x,.ref t)]):=by
 let s:bF H (upd H pB (.dK (kB++[(.inr x,.ref t)]))):=.dict R.br
 show ⟨by rw [ao R.ab.2.2];exact R.obj,by rw [ao R.ne2];exact R.pl,by rw [ao R.ne3];exact R.wy,aj,R.ne1,R.ne2,R.ne3,Paired.cg R.rp fun _ _ h=>⟨h.1,h.2.bq s⟩,
  V7 (Paired.cg R.rb fun _ _ h=>⟨h.1,by obtain ⟨p,e,k⟩:=h.2;show ⟨p,e,s _ _ k⟩⟩) ⟨rfl,t,rfl,s _ _ ht⟩⟩
theorem dD :∀{l:List Z} {m:List β},Paired R l m->Paired (fun b a=>R a b) m l
 | _,_,.nil=>.nil
 | _,_,.cons h t=>.cons h (dD t)
def iy.V2 (R:iy K H C a dx pP pW pB ps bs kP kW kB)(ht:Spot K H (.ref t) p):
  iy K (upd H pP (.dK (kP++[(.inr x,.ref t)]))) C a dx pP pW pB (ps++[(x,p)]) bs (kP++[(.inr x,.ref t)]) kW kB:=by
 let s:bF H (upd H pP (.dK (kP++[(.inr x,.ref t)]))):=.dict R.pl
 show ⟨by rw [ao R.ab.1];exact R.obj,aj,by rw [ao (FG R.ne1)];exact R.wy,by rw [ao (FG R.ne2)];exact R.br,R.ne1,R.ne2,R.ne3,
  V7 (Paired.cg R.rp fun _ _ h=>⟨h.1,h.2.bq s⟩) ⟨rfl,ht.bq s⟩,Paired.cg R.rb fun _ _ h=>⟨h.1,by obtain ⟨p,e,k⟩:=h.2;show ⟨p,e,s _ _ k⟩⟩⟩
def iy.IS (R:iy K H C a dx pP pW pB ps bs kP kW kB)(zh :δ):iy K (upd H pW (.dK zh)) C a dx pP pW pB ps bs kP zh kB:=by
 let s:bF H (upd H pW (.dK zh)):=.dict R.wy
 show ⟨by rw [ao R.ab.2.1];exact R.obj,by rw [ao R.ne1];exact R.pl,aj,by rw [ao (FG R.ne3)];exact R.br,R.ne1,R.ne2,R.ne3,
  Paired.cg R.rp fun _ _ h=>⟨h.1,h.2.bq s⟩,Paired.cg R.rb fun _ _ h=>⟨h.1,by obtain ⟨p,e,k⟩:=h.2;show ⟨p,e,s _ _ k⟩⟩⟩
def vC (xs:ψ):(xs.map V.str).all jV=true:=by
 rw [List.all_map,anP];exact fun _ _=>rfl
theorem tJ :∀(xs:ψ),XQ (.str x) (xs.map V.str)=decide (x∈xs)
 | []=>rfl
 | y::ys=>by
  let ih:=tJ (x:=x) ys;unfold XQ at ih ⊢;rw [DG,Sg,ih];by_cases e:y=x
  ·subst e
   simp [lV]
  ·let e':¬ x=y:=fun z=>e z.symm
   simp [lV,e,e']
end
open Builtin.Int (intBits)
def qr (r:Rat):Int×Int:=(r.num,(r.den:Int))
def dF (r:Rat):0<(qr r).2:=by
 have:=r.den_pos;show (0:Int)<(r.den:Int);omega
def wO (r:Rat):KP (qr r).1 (qr r).2=1:=by
 have:=r.reduced;show KP r.num (r.den:Int)=1;unfold KP;simpa [Nat.Coprime] using this
def g9 (r:Rat):vl (qr r)=r:=by
 show (r.num:Rat) / ((r.den:Int):Rat)=r;rw [<-al_];exact ah9 r
def zi (h:0<q.2)(g:KP q.1 q.2=1):q=qr (vl q):=ac2 h (dF _) g (wO _) (g9 _).symm
def pZ (h:b≠0):low t b=qr ((t:Rat) / (b:Rat)):=by
 rw [<-tq h];exact zi (m_ h) (rO h)
def DP (h:qr a=qr b):a=b:=by
 rw [<-g9 a,<-g9 b,h]
def tK (i:Int):qr (i:Rat)=(i,1):=by
 let e:(i,(1:Int))=qr (vl (i,1)):=zi (by show (0:Int)<1;decide) (by show KP i 1=1;simp)
 let v:vl (i,(1:Int))=(i:Rat):=by
  unfold vl;show (i:Rat) / ((1:Int):Rat)=i;have:((1:Int):Rat)=1:=by rfl
  rw [this];grind
 rw [e,v]
def DQ (r:Rat):qr (-r)=(-(qr r).1,(qr r).2):=by
 let e:((-(qr r).1,(qr r).2):Int×Int)=qr (vl (-(qr r).1,(qr r).2)):=zi (dF r) (by
  have:=wO r;show KP (-(qr r).1) (qr r).2=1;rw [Int.neg_gcd]
  exact this)
 let v:vl (-(qr r).1,(qr r).2)= -r:=by
  let h:=g9 r;unfold vl at h ⊢;push_cast;rw [<-h];grind
 rw [e,v]
def DR :((qr r).2:Rat)≠0:=cO (NA (dF r))
def afG (a b:Rat):low ((qr a).1*(qr b).2+(qr b).1*(qr a).2) ((qr a).2*(qr b).2)=qr (a+b):=by
 let ha:=dF a;let hb:=dF b;rw [pZ (NA (Og ha hb))];let e1:=g9 a;let e2:=g9 b;let z1:=DR (r:=a);let z2:=DR (r:=b);unfold vl at e1 e2;congr 1;push_cast;grind
def Ob (a b:Rat):low ((qr a).1*(qr b).2-(qr b).1*(qr a).2) ((qr a).2*(qr b).2)=qr (a-b):=by
 let ha:=dF a;let hb:=dF b;rw [pZ (NA (Og ha hb))];let e1:=g9 a;let e2:=g9 b;let z1:=DR (r:=a);let z2:=DR (r:=b);unfold vl at e1 e2;congr 1;push_cast;grind
def af9 (a b:Rat):low ((qr a).1*(qr b).1) ((qr a).2*(qr b).2)=qr (a*b):=by
 let ha:=dF a;let hb:=dF b;rw [pZ (NA (Og ha hb))];let e1:=g9 a;let e2:=g9 b;let z1:=DR (r:=a);let z2:=DR (r:=b);unfold vl at e1 e2;congr 1;push_cast;grind
structure Sz (k:Nat)(r:Rat):Prop where
 top:intBits (qr r).1<=k
 bot:intBits (qr r).2<=k
def Sz.up (h:Sz k r)(kl:k<=l):Sz l r:=⟨DC h.top kl,DC h.bot kl⟩
def abV (ha:intBits a<=k)(hb:intBits b<=k):intBits (a+b)<=k+1:=by
 rw [intBits_le_iff] at ha hb ⊢;have:=Sk a b;rw [Se];omega
def abv (ha:intBits a<=k)(hb:intBits b<=k):intBits (a-b)<=k+1:=by
 rw [intBits_le_iff] at ha hb ⊢;have:=Int.natAbs_sub_le a b;rw [Se];omega
def DS (hb:b≠0)(h1:intBits t<=k)(h2:intBits b<=k):Sz k ((t:Rat) / (b:Rat)):=by
 rw [<-tq hb];let e:=zi (m_ (t:=t) hb) (rO hb);show ⟨by rw [<-e];exact intBits_le_of_natAbs (sY hb) h1,by rw [<-e];exact intBits_le_of_natAbs (sZ hb) h2⟩
def Oc (hb:b≠0)(e:low t b=qr r)(h1:intBits t<=k)(h2:intBits b<=k):Sz k r:=by
 let z:=pZ (t:=t) hb;rw [z] at e;have:=DP e;rw [<-this];exact DS hb h1 h2
def Sz.add (ha:Sz k a)(hb:Sz l b):Sz (k+l+1) (a+b):=
 Oc (NA (Og (dF a) (dF b))) (afG a b) (abV (Q8 ha.top hb.bot) (by rw [WO];exact Q8 hb.top ha.bot)) (am_ (Q8 ha.bot hb.bot))
def Sz.sub (ha:Sz k a)(hb:Sz l b):Sz (k+l+1) (a-b):=
 Oc (NA (Og (dF a) (dF b))) (Ob a b) (abv (Q8 ha.top hb.bot) (by rw [WO];exact Q8 hb.top ha.bot)) (am_ (Q8 ha.bot hb.bot))
def Sz.mul (ha:Sz k a)(hb:Sz l b):Sz (k+l) (a*b):=
 Oc (NA (Og (dF a) (dF b))) (af9 a b) (Q8 ha.top hb.top) (Q8 ha.bot hb.bot)
def Sz.neg (ha:Sz k a):Sz k (-a):=by
 show ⟨?_,?_⟩
 ·rw [DQ]
  have:=ha.top;rw [intBits_le_iff] at this ⊢;show (-(qr a).1).natAbs<2^k;rw [ZG];exact this
 ·rw [DQ]
  exact ha.bot
def wQ {i:Int}(h:i.natAbs<2^k)(hk:1<=k):Sz k (i:Rat):=by
 show ⟨?_,?_⟩
 ·rw [tK]
  exact intBits_le_iff.mpr h
 ·rw [tK]
  refine intBits_le_iff.mpr ?_;show 1<2^k;exact Nat.one_lt_two_pow ga
def g_ (K:Frag)(H:Hp)(v:V)(r:Rat):Prop:=oY K H v (qr r)
def kG (K:Frag)(H:Hp)(v:V)(p:Rat×Rat):Prop:=∃a u1 u2,v=.ref a/\bK K H a [u1,u2]/\g_ K H u1 p.1/\g_ K H u2 p.2
section
variable {K:Frag}{H H':Hp}{v:V}{r:Rat}{p:Rat×Rat}
theorem g_.bq (h:g_ K H v r)(s:bF H H'):g_ K H' v r:=oY.bq h s
theorem g_.ji (h:g_ K H v r)(s:aq H H'):g_ K H' v r:=oY.ji h s
theorem kG.bq (h:kG K H v p)(s:bF H H'):kG K H' v p:=by
 obtain ⟨a,u1,u2,e,h1,h2,h3⟩:=h;show ⟨a,u1,u2,e,s.cp h1,h2.bq s,h3.bq s⟩
def kG.ji (h:kG K H v p)(s:aq H H'):kG K H' v p:=h.bq (.of s)
abbrev MK (p:Rat×Rat):Pt:=(qr p.1,qr p.2)
def rq (K:Frag)(H:Hp)(us:θ)(ps:Κ):Prop:=Paired (kG K H) us ps
theorem rq.bq (h:rq K H us ps)(s:bF H H'):rq K H' us ps:=Paired.cg h fun _ _ z=>z.bq s
def rq.ji (h:rq K H us ps)(s:aq H H'):rq K H' us ps:=h.bq (.of s)
end
def l_ {R:(Str×Z)->(Key×V)->Prop}:∀{l:List (Str×Z)} {AD:δ},Paired (fun b kv=>kv.1=.inr b.1/\R b kv) l AD->(l.map (·.1)).Nodup->(x,y)∈l->∃v,cI AD (.inr x)=some v/\R (x,y) (.inr x,v):=fun {l AD} p nd m=>by
 induction p with
 | nil=>cases m
 | cons h t ih=>
  rw [DG,Kr] at nd
  rcases KD.mp m with e|m
  ·subst e
   show ⟨_,cw h.1,?_⟩;let h2:=h.2;rwa [<-h.1]
  ·obtain ⟨v,e,r⟩:=ih nd.2 m
   show ⟨v,?_,r⟩;rw [bO (fun z=>?_)]
   ·exact e
   ·rw [h.1] at z
    exact nd.1 (NQ z▸CZ.mpr ⟨_,m,rfl⟩)
def CB (K:Frag)(H:Hp)(pw:Τ)(kW:δ):Prop:=
 Paired (fun (p:Str×List (Rat×Rat)) (kv:Key×V)=>kv.1=.inr p.1/\∃l us,kv.2=.ref l/\H l=some (.lst us)/\rq K H us p.2) pw kW
theorem CB.ji {K:Frag}(h:CB K H pw kW)(s:aq H H'):CB K H' pw kW:=
 Paired.cg h fun _ _ z=>⟨z.1,by obtain ⟨l,us,e1,e2,e3⟩:=z.2;show ⟨l,us,e1,s _ _ e2,e3.ji s⟩⟩
theorem CB.dict {K:Frag}(h:CB K H pw kW)(e:H d=some (.dK AD)):CB K (upd H d o) pw kW:=
 Paired.cg h fun _ _ z=>⟨z.1,by
  obtain ⟨l,us,e1,e2,e3⟩:=z.2
  show ⟨l,us,e1,by rw [ao (fun q=>by erw [q,e] at e2)];exact e2,e3.bq (.dict e)⟩⟩
def CB.keys {K:Frag}(h:CB K H pw kW):kW.map (·.1)=(pw.map (·.1)).map (fun b=>(KA b:Key)):=by
 rw [iF h,K4];rfl
def iy.ends {K:Frag}(R:iy K H C a dx pP pW pB ps bs kP kW kB)(nd:(bs.map (·.1)).Nodup)(m:(x,one,jK)∈bs):
  ∃p,cI kB (.inr x)=some (.ref p)/\Rd H p (.tup [.str one,.str jK]):=by
 obtain ⟨v,e,p,ep,r⟩:=l_ R.rb nd m;have XJ :v=.ref p:=ep;show ⟨p,by rw [e,XJ],r⟩
def iy.place {K:Frag}(R:iy K H C a dx pP pW pB ps bs kP kW kB)(nd:(ps.map (·.1)).Nodup)(m:(x,p)∈ps):
  ∃v,cI kP (.inr x)=some v/\Spot K H v p:=l_ R.rp nd m
structure aA where
 nm:Str
 sp:Rat×Rat
 ws:List (Rat×Rat)
abbrev _root_.ν:=List aA
structure aD where
 nm:Str
 one:aA
 jK:aA
abbrev _root_.ρ:=List aD
inductive qN (K:Frag)(H:Hp)(C a:AG)(pX:ν)(ip:ρ):Prop
|mk (dx pP pW pB:AG)(kP kW kB:δ)(_:iy K H C a dx pP pW pB (pX.map fun p=>(p.nm,MK p.sp)) (ip.map fun b=>(b.nm,b.one.nm,b.jK.nm)) kP kW kB)(_:CB K H (pX.map fun p=>(p.nm,p.ws)) kW)
def qN.ex {K:Frag}(h:qN K H C a pX ip):qN K H C a pX ip:=h
structure bM (pX:ν)(ip:ρ):Prop where
 np:(pX.map (·.nm)).Nodup
 nb:(ip.map (·.nm)).Nodup
 ends:∀b∈ip,b.one∈pX/\b.jK∈pX/\b.one.nm≠b.jK.nm
 sz:∀p∈pX,Sz 27 p.sp.1/\Sz 27 p.sp.2/\∀w∈p.ws,Sz 22 w.1/\Sz 22 w.2
 lp:pX.length<=9
 lb:ip.length<=27
 lw:∀p∈pX,p.ws.length<=2
theorem qN.ji {K:Frag}(h:qN K H C a pX ip)(s:aq H H'):qN K H' C a pX ip:=by
 obtain ⟨dx,pP,pW,pB,kP,kW,kB,R,W⟩:=h.ex;show ⟨dx,pP,pW,pB,kP,kW,kB,R.ji s,W.ji s⟩
def Rj (K:Frag)(H:Hp)(AD:δ)(F:ς):Prop:=
 ∀nm,(cI AD (.inr nm)=none/\F nm=none)\/∃v p,cI AD (.inr nm)=some v/\F nm=some p/\kG K H v p
section
variable {K:Frag}{H H':Hp}{AD:δ}
theorem Rj.ji (h:Rj K H AD F)(s:aq H H'):Rj K H' AD F:=fun nm=>by
 rcases h nm with h|⟨v,q,h1,h2,h3⟩
 ·exact .inl h
 ·exact .inr ⟨v,q,h1,h2,h3.ji s⟩
def Rj.agv (h:Rj K H AD F)(n:kG K H v q):kG K H ((cI AD (.inr x)).getD v) ((F x).getD q):=by
 rcases h x with ⟨h1,h2⟩|⟨u,q',h1,h2,h3⟩
 ·rw [h1,h2]
  exact n
 ·rw [h1,h2]
  exact h3
end
def af' {Z:Type}{nm:Z->Str}{l:List Z}(nd:(l.map nm).Nodup){b b':Z}(h:b∈l)(h':b' ∈l)(e:nm b=nm b'):b=b':=by
 obtain ⟨i,hi,ei⟩:=Xn.mp h;obtain ⟨j,hj,ej⟩:=Xn.mp h';let q1:(l.map nm)[i]?=some (nm b):=by rw [Wp,gE hi,ei];rfl
 let q2:(l.map nm)[j]?=some (nm b):=by rw [Wp,gE hj,ej,e];rfl
 let ij:=(Zu (by rwa [ir]) nd).mp (q1.trans q2.symm);subst ij;rw [<-ei,<-ej]
def j4 {Z:Type}{nm:Z->Str}{l:List Z}(nd:(l.map nm).Nodup){b b':Z}(h:l[i]?=some b)(m:b' ∈l.take i):nm b'≠nm b:=fun e=>by
 let il:=(be.mp h).1;obtain ⟨j,hj,ej⟩:=Xn.mp m;rw [anC] at ej;rw [KI] at hj;let q1:(l.map nm)[j]?=some (nm b):=by rw [Wp,gE ga,ej,<-e];rfl
 let q2:(l.map nm)[i]?=some (nm b):=by rw [Wp,h];rfl
 have:=(Zu (by rw [ir];omega) nd).mp (q1.trans q2.symm);omega
def take_snoc {Z:Type}{l:List Z}{b:Z}(h:l[i]?=some b):l.take (i+1)=l.take i++[b]:=by rw [yw,h];rfl
def abp {xs:ψ}(h:xs.Nodup):(xs.map fun x=>(KA x:Key)).Nodup:=by
 unfold xy;rw [Vs];exact List.Pairwise.imp (fun h e=>h (NQ e)) h
def p_ (s:aq H H')(n:H' p=none):H p=none:=by
 cases e:H p with
 | none=>rfl
 | some o=>erw [s _ _ e] at n
abbrev hG (h:Heap)(z TI TO:AG)(f0:Value)(fb:Bool):Prop:=
 h.get? z=some {cls:=.type "zip",dict:=none,data:=.fields #[f0,.bool fb,.bool false,.ref TI,.ref TO],slots:= #[]}
section
variable {prog:FQ}{w:World}{A:KH}{E:ε}{s:D'}
def aha (h:s.heap.get? a=some o)(q:Q (some o) s):C' (CY prog w) A (loadIfAlive a) Q E s:=fun Γ p _=>by
 show Sem.wp _ _ (.loadIfAlive a .pure) _ _ _ _;rwa [Sem.wp_loadIfAlive,h]
def zk {z TI TO T:AG}(hz:hG s.heap z TI TO (Nr T) fb)(hT:s.heap.get? T=some o)
  (hQ:∀h',hG h' z TI TO (Nr T) true->Xo z s.heap h' ->Q false {s with heap:=h'}):C' (CY prog w) A (u4 (.ref z)) Q E s:=by
 unfold u4;refine CV (Q7 hz rfl (x:=Nr T) rfl ?_);show C' _ _ (loadIfAlive ((T:Int)).toNat >>=_) _ _ _;refine CV (aha (o:=o) (by simpa using hT) ?_);simp only [Option.isNone_some,Vv,if_false];refine CV (Q7 hz rfl (x:=.bool fb) rfl ?_);cases fb with
 | true=>
  show C' _ _ (if (Value.bool true !=Value.bool true)=true then _ else _) _ _ _;rw [mJ gt];exact DV (hQ s.heap hz ⟨rfl,fun _ _=>rfl⟩)
 | false=>
  show C' _ _ (if (Value.bool false !=Value.bool true)=true then _ else _) _ _ _;rw [mK gt];refine CV (wpAny_setField_rec hz gV fun h' hz' T5 =>DV (hQ h' hz' T5))
def abO {z TI TO T i1 i2 l1 l2:AG}{xs ys:Ρ}{Q:ε}(D:ZipApart z TI TO i1 i2 l1 l2)
  (hz:hG s.heap z TI TO (Nr T) fb) (hT:s.heap.get? T=some o) (lX:IsPair s.heap TI (.ref i1) (.ref i2))
  (h1:s.heap.IsListIter i1 l1 k1) (h2:s.heap.IsListIter i2 l2 k2) (IT:s.heap.IsList l1 xs) (B_:s.heap.IsList l2 ys) (hx:xs[k1]?=some x) (hy:ys[k2]?=some y)
  (hQ:∀h',hG h' z TI TO (Nr T) true->h'.IsListIter i1 l1 (k1+1)->h'.IsListIter i2 l2 (k2+1)->IsPair h' s.heap.objs.size x y->h'.objs.size=s.heap.objs.size+1->
   (∀c o,c≠z->c≠i1->c≠i2->s.heap.get? c=some o->h'.get? c=some o)->Q (.ref s.heap.objs.size) {s with heap:=h'}):
  C' (CY prog w) A (Builtin.«zip.__next__» ⟨[.ref z],[]⟩) (fun fin s'=>∃v,fin=.done (.ret v)/\Q v s') E s:=by
 show C' _ _ (field (.ref z) 2 >>=_) _ _ _;refine CV (Q7 hz rfl (x:=.bool false) rfl ?_);show C' _ _ (field (.ref z) 3 >>=_) _ _ _;refine CV (Q7 hz rfl (x:=.ref TI) rfl ?_);refine CV (α7 lX rfl ?_);show C' _ _ (u4 (.ref z) >>=_) _ _ _;refine CV (zk hz hT fun oR hz₁ DT=>?_);simp only [Vv,if_false];refine CV ?_;show C' _ _ (forIn [Value.ref i1,Value.ref i2].toArray _ _) _ _ _;rw [ah_];simp only [anX,an6];refine CV (CV (Nj ?_));show C' _ _ (uW (.ref i1) >>=_) _ _ _;refine CV (wpAny_nextOf_list_item (h1.extBut DT.extBut D.i1z) (IT.extBut DT.extBut D.l1z) hx fun ra h1₂ Od=>DV ?_);refine DV ?_;refine CV (CV (Nj ?_));show C' _ _ (uW (.ref i2) >>=_) _ _ _;refine CV (wpAny_nextOf_list_item ((h2.extBut DT.extBut D.i2z).extBut Od.extBut D.i12.symm) ((B_.extBut DT.extBut D.l2z).extBut Od.extBut D.l2i1) hy fun h₄ h2₄ XY=>DV ?_);refine DV (DV ?_);refine CV (wpAny_newTuple (hsz:=(by show 2<=C_;decide)) ?_);let hsz:h₄.objs.size=s.heap.objs.size:=by rw [XY.1,Od.1,DT.1]
 refine DV ⟨_,rfl,?_⟩;let hz₄:hG h₄ z TI TO (Nr T) true:=XY.extBut _ _ D.i2z.symm (Od.extBut _ _ D.i1z.symm hz₁);show Q (.ref h₄.objs.size) _;rw [hsz];refine hQ _ (K1 _ hz₄) ((h1₂.extBut XY.extBut D.i12).at fun o e=>K1 _ e) (h2₄.at fun o e=>K1 _ e) ?_ (by rw [Rn,hsz]) fun c o c1 c3 c4 e=>K1 _ (XY.extBut _ _ c4 (Od.extBut _ _ c3 (DT.extBut _ _ c1 e)));show (h₄.push _).get? _=_;rw [<-hsz];exact L6 _ rfl
def afp {z TI TO T i1 i2 l1 l2:AG}{xs ys:Ρ}(hh:A.handled=none)(D:ZipApart z TI TO i1 i2 l1 l2)
  (hz:hG s.heap z TI TO (Nr T) fb) (hT:s.heap.get? T=some o) (lX:IsPair s.heap TI (.ref i1) (.ref i2))
  (h1:s.heap.IsListIter i1 l1 k1) (h2:s.heap.IsListIter i2 l2 k2) (IT:s.heap.IsList l1 xs) (B_:s.heap.IsList l2 ys) (K5:xs[k1]?=none\/ys[k2]?=none)
  (hE:∀h' e,(∀c o,c≠z->c≠i1->c≠i2->s.heap.get? c=some o->h'.get? c=some o)->(∃o,h'.get? e=some o/\o.cls=.type "StopIteration")->E (.ref e) {s with heap:=h'}):
  C' (CY prog w) A (Builtin.«zip.__next__» ⟨[.ref z],[]⟩) Q E s:=by
 show C' _ _ (field (.ref z) 2 >>=_) _ _ _;refine CV (Q7 hz rfl (x:=.bool false) rfl ?_);show C' _ _ (field (.ref z) 3 >>=_) _ _ _;refine CV (Q7 hz rfl (x:=.ref TI) rfl ?_);refine CV (α7 lX rfl ?_);show C' _ _ (u4 (.ref z) >>=_) _ _ _;refine CV (zk hz hT fun oR hz₁ DT=>?_);simp only [Vv,if_false];refine CV ?_;show C' _ _ (forIn [Value.ref i1,Value.ref i2].toArray _ _) _ _ _;rw [ah_];simp only [anX,an6];refine CV (CV (Nj ?_));show C' _ _ (uW (.ref i1) >>=_) _ _ _;cases hx:xs[k1]? with
 | none=>
  refine CV (wpAny_nextOf_list_end hh (h1.extBut DT.extBut D.i1z) (IT.extBut DT.extBut D.l1z) hx fun ra e Od he=>?_);exact hE ra e (fun c o c1 c3 _ x=>Od _ _ c3 (DT.extBut _ _ c1 x)) he
 | some x=>
  let hy:ys[k2]?=none:=by rcases K5 with h|h;erw [hx] at h;exact h
  refine CV (wpAny_nextOf_list_item (h1.extBut DT.extBut D.i1z) (IT.extBut DT.extBut D.l1z) hx fun ra h1₂ Od=>DV ?_);refine DV ?_;refine CV (CV (Nj ?_));show C' _ _ (uW (.ref i2) >>=_) _ _ _;refine CV (wpAny_nextOf_list_end hh ((h2.extBut DT.extBut D.i2z).extBut Od.extBut D.i12.symm) ((B_.extBut DT.extBut D.l2z).extBut Od.extBut D.l2i1) hy fun h₄ e XY he=>?_);exact hE h₄ e (fun c o c1 c3 c4 x=>XY _ _ c4 (Od.extBut _ _ c3 (DT.extBut _ _ c1 x))) he
def aa0 {z TI TO T i1 i2 l1 l2:AG}{xs ys:Ρ}{Q:Ω}(D:ZipApart z TI TO i1 i2 l1 l2)
  (hz:hG s.heap z TI TO (Nr T) fb) (hT:s.heap.get? T=some o) (lX:IsPair s.heap TI (.ref i1) (.ref i2))
  (h1:s.heap.IsListIter i1 l1 k1) (h2:s.heap.IsListIter i2 l2 k2) (IT:s.heap.IsList l1 xs) (B_:s.heap.IsList l2 ys) (hx:xs[k1]?=some x) (hy:ys[k2]?=some y)
  (hQ:∀h',hG h' z TI TO (Nr T) true->h'.IsListIter i1 l1 (k1+1)->h'.IsListIter i2 l2 (k2+1)->IsPair h' s.heap.objs.size x y->h'.objs.size=s.heap.objs.size+1->
   (∀c o,c≠z->c≠i1->c≠i2->s.heap.get? c=some o->h'.get? c=some o)->Q (some (.ref s.heap.objs.size)) {s with heap:=h'}):
  C' (CY prog w) A (pyNext (.ref z)) Q E s:=by
 have Zs :s.TypeIs (.ref z) "zip":=⟨_,hz,rfl⟩;unfold pyNext
 exact CV (wpAny_attempt (wpAny_callSpecial?_slot (name:=Na "__next__") Zs ZC
  (σ2 ZC Zs F.entry_zip_next
   (abO D hz hT lX h1 h2 IT B_ hx hy fun h' a1 a3 a4 a5 a6 a7=>DV (hQ h' a1 a3 a4 a5 a6 a7)) (F.args_zip_next_1 _))))
def ab3 {z TI TO T i1 i2 l1 l2:AG}{xs ys:Ρ}{Q:Ω}(hh:A.handled=none)(D:ZipApart z TI TO i1 i2 l1 l2)
  (hz:hG s.heap z TI TO (Nr T) fb) (hT:s.heap.get? T=some o) (lX:IsPair s.heap TI (.ref i1) (.ref i2))
  (h1:s.heap.IsListIter i1 l1 k1) (h2:s.heap.IsListIter i2 l2 k2) (IT:s.heap.IsList l1 xs) (B_:s.heap.IsList l2 ys) (K5:xs[k1]?=none\/ys[k2]?=none)
  (hQ:∀h',(∀c o,c≠z->c≠i1->c≠i2->s.heap.get? c=some o->h'.get? c=some o)->Q none {s with heap:=h'}):C' (CY prog w) A (pyNext (.ref z)) Q E s:=by
 have Zs :s.TypeIs (.ref z) "zip":=⟨_,hz,rfl⟩;unfold pyNext
 refine CV (wpAny_attempt (wpAny_callSpecial?_slot (name:=Na "__next__") Zs ZC
  (σ2 ZC Zs F.entry_zip_next (afp hh D hz hT lX h1 h2 IT B_ K5 fun h' e hk he=>?_) (F.args_zip_next_1 _))))
 obtain ⟨o,ho,hc⟩:=he;refine CV (wpAny_isInstance (T:="StopIteration") (b:=true) ⟨o,ho,hc⟩ isSubtype_stop ?_);exact DV (hQ _ hk)
end
def P6 (h:Heap)(z TI TO i1 i2 a b S:AG)(i:Nat):Prop:=(hG h z TI TO .none false\/∃(T:AG)(o:Obj)(fb:Bool),hG h z TI TO (Nr T) fb/\h.get? T=some o/\T≠z/\T≠TO/\T≠i1/\T≠i2/\T≠S)/\IsPair h TI (.ref i1) (.ref i2)/\(∃x y,IsPair h TO x y)/\h.IsListIter i1 a i/\h.IsListIter i2 b i
section
variable {prog:FQ}{w:World}{A:KH}{E:ε}{s:D'}{z TI TO i1 i2 a b S:AG}{i:Nat}
def P6.frame (st:P6 h z TI TO i1 i2 a b S i)(k:∀c o,c≠S->h.get? c=some o->h'.get? c=some o)(nz:z≠S)(n1:TI≠S)(n2:TO≠S)(n3:i1≠S)(n4:i2≠S):P6 h' z TI TO i1 i2 a b S i:=by
 obtain ⟨hz,lX,⟨x,y,vt⟩,h1,h2⟩:=st;show ⟨?_,k _ _ n1 lX,⟨x,y,k _ _ n2 vt⟩,h1.at fun o e=>k _ o n3 e,h2.at fun o e=>k _ o n4 e⟩
 rcases hz with hz|⟨T,o,fb,hz,hT,t1,t2,t3,t4,t5⟩
 ·exact .inl (k _ _ nz hz)
 ·exact .inr ⟨T,o,fb,k _ _ nz hz,k _ _ t5 hT,t1,t2,t3,t4,t5⟩
def P6.item {xs ys:Ρ}{Q:Ω}(D:ZipApart z TI TO i1 i2 a b)(st:P6 s.heap z TI TO i1 i2 a b S i)(hS:s.heap.get? S=some oS)
  (IT:s.heap.IsList a xs) (B_:s.heap.IsList b ys) (hx:xs[i]?=some x) (hy:ys[i]?=some y)
  (hQ:∀h',P6 h' z TI TO i1 i2 a b S (i+1)->IsPair h' s.heap.objs.size x y->(∀c o,c∉[z,TI,TO,i1,i2]->s.heap.get? c=some o->h'.get? c=some o)->Q (some (.ref s.heap.objs.size)) {s with heap:=h'}):
  C' (CY prog w) A (pyNext (.ref z)) Q E s:=by
 obtain ⟨hz,lX,⟨x0,y0,vt⟩,h1,h2⟩:=st;let lt:∀{c o},s.heap.get? c=some o->s.heap.objs.size≠c:=fun e=>WW (FI e);let e1:∃o,s.heap.get? i1=some o:=by obtain ⟨o,e,_⟩:=h1;show ⟨o,e⟩
 let e2:∃o,s.heap.get? i2=some o:=by obtain ⟨o,e,_⟩:=h2;show ⟨o,e⟩
 obtain ⟨o1,e1⟩:=e1;obtain ⟨o2,e2⟩:=e2;let Zt:∀{c:AG},c∉[z,TI,TO,i1,i2]->c≠z/\c≠TI/\c≠TO/\c≠i1/\c≠i2:=fun h=>by simpa using h
 rcases hz with hz|⟨T,o,fb,hz,hT,t1,t2,t3,t4,t5⟩
 ·refine wpAny_pyNext_zip_item D hz lX vt h1 h2 IT B_ hx hy fun h' a1 a2 a3 a4 a5 a6 a7=>?_
  refine hQ h' ⟨.inr ⟨_,_,false,a1,a5,lt hz,lt vt,lt e1,lt e2,lt hS⟩,a7 _ _ D.TIz D.TITO D.TIi1 D.TIi2 lX,⟨_,_,a2⟩,a3,a4⟩ a5 fun c o hc e=>?_;obtain ⟨c1,c2,c3,c4,c5⟩:=Zt hc;exact a7 c o c1 c3 c4 c5 e
 ·refine aa0 D hz hT lX h1 h2 IT B_ hx hy fun h' a1 a3 a4 a5 a6 a7=>?_
  refine hQ h' ⟨.inr ⟨T,o,true,a1,a7 _ _ t1 t3 t4 hT,t1,t2,t3,t4,t5⟩,a7 _ _ D.TIz D.TIi1 D.TIi2 lX,⟨_,_,a7 _ _ D.TOz D.TOi1 D.TOi2 vt⟩,a3,a4⟩ a5 fun c o hc e=>?_;obtain ⟨c1,c2,c3,c4,c5⟩:=Zt hc;exact a7 c o c1 c4 c5 e
def P6.fin {xs ys:Ρ}{Q:Ω}(hh:A.handled=none)(D:ZipApart z TI TO i1 i2 a b)(st:P6 s.heap z TI TO i1 i2 a b S i)
  (IT:s.heap.IsList a xs) (B_:s.heap.IsList b ys) (K5:xs[i]?=none\/ys[i]?=none)
  (hQ:∀h',(∀c o,c∉[z,TI,TO,i1,i2]->s.heap.get? c=some o->h'.get? c=some o)->Q none {s with heap:=h'}):C' (CY prog w) A (pyNext (.ref z)) Q E s:=by
 obtain ⟨hz,lX,⟨x0,y0,vt⟩,h1,h2⟩:=st;let Zt:∀{c:AG},c∉[z,TI,TO,i1,i2]->c≠z/\c≠TI/\c≠TO/\c≠i1/\c≠i2:=fun h=>by simpa using h
 rcases hz with hz|⟨T,o,fb,hz,hT,t1,t2,t3,t4,t5⟩
 ·refine wpAny_pyNext_zip_end hh D hz lX vt h1 h2 IT B_ K5 fun h' kk=>hQ h' fun c o hc e=>?_
  obtain ⟨c1,c2,c3,c4,c5⟩:=Zt hc;exact kk c o c1 c3 c4 c5 e
 ·refine ab3 hh D hz hT lX h1 h2 IT B_ K5 fun h' kk=>hQ h' fun c o hc e=>?_
  obtain ⟨c1,c2,c3,c4,c5⟩:=Zt hc;exact kk c o c1 c4 c5 e
end
section
variable {X:Cx}{pX:η}{Y:L2.St}
def abw (h:H p=none)(o:HO):aq H (upd H p o):=fun b u q=>by rwa [ao (ak q h)]
end
section
variable {X:Cx}
def afa {ws:ψ}{AI:τ}(r:Vals (ws.map V.str) AI){i:Nat}(e:AI[i]?=some u):∃w t,ws[i]?=some w/\u=Value.str w t:=by
 obtain ⟨v,ev,rv⟩:=aI (dD r) e;rw [Wp] at ev;obtain ⟨w,ew,rfl⟩:=K9.mp ev;obtain ⟨t,rfl⟩:=rv;show ⟨w,t,ew,rfl⟩
end
def acW (l:AG)(AI:Ρ)(n:Nat)(b:AG)(eV:Ρ)(n2:Nat)(d:Ι)(sl:Ο)(hs0:¬(!AI.isEmpty && V9 (AI.size+eV.size))=true)(hs1:AI.size<=C_)(P4:AI.size+eV.size<=C_+1):
  Meets (Builtin.«list.extend» ⟨[.ref l,.ref b],[]⟩) (fun _ R s=>s.heap.get? l=some {cls:=.type "list",dict:=none,data:=.seq AI n,slots:= #[]}/\s.heap.get? b=some {cls:=.type "tuple",dict:=d,data:=.seq eV n2,slots:=sl}/\
   R (.ok (.ret Value.none)) {s with heap:=s.heap.update l (PD fun x=>x++eV),toks:=s.toks}):=
 .of_wp fun prog w A R s h=>by
  obtain ⟨hp,g,dd,tk,os⟩:=s;obtain ⟨hl,hb,h⟩:=h;let f1:=AutoSeq1.idx_int;let f2:=AutoSeq1.sub_tuple_tuple;let f3:=AutoSeq1.sub_list_list;let f4:=AutoSeq1.sub_tuple_list;let f5:=AutoSeq1.sub_list_tuple;let hz':(AI++eV).size<=C_+1:=by rwa [Array.size_append]
  wp_walk using (ZD hl rfl (hz:=hs1) (_hz':=hz')),wpAny_loadPart' hl,wpAny_loadPart' hb
  show ⟨_,rfl,h⟩
section
variable {X:Cx}
def agS (K:Frag):V->List V->Hp->VK->Prop:=fun x vs H Q=>∃l b xs zs,x=.ref l/\vs=[.ref b]/\H l=some (.lst xs)/\bK K H b zs/\xs.length+zs.length<=1000/\Q .dw (upd H l (.lst (xs++zs)))
def acR:MtR X "list.extend" (agS X.K):=by
 intro pX s Y H x vs v us Q I rx rv h;obtain ⟨l,b,xs,zs,rfl,rfl,hH,hB,hz,q⟩:=h;cases rx;obtain ⟨u,rfl,ru⟩:=rv.one;cases ru;obtain ⟨z,AI,n,r,hl,e⟩:=I.m4 hH;obtain ⟨eV,r2,tp,z2⟩:=I.tuple hB;let B_:=r2.length;let big:(1000:Nat)<=C_:=gt
 let hsz:AI.toArray.size+eV.toArray.size<=C_:=by rw [KW,KW];omega
 let yK:¬ (!AI.toArray.isEmpty && V9 (AI.toArray.size+eV.toArray.size))=true:=by
  rw [sS hsz,WH];exact KQ
 obtain ⟨⟨c,d,dt,sl⟩,e2,hc,n2,hd⟩:=tp;obtain rfl:c=Value.type "tuple":=hc;obtain rfl:dt=_:=hd
 refine Rf F.slot_list_extend ⟨_,e,rfl⟩ F.entry_list_extend (F.args_list_extend_2 _ _)
  (acW l AI.toArray n b eV.toArray n2 d sl yK (by rw [KW];omega) ga) ⟨e,e2,?_⟩
 show ⟨.dw,_,I.Vz (oU:=AI++eV) hH e gV (r.append r2) ?_,rfl,q⟩;rw [ER];omega
end
def zaL:typeLookup (.type "zip") "__getattr__"=pure none:=by rw [typeLookup_type,builtinLookup_eq_fast];kernel_rfl
def zae:typeLookup (.type "zip") "keys"=pure none:=by rw [typeLookup_type,builtinLookup_eq_fast];kernel_rfl
def ab0:entryFor table "zip.__getattribute__"=some Builtin.«object.__getattribute__»:=
 entryFor_alias (id':="object.__getattribute__") (by kernel_rfl) (by decide+kernel) (by decide+kernel) (by kernel_rfl)
def qO:entryFor table "dict.update.loop"=some Builtin.«dict.update.loop»:=entryFor_of_tree (by kernel_rfl)
def iH:plainId "dict.update.loop"=true:=by decide+kernel
def afT (a:AG)(vs:Ρ)(u:Tok):
  Meets (Builtin.«object.__getattribute__» ⟨[.ref a,.str "keys" u],[]⟩) (fun A R s=>s.heap.get? a=some {cls:=.type "zip",dict:=none,data:=.fields vs,slots:= #[]}/\raisesAttr (.ref a) "keys" A R s):=
 Meets.of_wp fun prog w A R s hs=>by
  obtain ⟨hp,g,d,tk,os⟩:=s;obtain ⟨hx,hs⟩:=hs;let hT:(⟨hp,g,d,tk,os⟩:D').TypeIs (.ref a) "zip":=⟨_,hx,rfl⟩;let hm:=zae;unfold Builtin.«object.__getattribute__»
  repeat (any_goals (first|(assumption)|wp_step))
  exact wpAny_raiseAttrError hs.1 hs.2 (attrMsg_fits (by decide+kernel) (by decide+kernel))
section
variable {prog:FQ}{w:World}{A:KH}{E:ε}{s:D'}
def ahR {vs:Ρ}{Q:Ω}(hx:s.heap.get? z=some {cls:=.type "zip",dict:=none,data:=.fields vs,slots:= #[]})(hA:A.handled=none)
  (h:∀h' tk,(∀b o,s.heap.get? b=some o->h'.get? b=some o)->Q none {s with heap:=h',toks:=tk}):C' (CY prog w) A (getAttr? (.ref z) "keys") Q E s:=by
 obtain ⟨hp,g,d,tk,os⟩:=s;let hT:∀tk',(⟨hp,g,d,tk',os⟩:D').TypeIs (.ref z) "zip":=fun _=>⟨_,hx,rfl⟩;let f1:=sub_AttributeError;let f3:=F.slot_zip_getattribute.lookup;let f4:=F.slot_zip_getattribute.bind (.ref z);let f5:=zaL;unfold getAttr? getAttrBy? getAttrBy
 repeat (any_goals (first|(assumption)|exact hT _|((with_reducible show C' _ _ (call (Value.builtin "zip.__getattribute__") _ _) _ _ _);refine Rf F.slot_zip_getattribute (hT _) ab0 (F.args_zip_getattribute_2 _ _) (afT z vs _) ⟨hx,hA,fun h' tk' e BZ =>?_⟩)|wp_step))
 obtain ⟨t',u',he⟩:=BZ.there;show C' _ _ (getattributeRaised _ _ _ _ _ _ _) _ _ _;unfold getattributeRaised
 repeat (any_goals (first|(assumption)|wp_step))
 exact h _ _ BZ.keeps
def acJ {z TI TO:AG}{Q:ε}(hA:A.in1.in1.handled=none)(hz:IsZip s.heap z TI TO f0)
  (hL:∀(h':Heap)(tk:Nat)(R:Φ),(∀b o,s.heap.get? b=some o->h'.get? b=some o)->h'.get? s.heap.objs.size=some {cls:=.type "dict",data:=.dict #[]}->
   (∀s',Q (.ref s.heap.objs.size) s' ->R (.ok (.ret .none)) s')->NF (CY prog w) A.in1 (.builtin "dict.update.loop" ⟨[.ref s.heap.objs.size,.ref z,Nr 0,.none],[]⟩) R {s with heap:=h',toks:=tk}):
  C' (CY prog w) A (call (.type "dict") [.ref z]) Q E s:=by
 refine callType_codes (Q₁:=fun obj mM=>obj=.ref s.heap.objs.size/\mM={s with heap:=s.heap.push {cls:=.type "dict",data:=.dict #[]}}) F.kt_called_dict (F.kt_typeCall_dict_1 _) F.entry_dict_init (kt_code_dict_new _ ⟨rfl,rfl⟩) ?_;rintro obj mM ⟨rfl,rfl⟩;let hS:(s.heap.push {cls:=.type "dict",data:=.dict #[]}).get? s.heap.objs.size=some {cls:=.type "dict",data:=.dict #[]}:=L6 _ rfl;let k0:∀b o,s.heap.get? b=some o->(s.heap.push {cls:=.type "dict",data:=.dict #[]}).get? b=some o:=fun b o e=>K1 _ e;generalize hN:s.heap.objs.size=S at hS hL ⊢;generalize s.heap.push {cls:=.type "dict",data:=.dict #[]}=hp at hS k0 ⊢;let Zv:hp.get? z=_:=k0 _ _ hz;let hTS:Shared.TypeIs {s with heap:=hp} (.ref S) "dict":=⟨_,hS,rfl⟩;let hT:Shared.TypeIs {s with heap:=hp} (.ref z) "zip":=⟨_,Zv,rfl⟩;show ⟨hTS,F.args_dict_init_2 _ _,?_⟩;unfold Builtin.«dict.__init__»;refine CV ?_;unfold Builtin.Dict.selfAndRest;refine CV (wpAny_notOrdered_dict hTS ?_);refine DV ?_;show C' _ _ (Builtin.Dict.updateFrom "dict.__init__" S (.ref z) [] .none) _ _ _;unfold Builtin.Dict.updateFrom;refine CV (Ve hT ?_);rw [mK gt];refine CV (ahR (s:={s with heap:=hp}) Zv hA fun h' tk k1=>?_);rw [mK (by rfl)];refine CV (wpAny_rule ?_);let hz3:IsZip h' z TI TO f0:=k1 _ _ Zv;refine CV (wpAny_pyIter_zip (s:={s with heap:=h',toks:=tk}) hz3 ?_);exact DV ⟨plainId_quiet iH _,hL _ _ _ (fun b o e=>k1 _ _ (k0 _ _ e)) (k1 _ _ hS) fun s' hq=>⟨rfl,hq⟩⟩
end
section
variable {X:Cx}{pX:η}{Y:L2.St}
def ahQ (AD more:δ)(kv:Key×V):cX AD (more++[kv])=putK (cX AD more) kv.1 kv.2:=by
 unfold cX;rw [List.foldl_append];rfl
def adw {z TI TO i1 i2 a b S:AG}{R:Φ}{ks:List Key}(hh:A'.in1.handled=none)(D:ZipApart z TI TO i1 i2 a b)(na:a≠S)(nb:b≠S)(hk1:ks.length<=1000):
  ∀(k i:Nat)(s:D')(H:Hp),min ks.length ys.length-i=k->i<=min ks.length ys.length->Inv X pX Y H s->(∀c∈[z,TI,TO,i1,i2],o_ X pX H c)->P6 s.heap z TI TO i1 i2 a b S i->
  H a=some (.lst (ks.map kV))->H b=some (.lst ys)->H S=some (.dK (cX [] ((ks.zip ys).take i)))->bh S H0 H->
  (∀s' H',Inv X pX Y H' s' ->bh S H0 H' ->H' S=some (.dK (cX [] (ks.zip ys)))->R (.ok (.ret .none)) s')->
  NF (CY X.prog X.w) A' (.builtin "dict.update.loop" ⟨[.ref S,.ref z,Nr (i:Int),.none],[]⟩) R s:=by
 let ayo:(ks.zip ys).length=min ks.length ys.length:=List.length_zip;intro k
 induction k with
 | zero=>
  intro i s H hk hi I hf st ha hb hS DW hR;refine codeAny_builtin qO ?_;rw [Around.under_plainId iH _];show C' _ A'.in1 (pyNext (.ref z) >>=_) _ _ s;obtain ⟨z1,AI,n1,r1,l1,e1⟩:=I.m4 ha;obtain ⟨z2,σ3,n2,r2,l2,e2⟩:=I.m4 hb;rw [ir] at l1;refine CV (st.fin hh D ⟨_,e1,rfl,_,rfl⟩ ⟨_,e2,rfl,_,rfl⟩ ?_ fun h' kk=>?_)
  ·by_cases c:ks.length<=i
   ·exact .inl (by simp;omega)
   ·exact .inr (by simp;omega)
  ·rw [Si ga] at hS
   exact CV (DV (DV (hR _ H (Inv.rR (t':=s.toks) I kk hf) DW hS)))
 | succ k ih=>
  intro i s H hk hi I hf st ha hb hS DW hR;refine codeAny_builtin qO ?_;rw [Around.under_plainId iH _];show C' _ A'.in1 (pyNext (.ref z) >>=_) _ _ s;obtain ⟨z1,AI,n1,r1,l1,e1⟩:=I.m4 ha;obtain ⟨z2,σ3,n2,r2,l2,e2⟩:=I.m4 hb;let lx:i<ks.length:=ga
  let ly:i<ys.length:=ga
  obtain ⟨u,hu,ru⟩:=r1.get (i:=i) (x:=kV ks[i]) (by rw [Wp,gE lx];rfl);obtain ⟨v,hv,rv⟩:=r2.get (i:=i) (x:=ys[i]) (gE ly);obtain ⟨zS0,ayp,vs0,ayq,dd0⟩:=vx I.bZ hS;obtain ⟨oS,_,_,eS,_⟩:=id dd0;refine CV (st.item D eS ⟨_,e1,rfl,_,rfl⟩ ⟨_,e2,rfl,_,rfl⟩ (x:=u) (y:=v) (by simpa using hu) (by simpa using hv) fun h' M9 ht kk=>?_)
  let XZ:∀c∈[z,TI,TO,i1,i2],c≠S:=fun c hc e=>by
   have:=(hf c hc).1;erw [e,hS] at this
  let I2:Inv X pX Y H {s with heap:=h',toks:=s.toks}:=Inv.rR (t':=s.toks) I kk hf;obtain ⟨zS,hdS,vs,rel,dd⟩:=vx I2.bZ hS;let hT:Shared.TypeIs {s with heap:=h',toks:=s.toks} (.ref s.heap.objs.size) "tuple":=⟨_,ht,rfl⟩;refine CV (Nj ?_);refine CV (wpAny_tryCatch ?_);unfold Builtin.Dict.pairItems;refine CV (Ve hT ?_);rw [mK gt];refine CV (α7 ht rfl (DV ?_));show C' _ A'.in1 (Py [u,v] (dictSet S u v)) _ _ _;refine Nj ?_;let hlen:vs.length<=C_:=by rwa [<-rel.length]
  refine wpAny_dictSet_pairs (hsz:=hlen) (qJ ru) dd fun h2 dd2 sb=>?_;let he:∃q,h2.get? S=some q:=let ⟨q,_,_,hq,_⟩:=dd2;⟨q,hq⟩
  let etk:(ks.zip ys).take (i+1)=(ks.zip ys).take i++[(ks[i],ys[i])]:=by
   rw [yw];have:(ks.zip ys)[i]?=some (ks[i],ys[i]):=by rw [List.getElem?_zip_eq_some];show ⟨gE lx,gE ly⟩
   rw [this];rfl
  let Zw:cX [] ((ks.zip ys).take (i+1))=putK (cX [] ((ks.zip ys).take i)) ks[i] ys[i]:=by rw [etk,ahQ]
  let hl:(putK (cX [] ((ks.zip ys).take i)) ks[i] ys[i]).length<=C_:=by
   rw [<-Zw];let h1:=iV ((ks.zip ys).take (i+1)) [];rw [KI,zp] at h1;exact DC (show (cX [] ((ks.zip ys).take (i+1))).length<=1000 by omega) gt
  let I3:Inv X pX Y (upd H S (.dK (putK (cX [] ((ks.zip ys).take i)) ks[i] ys[i]))) {s with heap:=h2,toks:=s.toks+1}:=rV (s:={s with heap:=h',toks:=s.toks}) (t':=s.toks+1) I2 (by rw [hS];exact True.intro) sb he (DJ hl hdS (rel.put ks[i] rv) dd2);let kS:∀c o,c≠S->h'.get? c=some o->h2.get? c=some o:=fun c o n e=>(sb.2 c n).trans e;refine DV ⟨plainId_quiet iH _,?_⟩;let nn:∀{c:AG} {o:HO},H c=some o->c≠S->(upd H S (.dK (putK (cX [] ((ks.zip ys).take i)) ks[i] ys[i]))) c=some o:=fun {c o} e n=>by rwa [ao n]
  refine ih (i+1) _ _ ga ga I3 (fun c hc=>?_) (M9.frame kS (XZ z gV) (XZ TI gV) (XZ TO gV) (XZ i1 gV) (XZ i2 gV)) (nn ha na) (nn hb nb) (by rw [Zw,aj]) (fun c o n e=>nn (DW c o n e) n) hR;obtain ⟨f0,f1,f2,f3,f4,f5⟩:=hf c hc;show ⟨by rwa [ao (XZ c hc)],f1,f2,f3,f4,f5⟩
def adO (ta:TA):TE:=fun Y H Q=>ta Y H fun vs H1=>∃(a b:AG)(ks:List Key)(ys:θ),vs=[.ref a,.ref b]/\H1 a=some (.lst (ks.map kV))/\H1 b=some (.lst ys)/\ks.length<=1000/\
 ∀(l:AG)(H':Hp),aq H1 H' ->H1 l=none->H' l=some (.dK (cX [] (ks.zip ys)))->Q (.ref l) H'
def boot_dict:Kv "dict"=some (.type "dict"):=by decide+kernel
def aeZ {p pos p' pos':Pos}(hc:X.calm=true)(hgl:Gl X "dict")(hml:X.mg "dict"=none)(hg:Gl X "zip")(hm:X.mg "zip"=none)(ha:PA X [e1,e2] ta)(hs:EX [e1,e2] X.env=[(false,DX e1 X.env),(false,DX e2 X.env)]:=by rfl)(P4:EX [e2] X.env=[(false,DX e2 X.env)]:=by rfl)
  (hs3:EX [(.Call (.Name "zip" p) [e1,e2] [] pos:Expr)] X.env=[(false,DX (.Call (.Name "zip" p) [e1,e2] [] pos) X.env)]:=by rfl):
  PE X (.Call (.Name "dict" p') [.Call (.Name "zip" p) [e1,e2] [] pos] [] pos') (adO ta):=by
 intro pX s Y H Q I h;refine Call_ (jR I hgl hml boot_dict (VB ?_ hs3 rfl));rw [hs3];show C' _ _ (spliced ((false,DX (.Call (.Name "zip" p) [e1,e2] [] pos) X.env)::[])) _ _ s;refine tE ?_;refine Call_ (jR I hg hm boot_zip (VB (cY (ha pos pX s Y H _ I h) fun us s1 ⟨vs,H1,I1,r1,q1⟩=>?_) (by rw [hs,P4]) (by rw [P4];rfl)));obtain ⟨a,b,ks,ys,e,hx,hy,hkl,q⟩:=q1;subst e;cases r1 with
 | cons r rr=>
  cases rr with
  | cons r' rr=>
   cases rr;cases r;cases r';obtain ⟨z1,AI,n1,r1,l1,e1⟩:=I1.m4 hx;obtain ⟨z2,σ3,n2,r2,l2,e2⟩:=I1.m4 hy;let lt1:a<s1.heap.objs.size:=FI e1;let lt2:b<s1.heap.objs.size:=FI e2;refine call_zip_2 ⟨_,e1,rfl,_,rfl⟩ ⟨_,e2,rfl,_,rfl⟩ fun h' hz lX vt NP σ4 hsz hk=>Calls.spliced_nil ?_;let I2:Inv X pX Y H1 {s1 with heap:=h',toks:=s1.toks}:=I1.kept (t':=s1.toks) hk;let hS:=I2.bZ.fresh (DU h'.objs.size);refine acJ (s:={s1 with heap:=h'}) (I1.ok.hd hc) hz fun h2 tk R k2 Ud hR=>?_;let lt':K0<h'.objs.size:=(I2.mod.glob.keeps I2.bk).lt;let ns:(h'.objs.size==Ks)=false:=beq_eq_false_iff_ne.mpr (FG (KJ (ZP gt lt')));let I3:Inv X pX Y (upd H1 h'.objs.size (.dK [])) {s1 with heap:=h2,toks:=tk}:=I2.laid (t':=tk) k2 (DU _) ⟨KZ _,ns,[],.nil,_,_,_,Ud,⟨rfl,rfl,rfl⟩,rfl,fun _ he=>by simp at he,Pairs.nil,ZF⟩
   let st:P6 h2 (s1.heap.objs.size+4) (s1.heap.objs.size+2) (s1.heap.objs.size+3) s1.heap.objs.size (s1.heap.objs.size+1) a b h'.objs.size 0:=
    ⟨.inl (k2 _ _ hz),k2 _ _ lX,⟨_,_,k2 _ _ vt⟩,NP.at fun o e=>k2 _ o e,σ4.at fun o e=>k2 _ o e⟩
   let na:a≠h'.objs.size:=ak hx hS;let nb:b≠h'.objs.size:=ak hy hS;let IU:=abw hS (.dK []);refine adw (A':=X.A.in1) (H0:=H1) (ks:=ks) (ys:=ys) (I1.ok.hd hc) ?_ na nb hkl (min ks.length ys.length) 0 _ _ ga (KZ _) I3 (fun c' v9 =>?_) st (IU _ _ hx) (IU _ _ hy) aj (fun b' o n e=>IU _ _ e) fun s' H' I' ks' VW =>hR s' ⟨.ref h'.objs.size,H',I',rfl,q _ H' (fun b' o e=>ks' b' o (ak e hS) e) hS VW⟩
   ·constructor<;>(intro z;simp only [AG] at*;omega)
   ·let hc2:c'=s1.heap.objs.size+4\/c'=s1.heap.objs.size+2\/c'=s1.heap.objs.size+3\/c'=s1.heap.objs.size\/c'=s1.heap.objs.size+1:=by simpa using v9
    let hb:s1.heap.objs.size<=c':=by
     simp only [AG] at*;omega
    let hb2:c'≠h'.objs.size:=by
     rw [hsz];simp only [AG] at*;omega
    refine I1.uT hb ?_;rw [ao hb2];exact I1.bZ.fresh hb
end
def c6.snoc {K:Frag}(h:c6 K H us qs)(n:oY K H v q):c6 K H (us++[v]) (qs++[q]):=by
 show ⟨by simp [h.1],fun i u q' e1 e2=>?_⟩;let l:=h.1;by_cases c:i<us.length
 ·rw [K_ c] at e1
  rw [K_ ga] at e2;exact h.2 i u q' e1 e2
 ·rw [Kx ga] at e1 e2
  by_cases z:i-us.length=0
  ·rw [z] at e1
   rw [show i-qs.length=0 by omega] at e2;cases e1;cases e2;exact n
  ·rw [EZ (by simp;omega)] at e1
   cases e1
theorem c6.bq {K:Frag}(h:c6 K H us qs)(s:bF H H'):c6 K H' us qs:=⟨h.1,fun i u q e1 e2=>(h.2 i u q e1 e2).bq s⟩
variable {X:Cx}
section
variable {X:Cx}
def adM:V->List V->Hp->VK->Prop:=fun x vs H Q=>∃(l:AG)(ws:ψ)(y:Str)(j:Nat),x=.ref l/\vs=[.str y]/\H l=some (.lst (ws.map V.str))/\ws.length<1000/\ws[j]?=some y/\(∀i,i<j->ws[i]? ≠some y)/\Q (.int (j:Int)) H
def ae':MtR X "list.index" adM:=by
 intro pX s Y H x vs v us Q I rx rv h;obtain ⟨l,ws,y,j,rfl,rfl,hH,lQ,hj,hn,q⟩:=h;cases rx;obtain ⟨u,rfl,ru⟩:=rv.one;obtain ⟨t,rfl⟩:=ru;obtain ⟨z,AI,n,r,hl,e⟩:=I.m4 hH;let hj0:=(be.mp hj).1
 let hlj:j<AI.length:=by
  rwa [<-hl,ir]
 refine let eB:Value->Bool:=fun u=>match u with | .str w _=>w.cps.toList==y.cps.toList|_=>false;?_
 let key:∀(i:Nat)(hi:i<AI.length),∃w t',ws[i]?=some w/\AI[i]=Value.str w t':=fun i hi=>afa r (gE hi)
 refine Rf F.slot_list_index ⟨_,e,rfl⟩ F.entry_list_index (F.args_list_index_2 _ _)
  (MeetsSeq.list_index l AI.toArray n (Value.str y t) eB (fun u hu=>?_) j (by simpa using hlj) (by show (j:Int)<9223372036854775807;omega) ?_ (fun m hm lt=>?_)) ⟨e,?_⟩
 ·obtain ⟨i,hi,ei⟩:=Xn.mp (by simpa using hu:u∈AI)
  obtain ⟨w,t',_,e2⟩:=key i hi;rw [<-ei,e2];exact SeqRoads2.EqGives.str w y t' t
 ·obtain ⟨w,t',e1,e2⟩:=key j hlj
  erw [hj] at e1;show eB (AI.toArray[j]'_)=true;rw [ahY,e2];show (y.cps.toList==y.cps.toList)=true;exact beq_self_eq_true _
 ·let hm':m<AI.length:=by simpa using hm
  obtain ⟨w,t',e1,e2⟩:=key m hm';show eB (AI.toArray[m]'_)=false;rw [ahY,e2];show (w.cps.toList==y.cps.toList)=false;refine beq_eq_false_iff_ne.mpr fun z=>hn m lt ?_;rw [e1];congr 1;obtain ⟨⟨wc⟩⟩:=w;obtain ⟨⟨yc⟩⟩:=y;simp only at z;rw [z]
 ·show ⟨.int (j:Int),H,I.tok (s.toks+1),⟨_,rfl⟩,q⟩
end
theorem bF.ks (h0:H D=some (.lst ys))(ks:bh D H H'):bF H H':=fun b xs r=>by
 rcases r with r|⟨o',r⟩
 ·exact .inl (ks _ _ (fun e=>by erw [e,h0] at r) r)
 ·exact .inr ⟨o',ks _ _ (fun e=>by erw [e,h0] at r) r⟩
section
variable {D:AG}{te:TE}{oe:L2.St}{H1:Hp}{Q:VK}
def acf {K:Frag}(J:List V->Hp->Prop)(nD:H1 D=none)(hn:xs.length<C_)(hS:∀H,aq H1 H->aU K H a xs)(h0:J [] (upd H1 D (.lst [])))
  (he:∀(i:Nat) x ys H (R:VK),xs[i]?=some x->ys.length=i->J ys H->aq H1 H->H D=some (.lst ys)->(∀v H6,aq H H6->J (ys++[v]) (upd H6 D (.lst (ys++[v])))->R v H6)->te (some x::oe) H R)
  (hd:∀ys H,ys.length=xs.length->J ys H->aq H1 H->H D=some (.lst ys)->Q (.ref D) H):
  lW D (b_ 0) jn te (M8 K a) (none::oe) H1 Q:=by
 refine wJ xs.length (fun i=>(xs[i]?).getD .dw) (fun i ys H=>ys.length=i/\J ys H/\aq H1 H) ⟨rfl,h0,fun b o e=>by rwa [ao (ak e nD)]⟩ ?_ ?_ ?_ ?_
 ·rintro i ys H hi ⟨_,_,s⟩
  show ⟨⟨xs,xs[i],hS H s,gE hi⟩,fun x H' y=>⟨y.1,by rw [y.2 xs (hS H s)];rfl⟩⟩
 ·rintro ys H ⟨_,_,s⟩
  show ⟨xs,hS H s,DU _⟩
 ·rintro i ys H R hi ⟨l,j,s⟩ hD k
  let e:xs[i]?=some xs[i]:=gE hi;let k':=he i _ ys H R e l j s hD fun v H6 s6 jv=>k v H6 (s6 _ _ hD) ga ⟨by simp [l],jv,fun b o e=>by rw [ao (ak e nD)];exact s6 _ _ (s _ _ e)⟩;rw [<-(show (xs[i]?).getD .dw=xs[i] by rw [e];rfl)] at k';exact k'
 ·rintro ys H ⟨l,j,s⟩ hD
  exact hd ys H l j s hD
end
end Ty
namespace Ty
theorem qa {Z:Type}[DecidableEq Z]:∀{l m:List Z},l.Nodup->(∀x∈l,x∈m)->l.length<=m.length
 | [],_,_,_=>KZ _
 | x::l,m,h,k=>by
  obtain ⟨h1,h2⟩:=Kr.mp h;let hx:=k x EJ;have:=qa (l:=l) (m:=m.erase x) h2 fun y hy=>(List.mem_erase_of_ne (fun z:y=x=>h1 (by rwa [<-z]))).mpr (k y (FF _ hy));rw [List.length_erase_of_mem hx] at this;let p:=ahI hx;show l.length+1<=m.length;omega
def box (B:Nat):Nat->List (List Int)
 | 0=>[[]]
 | n+1=>(box B n).flatMap fun y=>(KC (B+1)).map fun (a:Nat)=>(a:Int)::y
theorem IV {Z:Type}(c:Nat):∀l:List Z,(l.map fun _=>c).sum=l.length*c
 | []=>by simp
 | _::l=>by
  rw [DG,KR,IV c l,Me,O4];omega
theorem wV (B:Nat):∀n,(box B n).length=(B+1)^n
 | 0=>rfl
 | n+1=>by
  let ih:=wV B n;unfold box;rw [List.length_flatMap];have:((box B n).map fun y=>((KC (B+1)).map fun (a:Nat)=>(a:Int)::y).length)=(box B n).map fun _=>B+1:=Ml fun y _=>by rw [ir,Mf]
  rw [this,IV,ih,Se]
theorem vD (B:Nat):∀n,(box B n).Nodup
 | 0=>by simp [box]
 | n+1=>by
  let ih:=vD B n;unfold box;unfold xy at ih ⊢;rw [List.pairwise_flatMap];show ⟨fun y _=>?_,ih.imp fun {y1 y2} ne x hx z hz e=>?_⟩
  ·rw [Vs]
   exact Ry.imp fun {a b} ne e=>ne (by injection e with e _;exact Int.ofNat.inj e)
  ·obtain ⟨a,_,rfl⟩:=CZ.mp hx
   obtain ⟨b,_,rfl⟩:=CZ.mp hz;injection e with _ e
   exact ne e
theorem kH :∀{n:Nat} {y:π},y∈box B n ↔ y.length=n/\∀a∈y,0<=a/\a<=(B:Int)
 | 0,y=>by
  unfold box;rw [K3];constructor
  ·intro e
   rw [e];show ⟨rfl,fun a h=>nomatch h⟩
  ·intro h
   exact R7.mp h.1
 | n+1,y=>by
  unfold box;rw [Pq];constructor
  ·rintro ⟨z,hz,hy⟩
   obtain ⟨a,ha,rfl⟩:=CZ.mp hy;obtain ⟨h1,h2⟩:=(kH (n:=n)).mp hz;have:=Md.mp ha;show ⟨by simp [h1],fun b hb=>?_⟩
   rcases KD.mp hb with e|e
   ·rw [e]
    omega
   ·exact h2 b e
  ·rintro ⟨h1,h2⟩
   match y,h1 with
   | a::z,h1=>
    let ha:=h2 a EJ;show ⟨z,(kH (n:=n)).mpr ⟨by simpa using h1,fun b hb=>h2 b (FF _ hb)⟩,CZ.mpr ⟨a.toNat,Md.mpr (show a.toNat<B+1 by omega),?_⟩⟩;rw [show ((a.toNat:Nat):Int)=a by omega]
def i8:List Int->List Int->Int
 | a::e,b::y=>a*b+i8 e y
 | _,_=>0
theorem zq:∀(e:π) {y z:π},y.length=z.length->i8 e (NZ (fun a b=>a-b) y z)=i8 e y-i8 e z
 | [],y,z,h=>by simp [i8]
 | a::e,[],[],h=>by simp [i8]
 | a::e,b::y,c::z,h=>by
  let ih:=zq e (y:=y) (z:=z) (by simpa using h);rw [ahH];simp only [i8];rw [ih,Int.mul_sub];omega
theorem IW :∀{e y:π},(∀a∈e,a.natAbs<=A)->(∀b∈y,b.natAbs<=B)->(i8 e y).natAbs<=e.length*(A*B)
 | [],y,_,_=>by simp [i8]
 | a::e,[],_,_=>by simp [i8]
 | a::e,b::y,h1,h2=>by
  let ih:=IW (e:=e) (y:=y) (fun x hx=>h1 x (FF _ hx)) fun x hx=>h2 x (FF _ hx);simp only [i8]
  let m:(a*b).natAbs<=A*B:=by
   rw [NL];exact Mc (h1 a EJ) (h2 b EJ)
  let t:=Sk (a*b) (i8 e y);rw [Me,O4,ZH];omega
def Oj {eqs:ζ}(hn:eqs.length<n)(hA:1<=A)(he:∀e∈eqs,e.length=n/\∀a∈e,a.natAbs<=A):∃z:List Int,z.length=n/\(∃a∈z,a≠0)/\(∀a∈z,a.natAbs<=(2*n*A)^eqs.length)/\∀e∈eqs,i8 e z=0:=by
 generalize hC:2*n*A=C;generalize hB:C^eqs.length=B
 let c1:1<=C:=by
  rw [<-hC];exact Mc (show 1<=2*n by omega) hA
 generalize hM:n*(A*B)=M
 let key:¬ ∀y∈box B n,∀z∈box B n,(eqs.map fun e=>i8 e y+(M:Int))=(eqs.map fun e=>i8 e z+(M:Int))->y=z:=by
  intro inj
  let nd:((box B n).map fun y=>eqs.map fun e=>i8 e y+(M:Int)).Nodup:=by
   unfold xy;rw [Vs];refine List.Pairwise.imp_of_mem (fun {y z} hy hz ne e=>ne (inj y hy z hz e)) (vD B n)
  let le:=qa nd (m:=box (2*M) eqs.length) fun x hx=>by
   obtain ⟨y,hy,rfl⟩:=CZ.mp hx;obtain ⟨ly,by'⟩:=kH.mp hy;refine kH.mpr ⟨by simp,fun a ha=>?_⟩;obtain ⟨e,hee,rfl⟩:=CZ.mp ha
   let b1:=IW (A:=A) (B:=B) (he e hee).2 (y:=y) fun b hb=>by
    have:=by' b hb
    omega
   rw [(he e hee).1,hM] at b1;omega
  rw [ir,wV,wV] at le
  let e1:2*M+1<=C*(B+1):=by
   let e3:2*M=C*B:=by rw [<-hM,<-hC,<-Nat.mul_assoc,<-Nat.mul_assoc]
   rw [e3,Nat.mul_add];omega
  let e2:(2*M+1)^eqs.length<=B*(B+1)^eqs.length:=by
   have:=ag2 e1 eqs.length;rwa [Nat.mul_pow,hB] at this
  let e4:(B+1)^(eqs.length+1)<=(B+1)^n:=L8 ga hn
  let e5:B*(B+1)^eqs.length<(B+1)^(eqs.length+1):=by
   rw [Se,W7 ((B+1)^eqs.length)];exact Nat.mul_lt_mul_of_pos_right (NM B) (Nat.pow_pos ga)
  omega
 obtain ⟨y,k1⟩:=ah0.mp key;obtain ⟨hy,k2⟩:=yv.mp k1;obtain ⟨z,k3⟩:=ah0.mp k2;obtain ⟨hz,k4⟩:=yv.mp k3;obtain ⟨ee,ne⟩:=yv.mp k4;obtain ⟨ly,by'⟩:=kH.mp hy;obtain ⟨lz,bz⟩:=kH.mp hz;let hl:y.length=z.length:=ga
 show ⟨NZ (fun a b=>a-b) y z,by rw [List.length_zipWith];omega,?_,?_,fun e hee=>?_⟩
 ·apply O5
  intro h;refine ne (List.ext_getElem hl fun i h1 h2=>?_);let h':∀a∈NZ (fun a b=>a-b) y z,a=0:=fun a ha=>O5 fun q=>h ⟨a,ha,q⟩
  let m:y[i]-z[i]∈NZ (fun a b=>a-b) y z:=by
   refine DE (i:=i) ?_;rw [Wr,gE h1,gE h2]
  have:=h' _ m;omega
 ·intro a ha
  obtain ⟨i,ei⟩:=D_ ha;rw [Wr] at ei
  let hi:i<y.length:=by
   apply O5;intro q;erw [EZ ga] at ei
  rw [gE hi,gE (show i<z.length by omega)] at ei;let ea:y[i]-z[i]=a:=FA ei;let q1:=by' _ (V5 hi)
  let q2:=bz _ (V5 (show i<z.length by omega));omega
 ·rw [zq e hl]
  obtain ⟨i,ei⟩:=D_ hee;let e1:=oP (fun l:List Int=>l[i]?) ee;simp only [Wp,ei,R_,Option.some.injEq] at e1;omega
def col (l:π)(j:Nat):Rat:=((l.getD j 0:Int):Rat)
inductive dE (A:ζ):(Nat->Rat)->Prop
 | zero:dE A (fun _=>0)
 | put {f:Nat->Rat} (c:Rat) {a:π} (h:a∈A) (hf:dE A f):dE A (fun j=>f j+c*col a j)
def dE.congr (h:dE A f)(e:∀j,f j=g j):dE A g:=(funext e:f=g)▸h
def dE.add (hf:dE A f)(hg:dE A g):dE A (fun j=>f j+g j):=by
 induction hg with
 | zero=>exact hf.congr fun j=>by grind
 | put c h _ ih=>exact (dE.put c h ih).congr fun j=>by grind
def dE.mul (k:Rat)(hf:dE A f):dE A (fun j=>k*f j):=by
 induction hf with
 | zero=>exact dE.zero.congr fun j=>by grind
 | put c h _ ih=>exact (dE.put (k*c) h ih).congr fun j=>by grind
def dE.mem (h:a∈A):dE A (col a):=(dE.put 1 h dE.zero).congr fun j=>by grind
def dE.trans (hf:dE A f)(h:∀a∈A,dE B (col a)):dE B f:=by
 induction hf with
 | zero=>exact dE.zero
 | put c ha _ ih=>exact ih.add ((h _ ha).mul c)
def dE.mono (hf:dE A f)(h:∀a∈A,a∈B):dE B f:=hf.trans fun a ha=>dE.mem (h a ha)
def dE.first {l:π}{A:ζ}(hf:dE (l::A) f):∃a:Rat,dE A (fun j=>f j-a*col l j):=by
 induction hf with
 | zero=>show ⟨0,dE.zero.congr fun j=>by grind⟩
 | put c h _ ih=>
  obtain ⟨a,ha⟩:=ih
  rcases KD.mp h with e|e
  ·subst e
   show ⟨a+c,ha.congr fun j=>by grind⟩
  ·show ⟨a,(dE.put c e ha).congr fun j=>by grind⟩
def dE.last (hf:dE (A++[l]) f):∃a:Rat,dE A (fun j=>f j-a*col l j):=dE.first (hf.mono fun a ha=>by
 rcases K2.mp ha with z|z
 ·exact FF _ z
 ·rw [K3.mp z]
  exact EJ)
def dE.van (hf:dE A f)(h:∀a∈A,col a c=0):f c=0:=by
 induction hf with
 | zero=>rfl
 | put k ha _ ih=>
  dsimp only;rw [ih,h _ ha];grind
structure MM (nd:ι):Prop where
 nn:(nd.map (·.1)).Nodup
 here:∀x∈nd,x.2.getD x.1 0≠0
 off:∀x∈nd,∀y∈nd,x.1≠y.1->x.2.getD y.1 0=0
theorem MM.zero:∀{nd:ι} {f:Nat->Rat},MM nd->dE (nd.map (·.2)) f->(∀x∈nd,f x.1=0)->∀j,f j=0
 | [],f,_,hf,_=>fun j=>by
  have:∀{g:Nat->Rat},dE [] g->g j=0:=fun {g} h=>h.van fun a ha=>nomatch ha;exact this hf
 | x::r,f,P,hf,hz=>by
  obtain ⟨a,ha⟩:=dE.first hf;let nn:=Kr.mp P.nn
  let v:f x.1-a*col x.2 x.1=0:=ha.van (c:=x.1) fun b hb=>by
   obtain ⟨y,hy,rfl⟩:=CZ.mp hb;unfold col;rw [P.off y (FF _ hy) x EJ (fun z=>nn.1 (by show x.1∈_;rw [<-z];exact CZ.mpr ⟨y,hy,rfl⟩))];rfl
  rw [hz x EJ] at v;let NR:col x.2 x.1≠0:=cO (P.here x EJ);let a0:a=0:=by grind
  subst a0;let P':MM r:=⟨nn.2,fun y hy=>P.here y (FF _ hy),fun y hy z hz=>P.off y (FF _ hy) z (FF _ hz)⟩;exact MM.zero P' (ha.congr (g:=f) fun j=>by grind) fun y hy=>hz y (FF _ hy)
def MM.one (P:MM nd)(hf:dE (nd.map (·.2)) f){x:Ψ}(hx:x∈nd)(hz:∀y∈nd,y.1≠x.1->f y.1=0):∃a:Rat,∀j,f j=a*col x.2 j:=by
 let NR:col x.2 x.1≠0:=cO (P.here x hx);show ⟨f x.1 / col x.2 x.1,fun j=>?_⟩;let g:dE (nd.map (·.2)) fun j=>f j+ -(f x.1 / col x.2 x.1)*col x.2 j:=dE.put _ (CZ.mpr ⟨x,hx,rfl⟩) hf
 have:=P.zero g (fun y hy=>by
  by_cases c:y.1=x.1
  ·rw [c]
   grind
  ·rw [hz y hy c]
   have:col x.2 y.1=0:=by
    unfold col;rw [P.off x hx y hy (FG c)];rfl
   rw [this]
   grind) j
 grind
def lI:List Int->List (List Int)->Nat->Int
 | z::zs,a::A,j=>z*a.getD j 0+lI zs A j
 | _,_,_=>0
theorem nq:∀(zs:π)(A:ζ),dE A (fun j=>((lI zs A j:Int):Rat))
 | [],A=>dE.zero.congr fun j=>by simp [lI]
 | _::_,[]=>dE.zero.congr fun j=>by simp [lI]
 | z::zs,a::A=>by
  let ih:=(nq zs A).mono (B:=a::A) fun b hb=>FF _ hb;refine (dE.put (z:Rat) (EJ) ih).congr fun j=>?_;simp only [lI,col];push_cast;grind
theorem wW (c:Nat):∀(zs:π)(A:ζ),i8 (A.map fun a=>a.getD c 0) zs=lI zs A c
 | [],A=>by cases A<;>simp [lI,i8]
 | _::_,[]=>by simp [lI,i8]
 | z::zs,a::A=>by
  simp only [DG,i8,lI];rw [wW c zs A,Px]
theorem DY (j:Nat):∀{zs:π} {A:ζ},(∀z∈zs,z.natAbs<=α)->(∀a∈A,(a.getD j 0).natAbs<=E)->(lI zs A j).natAbs<=A.length*(α*E)
 | [],A,_,_=>by simp [lI]
 | _::_,[],_,_=>by simp [lI]
 | z::zs,a::A,h1,h2=>by
  let ih:=DY j (zs:=zs) (A:=A) (fun x hx=>h1 x (FF _ hx)) fun x hx=>h2 x (FF _ hx);simp only [lI]
  let m:(z*a.getD j 0).natAbs<=α*E:=by
   rw [NL];exact Mc (h1 z EJ) (h2 a EJ)
  let t:=Sk (z*a.getD j 0) (lI zs A j);rw [Me,O4,ZH];omega
theorem tM (j:Nat):∀{zs:π} {A:ζ} (z:Int) (a:π),zs.length=A.length->lI (zs++[z]) (A++[a]) j=lI zs A j+z*a.getD j 0
 | [],[],z,a,_=>by simp [lI]
 | y::zs,b::A,z,a,h=>by
  let ih:=tM j (zs:=zs) (A:=A) z a (by simpa using h);simp only [Sj,lI];rw [ih];omega
def Zx (l:π):Prop:=∀d:Int,(∀j,d ∣ l.getD j 0)->d.natAbs=1
def Ol (p:Zx l){v:Nat->Int}(ha:a≠0)(h:∀j,((v j:Int):Rat)=a*col l j)(j:Nat):(l.getD j 0).natAbs<=(v j).natAbs:=by
 let e:∀j,v j*(a.den:Int)=a.num*l.getD j 0:=fun j=>by
  let h1:=h j
  let h2:a=(a.num:Rat) / ((a.den:Int):Rat):=by
   rw [<-al_];exact (ah9 a).symm
  let hd:((a.den:Int):Rat)≠0:=cO (by have:=a.den_pos;omega);rw [h2] at h1;unfold col at h1
  let h3:((v j*(a.den:Int):Int):Rat)=((a.num*l.getD j 0:Int):Rat):=by
   rw [Of,Of];generalize ((a.den:Int):Rat)=D at hd h1;grind
  exact Pc.mp h3
 let dv:∀j,(a.den:Int) ∣ l.getD j 0:=fun j=>by
  let h1:a.den ∣ a.num.natAbs*(l.getD j 0).natAbs:=by
   rw [<-NL,<-e j,NL];show ⟨(v j).natAbs,by rw [W7];rfl⟩
  let h2:=Nat.Coprime.dvd_of_dvd_mul_left (Nat.Coprime.symm a.reduced) h1;exact Z_.mp (by simpa using h2)
 let d1:a.den=1:=by simpa using p _ dv
 let ej:=e j;rw [d1] at ej;let n0:a.num≠0:=fun z=>ha (Rat.num_eq_zero.mp z);have:v j=a.num*l.getD j 0:=by simpa using ej
 rw [this,NL];exact Nat.le_mul_of_pos_left _ ga
def adG (p:Zx l):¬ ∀j,l.getD j 0=0:=fun h=>by
 have:=p 0 fun j=>by rw [h j];exact Int.dvd_refl 0
 simp at this
structure MO (os:ζ)(nd:ι)(lv ps qs:ζ):Prop where
 po:∀p∈ps,p∈os
 qo:∀q∈qs,q∈os
 lp:ps.length=nd.length
 lq:qs.length=lv.length
 s1:∀x∈nd,dE ps (col x.2)
 s2:∀p∈ps,dE (nd.map (·.2)) (col p)
 s3:∀(i:Nat)(l q:π),lv[i]?=some l->qs[i]?=some q->dE (ps++[q]) (col l)/\dE (nd.map (·.2)++[l]) (col q)
 ind:∀zs:List Int,zs.length=ps.length->(∀j,lI zs ps j=0)->∀a∈zs,a=0
def MO.start (os:ζ):MO os [] os [] os:=by
 show ⟨by simp,fun q hq=>hq,rfl,rfl,by simp,by simp,fun i l q e1 e2=>?_,fun zs h _ a ha=>?_⟩
 ·rw [e1] at e2
  cases e2;show ⟨dE.mem gV,dE.mem gV⟩
 ·rw [R7.mp h] at ha
  cases ha
def MM.cols (P:MM nd)(hl:dE (nd.map (·.2)) (col l))(hz:∀x∈nd,l.getD x.1 0=0):∀j,l.getD j 0=0:=fun j=>by
 have:=P.zero hl (fun x hx=>by unfold col;rw [hz x hx];rfl) j;unfold col at this;exact Pc.mp (this.trans (by rfl))
def zu {A:ζ}(hA:∀a∈A,∀j,(a.getD j 0).natAbs<=2^b):(A.map fun a=>a.getD c 0).length=A.length/\∀x∈A.map (fun a=>a.getD c 0),x.natAbs<=2^b:=by
 show ⟨by simp,fun x hx=>?_⟩;obtain ⟨a,ha,rfl⟩:=CZ.mp hx;exact hA a ha c
def MO.left (O:MO os nd lv ps qs)(P:MM nd){i b:Nat}{l:π}(e:lv[i]?=some l)(hz:∀x∈nd,l.getD x.1 0=0)(hb:∀o∈os,∀j,(o.getD j 0).natAbs<=2^b)(pr:Zx l)(j:Nat):(l.getD j 0).natAbs<=(nd.length+1)*((2*(nd.length+1)*2^b)^nd.length*2^b):=by
 let hi:i<qs.length:=by
  rw [O.lq];exact (be.mp e).1
 obtain ⟨q,eq⟩:∃q,qs[i]?=some q:=⟨_,gE hi⟩;obtain ⟨t1,t2⟩:=O.s3 i l q e eq
 let hA:∀a∈ps++[q],∀j,(a.getD j 0).natAbs<=2^b:=fun a ha=>by
  rcases K2.mp ha with z|z
  ·exact hb a (O.po a z)
  ·rw [K3.mp z]
   exact hb q (O.qo q (DE eq))
 let lA:(ps++[q]).length=nd.length+1:=by simp [O.lp]
 obtain ⟨zs,lz,nz,bz,sz⟩:=Oj (n:=nd.length+1) (A:=2^b) (eqs:=nd.map fun x=>(ps++[q]).map fun a=>a.getD x.1 0) gV (RV) fun y hy=>by
  obtain ⟨x,hx,rfl⟩:=CZ.mp hy;rw [<-lA];exact zu hA
 rw [ir] at bz
 let v0:∀x∈nd,lI zs (ps++[q]) x.1=0:=fun x hx=>by
  rw [<-wW];exact sz _ (CZ.mpr ⟨x,hx,rfl⟩)
 let hv:dE (nd.map (·.2)++[l]) fun j=>((lI zs (ps++[q]) j:Int):Rat):=(nq zs (ps++[q])).trans fun a ha=>by
  rcases K2.mp ha with z|z
  ·exact (O.s2 a z).mono fun y hy=>O1 _ hy
  ·rw [K3.mp z]
   exact t2
 obtain ⟨a,ha⟩:=dE.last hv
 let ez:=P.zero ha fun x hx=>by
  rw [v0 x hx];unfold col;rw [hz x hx];show ((0:Int):Rat)-a*((0:Int):Rat)=0;grind
 by_cases c:a=0
 ·exfalso
  subst c
  let vz:∀j,lI zs (ps++[q]) j=0:=fun j=>by
   have:=ez j;let h:((lI zs (ps++[q]) j:Int):Rat)=((0:Int):Rat):=by grind
   exact Pc.mp h
  obtain ⟨wX,z,rfl⟩:∃wX z,zs=wX ++[z]:=by
   rcases ahS zs with h|⟨wX,z,h⟩
   ·rw [h] at lz
    simp at lz
   ·show ⟨wX,z,by rw [h,ahT]⟩
  have Zy :wX.length=ps.length:=by
   rw [O.lp];simpa using lz
  let sp:∀j,lI wX ps j+z*q.getD j 0=0:=fun j=>by
   rw [<-tM j z q Zy];exact vz j
  by_cases z0:z=0
  ·subst z0
   obtain ⟨x,hx,nx⟩:=nz;let all:=O.ind wX Zy fun j=>by simpa using sp j
   rcases K2.mp hx with h|h
   ·exact nx (all x h)
   ·exact nx (K3.mp h)
  ·let hq:dE ps (col q):=((nq wX ps).mul (-1 / (z:Rat))).congr fun j=>by
    let s':((lI wX ps j+z*q.getD j 0:Int):Rat)=((0:Int):Rat):=by rw [sp j]
    rw [anY,Of] at s';let zr:(z:Rat)≠0:=cO z0;unfold col;grind
   let hl:dE ps (col l):=t1.trans fun a ha=>by
    rcases K2.mp ha with h|h
    ·exact dE.mem h
    ·rw [K3.mp h]
     exact hq
   exact adG pr (P.cols (hl.trans O.s2) hz)
 ·let le:=Ol pr c (v:=fun j=>lI zs (ps++[q]) j) (fun j=>by have:=ez j;grind) j
  refine DC le ?_;have:=DY j (zs:=zs) (A:=ps++[q]) bz fun a ha=>hA a ha j;rwa [lA] at this
def MO.need (O:MO os nd lv ps qs)(P:MM nd){x:Ψ}(hx:x∈nd)(hb:∀o∈os,∀j,(o.getD j 0).natAbs<=2^b)(pr:Zx x.2)(j:Nat):(x.2.getD j 0).natAbs<=(nd.length+1)*((2*(nd.length+1)*2^b)^nd.length*2^b):=by
 let hA:∀a∈ps,∀j,(a.getD j 0).natAbs<=2^b:=fun a ha=>hb a (O.po a ha)
 let lf:(nd.filter fun y=>decide (y.1≠x.1)).length<nd.length:=by
  let h1:(nd.filter fun y=>decide (y.1≠x.1)).length<=nd.length:=Wi ..
  rcases Nat.lt_or_eq_of_le h1 with h|h
  ·exact h
  ·have:=List.length_filter_eq_length_iff.mp h x hx
   simp at this
 obtain ⟨zs,lz,nz,bz,sz⟩:=Oj (n:=nd.length) (A:=2^b) (eqs:=(nd.filter fun y=>decide (y.1≠x.1)).map fun y=>ps.map fun a=>a.getD y.1 0) (by rwa [ir]) (RV) fun y hy=>by
  obtain ⟨z,hz,rfl⟩:=CZ.mp hy;rw [<-O.lp];exact zu hA
 rw [ir] at bz
 let v0:∀y∈nd,y.1≠x.1->lI zs ps y.1=0:=fun y hy ne=>by
  rw [<-wW];exact sz _ (CZ.mpr ⟨y,KN.mpr ⟨hy,by simpa using ne⟩,rfl⟩)
 let hv:dE (nd.map (·.2)) fun j=>((lI zs ps j:Int):Rat):=(nq zs ps).trans O.s2
 obtain ⟨a,ha⟩:=P.one hv hx fun y hy ne=>by
  rw [v0 y hy ne];rfl
 let c:a≠0:=fun z=>by
  subst z;obtain ⟨y,hy,ny⟩:=nz;refine ny (O.ind zs (by rw [lz,O.lp]) (fun j=>?_) y hy)
  let h:((lI zs ps j:Int):Rat)=((0:Int):Rat):=by
   rw [ha j];show 0*col x.2 j=0;grind
  exact Pc.mp h
 let le:=Ol pr c (v:=fun j=>lI zs ps j) ha j;refine DC le ?_;have:=DY j (zs:=zs) (A:=ps) bz fun a ha=>hA a ha j;rw [O.lp] at this;refine DC this (Mc ga (Mc ?_ (DU _)));refine DC (ag2 (N2 _ (show 2*nd.length<=2*(nd.length+1) by omega)) _) ?_;exact L8 (Nat.mul_pos ga (zo _)) ga
def acy (hs:s+1<=1024):(s+1)*((2*(s+1)*2^b)^s*2^b)<=2^((s+1)*(b+11)):=by
 let h1:2*(s+1)*2^b<=2^(b+11):=by
  have:2*(s+1)<=2^11:=by
   show 2*(s+1)<=2048;omega
  rw [Rz,W7 (2^b)];exact N2 _ this
 let h2:(2*(s+1)*2^b)^s<=2^((b+11)*s):=by
  rw [Nat.pow_mul];exact ag2 h1 s
 let h3:s+1<=2^11:=by
  show s+1<=2048;omega
 let e:(s+1)*(b+11)=11+((b+11)*s+b):=by
  rw [O4,ZH,W7 s];omega
 rw [e,Rz,Rz];exact Mc h3 (N2 _ h2)
def IX (k:uN line AP new c)(h1:dE B (col line))(h2:dE B (col AP)):dE B (col new):=by
 obtain ⟨s,t,u,hs,ht,e⟩:=k.jD;let zs:=cO hs;refine ((h1.mul ((t:Rat) / s)).add (h2.mul (-(u:Rat) / s))).congr fun j=>?_;let ej:((s*new.getD j 0:Int):Rat)=((t*line.getD j 0-u*AP.getD j 0:Int):Rat):=by rw [e j]
 rw [Of,anZ,Of,Of] at ej;unfold col;grind
def IY (k:uN line AP new c)(h1:dE B (col new))(h2:dE B (col AP)):dE B (col line):=by
 obtain ⟨s,t,u,hs,ht,e⟩:=k.jD;let zt:=cO ht;refine ((h1.mul ((s:Rat) / t)).add (h2.mul ((u:Rat) / t))).congr fun j=>?_;let ej:((s*new.getD j 0:Int):Rat)=((t*line.getD j 0-u*AP.getD j 0:Int):Rat):=by rw [e j]
 rw [Of,anZ,Of,Of] at ej;unfold col;grind
def MO.step {nd jM :ι}{lv DZ ps qs:ζ}{AP:π}{j c:Nat}(O:MO os nd lv ps qs)(P:MM nd)(ej:lv[j]?=some AP)(hz:∀x∈nd,AP.getD x.1 0=0)(hc:AP.getD c 0≠0)
  (lL:DZ.length=(lv.eraseIdx j).length) (ML:∀(i:Nat)(x:π),(lv.eraseIdx j)[i]?=some x->∃y,DZ[i]?=some y/\uN x AP y c) (lN:jM.length=nd.length) (MN:∀(i:Nat)(x:π),(nd.map (·.2))[i]?=some x->∃y,(jM.map (·.2))[i]?=some y/\uN x AP y c):∃ps' X0,MO os (jM ++[(c,AP)]) DZ ps' X0 :=by
 let hj:j<lv.length:=(be.mp ej).1;obtain ⟨q,eq⟩:∃q,qs[j]?=some q:=⟨_,gE (by rwa [O.lq])⟩;obtain ⟨t1,t2⟩:=O.s3 j AP q ej eq;let ml:AP∈(jM ++[(c,AP)]).map (·.2):=by simp
 let old:∀x∈nd.map (·.2),dE ((jM ++[(c,AP)]).map (·.2)) (col x):=fun x hx=>by
  obtain ⟨i,ei⟩:=D_ hx;obtain ⟨y,ey,k⟩:=MN i x ei;refine IY k (dE.mem ?_) (dE.mem ml);rw [K7];exact O1 _ (DE ey)
 let agA:∀y∈jM.map (·.2),∃x∈nd.map (·.2),uN x AP y c:=fun y hy=>by
  obtain ⟨i,ei⟩:=D_ hy;let hi:=(be.mp ei).1;rw [ir] at hi;obtain ⟨x,ex⟩:∃x,(nd.map (·.2))[i]?=some x:=⟨_,gE (by rw [ir];omega)⟩;obtain ⟨y',IZ,k⟩:=MN i x ex;erw [ei] at IZ;show ⟨x,DE ex,k⟩
 let up:∀{f:Nat->Rat},dE ps f->dE (ps++[q]) f:=fun h=>h.mono fun a ha=>O1 _ ha;show ⟨ps++[q],qs.eraseIdx j,fun p hp=>?_,fun p hp=>O.qo p (pM hp),by simp [O.lp,lN],?_,fun x hx=>?_,fun p hp=>?_,fun i l' q' e1 e2=>?_,fun zs lz hzs a ha=>?_⟩
 ·rcases K2.mp hp with z|z
  ·exact O.po p z
  ·rw [K3.mp z]
   exact O.qo q (DE eq)
 ·rw [lL,Xl,Xl,O.lq]
 ·rcases K2.mp hx with z|z
  ·obtain ⟨y,hy,k⟩:=agA x.2 (CZ.mpr ⟨x,z,rfl⟩)
   obtain ⟨x0,hx0,rfl⟩:=CZ.mp hy;exact IX k (up (O.s1 x0 hx0)) t1
  ·rw [K3.mp z]
   exact t1
 ·rcases K2.mp hp with z|z
  ·exact (O.s2 p z).trans old
  ·rw [K3.mp z]
   refine t2.trans fun a ha=>?_
   rcases K2.mp ha with h|h
   ·exact old a h
   ·rw [K3.mp h]
    exact dE.mem ml
 ·let hi:=(be.mp e1).1
  obtain ⟨x,ex⟩:∃x,(lv.eraseIdx j)[i]?=some x:=⟨_,gE ga⟩;obtain ⟨y',IZ,k⟩:=ML i x ex;erw [e1] at IZ
  obtain ⟨i',f1,f2⟩:∃i',lv[i']?=some x/\qs[i']?=some q':=by
   rw [Za] at ex e2;by_cases h:i<j
   ·rw [mK h] at ex e2
    show ⟨_,ex,e2⟩
   ·rw [mJ h] at ex e2
    show ⟨_,ex,e2⟩
  obtain ⟨u1,u2⟩:=O.s3 i' x q' f1 f2;constructor
  ·refine IX k (u1.mono fun a ha=>?_) (t1.mono fun a ha=>O1 _ ha)
   rcases K2.mp ha with h|h
   ·exact O1 _ (O1 _ h)
   ·exact N8 _ h
  ·refine u2.trans fun a ha=>?_
   rcases K2.mp ha with h|h
   ·exact (old a h).mono fun b hb=>O1 _ hb
   ·rw [K3.mp h]
    exact IY k (dE.mem gV) (dE.mem (O1 _ ml))
 ·obtain ⟨wX,z,rfl⟩:∃wX z,zs=wX ++[z]:=by
   rcases ahS zs with h|⟨wX,z,h⟩
   ·rw [h] at lz
    simp at lz
   ·show ⟨wX,z,by rw [h,ahT]⟩
  have Zy :wX.length=ps.length:=by simpa using lz
  let sp:∀j,lI wX ps j+z*q.getD j 0=0:=fun j=>by
   rw [<-tM j z q Zy];exact hzs j
  let z0:z=0:=by
   apply O5;intro z0
   let hq:dE ps (col q):=((nq wX ps).mul (-1 / (z:Rat))).congr fun j=>by
    let s':((lI wX ps j+z*q.getD j 0:Int):Rat)=((0:Int):Rat):=by rw [sp j]
    rw [anY,Of] at s';let zr:(z:Rat)≠0:=cO z0;unfold col;grind
   let hl:dE ps (col AP):=t1.trans fun a ha=>by
    rcases K2.mp ha with h|h
    ·exact dE.mem h
    ·rw [K3.mp h]
     exact hq
   exact hc (P.cols (hl.trans O.s2) hz c)
  rcases K2.mp ha with h|h
  ·exact O.ind wX Zy (fun j=>by have:=sp j;rw [z0] at this;simpa using this) a h
  ·rw [K3.mp h]
   exact z0
end Ty
namespace Ty
open PySem PySem.Spec PyProof.Rows L2
section
variable {D:AG}{te:TE}{oe:L2.St}{H1:Hp}{Q:VK}
def ahP (J:List V->Hp->Prop)(nD:H1 D=none)(hn:n<C_)(h0:J [] (upd H1 D (.lst [])))
  (he:∀(i:Nat) ys H (R:VK),i<n->ys.length=i->J ys H->aq H1 H->H D=some (.lst ys)->(∀v H6,aq H H6->J (ys++[v]) (upd H6 D (.lst (ys++[v])))->R v H6)->te (some (.int (0+(i:Int)))::oe) H R)
  (hd:∀ys H,ys.length=n->J ys H->aq H1 H->H D=some (.lst ys)->Q (.ref D) H):
  lW D (b_ 0) jn te (TJ 0 n) (none::oe) H1 Q:=by
 refine wJ n (fun i=>.int (0+(i:Int))) (fun i ys H=>ys.length=i/\J ys H/\aq H1 H) ⟨rfl,h0,fun b o e=>by rwa [ao (ak e nD)]⟩ ?_ ?_ ?_ ?_
 ·rintro i ys H hi _
  show ⟨hi,fun x H' y=>y⟩
 ·rintro ys H _
  exact DU n
 ·rintro i ys H R hi ⟨l,j,s⟩ hD k
  exact he i ys H R hi l j s hD fun v H6 s6 jv=>k v H6 (s6 _ _ hD) ga ⟨by simp [l],jv,fun b o e=>by rw [ao (ak e nD)];exact s6 _ _ (s _ _ e)⟩
 ·rintro ys H ⟨l,j,s⟩ hD
  exact hd ys H l j s hD
end
section
variable {prog:FQ}{w:World}{KK:Type}[DecidableEq KK]{knd:KeyKind prog w KK}{A:KH}{E:ε}{s:D'}
def aa1 (hu:A.units<Mn)(ha:(a==Ks)=false)(hb:(b==Ks)=false)(da:s.heap.DictOf knd a vs)(db:s.heap.DictOf knd b ws)
  (hk:vs.map (·.1)=ws.map (·.1)) (he:∀(i:Nat)(x y:KK×Value),vs[i]?=some x->ws[i]?=some y->SeqAt.EqAt A.in1 s x.2 y.2 true) {Q:ε} (q:Q (.bool false) s):
  C' (CY prog w) A (richCompare .NotEq (.ref a) (.ref b)) Q E s:=by
 refine wpAny_richCompare_same_room da.typeIs db.typeIs F.slot_dict_ne (σ2 F.slot_dict_ne da.typeIs F.entry_dict_ne ?_ (F.args_dict_ne_2 _ _)) hu;show C' _ _ (Builtin.Dict.dictSlotArgs "__ne__" ⟨[.ref a,.ref b],[]⟩ >>=_) _ _ s;unfold Builtin.Dict.dictSlotArgs;refine CV (CV (wpAny_notOrdered_dict da.typeIs ?_));show C' _ _ (pure (Value.ref a,Value.ref b)) _ _ s;refine DV ?_;refine CV (wpAny_isInstance db.typeIs isSubtype_dict_dict ?_);rw [mJ gt];show C' _ _ (Builtin.Dict.samePairs _ a b >>=_) _ _ s;refine CV (adE ha hb da db hk he ?_);exact DV ⟨.bool false,rfl,(fun z=>nomatch z),q⟩
end
variable {X:Cx}
def Ue (K:Frag):R2:=fun x y H Q=>∃(a b:AG)(k1 k2:δ),x=.ref a/\y=.ref b/\H a=some (.dK k1)/\H b=some (.dK k2)/\k1.map (·.1)=k2.map (·.1)/\
 (∀(i:Nat)(u v:Key×V),k1[i]?=some u->k2[i]?=some v->∃d,Is K H d u.2/\Is K H d v.2/\alike d d=true/\iQ d d=true/\dep d<=60)/\Q (.bl false) H
def acK (hu:X.A.units+64<Mn):kA X (Mg .NotEq) (Ue X.K):=by
 intro pX s Y H x y v u Q I rx ry h;obtain ⟨a,b,k1,k2,rfl,rfl,e1,e2,ek,hv,q⟩:=h;cases rx;cases ry;obtain ⟨z,hd,vs,rel,dd⟩:=jC I.bZ (.inl e1);obtain ⟨z2,hd2,ws,V_,dd2⟩:=jC I.bZ (.inl e2);refine aa1 ga hd hd2 dd dd2 (by rw [<-rel.keys,<-V_.keys,ek]) (fun i x y hx hy=>?_) ⟨.bl false,H,I,rfl,q⟩
 let li:i<k1.length:=by
  have:=(be.mp hx).1;rw [rel.length];exact this
 let li2:i<k2.length:=by
  have:=(be.mp hy).1;rw [V_.length];exact this
 let g1:=gE li;let g2:=gE li2;obtain ⟨x',ex,_,rx⟩:=aI rel g1;obtain ⟨y',ey,_,ry⟩:=aI V_ g2;rw [hx] at ex;rw [hy] at ey;cases ex;cases ey;obtain ⟨d,h1,h2,h3,h4,h5⟩:=hv i _ _ g1 g2;have:=ID I _ _ _ _ _ _ X.A.in1 h1 h2 h3 rx ry (by rw [in1_units];omega);rwa [h4] at this
section
variable {X:Cx}{e o:Expr}{es:Β}{ta:TE}{t:TA}{f m:Str}{pos apos:Pos}{P:FQ}{w:World}{K:Frag}{mg:ξ}{iN:Heap}{CX:mR}{k:Nat}{E:XK}
def acF {pl:Sem Bool}(h1:X.prog=P)(h2:X.w=w)(h3:X.K=K)(h4:X.mg=mg)(h5:X.iN=iN)(he:PE X o ta)(hr:cK k X.A)(hx:Passes CX X E)(ha:PA X (e::es) t)
  (M1:EX (e::es) X.env=(false,DX e X.env)::EX es X.env:=by rfl) (vf:(Kw pos (EX es X.env)).any (·.1)=false:=by rfl)
  (ht:DX (.Call (.Attribute o m apos) (e::es) [] pos) X.env=(do
   let ov <- DX o X.env
   standAt apos.atName
   let (f,first) <- Py [ov] (getMethod ov m pl)
   callWith pos f first (Kw pos (EX (e::es) X.env)) (backToKw pos (V8 [] X.env))):=by rfl):
  PE X (.Call (.Attribute o m apos) (e::es) [] pos) (VJ P w K mg iN CX k m E ta t):=by
 subst h1 h2 h3 h4 h5;exact fu he hr hx ha M1 vf ht
end
def zaO {us:θ}(h:us[us.length-1]?=some u):gS us (-1)=some u:=by
 let hl:us.length-1<us.length:=(be.mp h).1
 let e:us=us.take (us.length-1)++[u]:=by
  refine Mt fun i=>?_;rw [List.getElem?_append,KI];by_cases z:i<us.length-1
  ·rw [mK ga,QV z]
  ·rw [mJ ga]
   by_cases y:i=us.length-1
   ·rw [y,h]
    simp [RY (Nat.sub_le _ _)]
   ·rw [EZ ga,EZ (by simp;omega)]
 rw [e];exact ac1 _ _
section
variable {prog:FQ}{w:World}{A:KH}{E:ε}{s:D'}{d:AG}{o:Obj}{es:Array DictEntry}{ep:Nat}
def aaK (hd:(d==Ks)=false):MeetsIn prog w (Builtin.«dict.__len__» ⟨[.ref d],[]⟩) (fun _ R s=>∃(o:Obj)(es:Array DictEntry)(ep:Nat),s.heap.get? d=some o/\o.data=.dict es ep/\R (.ok (.ret (.int es.size s.toks))) {s with toks:=s.toks+1}):=.of_wp fun A R s ⟨o,es,ep,ho,g8,h⟩=>by
 show C' _ _ (dictSize d >>=_) _ _ s;refine CV ?_;unfold dictSize;refine CV (σ6 ho g8 (DV ?_));show C' _ _ (Builtin.Dict.pendingCount d >>=_) _ _ s;refine CV (wpAny_pendingCount_other hd (wpAny_ret_mkInt ?_));simpa using h
def abr {Q:ε}(hd:(d==Ks)=false)(ho:s.heap.get? d=some o)(hx:o.ExactDict)(g8:o.data=.dict es ep)(hf:(es.size:Int)<2^63)(h:Q (.int es.size (s.toks+1)) {s with toks:=s.toks+1+1}):C' (CY prog w) A (call (.builtin "len") [.ref d]) Q E s:=by
 let ty:s.TypeIs (.ref d) "dict":=⟨o,ho,hx.1⟩;refine Calls.call_function_entry kind_len plain_len entry_len (args_len1 _) ?_;unfold Builtin.«len»;refine CV (m:=oneArg "len" _) (DV (CV (m:=callSpecial? (.ref d) (Na "__len__")) ?_));refine wpAny_callSpecial?_slot (name:=Na "__len__") ty F.slot_dict_len (Vd F.slot_dict_len ty F.entry_dict_len (F.args_dict_len_1 _) (aaK hd) ⟨o,es,ep,ho,g8,?_⟩);show C' _ _ _ _ _ {s with toks:=s.toks+1};refine CV (Nj (DV (CV (wpAny_letGo ?_))));show C' _ _ (if ((es.size:Nat):Int)<0 then _ else if ((es.size:Nat):Int)≥2^63 then _ else _) _ _ _;rw [mJ ga,mJ ga];exact CV (wpAny_mkInt (DV ⟨_,rfl,h⟩))
end
section
variable {X:Cx}
inductive Oo (xs:θ)(H:Hp)(Q:VK):Prop
|mk (p:AG)(AD:Ε)(_:xs=[.ref p])(_:Rd H p (.dT AD))(_:Q (.int (AD.length:Int)) H)
def abZ:iz X (.builtin "len") Oo:=by
 intro pX s Y H xs us Q I r h;obtain ⟨p,AD,rfl,hq,q⟩:=h;obtain ⟨u,rfl,r1⟩:=vals1 r;cases r1;obtain ⟨z,hd,ks,rel,o,es,ep,ho,hx,g8,hk,_,hn⟩:=qK I.bZ hq;let hl:AD.length=ks.length:=EO rel
 let he:es.size=AD.length:=by
  have:=oP NO hk;rw [hl];simpa using this
 refine abr hd ho hx g8 (by rw [he];rw [Vk] at z;omega) ?_;rw [he];show ⟨.int _,H,I.tok _,⟨_,rfl⟩,q⟩
end
variable {X:Cx}
inductive P7 {A0 A1:Type}(p:A0->A1->Prop):Prop where
 | mk (a0:A0)(a1:A1)(h:p a0 a1):P7 p
inductive I_ {A0 A1 A2:Type}(p:A0->A1->A2->Prop):Prop where
 | mk (a0:A0)(a1:A1)(a2:A2)(h:p a0 a1 a2):I_ p
inductive P8 {A0 A1 A2 A3:Type}(p:A0->A1->A2->A3->Prop):Prop where
 | mk (a0:A0)(a1:A1)(a2:A2)(a3:A3)(h:p a0 a1 a2 a3):P8 p
inductive Ex5 {A0 A1 A2 A3 A4:Type}(p:A0->A1->A2->A3->A4->Prop):Prop where
 | mk (a0:A0)(a1:A1)(a2:A2)(a3:A3)(a4:A4)(h:p a0 a1 a2 a3 a4):Ex5 p
inductive Ex6 {A0 A1 A2 A3 A4 A5:Type}(p:A0->A1->A2->A3->A4->A5->Prop):Prop where
 | mk (a0:A0)(a1:A1)(a2:A2)(a3:A3)(a4:A4)(a5:A5)(h:p a0 a1 a2 a3 a4 a5):Ex6 p
inductive Ex8 {A0 A1 A2 A3 A4 A5 A6 A7:Type}(p:A0->A1->A2->A3->A4->A5->A6->A7->Prop):Prop where
 | mk (a0:A0)(a1:A1)(a2:A2)(a3:A3)(a4:A4)(a5:A5)(a6:A6)(a7:A7)(h:p a0 a1 a2 a3 a4 a5 a6 a7):Ex8 p
inductive Ex9 {A0 A1 A2 A3 A4 A5 A6 A7 A8:Type}(p:A0->A1->A2->A3->A4->A5->A6->A7->A8->Prop):Prop where
 | mk (a0:A0)(a1:A1)(a2:A2)(a3:A3)(a4:A4)(a5:A5)(a6:A6)(a7:A7)(a8:A8)(h:p a0 a1 a2 a3 a4 a5 a6 a7 a8):Ex9 p
section
variable {P:FQ}{w:World}{K:Frag}{mg:ξ}{iN:Heap}{CX:mR}{N ps:ψ}{k:Nat}{sp:Sp}{st:Stmt}
def Def.oo (D:Def K mg x st ps)(S:aE N ps (ae st))
  (gY:∀{f:AG} {cL:Value} {A:KH} {lj:List Env} {s:D'} {vs:θ} {Q:VK} {E:XK} (H:Hp),cK k (A.deeper (NT x (ae st) s.heap.objs.size f cL))->sp vs H Q E->
   ∃t,qv (pC CX P w K mg iN N x (ae st) f cL A lj s H E).yq (au st) t/\t {nx:=fun _ H'=>Q .dw H',rt:=Q} (start N vs) H) (len:∀vs H Q E,sp vs H Q E->vs.length=ps.length:=by intro vs H Q E h;cases h;subst_vars;rfl):Fn P w K mg iN CX (k+1) x ps sp:=D.ok S len fun _ _ _ _ _ H _ _ _ hr h=>gY H hr h
def Def.op (D:Def K mg x st ps)(S:aE N ps (ae st))
  (gY:∀(f:AG)(cL:Value)(A:KH)(lj:List Env)(s:D')(H:Hp)(vs:θ)(Q:VK)(E:XK),cK k (A.deeper (NT x (ae st) s.heap.objs.size f cL))->sp vs H Q E->
   ∃t,qv (pC CX P w K mg iN N x (ae st) f cL A lj s H E).yq (au st) t/\t {nx:=fun _ H'=>Q .dw H',rt:=Q} (start N vs) H) (len:∀vs H Q E,sp vs H Q E->vs.length=ps.length:=by intro vs H Q E h;cases h;subst_vars;rfl):Fn P w K mg iN CX (k+1) x ps sp:=D.ok S len gY
def hV (F:sU K name qual st f fd)(S:aE N ps (ae st))
  (gY:∀{cL:Value} {A:KH} {lj:List Env} {s:D'} {vs:θ} {Q:VK} {E:XK} (H:Hp),cK k (A.deeper (NT qual (ae st) s.heap.objs.size f cL))->sp vs H Q E->
   ∃t,qv (rf P w K mg iN N qual (ae st) f cL A lj s H E).yq (au st) t/\t {nx:=fun _ H'=>Q .dw H',rt:=Q} (start N vs) H) (len:∀vs H Q E,sp vs H Q E->vs.length=ps.length:=by intro vs H Q E h;cases h;subst_vars;rfl):dI P w K mg iN (ba P w) (k+1) f fd ps sp:=IM F S len fun _ _ _ _ H _ _ _ hr h=>gY H hr h
def Oq (P:FQ)(w:World):Passes (ba P w) X.yq E0:=vp ba.yR
end
section
variable {X:Cx}{i:Nat}{x y:Str}{a b c d e e1 e2 e3 e4 e5 elt target iter:Expr}{es ifs:Β}{te ta tb t1 t2 t3 t4 t5:TE}{wi:TI}{g:TG}{tt:TT}{pos pos' py uX p:Pos}{scope:Scope}{tn fr:ψ}{mL:Ν}
def aG (i:Nat)(hN:X.N.Nodup)(he:PE X e te)(hi:X.N[i]?=some x:=by rfl)(hx:Loc X.env.scope x:=by first|exact .inl rfl|exact .inr rfl)(hs:Q9 e (some (.Name x pos')) pos.line X.env=pure false:=by rfl)(hf:X.fn x=true\/X.env.scope.names.lookup x=some .local:=by first|exact .inl rfl|exact .inr rfl|assumption):
  PS X (.Assign [.Name x pos'] e pos) (CU te (b_ i)):=agx hN hi hx he hs hf
def b9 (i:Nat)(hN:X.N.Nodup)(hi:X.N[i]?=some x:=by rfl)(hx:Loc X.env.scope x:=by first|exact .inl rfl|exact .inr rfl)(hf:X.fn x=true\/X.env.scope.names.lookup x=some .local:=by first|exact .inl rfl|exact .inr rfl|assumption):PG X (.Name x pos) (b_ i):=fj hN hi hx hf
def bD (hr:XO X r)(ha:PE X a ta)(hb:PE X b tb)(hs:HZ b:=by exact fun _ _=>rfl):PE X (.Subscript a b pos) (QL r ta tb):=Nt hr ha hb hs
def bW (ho:kA X (Mg op) r)(ha:PE X a ta)(hb:PE X b tb)(hm:VL op b=false:=by exact fY _):PT X (.Compare a [op] [b] pos) (TM (QL r ta tb)):=v_ ho ha hb hm
def aV (h1:PE X e1 t1)(s1:isStar e1=false:=by rfl):PA X [e1] (qE t1 iP):=iu h1 gF s1
def aT (h1:PE X e1 t1)(h2:PE X e2 t2)(s1:isStar e1=false:=by rfl)(s2:isStar e2=false:=by rfl):PA X [e1,e2] (qE t1 (qE t2 iP)):=iu h1 (aV h2 s2) s1
def bR (h1:PE X e1 t1)(h2:PE X e2 t2)(h3:PE X e3 t3)(s1:isStar e1=false:=by rfl)(s2:isStar e2=false:=by rfl)(s3:isStar e3=false:=by rfl):PA X [e1,e2,e3] (qE t1 (qE t2 (qE t3 iP))):=iu h1 (aT h2 h3 s2 s3) s1
def Jz (h1:closureFor scope X.env=pure (bx X.env fr):=by exact rfl)(h2:∀y∈scope.names,y.2≠.cell:=by decide+kernel)(h3:scope.kind=.function:=by exact rfl)(h4:∀y∈scope.names,y.2=.local->scope.names.lookup y.1=some .local:=by decide+kernel)(h5:∀y∈scope.names,y.2=.free->y.1∈fr:=by decide+kernel)(h6:mL.map (fun i=>X.N[i]?)=fr.map some:=by exact rfl)
  (h7:iR X.env fr:=by repeat (first|exact trivial|show ⟨by first|exact NY rfl|exact RP rfl,?_⟩)) (h8:iR (compEnvC scope [] 0 X.env) fr:=by repeat (first|exact trivial|show ⟨by first|exact NY rfl|exact RP rfl,?_⟩)):wI X scope fr mL:=⟨h1,h2,h3,h4,h5,h6,h7,h8⟩
def wY (hi:PI X target iter wi)(hg:∀C s H fp,PG (rP X (tn++fr) scope (bx X.env fr) C s H fp) target g)(ht:∀C s H fp,PF (rP X (tn++fr) scope (bx X.env fr) C s H fp) ifs tt)(he:∀{C s H fp},PE (rP X (tn++fr) scope (bx X.env fr) C s H fp) elt te)
  (hc:X.calm=true:=by rfl) (B:wI X scope fr mL:=by exact Jz) (hs:∀x,Q0 iter X.env x=pure x:=by intro _;rfl):PE X (.ListComp elt [⟨target,iter,ifs,0⟩] scope pos) (qH tn.length mL wi g tt te):=IF hc B hi hg ht (fun _ _ _ _=>he) hs
def Zz (hN:(tn++fr).Nodup)(h0:(tn++fr)[0]?=some y)(hx:∀C s H fp,Loc (rP X (tn++fr) scope (bx X.env fr) C s H fp).env.scope y)(hl:∀C s H fp,(rP X (tn++fr) scope (bx X.env fr) C s H fp).fn y=true\/(rP X (tn++fr) scope (bx X.env fr) C s H fp).env.scope.names.lookup y=some .local):∀C s H fp,PG (rP X (tn++fr) scope (bx X.env fr) C s H fp) (.Name y py) (b_ 0):=fun C s H fp=>fj hN h0 (hx C s H fp) (hl C s H fp)
def df (hi:PI X (.Name y py) iter wi)(he:∀{C s H fp},PE (rP X (tn++fr) scope (bx X.env fr) C s H fp) elt te)
  (hc:X.calm=true:=by rfl) (B:wI X scope fr mL:=by exact Jz) (hs:∀x,Q0 iter X.env x=pure x:=by intro _;rfl) (hN:(tn++fr).Nodup:=by decide+kernel) (h0:(tn++fr)[0]?=some y:=by rfl) (hx:∀C s H fp,Loc (rP X (tn++fr) scope (bx X.env fr) C s H fp).env.scope y:=by exact fun _ _ _ _=>.inl rfl) (hl:∀C s H fp,(rP X (tn++fr) scope (bx X.env fr) C s H fp).fn y=true\/(rP X (tn++fr) scope (bx X.env fr) C s H fp).env.scope.names.lookup y=some .local:=by intro _ _ _ _;first|exact .inl rfl|exact .inr rfl):PE X (.ListComp elt [⟨.Name y py,iter,[],0⟩] scope pos) (qH tn.length mL wi (b_ 0) jn te):=IF hc B hi (Zz hN h0 hx hl) (fun _ _ _ _=>pH) (fun _ _ _ _=>he) hs
def Ot (hN:X.N.Nodup)(hi:PI X target iter wi)(hg:∀C s H fp,PG (rP X (tn++fr) scope (bx X.env fr) C s H fp) target g)(ht:∀C s H fp,PF (rP X (tn++fr) scope (bx X.env fr) C s H fp) ifs tt)(he:∀{C s H fp},PE (rP X (tn++fr) scope (bx X.env fr) C s H fp) elt te)
  (VH:X.N[i]?=some x:=by rfl) (hx:Loc X.env.scope x:=by first|exact .inl rfl|exact .inr rfl) (hc:X.calm=true:=by rfl) (B:wI X scope fr mL:=by exact Jz) (MI:Q9 (.ListComp elt [⟨target,iter,ifs,0⟩] scope pos) (some (.Name x py)) uX.line X.env=pure true:=by rfl)
  (hs:∀x,Q0 iter X.env x=pure x:=by intro _;rfl) (hf:X.fn x=true\/X.env.scope.names.lookup x=some .local:=by first|exact .inl rfl|exact .inr rfl|assumption):
  PS X (.Assign [.Name x py] (.ListComp elt [⟨target,iter,ifs,0⟩] scope pos) uX) (CU (qH tn.length mL wi g tt te) (b_ i)):=IG hN VH hx hc B hi hg ht (fun _ _ _ _=>he) MI hs hf
def tN (hN:X.N.Nodup)(hi:PI X (.Name y yp) iter wi)(he:∀{C s H fp},PE (rP X (tn++fr) scope (bx X.env fr) C s H fp) elt te)
  (VH:X.N[i]?=some x:=by rfl) (hx:Loc X.env.scope x:=by first|exact .inl rfl|exact .inr rfl) (hc:X.calm=true:=by rfl) (B:wI X scope fr mL:=by exact Jz) (MI:Q9 (.ListComp elt [⟨.Name y yp,iter,[],0⟩] scope pos) (some (.Name x py)) uX.line X.env=pure true:=by rfl)
  (hs:∀x,Q0 iter X.env x=pure x:=by intro _;rfl) (hf:X.fn x=true\/X.env.scope.names.lookup x=some .local:=by first|exact .inl rfl|exact .inr rfl|assumption) (hN2:(tn++fr).Nodup:=by decide+kernel) (h0:(tn++fr)[0]?=some y:=by rfl) (hx2:∀C s H fp,Loc (rP X (tn++fr) scope (bx X.env fr) C s H fp).env.scope y:=by exact fun _ _ _ _=>.inl rfl) (hl:∀C s H fp,(rP X (tn++fr) scope (bx X.env fr) C s H fp).fn y=true\/(rP X (tn++fr) scope (bx X.env fr) C s H fp).env.scope.names.lookup y=some .local:=by intro _ _ _ _;first|exact .inl rfl|exact .inr rfl):
  PS X (.Assign [.Name x py] (.ListComp elt [⟨.Name y yp,iter,[],0⟩] scope pos) uX) (CU (qH tn.length mL wi (b_ 0) jn te) (b_ i)):=IG hN VH hx hc B hi (Zz hN2 h0 hx2 hl) (fun _ _ _ _=>pH) (fun _ _ _ _=>he) MI hs hf
def aZ {E:XK}(F:Fn X.prog X.w X.K X.mg X.iN (ba P w) k x ps sp)(hr:cK l X.A)(ha:PA X (e::es) t)(hk:k<=l:=by decide)(hx:Passes (ba P w) X E:=by exact vp ba.yR)(hg:Gl X x:=by rfl)(uU:(x==("__debug__":Str))=false:=by decide)
  (he:EX (e::es) X.env=(false,DX e X.env)::EX es X.env:=by rfl) (vf:(Kw pos (EX es X.env)).any (·.1)=false:=by rfl):PE X (.Call (.Name x p) (e::es) [] pos) (HN sp [] E t):=yQ F (hr.mono hk) hx ha hg uU he vf
def qP {E:XK}(F:Fn X.prog X.w X.K X.mg X.iN (ba P w) k x ps sp)(hr:cK l X.A)(ha:PA X (e::es) t)(hk:k<=l:=by decide)(hx:Passes (ba P w) X E:=by exact T7 ba.yR rfl)(hg:Gl X x:=by rfl)(uU:(x==("__debug__":Str))=false:=by decide)
  (he:EX (e::es) X.env=(false,DX e X.env)::EX es X.env:=by rfl) (vf:(Kw pos (EX es X.env)).any (·.1)=false:=by rfl):PE X (.Call (.Name x p) (e::es) [] pos) (HN sp [] E t):=yQ F (hr.mono hk) hx ha hg uU he vf
end
end Ty
namespace T_k95
open PySem PySem.Spec PyProof.Rows L2 Ty
open Builtin.Int (intBits)
abbrev am (P:FQ)(w:World)(K:Frag)(mg:ξ)(iN:Heap):=Fn P w K mg iN (ba P w)
abbrev ap (P:FQ)(w:World)(K:Frag)(mg:ξ)(iN:Heap):=dI P w K mg iN (ba P w)
abbrev bn (P:FQ)(w:World)(K:Frag)(mg:ξ)(iN:Heap):=bL P w K mg iN (ba P w)
abbrev ce (a:AG):Option V:=some (.ref a)
theorem sq2 {a b c:TS}{D Y H}(s:let y:=c;let z:=Yo b y;Yo a z D Y H):Yo a (Yo b c) D Y H:=s
theorem sq3 {a b c d:TS}{D Y H}(s:let x:=d;let y:=Yo c x;let z:=Yo b y;Yo a z D Y H):Yo a (Yo b (Yo c d)) D Y H:=s
theorem sq4 {a b c d e:TS}{D Y H}(s:let w:=e;let x:=Yo d w;let y:=Yo c x;let z:=Yo b y;Yo a z D Y H):Yo a (Yo b (Yo c (Yo d e))) D Y H:=s
theorem sq6 {a b c d e f g:TS}{D Y H}(s:let u:=g;let v:=Yo f u;let w:=Yo e v;let x:=Yo d w;let y:=Yo c x;let z:=Yo b y;Yo a z D Y H):Yo a (Yo b (Yo c (Yo d (Yo e (Yo f g))))) D Y H:=s
theorem sq8 {a b c d e f g h i:TS}{D Y H}(s:let r:=i;let t:=Yo h r;let u:=Yo g t;let v:=Yo f u;let w:=Yo e v;let x:=Yo d w;let y:=Yo c x;let z:=Yo b y;Yo a z D Y H):Yo a (Yo b (Yo c (Yo d (Yo e (Yo f (Yo g (Yo h i))))))) D Y H:=s
theorem sq13 {a b c d e f g h i j k l m n:TS}{D Y H}(s:let F:=n;let E:=Yo m F;let C:=Yo l E;let B:=Yo k C;let A:=Yo j B;let r:=Yo i A;let t:=Yo h r;let u:=Yo g t;let v:=Yo f u;let w:=Yo e v;let x:=Yo d w;let y:=Yo c x;let z:=Yo b y;Yo a z D Y H):Yo a (Yo b (Yo c (Yo d (Yo e (Yo f (Yo g (Yo h (Yo i (Yo j (Yo k (Yo l (Yo m n)))))))))))) D Y H:=s
local macro_rules|`(tactic|sleep 2)=>`(tactic|(try dsimp only [rf,pC,Cx.yq,Cx.uS];refine sq2 ?_;intros))|`(tactic|sleep 3)=>`(tactic|(try dsimp only [rf,pC,Cx.yq,Cx.uS];refine sq3 ?_;intros))|`(tactic|sleep 4)=>`(tactic|(try dsimp only [rf,pC,Cx.yq,Cx.uS];refine sq4 ?_;intros))|`(tactic|sleep 6)=>`(tactic|(try dsimp only [rf,pC,Cx.yq,Cx.uS];refine sq6 ?_;intros))|`(tactic|sleep 8)=>`(tactic|(try dsimp only [rf,pC,Cx.yq,Cx.uS];refine sq8 ?_;intros))|`(tactic|sleep 13)=>`(tactic|(try dsimp only [rf,pC,Cx.yq,Cx.uS];refine sq13 ?_;intros))
abbrev dL:=Nat->L2.St->Hp->Prop
def z0L:0<=C_:=gt
def rh:1<=C_:=gt
def qp:2<=C_:=gt
def z3L:3<=C_:=gt
def z5L:5<=C_:=gt
def z6L:6<=C_:=gt
seal L2.PE L2.PS L2.qv L2.PA
abbrev QI:List Str:=["_law_pins_here","_law_bars_here","_law_pulls","_law_pushes"]
abbrev Mj:List Str:=["_law_one","_law_other"]
abbrev OP:List Str:=["_law_cell","_law_prime","_law_many"]
abbrev Ye:List Str:=["_law_frame_here","_law_pins_here","_law_bars_here","_law_side","_law_cell"]
abbrev K8:List Str:=["self"]
abbrev YS:List Str:=["_law_told","_law_pins_here","_law_bars_here","_law_pulls","_law_pushes"]
abbrev Mh:List Str:=["one","other"]
abbrev PQ:List Str:=["self","name","one","other"]
abbrev VT:List Str:=["_law_found","_law_k","_law_axis","_law_draw"]
abbrev YR:List Str:=["_law_told","_law_pins_here","_law_bars_here","_law_due"]
abbrev N7:List Str:=["self","pin"]
abbrev QE:List Str:=["_law_script","_law_many"]
abbrev NX:List Str:=["F","numbers"]
abbrev OB:List Str:=["F","one","other"]
abbrev VS:List Str:=["_law_pins_here","_law_bar","_law_axis"]
abbrev YH:List Str:=["_law_script","_law_pins_here","_law_bars_here"]
abbrev QD:List Str:=["_law_script","_law_k"]
abbrev RJ:List Str:=["_law_bar","_law_other"]
abbrev VR:List Str:=["_law_style","_law_at","_law_k"]
abbrev O_:List Str:=["rows","many"]
abbrev PJ:List Str:=["lines","many"]
abbrev σ9:List Str:=["_law_pins_here","_law_bars_here"]
abbrev KY:List Str:=["F"]
abbrev VQ:List Str:=["_law_top","_law_bottom"]
abbrev VN:List Str:=["_law_cell","_law_many"]
abbrev σ7:List Str:=["self","name","x","y","hold"]
abbrev RL:List Str:=["top","bottom"]
abbrev Yu:List Str:=["_law_script","_law_sides"]
abbrev Vc:List Str:=["rows","due","many"]
abbrev Yt:List Str:=["needed","column","many"]
abbrev Yq:List Str:=["F","name","one","other"]
abbrev Yp:List Str:=["line","lead","column"]
abbrev QO:List Str:=["F","load"]
abbrev QJ:List Str:=["_law_one"]
abbrev Vb:List Str:=["F","rows","at"]
abbrev VY:List Str:=["self","x","y"]
abbrev Rv:List Str:=["F","draws"]
abbrev wU:List Str:=["_law_one","_law_first"]
abbrev Yn:List Str:=["lines","column"]
abbrev Ym:List Str:=["_law_bars_here"]
abbrev Rt:List Str:=["numbers"]
abbrev zaP:List Str:=["whole","other","times","less"]
abbrev VX:List Str:=["_law_bar"]
abbrev Yl:List Str:=["self","bar"]
abbrev Yk:List Str:=["_law_many"]
abbrev wH:List Str:=["share","whole"]
abbrev VU:List Str:=["_law_k"]
def sq {N P:ψ}{sc:Scope}(a:sc.kind=.function:=by exact rfl)(b:sc.isCoroutine=false:=by exact rfl)(c:sc.isGenerator=false:=by exact rfl)(d:N.Nodup:=by decide+kernel)(e:N.take P.length=P:=by exact rfl)(f:∀x∈P,sc.names.lookup x=some .local\/sc.names.lookup x=some .cell:=by decide+kernel)(g:∀y∈sc.names,y.2≠.free:=by decide+kernel):aE N P sc:=⟨a,b,c,d,e,f,g⟩
def pY (P:FQ)(w:World){X:Cx}:Passes (ba P w) X.yq E0:=vp ba.yR
def pins {X:Cx}:Passes (ba P w) X.yq E0:=vp ba.yR
def _root_.L2.cK.mo (r:L2.cK k A)(h:j<=k:=by decide):L2.cK j A:=r.mono h
def aL (h:PE X a ta):PE X (.Subscript a (.Constant (.int i) j p1) p2) (QL (Nu X.K) ta (tC (.int i))):=Nt sQ h ag (fun _ _=>rfl)
def j5 (h:PE X a ta):PE X (.Subscript a (.Constant (.int i) j p1) p2) (QL (QW X.K) ta (tC (.int i))):=Nt aS h ag (fun _ _=>rfl)
def bl1{P:List Value->Prop}(h:∀a:Value,P [a]):∀us:List Value,us.length=1->P us|[_],_=>h _
def blS{P:List Value->Prop}{n:Nat}(h:∀a us,us.length=n->P (a::us)):∀us:List Value,us.length=n+1->P us|a::us,e=>h a us (Nat.succ.inj e)
def bl2{P:List Value->Prop}(h:∀a b:Value,P [a,b]):∀us:List Value,us.length=2->P us:=blS fun a=>bl1 (h a)
def bl3{P:List Value->Prop}(h:∀a b c:Value,P [a,b,c]):∀us:List Value,us.length=3->P us:=blS fun a=>bl2 (h a)
def bl4{P:List Value->Prop}(h:∀a b c d:Value,P [a,b,c,d]):∀us:List Value,us.length=4->P us:=blS fun a=>bl3 (h a)
def bl5{P:List Value->Prop}(h:∀a b c d e:Value,P [a,b,c,d,e]):∀us:List Value,us.length=5->P us:=blS fun a=>bl4 (h a)
def bl6{P:List Value->Prop}(h:∀a b c d e f:Value,P [a,b,c,d,e,f]):∀us:List Value,us.length=6->P us:=blS fun a=>bl5 (h a)
def bl7{P:List Value->Prop}(h:∀a b c d e f g:Value,P [a,b,c,d,e,f,g]):∀us:List Value,us.length=7->P us:=blS fun a=>bl6 (h a)
def _root_.L2.sU.CC {K:Frag}{st:Stmt}(F:L2.sU K x qual st f fd)
 (h:∀(kV doc pm:Value)(an:Ι)(cL ct:Value)(us:τ),us.length=ps.length->bindArgs (fnOf x qual (aC st) (au st) (ae st) .none kV doc pm an cL ct) ⟨us,[]⟩=pure (ps.zip us):=by intro _ _ _ _ _ _;first|exact bl1 fun _=>rfl|exact bl2 fun _ _=>rfl|exact bl3 fun _ _ _=>rfl|exact bl4 fun _ _ _ _=>rfl|exact bl5 fun _ _ _ _ _=>rfl):Binds K fd ps []:=F.binds h
inductive ox (K:Frag)(x:Str)(st:Stmt):Prop|mk{f:AG}{oc:Value}{od an:Ι}{uM:Ο}{kV doc pm cL ct:Value}(a:nsIn K K0 x=some (some (.ref f)))(l:K.lookup f=some ⟨oc,od,.func (fnOf x x (aC st) (au st) (ae st) .none kV doc pm an cL ct),uM⟩)(c:codeIn K cL x=true)(k:keepIn K (.ref f)=true):ox K x st
inductive rg (K:Frag)(C:AG)(x q:Str)(st:Stmt):Prop|mk{f:AG}{oc:Value}{od an:Ι}{uM:Ο}{kV doc pm cL ct:Value}(a:Kl K (.ref C) x=some (some (.ref f)))(i:Vl K (.ref f)=true)(l:K.lookup f=some ⟨oc,od,.func (fnOf x q (aC st) (au st) (ae st) .none kV doc pm an cL ct),uM⟩)(c:codeIn K cL q=true)(k:keepIn K (.ref f)=true):rg K C x q st
def gu {K:Frag}{mg:ξ}{st:Stmt}(X:K.In h)(G:h.Ns K0 mg)(H:ox K x st)
 (b:∀(kV doc pm:Value)(an:Ι)(cL ct:Value)(us:τ),us.length=ps.length->bindArgs (fnOf x x (aC st) (au st) (ae st) .none kV doc pm an cL ct) ⟨us,[]⟩=pure (ps.zip us):=by intro _ _ _ _ _ _;first|exact bl1 fun _=>rfl|exact bl2 fun _ _=>rfl|exact bl3 fun _ _ _=>rfl|exact bl4 fun _ _ _ _=>rfl|exact bl5 fun _ _ _ _ _=>rfl|exact bl6 fun _ _ _ _ _ _=>rfl|exact bl7 fun _ _ _ _ _ _ _=>rfl):Def K mg x st ps:=have ⟨a,l,c,k⟩:=H;Def.of (eY l c k) ((eY l c k).binds b) (mg_of X G a)
def top (i:Nat):Stmt:=PySem.Challenge.pw_trussyard_k95_whole_long_chains.main.body.getD i (.Pass ⟨0,0,0,0⟩)
abbrev EA:Stmt:=top 14
abbrev zA:Stmt:=top 15
abbrev K':Stmt:=top 16
abbrev La:Stmt:=top 19
abbrev EB:Stmt:=top 20
abbrev f7:Stmt:=top 22
abbrev Lb:Stmt:=top 23
abbrev Lc:Stmt:=top 24
abbrev Ld:Stmt:=top 25
abbrev Le:Stmt:=top 26
abbrev Lf:Stmt:=top 27
abbrev Lg:Stmt:=top 28
abbrev Lh:Stmt:=top 29
abbrev Li:Stmt:=top 31
abbrev dc:Stmt:=top 32
abbrev d3:Stmt:=top 33
abbrev Lj:Stmt:=top 34
abbrev Lk:Stmt:=top 35
abbrev Ll:Stmt:=top 36
abbrev Lm:Stmt:=top 37
abbrev Lo:Stmt:=top 38
abbrev Lp:Stmt:=top 39
abbrev Lq:Stmt:=top 40
abbrev fF:Stmt:=top 42
abbrev d_:Stmt:=top 44
abbrev fG:Stmt:=top 45
abbrev fH:Stmt:=top 47
abbrev Lr:Stmt:=top 48
abbrev Ls:Stmt:=top 49
abbrev Lu:Stmt:=top 59
abbrev Lv:Stmt:=top 61
abbrev Lw:Stmt:=top 62
abbrev Ly:Stmt:=top 63
abbrev Lz:Stmt:=top 64
abbrev LA:Stmt:=top 65
abbrev LB:Stmt:=top 66
abbrev f9:Stmt:=top 67
abbrev LC:Stmt:=top 68
abbrev fJ:Stmt:=top 69
abbrev fK:Stmt:=top 70
abbrev LD:Stmt:=top 71
abbrev fL:Stmt:=top 72
abbrev LF:Stmt:=top 73
abbrev LG:Stmt:=top 74
abbrev LH:Stmt:=top 75
abbrev LI:Stmt:=top 76
abbrev LJ:Stmt:=top 77
abbrev LK:Stmt:=top 78
abbrev f_:Stmt:=top 79
abbrev cA:Stmt:=top 80
abbrev cS:Stmt:=top 81
abbrev LL:Stmt:=top 82
abbrev s_by:Stmt:=top 83
abbrev cH:Stmt:=top 84
abbrev nE:Stmt:=top 85
abbrev LM:Stmt:=inClass (top 53) 0
abbrev rB:Stmt:=inClass (top 53) 1
abbrev LN:Stmt:=inClass (top 53) 2
abbrev LO:Stmt:=inClass (top 53) 3
abbrev LP:Stmt:=inClass (top 53) 4
abbrev LQ:Stmt:=inClass (top 53) 7
abbrev LR:Stmt:=inClass (top 53) 8
abbrev LS:Stmt:=inClass (top 53) 9
abbrev LU:Stmt:=inClass (top 53) 10
abbrev LV:Stmt:=inClass (top 53) 11
abbrev Ru:Stmt:=inClass (top 55) 0
abbrev LW:Stmt:=inClass (top 56) 0
abbrev LX:Stmt:=inClass (top 56) 1
abbrev LY:Stmt:=inClass (top 57) 0
section
variable {P:FQ}{w:World}{K:Frag}{mg:ξ}{iN:Heap}{CX:mR}
def Nm (H:Hp)(v:V)(q:Int×Int):Prop:=∃p,v=.ref p/\H p=some (.tup [.int q.1,.int q.2])
structure ZA (k:Nat)(q:Int×Int):Prop where
 pos:0<q.2
 top:intBits q.1<=k
 bot:intBits q.2<=k
def aH (h:H p=none)(o:HO):aq H (upd H p o):=fun b u q=>by rwa [ao (ak q h)]
def nw (n:H l=none)(e:upd H l o=H'):aq H H'/\H' l=some o:=by subst e;show ⟨aH n o,aj⟩
local macro_rules|`(tactic|intros $l:ident $n:ident $h:ident $s:ident $e:ident)=>`(tactic|(intro $l:ident $n:ident;generalize eX:upd _ $l _=$h;have ⟨$s,$e⟩:=nw $n eX))
def gives (H:Hp)(Q:VK)(q:Int×Int):Prop:=∀(p:AG)(H':Hp),aq H H' ->H' p=some (.tup [.int q.1,.int q.2])->Q (.ref p) H'
inductive i9 (vs:θ)(H:Hp)(Q:VK)(E_:XK):Prop
|mk (a b:Int)(_:vs=[.int a,.int b])(_:Q (.int (gz a b)) H)
def subQ (x y:Int×Int):Int×Int:=low (x.1*y.2-y.1*x.2) (x.2*y.2)
def zaK (hx:ZA k x)(hy:ZA l y):x.2*y.2≠0:=NA (Og hx.pos hy.pos)
def j6 {a b:V}:gS [a,b] 0=some a:=rfl
def jN {a b:V}:gS [a,b] 1=some b:=rfl
def Nm.kept (h:Nm H v q)(hD:H D=some (.lst ys))(k:bh D H H'):Nm H' v q:=by
 obtain ⟨p,e,z⟩:=h;show ⟨p,e,k p _ (fun e=>by erw [e,hD] at z) z⟩
inductive Ln (H:Hp)(v:V)(l:π):Prop
|mk (p:_)(_:v=.ref p)(_:H p=some (.lst (l.map V.int)))
def Ln.ji (h:Ln H v l)(s:aq H H'):Ln H' v l:=by
 obtain ⟨p,e,k⟩:=h;show ⟨p,e,s _ _ k⟩
def tQ (H:Hp)(us:θ)(ls:ζ):Prop:=us.length=ls.length/\∀(i:Nat)(u:V)(l:π),us[i]?=some u->ls[i]?=some l->Ln H u l
theorem tQ.ji (h:tQ H us ls)(s:aq H H'):tQ H' us ls:=⟨h.1,fun i u l e1 e2=>(h.2 i u l e1 e2).ji s⟩
def qQ {l:π}(h:j<l.length):gS (l.map V.int) (j:Int)=some (.int (l.getD j 0)):=bE (by rw [Wp,gE h,KU,gE h];rfl)
def getD_mem {l:π}(e:l[j]?=some x):l.getD j 0=x:=by rw [KU,e];rfl
def Bd (b:Nat)(l:π):Prop:=∀j,(l.getD j 0).natAbs<=2^b
def Bd.mem (h:Bd b l)(hx:x∈l):x.natAbs<=2^b:=by
 obtain ⟨i,hi⟩:=D_ hx;rw [<-getD_mem hi];exact h i
def Bd.up (h:Bd b l)(hc:b<=c):Bd c l:=fun j=>tu (h j) hc
def JA:aE ["one","other","left"] Mh (ae K'):=sq
def aiB (D:Def K mg "greatest_shared" K' Mh)(vE:mg "abs"=none):Fn P w K mg iN CX 1 "greatest_shared" Mh i9:=by
 refine D.oo JA fun H hr h=>?_;obtain ⟨a,b,rfl,q⟩:=h
 show ⟨_,(aa (yA K6 (bW qB (pv 1) ag) (aa (aG 2 JA.nd (aF gP (pv 0) (pv 1))) (aa (aG 0 JA.nd (pv 1)) (ah (aG 1 JA.nd (pv 2)))))) (ah (aJ (aK yC rfl vE TY (aV (pv 0)))))),?_⟩
 refine yB (fun Y H'=>I_ fun (x y:Int) (l:Α)=>Y=[some (.int x),some (.int y),l]/\H'=H/\KP x y=KP a b) (fun Y _=>match Y with|[_,some (.int y),_]=>y.natAbs|_=>0) ⟨a,b,none,rfl,rfl,rfl⟩ ?_ ?_
 ·rintro Y H' ⟨x,y,l,rfl,rfl,g⟩
  show ⟨_,rfl,rfl,_,rfl,?_⟩;refine bU (fun c=>?_) (fun c=>?_)
  ·let hy:y≠0:=by
    intro z;subst z;simp at c
   show ⟨_,rfl,_,rfl,_,_,rfl,rfl,hy,_,rfl,_,rfl,⟨_,_,_,rfl,rfl,by rwa [yL]⟩,vn hy⟩
  ·let hy:y=0:=by
    have:=QS.mpr c;simp at this;exact this
   subst hy;show ⟨_,rfl,x,rfl,?_⟩
   let e:(if x<0 then -x else x)=gz a b:=by
    rw [ah'] at g;unfold gz;rw [<-g];split<;>omega
   rwa [e]
 ·rintro Y H' Q1 Q2 h ⟨v,e1,e2,k,ek,z⟩
  show ⟨v,e1,e2,k,ek,h _ _ z⟩
inductive gU (vs:θ)(H:Hp)(Q:VK)(E_:XK):Prop
|mk (t b:Int)(_:vs=[.int t,.int b])(_:b≠0)(_:gives H Q (low t b))
def Ou:aE ["top","bottom","shared"] RL (ae zA):=sq
def aiA (ht:P.given.tree=none)(D:Def K mg "lowest_terms" zA RL)(EC:am P w K mg iN 1 "greatest_shared" Mh i9):am P w K mg iN 33 "lowest_terms" RL gU:=by
 refine D.op Ou fun f cL A lj s H vs Q E hr h=>?_;obtain ⟨t,b,rfl,hb,q⟩:=h
 let ZE:∃tt,qv (pC (ba P w) P w K mg iN ["top","bottom","shared"] "lowest_terms" (ae zA) f cL A lj s H E).yq ((au zA).drop 2) tt/\∀g:Int,g=sg t b->tt {nx:=fun _ H'=>Q .dw H',rt:=Q} [some (.int t),some (.int b),some (.int g)] H:=by
  show ⟨_,(ah (aJ (aR (aT (aF (g7 ht (Ty.cK.py hr gt) rfl rfl rfl rfl rfl) (pv 0) (pv 2)) (aF (g7 ht (Ty.cK.py hr gt) rfl rfl rfl rfl rfl) (pv 1) (pv 2)))))),?_⟩;rintro g rfl;let c:=sX (t:=t) hb;show ⟨_,rfl,_,rfl,_,_,rfl,rfl,c,_,rfl,_,rfl,_,_,rfl,rfl,c,qp,fun p hp=>?_⟩;exact q p _ (aH hp _) aj
 obtain ⟨t2,p2,q2⟩:=ZE;show ⟨_,(aa (aG 2 Ou.nd (aZ EC hr (aT (pv 0) (pv 1)))) (aa (bI (bW Nf (pv 1) ag) (ah (aG 2 Ou.nd (iA fO (pv 2)))) a_) p2)),_,rfl,_,rfl,t,b,rfl,_,rfl,_,_,rfl,rfl,_,rfl,?_⟩;refine bU (fun c=>?_) (fun c=>?_)
 ·show ⟨_,rfl,_,rfl,q2 _ ?_⟩
  let c':b<0:=Km c;unfold sg;rw [mK c']
 ·refine q2 _ ?_
  let c':¬ b<0:=of_decide_eq_false (QS.mpr c);unfold sg;rw [mJ c']
inductive Rw (K:Frag)(vs:θ)(H:Hp)(Q:VK)(E_:XK):Prop
|mk (a:AG)(qs:ο)(T B:Nat)(_:vs=[.ref a])(_:agq K H a qs)(_:(∀q∈qs,Sm T B q))(_:T<=20000)(_:B*qs.length<=100000)(_:B<=8000)(_:qs.length<=1000)(_:∀(p l:AG)(ts:π)(b:Int)(H':Hp),aq H H' ->H l=none->H' p=some (.tup [.ref l,.int b])->H' l=some (.lst (ts.map V.int))->0<b->b.natAbs<=2^(B*qs.length)->jB ts qs b->(∀t∈ts,t.natAbs<=2^(T+B*qs.length))->Q (.ref p) H')
def JB:aE ["row","bottom","number"] ["row"] (ae Lk):=sq
def ahf (D:Def K mg "whole_row" Lk ["row"])(EC:am P w K mg iN 1 "greatest_shared" Mh i9):am P w K mg iN 2 "whole_row" ["row"] (Rw K):=by
 refine D.oo JB fun H hr h=>?_;obtain ⟨a,qs,T,B,rfl,⟨us,hS,hN⟩,sm,hT,hB,hB1,hl,q⟩:=h
 show ⟨_,(aa (aG 1 JB.nd ag) (aa (bG K6 rfl (bu (pv 0)) (b9 2 JB.nd) (ah (aG 1 JB.nd (aF bY (aF s_ (pv 1) (aZ EC hr (aT (pv 1) (aL (pv 2))))) (aL (pv 2)))))) (ah (aJ (aR (aT (df (tn:=["number"]) (fr:=["bottom"]) (mL:=[1]) (bu (pv 0)) (aF bY (bD (dz (K:=K) rfl) (pv 0) ag) (aF s_ (pv 1) (bD (dz (K:=K) rfl) (pv 0) ag)))) (pv 1))))))),?_⟩;sleep 2
 let hlu:=hN.1
 let qat:∀{i:Nat} {u:V},us[i]?=some u->∃q,qs[i]?=some q/\oY K H u q/\Sm T B q:=fun {i u} e=>by
  let hi:i<us.length:=(be.mp e).1;let e2:qs[i]?=some (qs[i]'ga):=gE ga;show ⟨_,e2,hN.2 i u _ e e2,sm _ (V5 _)⟩
 show ⟨_,rfl,a,rfl,⟨_,hS⟩,let I:dL:=fun i Y H'=>P7 fun (b:Int) (o:Α)=>Y=[ce a,some (.int b),o]/\H'=H/\0<b/\b.natAbs<=2^(B*i)/\∀j,j<i->∀q,qs[j]?=some q->q.2 ∣ b;cC (K:=K) (a:=a) (xs:=us) I ⟨1,none,rfl,rfl,gt,by simp,fun j h=>DL h (Oi _)⟩ (fun i Y H' _ ⟨b,o,_,e,_⟩=>by rwa [e]) ?_ ?_⟩
 ·rintro i u Y H' hu ⟨b,o,rfl,rfl,hb,hs,hd⟩
  obtain ⟨n,en,⟨p,rfl,hp⟩,sn⟩:=qat hu;let hi:i<qs.length:=(be.mp en).1;let nb:n.2.natAbs<=2^B:=sn.bot;obtain ⟨l1,l2,l3,l4⟩:=acX hb sn.pos;let gp:=wC (t:=b) (b:=n.2) (by have:=sn.pos;omega);let gl:=zaj (t:=b) (b:=n.2) (by have:=sn.pos;omega)
  let sz:(b.fdiv (gz b n.2)*n.2).natAbs<=2^(B*(i+1)):=by
   refine DC l4 ?_;rw [Nat.mul_succ,Rz];exact Mc hs nb
  let bi:B*i<=100000:=DC (Nat.mul_le_mul_left B ga) hB;let g1:gz b n.2 ∣ b:=V4 ..;show ⟨_,rfl,_,rfl,_,rfl,p,_,_,_,rfl,rfl,hp,jN,b,n.2,rfl,_,_,rfl,rfl,⟨ga,DC (kF (DC gl nb) (NM B)) ga⟩,_,rfl,p,_,_,_,rfl,rfl,hp,jN,_,_,rfl,rfl,rT (DC (iZ ga g1) hs) nb ga ga,_,_,rfl,rfl,l1,sz,fun j hj q' e'=>?_⟩
  rcases Rc.mp hj with z|z
  ·exact Int.dvd_trans (hd j z q' e') l2
  ·subst z
   erw [en] at e';exact l3
 ·rintro Y H' ⟨b,o,rfl,rfl,hb,hs,hd⟩
  rw [hlu] at hs hd;show ⟨_,rfl,a,rfl,⟨_,hS⟩,fun D nD=>?_⟩;refine dN (oe:=[some (.int b)]) (K:=K) (a:=a) (xs:=us) (fun i v _=>∃q,qs[i]?=some q/\v=.int (q.1*b.fdiv q.2)) nD (by rw [hlu];exact FU hl gt) (fun H2 s2=>s2.seq hS) (fun _ _ _ _ _ _ _ h=>h) ?_ ?_
  ·intro i u H2 R hu s2 k
   obtain ⟨n,en,⟨p,rfl,hp⟩,sn⟩:=qat hu;let σ8:=Ty.aq.cp s2 hp;let dv:=hd i (be.mp en).1 n en;let n0:n.2≠0:=by have:=sn.pos;omega
   show ⟨_,rfl,p,_,_,_,rfl,rfl,σ8,j6,_,rfl,_,rfl,p,_,_,_,rfl,rfl,σ8,jN,_,_,rfl,rfl,⟨n0,DC (kF sn.bot (NM B)) ga⟩,_,_,rfl,rfl,rT sn.top (DC (iZ n0 dv) hs) ga ga,k _ _ (aq.refl _) ⟨n,en,rfl⟩⟩
  ·intro ys H2 hy h_ s2 hD
   let ey:ys=(qs.map fun n=>n.1*b.fdiv n.2).map V.int:=by
    refine Mt fun i=>?_;by_cases hi:i<ys.length
    ·let e1:ys[i]?=some ys[i]:=gE hi
     obtain ⟨n,en,ev⟩:=h_ i _ e1;rw [e1,ev,Wp,Wp,en];rfl
    ·rw [EZ ga,EZ (by simp;omega)]
   show ⟨_,rfl,qp,fun p np=>?_⟩;let s3:=aH np (.tup [.ref D,.int b]);refine q p D (qs.map fun n=>n.1*b.fdiv n.2) b _ (s2.trans s3) nD aj (s3 _ _ (by rw [hD,ey])) hb hs ⟨by simp,fun i t n e1 e2=>?_⟩ (fun t ht=>?_)
   ·rw [Wp,e2] at e1
    have T3 :n.1*b.fdiv n.2=t:=FA e1;rw [<-T3];exact abN (sm n (DE e2)).pos (hd i (be.mp e2).1 n e2)
   ·obtain ⟨n,hn,rfl⟩:=CZ.mp ht
    obtain ⟨i,hi⟩:=D_ hn;let n0:n.2≠0:=by have:=(sm n hn).pos;omega
    exact wL (sm n hn).top (DC (iZ n0 (hd i (be.mp hi).1 n hi)) hs)
structure Dv (l l':π):Prop where
 len:l'.length=l.length
 Ug:∃g:Int,g≠0/\∀j,g*l'.getD j 0=l.getD j 0
def V' (l:π):Prop:=Zx l\/∀j,l.getD j 0=0
def zB {l:π}(h:∀j,d ∣ l.getD j 0){i:Nat}(e:l[i]?=some x):d ∣ x:=by
 rw [<-getD_mem e];exact h i
inductive qb (vs:θ)(H:Hp)(Q:VK)(E_:XK):Prop
|mk (v:V)(l:π)(_:vs=[v])(_:Ln H v l)(_:l.length<=1000)(_:∀v' l' H',aq H H' ->Ln H' v' l' ->Dv l l' ->V' l' ->(v'=v\/∃p,v'=.ref p/\H p=none)->Q v' H')
def agp (l:π):Dv l l:=⟨rfl,1,gt,fun j=>Int.one_mul _⟩
def JC:aE ["line","shared","whole"] ["line"] (ae Lq):=sq
def ahc (ht:P.given.tree=none)(D:Def K mg "divided" Lq ["line"])(EC:am P w K mg iN 1 "greatest_shared" Mh i9):am P w K mg iN 33 "divided" ["line"] qb:=by
 refine D.op JC fun f cL A lj s H vs Q E hr h=>?_;obtain ⟨v,l,rfl,⟨a,rfl,ha⟩,hn,q⟩:=h;let ji:V' l->Q (.ref a) H:=fun pz=>q _ l H (aq.refl H) ⟨a,rfl,ha⟩ (agp l) pz (.inl rfl)
 show ⟨_,(aa (aG 1 JC.nd ag) (aa (bG K6 rfl (bu (pv 0)) (b9 2 JC.nd) (aa (aG 1 JC.nd (aZ EC hr (aT (pv 2) (pv 1)))) (ah (bI (bW eR (pv 1) ag) (ah (aJ (pv 0))) a_)))) (ah (aJ (yy (bW Ng (pv 1) ag) (df (tn:=["whole"]) (fr:=["shared"]) (mL:=[1]) (bu (pv 0)) (aF (g7 ht (Ty.cK.py hr gt) rfl rfl rfl rfl rfl) (pv 0) (pv 1))) (pv 0)))))),?_⟩;sleep 2
 show ⟨_,rfl,a,rfl,⟨_,aU.of ha⟩,let I:dL:=fun i Y H'=>P7 fun (g:Int) (o:Α)=>Y=[ce a,some (.int g),o]/\H'=H/\0<=g/\(∀j,j<i->∀x,l[j]?=some x->g ∣ x)/\(∀d:Int,(∀j,j<i->∀x,l[j]?=some x->d ∣ x)->d ∣ g)/\(0<i->g≠1);cC (K:=K) (a:=a) (xs:=l.map V.int) I ⟨0,none,rfl,rfl,gt,(fun j h=>DL h (Oi _)),(fun d _=>Int.dvd_zero d),fun h=>DL h (O6 _)⟩ (fun i Y H' _ ⟨g,o,_,e,_⟩=>by rw [e];exact aU.of ha) ?_ ?_⟩
 ·rintro i u Y H' hu ⟨g,o,rfl,rfl,g0,hg,hd,_⟩
  rw [Wp] at hu;obtain ⟨x,ex,rfl⟩:=K9.mp hu;let d1:gz x g ∣ x:=V4 ..;let d2:gz x g ∣ g:=V3 ..;let p0:0<=gz x g:=Int.natCast_nonneg _;show ⟨_,rfl,_,rfl,x,g,rfl,_,rfl,rfl,_,rfl,?_⟩;refine bU (fun z=>⟨_,rfl,ji (.inl fun d Tx =>?_)⟩) (fun z=>?_)
  ·let z':gz x g=1:=by simpa using Km z
   let h1:d ∣ gz x g:=an0 (zB Tx ex) (hd d fun j _ y ey=>zB Tx ey);rw [z'] at h1;have:=Z_.mpr h1;simpa using this
  show ⟨_,_,rfl,rfl,p0,fun j hj y ey=>?_,fun d h=>?_,fun _ e=>z (by rw [e];rfl)⟩
  ·rcases Rc.mp hj with z|z
   ·exact Int.dvd_trans d2 (hg j z y ey)
   ·subst z
    erw [ex] at ey;exact d1
  ·exact an0 (h i (NM _) x ex) (hd d fun j hj y ey=>h j (QT hj) y ey)
 ·rintro Y H' ⟨g,o,rfl,rfl,g0,hg,hd,hg1⟩
  rw [ir] at hg hd hg1;show ⟨_,rfl,_,_,rfl,rfl,_,rfl,bU (fun c=>?_) (fun c=>⟨_,rfl,ji (.inr fun j=>?_)⟩)⟩;rotate_left
  ·let c':¬ (1:Int)<g:=fun z=>c (Kk z)
   by_cases hj:j<l.length
   ·let gz:g=0:=by
     have:=hg1 ga;omega
    let ej:l[j]?=some l[j]:=gE hj;have:=hg j hj _ ej;rw [gz] at this;rw [getD_mem ej];exact Int.zero_dvd.mp this
   ·rw [KU,EZ ga]
    rfl
  let g1:(1:Int)<g:=Km c;let gn:g≠0:=ga
  show ⟨_,rfl,a,rfl,⟨_,aU.of ha⟩,fun D nD=>?_⟩;refine dN (oe:=[some (.int g)]) (K:=K) (a:=a) (xs:=l.map V.int) (fun i v _=>∃x,l[i]?=some x/\v=.int (x.fdiv g)) nD (by rw [ir];exact FU hn gt) (fun H2 s2=>aU.of (s2 _ _ ha)) (fun _ _ _ _ _ _ _ h=>h) ?_ ?_
  ·intro i u H2 R hu s2 k
   rw [Wp] at hu;obtain ⟨x,ex,rfl⟩:=K9.mp hu;show ⟨_,rfl,_,rfl,_,_,rfl,rfl,gn,k _ _ (aq.refl _) ⟨x,ex,rfl⟩⟩
  ·intro ys H2 hy h_ s2 hD
   rw [ir] at hy
   let ey:ys=(l.map fun x=>x.fdiv g).map V.int:=by
    refine Mt fun i=>?_;by_cases hi:i<ys.length
    ·let e1:ys[i]?=some ys[i]:=gE hi
     obtain ⟨x,ex,ev⟩:=h_ i _ e1;rw [e1,ev,Wp,Wp,ex];rfl
    ·rw [EZ ga,EZ (by simp;omega)]
   let Ug:∀j,g*(l.map fun x=>x.fdiv g).getD j 0=l.getD j 0:=fun j=>by
    by_cases hj:j<l.length
    ·let ej:l[j]?=some l[j]:=gE hj
     rw [getD_mem (l:=l.map fun x=>x.fdiv g) (x:=l[j].fdiv g) (by rw [Wp,ej];rfl),getD_mem ej];exact (de gn (hg j hj _ ej)).symm
    ·rw [KU,KU,EZ (by simp;omega),EZ ga]
     simp
   refine q _ (l.map fun x=>x.fdiv g) H2 s2 ⟨D,rfl,by rw [hD,ey]⟩ ⟨by simp,g,gn,Ug⟩ (.inl fun d Tx =>?_) (.inr ⟨D,rfl,nD⟩)
   let h1:d*g ∣ g:=hd (d*g) fun j hj x ex=>by
    rw [<-getD_mem ex,<-Ug j,Px];exact Int.mul_dvd_mul_left g (Tx j)
   obtain ⟨k,hk⟩:=h1
   let h2:g*(d*k)=g*1:=by
    rw [Int.mul_one];rw [<-WE,Px g d];exact hk.symm
   let h3:=Int.eq_of_mul_eq_mul_left gn h2;let h4:d ∣ 1:=⟨k,h3.symm⟩;simpa using Z_.mpr h4
inductive qc (vs:θ)(H:Hp)(Q:VK)(E_:XK):Prop
|mk (u v:V)(l m:π)(c b1 b2:Nat)(_:vs=[u,v,.int (c:Int)])(_:Ln H u l)(_:Ln H v m)(_:m.length=l.length)(_:c<l.length)(_:l.length<=1000)(_:m.getD c 0≠0)(_:Bd b1 l)(_:Bd b2 m)(_:b1<=29000000)(_:b2<=29000000)(_:∀v' l' H',aq H H' ->Ln H' v' l' ->uN l m l' c->Bd (b1+b2+1) l' ->(l'=l\/V' l')->(v'=u\/∃p,v'=.ref p/\H p=none)->Q v' H')
def aga (ha:a≠0):a=gz a b*a.fdiv (gz a b)/\b=gz a b*b.fdiv (gz a b)/\gz a b≠0/\a.fdiv (gz a b)≠0/\(a.fdiv (gz a b)).natAbs<=a.natAbs/\(b.fdiv (gz a b)).natAbs<=b.natAbs:=by
 let gn:gz a b≠0:=by
  intro z;let z':((KP a b:Nat):Int)=0:=z;have:KP a b=0:=ga
  exact ha (Int.gcd_eq_zero_iff.mp this).1
 let d1:gz a b ∣ a:=V4 ..;let d2:gz a b ∣ b:=V3 ..;let e1:=de gn d1;show ⟨e1,de gn d2,gn,fun z=>?_,iZ gn d1,iZ gn d2⟩;rw [z,Sf] at e1;exact ha e1
def agY {l m:π}{ys:θ}(hl:m.length=l.length)(hy:ys.length=l.length)(h:∀(i:Nat)(v:V),ys[i]?=some v->∃x y,l[i]?=some x/\m[i]?=some y/\v=.int (t*x-u*y)):ys=(NZ (fun x y=>t*x-u*y) l m).map V.int:=by
 refine Mt fun i=>?_;by_cases hi:i<ys.length
 ·let e1:ys[i]?=some ys[i]:=gE hi
  obtain ⟨x,y,ex,ey,ev⟩:=h i _ e1;rw [e1,ev,Wp,Wr,ex,ey];rfl
 ·rw [EZ ga,EZ (by simp;omega)]
def aci {l m:π}(hl:m.length=l.length)(j:Nat):(NZ (fun x y=>t*x-u*y) l m).getD j 0=t*l.getD j 0-u*m.getD j 0:=by
 by_cases hj:j<l.length
 ·let e1:l[j]?=some l[j]:=gE hj
  let e2:m[j]?=some (m[j]'ga):=gE ga;rw [getD_mem e1,getD_mem e2];exact getD_mem (by rw [Wr,e1,e2])
 ·rw [KU,KU,KU,EZ (by simp;omega),EZ ga,EZ ga]
  simp
def JD:aE ["line","lead","column","shared","times","less"] Yp (ae Lp):=sq
def ahZ (ht:P.given.tree=none)(D:Def K mg "cleared" Lp Yp)(lJ:mg "zip"=none)(EC:am P w K mg iN 1 "greatest_shared" Mh i9)(agC:am P w K mg iN 33 "divided" ["line"] qb):am P w K mg iN 34 "cleared" Yp qc:=by
 refine D.oo JD fun H hr h=>?_;obtain ⟨u,v,l,m,c,b1,b2,rfl,⟨a,rfl,ha⟩,⟨a',rfl,ha'⟩,hl,hc,hn,hm,B1,B2,hb1,hb2,q⟩:=h
 show ⟨_,(aa (bI (bW eR (bD aS (pv 0) (pv 2)) ag) (ah (aJ (pv 0))) a_) (aa (aG 3 JD.nd (aZ EC hr (aT (bD aS (pv 1) (pv 2)) (bD aS (pv 0) (pv 2))))) (aa (aG 4 JD.nd (aF (g7 ht (Ty.cK.py hr gt) rfl rfl rfl rfl rfl) (bD aS (pv 1) (pv 2)) (pv 3))) (aa (aG 5 JD.nd (aF (g7 ht (Ty.cK.py hr gt) rfl rfl rfl rfl rfl) (bD aS (pv 0) (pv 2)) (pv 3))) (ah (aJ (aZ agC hr (aV (wY (tn:=["whole","other"]) (fr:=["times","less"]) (mL:=[4,5]) (DI rfl lJ (aT (pv 0) (pv 1))) (fun _ _ _ _=>(rS (K:=K) (n:=2) rfl rfl (aY (fj (i:=0) (show (zaP:List Str).Nodup from by decide+kernel) rfl (NY rfl)) (aY (fj (i:=1) (show (zaP:List Str).Nodup from by decide+kernel) rfl (NY rfl)) cZ)))) (fun _ _ _ _=>pH) (aF dB (aF bY (pv 2) (pv 0)) (aF bY (pv 3) (pv 1)))))))))))),?_⟩;sleep 4
 let ea:=qQ (l:=l) hc;let em:=qQ (l:=m) (j:=c) ga;show ⟨_,rfl,_,rfl,a,_,_,_,rfl,rfl,aU.of ha,ea,rfl,_,rfl,?_⟩;refine bU (fun z=>?_) (fun z=>?_)
 ·let z':l.getD c 0=0:=by simpa using Km z
  show ⟨_,rfl,q _ l H (aq.refl H) ⟨a,rfl,ha⟩ ⟨rfl,z',1,1,0,gt,gt,fun j=>ga⟩ (B1.up ga) (.inl rfl) (.inl rfl)⟩
 ·obtain ⟨f1,f2,f3,f4,f5,f6⟩:=aga (a:=m.getD c 0) (b:=l.getD c 0) hm
  show ⟨_,rfl,_,rfl,a',_,_,_,rfl,rfl,aU.of ha',em,_,rfl,_,rfl,a,_,_,_,rfl,rfl,aU.of ha,ea,_,_,rfl,_,rfl,_,rfl,a',_,_,_,rfl,rfl,aU.of ha',em,_,rfl,_,_,rfl,rfl,f3,_,rfl,_,rfl,a,_,_,_,rfl,rfl,aU.of ha,ea,_,rfl,_,_,rfl,rfl,f3,_,rfl,_,rfl,a,a',rfl,⟨_,aU.of ha⟩,⟨_,aU.of ha'⟩,fun D1 n1=>?_⟩;let st:((m.getD c 0).fdiv (gz (m.getD c 0) (l.getD c 0))).natAbs<=2^b2:=DC f5 (B2 c);let su:((l.getD c 0).fdiv (gz (m.getD c 0) (l.getD c 0))).natAbs<=2^b1:=DC f6 (B1 c);refine yT (oe:=[some (.int ((m.getD c 0).fdiv (gz (m.getD c 0) (l.getD c 0)))),some (.int ((l.getD c 0).fdiv (gz (m.getD c 0) (l.getD c 0))))]) (K:=K) (xs:=l.map V.int) (ys:=m.map V.int) (fun i v _=>∃x y,l[i]?=some x/\m[i]?=some y/\v=.int ((m.getD c 0).fdiv (gz (m.getD c 0) (l.getD c 0))*x-(l.getD c 0).fdiv (gz (m.getD c 0) (l.getD c 0))*y)) n1 (by rw [ir];exact FU hn gt) (by simpa using hl) (fun H2 s2=>aU.of (s2 _ _ ha)) (fun H2 s2=>aU.of (s2 _ _ ha')) (fun _ _ _ _ _ _ _ h=>h) ?_ ?_
  ·intro i x y H2 R ex ey s2 k
   rw [Wp] at ex ey;obtain ⟨x',MU,rfl⟩:=K9.mp ex;obtain ⟨y',IZ,rfl⟩:=K9.mp ey;show ⟨_,rfl,_,rfl,_,_,rfl,rfl,rT st (B1.mem (DE MU)) ga ga,_,rfl,_,rfl,_,_,rfl,rfl,rT su (B2.mem (DE IZ)) ga ga,_,_,rfl,rfl,k _ _ (aq.refl _) ⟨x',y',MU,IZ,rfl⟩⟩
  ·intro ys H2 hy h_ s2 hD
   rw [ir] at hy;let ey:=agY hl hy h_;show ⟨_,_,rfl,⟨D1,rfl,by rw [hD,ey]⟩,by simp;omega,fun v' l' H3 s3 L3 dv pz fr=>?_⟩;obtain ⟨g,gn,hg⟩:=dv.Ug;let jD:∀j,g*l'.getD j 0=(m.getD c 0).fdiv (gz (m.getD c 0) (l.getD c 0))*l.getD j 0-(l.getD c 0).fdiv (gz (m.getD c 0) (l.getD c 0))*m.getD j 0:=fun j=>by rw [hg j,aci hl]
   refine q v' l' H3 (s2.trans s3) L3 ⟨by rw [dv.len];simp [hl],?_,g,_,_,gn,f4,jD⟩ (fun j=>?_) (.inr pz) ?_
   ·let e:=jD c
    let z2:(m.getD c 0).fdiv (gz (m.getD c 0) (l.getD c 0))*l.getD c 0-(l.getD c 0).fdiv (gz (m.getD c 0) (l.getD c 0))*m.getD c 0=0:=by
     generalize gz (m.getD c 0) (l.getD c 0)=G at*;generalize (m.getD c 0).fdiv G=t at*;generalize (l.getD c 0).fdiv G=u at*;rw [f1,f2];grind
    rw [z2] at e
    rcases QP.mp e with y|y
    ·exact DL y gn
    ·exact y
   ·let b:(g*l'.getD j 0).natAbs<=2^(b1+b2+1):=by
     rw [jD j,Int.sub_eq_add_neg];refine zay (tu (wL st (B1 j)) ga) ?_;rw [ZG];exact wL su (B2 j)
    exact DC (e_ gn) b
   ·rcases fr with z|⟨p,e,n⟩
    ·exact .inr ⟨D1,z,n1⟩
    ·exact .inr ⟨p,e,s2.free n⟩
inductive wZ (K:Frag)(vs:θ)(H:Hp)(Q:VK)(E_:XK):Prop
|mk (a:AG)(us:θ)(ls:List (List Int:_))(c:Nat)(_:vs=[.ref a,.int (c:Int)])(_:aU K H a us)(_:tQ H us ls)(_:(∀l∈ls,c<l.length))(_:(∀(i:Nat)(l:π)(H':Hp),aq H H' ->ls[i]?=some l->l.getD c 0≠0->Q (.int (i:Int)) H'))(_:((∀l∈ls,l.getD c 0=0)->∀H',aq H H' ->Q .dw H'))
def tQ.at (h:tQ H us ls){i:Nat}(e:us[i]?=some u):∃l,ls[i]?=some l/\Ln H u l:=by
 let hi:i<us.length:=(be.mp e).1;let hl:=h.1;let e2:ls[i]?=some (ls[i]'ga):=gE ga;show ⟨_,e2,h.2 i u _ e e2⟩
def tQ.at' (h:tQ H us ls){i:Nat}{l:π}(e:ls[i]?=some l):∃u,us[i]?=some u/\Ln H u l:=by
 let hi:i<ls.length:=(be.mp e).1;let hl:=h.1;let e2:us[i]?=some (us[i]'ga):=gE ga;show ⟨_,e2,h.2 i _ l e2 e⟩
def Ow:aE ["lines","column","at","line"] Yn (ae Lo):=sq
def ahW (D:Def K mg "first_not_nought" Lo Yn)(fM:mg "enumerate"=none):am P w K mg iN 1 "first_not_nought" Yn (wZ K):=by
 refine D.oo Ow fun H hr h=>?_;obtain ⟨a,us,ls,c,rfl,hS,L,hc,q1,q2⟩:=h;let lu:=L.1
 show ⟨_,(aa (bG K6 rfl (IK rfl fM (aV (pv 0))) (ft rfl (aY (b9 2 Ow.nd) (aY (b9 3 Ow.nd) cZ))) (ah (bI (bW qB (bD aS (pv 3) (pv 1)) ag) (ah (aJ (pv 2))) a_))) (ah (aJ sH))),?_⟩
 show ⟨_,rfl,a,rfl,⟨_,hS⟩,let I:dL:=fun i Y H'=>∃o1 o2:Option V,Y=[ce a,some (.int (c:Int)),o1,o2]/\aq H H'/\∀j,j<i->∀l,ls[j]?=some l->l.getD c 0=0;ze (K:=K) (a:=a) (xs:=us) I ⟨none,none,rfl,aq.refl H,fun j h=>DL h (Oi _)⟩ (fun i Y H' _ ⟨o1,o2,_,s1,_⟩=>s1.seq hS) ?_ ?_⟩
 ·rintro i u Y H' p hu ⟨o1,o2,rfl,s1,z⟩ np
  obtain ⟨l,el,b,rfl,hb⟩:=L.at hu;let s2:=s1.trans (aH np (.tup [.int (i:Int),.ref b]));let hcl:=hc l (DE el);show ⟨p,_,rfl,bK.of aj,rfl,_,_,rfl,_,_,rfl,rfl,_,rfl,_,rfl,b,_,_,_,rfl,rfl,aU.of (s2 _ _ hb),qQ hcl,rfl,_,rfl,?_⟩;refine bU (fun y=>?_) (fun y=>?_)
  ·let y':l.getD c 0≠0:=by simpa using y
   show ⟨_,rfl,q1 i l _ s2 el y'⟩
  ·let y':l.getD c 0=0:=by simpa using y
   show ⟨_,_,rfl,s2,fun j hj l' e'=>?_⟩
   rcases Rc.mp hj with w|w
   ·exact z j w l' e'
   ·subst w
    erw [el] at e';exact y'
 ·rintro Y H' ⟨o1,o2,rfl,s1,z⟩
  refine q2 (fun l hl=>?_) H' s1;obtain ⟨j,hj⟩:=D_ hl;exact z j (by have:=(be.mp hj).1;omega) l hj
structure Red (os:ζ)(L c b:Nat)(nd:ι)(lv:ζ):Prop where
 tR:∀x∈nd,x.2.length=L
 ma:∀l∈lv,l.length=L
 cols:∀x∈nd,x.1<c
 asc:(nd.map (·.1)).Pairwise (· < ·)
 here:∀x∈nd,x.2.getD x.1 0≠0
 off:∀x∈nd,∀y∈nd,x.1≠y.1->x.2.getD y.1 0=0
 low:∀x∈nd,∀j,j<x.1->x.2.getD j 0=0
 zero:∀l∈lv,∀j,j<c->l.getD j 0=0
 zC:∀x∈nd,pO os x.2
 nG:∀l∈lv,pO os l
 sol:∀z,((∀x∈nd,ev x.2 z=0)/\(∀l∈lv,ev l z=0)) ↔ ∀o∈os,ev o z=0
 MQ:∀x∈nd,Bd b x.2
 Ox:∀l∈lv,Bd b l
 cnt:nd.length+lv.length=os.length
def Red.start {os:ζ}(hL:∀o∈os,o.length=L)(hb:∀o∈os,Bd b o):Red os L 0 b [] os where
 tR:=by simp
 ma:=hL
 cols:=by simp
 asc:=by simp
 here:=by simp
 off:=by simp
 low:=by simp
 zero:=fun _ _ j h=>DL h (Oi _)
 zC:=by simp
 nG:=fun l h=>y_ h
 sol:=fun z=>by simp
 MQ:=by simp
 Ox:=hb
 cnt:=by simp
def Red.skip {os:ζ}(h:Red os L c b nd lv)(hz:∀l∈lv,l.getD c 0=0):Red os L (c+1) b nd lv where
 tR:=h.tR
 ma:=h.ma
 cols:=fun x hx=>QT (h.cols x hx)
 asc:=h.asc
 here:=h.here
 off:=h.off
 low:=h.low
 zero:=fun l hl j hj=>by
  rcases Rc.mp hj with z|z
  ·exact h.zero l hl j z
  ·subst z
   exact hz l hl
 zC:=h.zC
 nG:=h.nG
 sol:=h.sol
 MQ:=h.MQ
 Ox:=h.Ox
 cnt:=h.cnt
structure Made (os:ζ)(AP:π)(c b:Nat)(xs ys:ζ):Prop where
 len:ys.length=xs.length
 to:∀(i:Nat)(x:π),xs[i]?=some x->∃y,ys[i]?=some y/\uN x AP y c/\Bd b y
def Made.ex {os:ζ}(h:Made os AP c b xs ys){y:π}(hy:y∈ys):∃x∈xs,uN x AP y c/\Bd b y:=by
 obtain ⟨i,hi⟩:=D_ hy;let hl:=h.len;let lQ:i<ys.length:=(be.mp hi).1;let e:xs[i]?=some (xs[i]'ga):=gE ga;obtain ⟨y',e',r⟩:=h.to i _ e;erw [hi] at e';show ⟨_,DE e,r⟩
def Made.all {os:ζ}(h:Made os AP c b xs ys){x:π}(hx:x∈xs):∃y∈ys,uN x AP y c/\Bd b y:=by
 obtain ⟨i,hi⟩:=D_ hx;obtain ⟨y,e,r⟩:=h.to i x hi;show ⟨y,DE e,r⟩
def Red.step {os:ζ}{lv DZ rest:ζ}{AP:π}(h:Red os L c b nd lv)(ia:AP∈lv)(tI:∀l∈rest,l∈lv)(Nz:∀l∈lv,l=AP\/l∈rest)(hlen:rest.length+1=lv.length)
  (hc:AP.getD c 0≠0) (ML:Made os AP c (2*b+1) rest DZ) (hk:jM.map (·.1)=nd.map (·.1)) (MN:Made os AP c (2*b+1) (nd.map (·.2)) (jM.map (·.2))):Red os L (c+1) (2*b+1) (jM ++[(c,AP)]) DZ :=by
 let ll:=h.ma AP ia;let lz:=h.zero AP ia;let hl':jM.length=nd.length:=by simpa using oP NO hk
 let pairs:∀x' ∈jM,∃x∈nd,x.1=x'.1/\uN x.2 AP x'.2 c/\Bd (2*b+1) x'.2:=by
  intro x' BZ;obtain ⟨i,hi⟩:=D_ BZ;let lQ:i<jM.length:=(be.mp hi).1;let e:nd[i]?=some (nd[i]'ga):=gE ga;let e1:(jM.map (·.1))[i]?=(nd.map (·.1))[i]? :=by rw [hk]
  rw [Wp,Wp,hi,e] at e1;obtain ⟨y,e2,r⟩:=MN.to i (nd[i]'ga).2 (by rw [Wp,e];rfl);rw [Wp,hi] at e2;simp at e1 e2;subst e2;show ⟨_,DE e,e1.symm,r⟩
 let back:∀x∈nd,∃x' ∈jM,x'.1=x.1/\uN x.2 AP x'.2 c:=by
  intro x hx;obtain ⟨i,hi⟩:=D_ hx;let lQ:i<nd.length:=(be.mp hi).1;let e:jM[i]?=some (jM[i]'ga):=gE ga;let e1:(jM.map (·.1))[i]?=(nd.map (·.1))[i]? :=by rw [hk]
  rw [Wp,Wp,hi,e] at e1;obtain ⟨y,e2,r⟩:=MN.to i x.2 (by rw [Wp,hi];rfl);rw [Wp,e] at e2;simp at e1 e2;show ⟨_,DE e,e1,by rw [e2];exact r.1⟩
 let RA:∀x∈jM ++[(c,AP)],x∈jM \/x=(c,AP):=fun x hx=>by simpa using hx
 exact {
  tR:=fun x hx=>by
   rcases RA x hx with z|z
   ·obtain ⟨y,hy,_,k,_⟩:=pairs x z
    rw [k.len];exact h.tR y hy
   ·subst z
    exact ll
  ma:=fun l hl=>by
   obtain ⟨x,hx,k,_⟩:=ML.ex hl;rw [k.len];exact h.ma x (tI x hx)
  cols:=fun x hx=>by
   rcases RA x hx with z|z
   ·obtain ⟨y,hy,e,_⟩:=pairs x z
    rw [<-e];exact QT (h.cols y hy)
   ·subst z
    exact NM _
  asc:=by
   rw [K7,hk,ah3];show ⟨h.asc,by simp,fun a ha b' jZ =>?_⟩;obtain ⟨x,hx,rfl⟩:=CZ.mp ha;have:b'=c:=by simpa using jZ
   subst this;exact h.cols x hx
  here:=fun x hx=>by
   rcases RA x hx with z|z
   ·obtain ⟨y,hy,e,k,_⟩:=pairs x z
    rw [<-e];exact k.at (lz _ (h.cols y hy)) (h.here y hy)
   ·subst z
    exact hc
  off:=fun x hx y hy ne=>by
   rcases RA x hx with z|z<;>rcases RA y hy with u|u
   ·obtain ⟨x0,hx0,e0,k0,_⟩:=pairs x z
    obtain ⟨y0,ED,e1,_⟩:=pairs y u;rw [<-e1];exact k0.zero (h.off x0 hx0 y0 ED (by rwa [e0,e1])) (lz _ (h.cols y0 ED))
   ·subst u
    obtain ⟨x0,hx0,e0,k0,_⟩:=pairs x z;exact k0.N3
   ·subst z
    obtain ⟨y0,ED,e1,_⟩:=pairs y u;rw [<-e1];exact lz _ (h.cols y0 ED)
   ·subst z
    subst u;exact DL rfl ne
  low:=fun x hx j hj=>by
   rcases RA x hx with z|z
   ·obtain ⟨y,hy,e,k,_⟩:=pairs x z
    rw [<-e] at hj;exact k.zero (h.low y hy j hj) (lz j (ZP hj (h.cols y hy)))
   ·subst z
    exact lz j hj
  zero:=fun l hl j hj=>by
   obtain ⟨x,hx,k,_⟩:=ML.ex hl
   rcases Rc.mp hj with z|z
   ·exact k.zero (h.zero x (tI x hx) j z) (lz j z)
   ·subst z
    exact k.N3
  zC:=fun x hx=>by
   rcases RA x hx with z|z
   ·obtain ⟨y,hy,_,k,_⟩:=pairs x z
    exact k.comb (h.zC y hy) (h.nG AP ia)
   ·subst z
    exact h.nG AP ia
  nG:=fun l hl=>by
   obtain ⟨x,hx,k,_⟩:=ML.ex hl;exact k.comb (h.nG x (tI x hx)) (h.nG AP ia)
  sol:=fun z=>by
   rw [<-h.sol z];constructor
   ·rintro ⟨a1,a2⟩
    let az:ev AP z=0:=a1 (c,AP) gV;show ⟨fun x hx=>?_,fun l hl=>?_⟩
    ·obtain ⟨x',BZ,_,k⟩:=back x hx
     exact (k.ev (by rw [ll,h.tR x hx]) az).mp (a1 x' (by simp [BZ]))
    ·rcases Nz l hl with u|u
     ·rw [u]
      exact az
     ·obtain ⟨y,hy,k,_⟩:=ML.all u
      exact (k.ev (by rw [ll,h.ma l hl]) az).mp (a2 y hy)
   ·rintro ⟨a1,a2⟩
    let az:=a2 AP ia;show ⟨fun x hx=>?_,fun l hl=>?_⟩
    ·rcases RA x hx with u|u
     ·obtain ⟨y,hy,_,k,_⟩:=pairs x u
      exact (k.ev (by rw [ll,h.tR y hy]) az).mpr (a1 y hy)
     ·subst u
      exact az
    ·obtain ⟨x,hx,k,_⟩:=ML.ex hl
     exact (k.ev (by rw [ll,h.ma x (tI x hx)]) az).mpr (a2 x (tI x hx))
  MQ:=fun x hx=>by
   rcases RA x hx with z|z
   ·obtain ⟨y,hy,_,_,k⟩:=pairs x z
    exact k
   ·subst z
    exact (h.Ox AP ia).up ga
  Ox:=fun l hl=>by
   obtain ⟨x,hx,_,k⟩:=ML.ex hl;exact k
  cnt:=by
   let a:=ML.len;let b:=h.cnt;rw [ER,hl'];simp
   omega}
def qR (H:Hp)(AD:δ)(nd:ι):Prop:=AD.length=nd.length/\∀(i:Nat)(kv:Key×V)(x:Ψ),AD[i]?=some kv->nd[i]?=some x->kv.1=.inl (x.1:Int)/\Ln H kv.2 x.2
theorem qR.ji (h:qR H AD nd)(s:aq H H'):qR H' AD nd:=⟨h.1,fun i kv x e1 e2=>⟨(h.2 i kv x e1 e2).1,(h.2 i kv x e1 e2).2.ji s⟩⟩
def Ln.put (h:Ln H v l)(e:H d=some (.dK AD)):Ln (upd H d o) v l:=by
 obtain ⟨p,e1,k⟩:=h;show ⟨p,e1,by rw [ao (fun z=>by erw [z,e] at k)];exact k⟩
theorem tQ.put (h:tQ H us ls)(e:H d=some (.dK AD)):tQ (upd H d o) us ls:=⟨h.1,fun i u l e1 e2=>(h.2 i u l e1 e2).put e⟩
theorem qR.put (h:qR H AD nd)(e:H d=some (.dK Wa)):qR (upd H d o) AD nd:=⟨h.1,fun i kv x e1 e2=>⟨(h.2 i kv x e1 e2).1,(h.2 i kv x e1 e2).2.put e⟩⟩
def i_ (s:aq H H')(n:H d=none):aq H (upd H' d o):=fun b o' e=>by
 rw [ao (fun z=>by erw [z,n] at e)];exact s _ _ e
def qR.at (h:qR H AD nd){i:Nat}{x:Ψ}(e:nd[i]?=some x):∃v,AD[i]?=some (.inl (x.1:Int),v)/\Ln H v x.2:=by
 let hi:i<nd.length:=(be.mp e).1;let hl:=h.1;let e2:AD[i]?=some (AD[i]'ga):=gE ga;obtain ⟨a,b⟩:=h.2 i _ x e2 e;show ⟨(AD[i]'ga).2,by rw [e2,<-a],b⟩
def qR.keys (h:qR H AD nd):AD.map (·.1)=nd.map (fun x=>(Oa (x.1:Int):Key)):=by
 refine Mt fun i=>?_;let hl:=h.1;rw [Wp,Wp];by_cases hi:i<nd.length
 ·let e:nd[i]?=some nd[i]:=gE hi
  obtain ⟨v,e2,_⟩:=h.at e;rw [e,e2];rfl
 ·rw [EZ ga,EZ ga]
  rfl
theorem kI :∀{AD:δ} {i:Nat},(AD.map (·.1)).Nodup->AD[i]?=some (k,v)->cI AD k=some v
 | [],_,_,e=>by simp at e
 | p::r,0,_,e=>by
  cases e;exact cw (p:=(k,v)) rfl
 | p::r,i+1,n,e=>by
  rw [DG,Kr] at n;let e':r[i]?=some (k,v):=by simpa using e
  let ne:¬ p.1=k:=fun z=>n.1 (by rw [z];exact CZ.mpr ⟨(k,v),DE e',rfl⟩);rw [bO ne];exact kI n.2 e'
theorem rY :∀{AD:δ},k∉AD.map (·.1)->cI AD k=none
 | [],_=>rfl
 | p::r,h=>by
  let h':k≠p.1/\k∉r.map (·.1):=by simpa using h
  rw [bO (fun z=>h'.1 z.symm)];exact rY h'.2
theorem map_put :∀{AD:δ} {i:Nat},(AD.map (·.1)).Nodup->AD[i]?=some (k,v)->AD.map (fun kv=>if kv.1=k then (kv.1,v') else kv)=AD.set i (k,v')
 | [],_,_,e=>by simp at e
 | p::r,0,n,e=>by
  rw [DG,Kr] at n;cases e
  let hr:r.map (fun kv=>if kv.1=k then (kv.1,v') else kv)=r:=by
   refine (Ml (fun q hq=>?_)).trans (List.map_id r);let ne:¬ q.1=k:=fun z=>n.1 (by show k∈_;rw [<-z];exact CZ.mpr ⟨q,hq,rfl⟩);rw [mJ ne];rfl
  rw [DG,hr,mK rfl,aia]
 | p::r,i+1,n,e=>by
  rw [DG,Kr] at n;let e':r[i]?=some (k,v):=by simpa using e
  let ne:¬ p.1=k:=fun z=>n.1 (by rw [z];exact CZ.mpr ⟨(k,v),DE e',rfl⟩);rw [DG,mJ ne,map_put n.2 e',aid]
def acE {AD:δ}(n:(AD.map (·.1)).Nodup)(e:AD[i]?=some (k,v)):putK AD k v'=AD.set i (k,v'):=by
 unfold putK;rw [i0,kI n e];exact map_put n e
theorem qR.set (h:qR H AD nd){i c:Nat}(hv:Ln H v l):qR H (AD.set i (.inl (c:Int),v)) (nd.set i (c,l)):=by
 let hl:=h.1;show ⟨by simp [hl],fun j kv x e1 e2=>?_⟩;rw [Mr] at e1 e2;by_cases z:i=j
 ·subst z
  rw [mK rfl] at e1 e2;by_cases hi:i<AD.length
  ·rw [mK hi] at e1
   rw [mK ga] at e2;cases e1;cases e2;show ⟨rfl,hv⟩
  ·rw [mJ hi] at e1
   cases e1
 ·rw [mJ z] at e1 e2
  exact h.2 j kv x e1 e2
def qR.snoc (h:qR H AD nd){c:Nat}(hv:Ln H v l):qR H (AD++[(.inl (c:Int),v)]) (nd++[(c,l)]):=by
 let hl:=h.1;show ⟨by simp [hl],fun j kv x e1 e2=>?_⟩;by_cases z:j<AD.length
 ·rw [K_ z] at e1
  rw [K_ ga] at e2;exact h.2 j kv x e1 e2
 ·rw [Kx ga] at e1 e2
  rw [<-hl] at e2;by_cases y:j-AD.length=0
  ·rw [y] at e1 e2
   cases e1;cases e2;show ⟨rfl,hv⟩
  ·rw [EZ (by simp;omega)] at e1
   cases e1
theorem keys_nodup:∀{nd:ι},(nd.map (·.1)).Pairwise (· < ·)->(nd.map (fun x=>(Oa (x.1:Int):Key))).Nodup
 | [],_=>by simp
 | x::r,h=>by
  rw [DG,zX] at h;rw [DG,Kr];show ⟨fun z=>?_,keys_nodup h.2⟩;obtain ⟨y,hy,e⟩:=CZ.mp z;let e':(y.1:Int)=x.1:=Sa e;have:=h.1 y.1 (CZ.mpr ⟨y,hy,rfl⟩);omega
def bb (b k:Nat):Nat:=(k+1)*(b+11)
def rZ (b:Nat)(h:k<=m):bb b k<=bb b m:=N2 _ ga
def w4 (b k:Nat):b<=bb b k:=by
 unfold bb;rw [O4,ZH];omega
def Red.piv {os:ζ}(R:Red os L c b nd lv):MM nd:=⟨R.asc.imp fun h e=>ga,R.here,R.off⟩
def Pr (os:ζ)(l:π):Prop:=l∈os\/V' l
def Red.small {os:ζ}(R:Red os L c b nd lv)(O:MO os nd lv ps qs)(hb:∀o∈os,Bd b0 o)(hk:nd.length<=k)(X1:k<=1000)(pN:∀x∈nd,Pr os x.2)(pL:∀l∈lv,Pr os l):Red os L c (bb b0 k) nd lv:=by
 let le:∀{n:Nat},n<=(nd.length+1)*((2*(nd.length+1)*2^b0)^nd.length*2^b0)->n<=2^bb b0 k:=fun {n} h=>DC h (DC (acy ga) (L8 gt (N2 _ ga)));let z:∀{n:Nat},n=0->n<=2^bb b0 k:=fun {n} h=>by rw [h];exact KZ _
 refine {R with MQ:=fun x hx j=>?_,Ox:=fun l hl j=>?_}
 ·rcases pN x hx with h|h|h
  ·exact DC (hb _ h j) (L8 gt (w4 _ _))
  ·exact le (O.need R.piv hx hb h j)
  ·exact z (by rw [h j];rfl)
 ·rcases pL l hl with h|h|h
  ·exact DC (hb _ h j) (L8 gt (w4 _ _))
  ·obtain ⟨i,ei⟩:=D_ hl
   exact le (O.left R.piv ei (fun x hx=>R.zero l hl x.1 (R.cols x hx)) hb h j)
  ·exact z (by rw [h j];rfl)
def kJ {i:Nat}(h:i<=xs.length):gO xs none (some (i:Int))=xs.take i:=by
 unfold gO;rw [HT.rM,HT.yH,RY h];rfl
def qd {i:Nat}(h:i<=xs.length):gO xs (some (i:Int)) none=xs.drop i:=by
 unfold gO;rw [HT.rM,HT.yH,RY h];exact Si gV
theorem Red.up {os:ζ}(h:Red os L c b nd lv)(hb:b<=b'):Red os L c b' nd lv:={h with MQ:=fun x hx=>(h.MQ x hx).up hb,Ox:=fun x hx=>(h.Ox x hx).up hb}
def tQ.erase (h:tQ H us ls)(j:Nat):tQ H (us.eraseIdx j) (ls.eraseIdx j):=by
 let hl:=h.1;show ⟨by rw [Xl,Xl,hl],fun i u l e1 e2=>?_⟩;rw [Za] at e1 e2;by_cases z:i<j
 ·rw [mK z] at e1 e2
  exact h.2 _ _ _ e1 e2
 ·rw [mJ z] at e1 e2
  exact h.2 _ _ _ e1 e2
theorem kK {Z β:Type}{P:Nat->Z->β->Prop}:∀(xs:List Z),(∀i x,xs[i]?=some x->∃y,P i x y)->∃ys:List β,ys.length=xs.length/\∀i x y,xs[i]?=some x->ys[i]?=some y->P i x y
 | [],_=>⟨[],rfl,fun i x y e=>by simp at e⟩
 | x::xs,h=>by
  obtain ⟨y,hy⟩:=h 0 x rfl;obtain ⟨ys,hl,hp⟩:=kK (P:=fun i=>P (i+1)) xs (fun i x e=>h (i+1) x (by simpa using e));show ⟨y::ys,by simp [hl],fun i x' y' e1 e2=>?_⟩;cases i with
  | zero=>
   cases e1;cases e2;exact hy
  | succ i=>exact hp i x' y' (by simpa using e1) (by simpa using e2)
inductive kN (K:Frag)(vs:θ)(H:Hp)(Q:VK)(E_:XK):Prop
|mk (a:AG)(us:θ)(os:List (List Int:_))(L m b:Nat)(_:vs=[.ref a,.int (m:Int)])(_:aU K H a us)(_:tQ H us os)(_:(∀o∈os,o.length=L))(_:m<=L)(_:L<=1000)(_:os.length<=1000)(_:(∀o∈os,Bd b o))(_:bb b (min m os.length)<=29000000)(_:∀(p d a':AG)(AD:δ)(mS :θ)(nd:ι)(lv:ζ)(H':Hp),aq H H' ->H d=none->H p=none->H' p=some (.tup [.ref d,.ref a'])->H' d=some (.dK AD)->aU K H' a' mS ->qR H' AD nd->tQ H' mS lv->Red os L m (bb b (min m os.length)) nd lv->Q (.ref p) H')
def qS:aE ["lines","many","needed","left","column","at","lead","place"] PJ (ae Lm):=sq
def ahM (D:Def K mg "reduced" Lm PJ)(bg:mg "range"=none)(c9:mg "list"=none)(agF:am P w K mg iN 1 "first_not_nought" Yn (wZ K))(ZK:am P w K mg iN 34 "cleared" Yp qc):am P w K mg iN 35 "reduced" PJ (kN K):=by
 refine D.oo qS fun H hr h=>?_;obtain ⟨a,us,os,L,m,b,rfl,hS,hL,hlen,hm,Uh,ho,hB,hb,q⟩:=h
 show ⟨_,(aa (aG 2 qS.nd dX) (aa (aG 3 qS.nd (pv 0)) (aa (bG K6 rfl (bS rfl bg (aV (pv 1))) (b9 4 qS.nd) (aa (aG 5 qS.nd (aZ agF hr (aT (pv 3) (pv 4)))) (aa (bI (bW Nh (pv 5) sH) (ah ahu) a_) (aa (aG 6 qS.nd (bD aS (pv 3) (pv 5))) (aa (tN (i:=3) (tn:=["line"]) (fr:=["lead","column"]) (mL:=[6,4]) qS.nd (bu (aF gZ (cV fQ (pv 3) dP (dy (pv 5))) (cV fQ (pv 3) (dy (aF cD (pv 5) ag)) dP))) (qP ZK hr (bR (pv 0) (pv 1) (pv 2)))) (aa (bG K6 rfl (bu (cQ (fZ rfl) rfl c9 jY (aV (pv 2)))) (b9 7 qS.nd) (ah (dQ (cW hr) (pv 2) (pv 7) (aZ ZK hr (bR (fS (cW hr) (pv 2) (pv 7) (fun _ _=>rfl)) (pv 6) (pv 4))) rfl))) (ah (dQ (cW hr) (pv 2) (pv 4) (pv 6) rfl)))))))) (ah (aJ (aR (aT (pv 2) (pv 3)))))))),?_⟩;sleep 3
 refine fun d JE=>?_;let s0:aq H (upd H d (.dK [])):=aH JE _;show ⟨_,rfl,_,rfl,_,rfl,ga,ga,?_⟩
 refine let I:dL:=fun i Y H'=>Ex9 fun (al:AG) (tS:θ) (AD:δ) (nd:ι) (lv:ζ) (o4 o5 o6 o7:Α)=>Y=[ce a,some (.int (m:Int)),ce d,ce al,o4,o5,o6,o7]/\aq H H'/\H' d=some (.dK AD)/\aU K H' al tS/\tQ H' tS lv/\qR H' AD nd/\nd.length<=i/\Red os L i (bb b (min m os.length)) nd lv/\(∃ps qs,MO os nd lv ps qs)/\(∀x∈nd,Pr os x.2)/\∀l∈lv,Pr os l;cP (lo:=0) (n:=m) I
  ⟨a,us,[],[],os,none,none,none,none,rfl,s0,aj,s0.seq hS,hL.ji s0,⟨rfl,by simp⟩,DU _,(Red.start hlen hB).up (w4 _ _),⟨[],os,MO.start os⟩,gV,fun l hl=>.inl hl⟩ ?_ ?_
 ·rintro i Y H1 hi ⟨al,tS,AD,nd,lv,o4,o5,o6,o7,rfl,s1,hd,MR,LZ,hN,hni,R,⟨ps,qs,O⟩,pN,pL⟩
  show ⟨_,rfl,_,rfl,al,tS,lv,i,by rw [Kp];rfl,MR,LZ,fun l hl=>by rw [R.ma l hl];omega,fun j AP H2 s2 ej hj=>?_,fun hz H2 s2=>?_⟩
  ·let hjl:j<lv.length:=(be.mp ej).1
   let hul:=LZ.1;let cnt:=R.cnt;let hbk:=hb;let hd2:=s2 _ _ hd;let Ud:=s2.seq MR;let Ui:=LZ.ji s2;let hN2:=hN.ji s2;obtain ⟨u,eu,hu⟩:=Ui.at' ej;let ia:AP∈lv:=DE ej;show ⟨_,rfl,rfl,_,rfl,bU (fun z=>by simp at z) (fun _=>?_)⟩;show ⟨_,rfl,_,rfl,al,_,_,_,rfl,rfl,Ud,bE eu,_,rfl,_,rfl,_,rfl,al,tS,rfl,Ud,fun p1 n1=>?_⟩;let t1:=aH n1 (.lst (gO tS none (some (j:Int))));show ⟨_,rfl,_,rfl,_,_,rfl,rfl,_,rfl,al,tS,rfl,t1.seq Ud,fun p2 n2=>?_⟩;let t2:=aH n2 (.lst (gO tS (some ((j:Int)+1)) none))
   let ZL:gO tS none (some (j:Int))++gO tS (some ((j:Int)+1)) none=tS.eraseIdx j:=by
    rw [kJ ga,show ((j:Int)+1)=((j+1:Nat):Int) from by omega,qd ga,List.eraseIdx_eq_take_drop_succ]
   let agG:(gO tS none (some (j:Int))).length+(gO tS (some ((j:Int)+1)) none).length<=C_:=by
    rw [<-ER,ZL];exact DC (DC (ahC ..) (show tS.length<=1000 by omega)) gt
   show ⟨p1,p2,_,_,rfl,rfl,t2 _ _ aj,aj,agG,fun p3 n3=>?_⟩;let t3:=aH n3 (.lst (gO tS none (some (j:Int))++gO tS (some ((j:Int)+1)) none));show ⟨p3,rfl,⟨_,aU.of aj⟩,fun D nD=>?_⟩;let tt:=(t1.trans t2).trans t3;let hE:=(Ui.ji tt).erase j;let X2:=hu.ji tt;let er:(tS.eraseIdx j).length<=1000:=DC (ahC ..) (show tS.length<=1000 by omega);refine lY (oe:=[some u,some (.int ((0:Int)+i))]) (K:=K) (a:=p3) (xs:=tS.eraseIdx j) (fun k v H=>∃x y p,(lv.eraseIdx j)[k]?=some x/\v=.ref p/\p≠D/\H p=some (.lst (y.map V.int))/\uN x AP y i/\Bd (2*bb b (min m os.length)+1) y/\(y=x\/V' y)) nD (FU er gt) (fun H3 s3=>aU.of (s3 _ _ (by rw [aj,ZL]))) ?_ ?_ ?_
   ·rintro k v H3 H4 ys hD3 ks ⟨x,y,p,e1,e2,e3,e4,e5⟩
    show ⟨x,y,p,e1,e2,e3,ks _ _ e3 e4,e5⟩
   ·rintro k x H3 RR ex s3 ⟨ys0,agI⟩ kk
    obtain ⟨l,el,hl⟩:=hE.at ex;let KS:l∈lv:=pM (DE el);let hll:=R.ma l KS;let hld:=R.ma AP ia;show ⟨_,rfl,_,rfl,_,rfl,x,u,l,AP,i,bb b (min m os.length),bb b (min m os.length),by rw [Kp];rfl,hl.ji s3,X2.ji s3,by rw [hll,hld],ga,ga,hj,R.Ox l KS,R.Ox AP ia,hbk,hbk,fun v' l' H4 s4 L4 cl bd pz fr=>?_⟩;obtain ⟨p,e1,e2⟩:=L4;refine kk v' H4 s4 ⟨l,l',p,el,e1,?_,e2,cl,by rwa [Nat.two_mul],pz⟩
    rcases fr with z|⟨p',z,n⟩
    ·obtain ⟨px',z1,z2⟩:=hl
     erw [z1,e1] at z;exact ak z2 nD
    ·rw [e1] at z
     cases z;exact fun y=>by erw [y,agI] at n
   ·intro ys H3 hy h_ s3 hD
    obtain ⟨DZ,hl',hp⟩:=kK (P:=fun k v y=>∃x p,(lv.eraseIdx j)[k]?=some x/\v=.ref p/\p≠D/\H3 p=some (.lst (y.map V.int))/\uN x AP y i/\Bd (2*bb b (min m os.length)+1) y/\(y=x\/V' y)) ys (fun k v e=>by
     obtain ⟨x,y,p,r⟩:=h_ k v e
     show ⟨y,x,p,r⟩)
    let hLn:tQ H3 ys DZ :=⟨hl'.symm,fun k v y e1 e2=>by
     obtain ⟨x,p,_,e,_,r,_⟩:=hp k v y e1 e2
     show ⟨p,e,r⟩⟩
    let les:(tS.eraseIdx j).length=(lv.eraseIdx j).length:=hE.1
    let ML:Made os AP i (2*bb b (min m os.length)+1) (lv.eraseIdx j) DZ :=⟨ga,fun k x e=>by
     let hk:k<(lv.eraseIdx j).length:=(be.mp e).1;let e1:ys[k]?=some (ys[k]'ga):=gE ga;let e2:DZ[k]?=some (DZ[k]'ga):=gE ga;obtain ⟨x',p,r1,_,_,_,r2,r3,_⟩:=hp k _ _ e1 e2;erw [e] at r1
     show ⟨_,e2,r2,r3⟩⟩
    let PL:∀l∈DZ,Pr os l:=fun l hl=>by
     obtain ⟨k,ek⟩:=D_ hl;let hk:k<DZ.length:=(be.mp ek).1;let e1:ys[k]?=some (ys[k]'ga):=gE ga;obtain ⟨x',p,r1,_,_,_,_,_,r4⟩:=hp k _ _ e1 ek
     rcases r4 with z|z
     ·rw [z]
      exact pL x' (pM (DE r1))
     ·exact .inr z
    let IU:=tt.trans s3;let hd3:=IU _ _ hd2;let hN3:=hN2.ji IU;let hu4:=X2.ji s3;show ⟨_,rfl,d,AD,rfl,Rd.of hd3,fun l3 n3=>?_⟩;let t4:=aH n3 (.lst (AD.map fun kv=>kV kv.1));show ⟨l3,rfl,⟨_,aU.of aj⟩,?_⟩;let dl:d≠l3:=ak hd3 n3
    refine let I:dL:=fun t Y H'=>I_ fun (o7:Α) (w6 :δ) (jM :ι)=>Y=[ce a,some (.int (m:Int)),ce d,ce D,some (.int ((0:Int)+i)),some (.int (j:Int)),some u,o7]/\aq H H'/\H' d=some (.dK w6)/\H' l3=some (.lst (AD.map fun kv=>kV kv.1))/\H' D=some (.lst ys)/\tQ H' ys DZ /\Ln H' u AP/\qR H' w6 jM /\jM.map (·.1)=nd.map (·.1)/\ ∀(k:Nat)(x:Ψ),nd[k]?=some x->∃y,jM[k]?=some (x.1,y)/\(t<=k->y=x.2)/\(k<t->(uN x.2 AP y i/\Bd (2*bb b (min m os.length)+1) y)/\(y=x.2\/V' y));cC (K:=K) (a:=l3) (xs:=AD.map fun kv=>kV kv.1) I
     ⟨_,AD,nd,rfl,((s1.trans s2).trans IU).trans t4,t4 _ _ hd3,aj,t4 _ _ hD,hLn.ji t4,hu4.ji t4,hN3.ji t4,rfl,fun k x e=>⟨x.2,e,fun _=>rfl,fun z=>DL z (Oi _)⟩⟩ (fun t Y H' _ h=>by
      obtain ⟨_,_,_,_,_,_,h,_⟩:=h
      exact aU.of h) ?_ ?_
    ·rintro t u7 Y H4 hu7 ⟨o7,w6,jM,rfl,s4,L1,hl4,ZM,hL4,hu5,P9,Wb,X3⟩
     rw [Wp] at hu7;obtain ⟨kv,vF,rfl⟩:=K9.mp hu7;let htl:t<AD.length:=(be.mp vF).1;let hnl:=hN.1;let ex:nd[t]?=some (nd[t]'ga):=gE ga;obtain ⟨x,hx⟩:∃x,nd[t]?=some x:=⟨_,ex⟩;obtain ⟨kx,hxm⟩:kv.1=.inl (x.1:Int)/\x∈nd:=⟨(hN3.2 t kv x vF hx).1,DE hx⟩;obtain ⟨y,ey,y1,_⟩:=X3 t x hx;let y2:=y1 (DU _);subst y2;obtain ⟨v,ev,hv⟩:=P9.at ey
     let nk:(w6.map (·.1)).Nodup:=by
      rw [P9.keys];exact keys_nodup (by rw [Wb];exact R.asc)
     let vat:=kI nk ev;let hxl:=R.tR x hxm;let hld:=R.ma AP ia
     let dg:eZ H4 d (kV kv.1) (some v):=by
      rw [kx,<-vat];exact eZ.k L1
     show ⟨_,rfl,_,rfl,d,v,rfl,dg,_,rfl,_,rfl,v,u,x.2,AP,i,bb b (min m os.length),bb b (min m os.length),by rw [Kp];rfl,hv,hu5,by rw [hxl,hld],ga,ga,hj,R.MQ x hxm,R.Ox AP ia,hbk,hbk,fun v' l' H5 s5 L5 cl bd pz fr=>?_⟩;let Wc:=s5 _ _ L1;let l4':=P9.1;have ZN :jM.length=nd.length:=by simpa using oP NO Wb
     show ⟨_,rfl,_,rfl,d,_,rfl,iS.k Wc (FU (show w6.length<=1000 by omega) gt),?_⟩;rw [kx,acE nk ev];let dn:d≠D:=fun z=>by erw [z,ZM] at L1
     show ⟨_,w6.set t (.inl (x.1:Int),v'),jM.set t (x.1,l'),rfl,i_ (s4.trans s5) JE,aj,by rw [ao (FG dl)];exact s5 _ _ hl4,by rw [ao (FG dn)];exact s5 _ _ ZM,(hL4.ji s5).put Wc,(hu5.ji s5).put Wc,((P9.ji s5).set L5).put Wc,?_,fun k x' ek=>?_⟩
     ·rw [List.map_set,Wb]
      refine Mt fun k=>?_;rw [Mr];by_cases z:t=k
      ·subst z
       rw [mK rfl,mK (by simp;omega),Wp,hx];rfl
      ·rw [mJ z]
     ·obtain ⟨y',IZ,a1,a2⟩:=X3 k x' ek
      by_cases z:t=k
      ·subst z
       erw [hx] at ek;show ⟨l',by rw [Mr,mK rfl,mK ga],fun w=>ga,fun _=>⟨⟨cl,by rwa [Nat.two_mul]⟩,pz⟩⟩
      ·show ⟨y',by rwa [Mr,mJ z],fun w=>a1 ga,fun w=>a2 ga⟩
    ·rintro Y H4 ⟨o7,w6,jM,rfl,s4,L1,hl4,ZM,hL4,hu5,P9,Wb,X3⟩
     let l4':=P9.1;have ZN :jM.length=nd.length:=by simpa using oP NO Wb
     let hnl:=hN.1;rw [ir] at X3
     let MN:Made os AP i (2*bb b (min m os.length)+1) (nd.map (·.2)) (jM.map (·.2)):=⟨by simp [ZN],fun k x e=>by
      rw [Wp] at e;obtain ⟨x0,e0,rfl⟩:=K9.mp e;let hk:k<nd.length:=(be.mp e0).1;obtain ⟨y,ey,_,a2⟩:=X3 k x0 e0
      show ⟨y,by rw [Wp,ey];rfl,(a2 ga).1⟩⟩
     let Vw:cI w6 (.inl ((0:Int)+i))=none:=rY (fun z=>by
      rw [P9.keys] at z;obtain ⟨x',BZ,e⟩:=CZ.mp z;let e1:(x'.1:Int)=0+i:=Sa e;have:x'.1∈nd.map (·.1):=by rw [<-Wb];exact CZ.mpr ⟨x',BZ,rfl⟩
      obtain ⟨x,hx,e2⟩:=CZ.mp this;have:=R.cols x hx
      omega)
     show ⟨_,rfl,_,rfl,_,rfl,d,_,rfl,iS.k (k:=.inl ((0:Int)+i)) L1 (FU (show w6.length<=1000 by omega) gt),?_⟩;rw [dJ u Vw];let dn:d≠D:=fun z=>by erw [z,ZM] at L1
     let agN:∀l∈lv.eraseIdx j,l∈lv:=fun l h=>pM h
     let agO:∀l∈lv,l=AP\/l∈lv.eraseIdx j:=fun l h=>by
      obtain ⟨k,ek⟩:=D_ h
      rcases Zr k j with z|z|z
      ·exact .inr (DE (i:=k) (by rwa [Za,mK z]))
      ·subst z
       erw [ej] at ek;exact .inl rfl
      ·exact .inr (DE (i:=k-1) (by rwa [Za,mJ ga,show k-1+1=k by omega]))
     let agP:(lv.eraseIdx j).length+1=lv.length:=by rw [Xl,mK hjl];omega
     let R2:=R.step ia agN agO agP hj ML Wb MN
     obtain ⟨ps',X0,O2⟩:=O.step R.piv ej (fun x hx=>R.zero AP ia x.1 (R.cols x hx)) hj ML.len (fun k x e=>by
      obtain ⟨y,ey,k1,_⟩:=ML.to k x e
      show ⟨y,ey,k1⟩) ZN fun k x e=>by
      obtain ⟨y,ey,k1,_⟩:=MN.to k x e;show ⟨y,ey,k1⟩
     let PN:∀x∈jM ++[(i,AP)],Pr os x.2:=fun x hx=>by
      rcases K2.mp hx with z|z
      ·obtain ⟨k,ek⟩:=D_ z
       let hk:k<jM.length:=(be.mp ek).1;obtain ⟨x0,e0⟩:∃x0,nd[k]?=some x0:=⟨_,gE ga⟩;obtain ⟨y,ey,_,a2⟩:=X3 k x0 e0;erw [ek] at ey
       rcases (a2 ga).2 with u|u
       ·show Pr os y
        rw [u];exact pN x0 (DE e0)
       ·exact .inr u
      ·rw [K3.mp z]
       exact pL AP ia
     let ZO:=R2.cnt;let R3:=R2.small O2 hB (k:=min m os.length) (by rw [ER] at ZO ⊢;simp at ZO ⊢;omega) ga PN PL;show ⟨D,ys,_,jM ++[(i,AP)],DZ,_,_,_,_,rfl,i_ s4 JE,aj,aU.of (by rwa [ao (FG dn)]),hL4.put L1,(by rw [Kp];exact (P9.snoc hu5).put L1),by simp;omega,R3,⟨ps',X0,O2⟩,PN,PL⟩
  ·show ⟨_,rfl,rfl,_,rfl,bU (fun _=>?_) (fun z=>by simp at z)⟩
   show ⟨al,tS,AD,nd,lv,_,_,_,_,rfl,s1.trans s2,s2 _ _ hd,s2.seq MR,LZ.ji s2,hN.ji s2,ga,R.skip hz,⟨ps,qs,O⟩,pN,pL⟩
 ·rintro Y H1 ⟨al,tS,AD,nd,lv,o4,o5,o6,o7,rfl,s1,hd,MR,LZ,hN,hni,R,⟨ps,qs,O⟩,pN,pL⟩
  show ⟨_,rfl,_,rfl,qp,fun p np=>?_⟩;let sp:=aH np (.tup [.ref d,.ref al]);let cnt:=R.cnt;exact q p d al AD tS nd lv _ (s1.trans sp) JE (s1.free np) aj (sp _ _ hd) (sp.seq MR) (hN.ji sp) (LZ.ji sp) R
def w8 (hb:b≠0)(h1:t.natAbs<=2^T)(h2:b.natAbs<=2^B):Sm T B (low t b):=⟨m_ hb,rO hb,DC (sY hb) h1,DC (sZ hb) h2⟩
def nH {l:π}(h:l.length<=j):l.getD j 0=0:=by
 rw [KU,EZ h];rfl
def zE (m t:Nat)(nd:ι)(qs:ο):Prop:=qs.length=m/\(∀i,i<t->∀x,nd[i]?=some x->qs[x.1]?=some (low (x.2.getD m 0) (x.2.getD x.1 0)))/\∀j,j<m->(∀i,i<t->∀x,nd[i]?=some x->x.1≠j)->qs[j]?=some (0,1)
def zE.sm {os:ζ}(R:Red os (m+1) m b nd lv)(F:zE m nd.length nd qs):∀q∈qs,Sm b b q:=by
 intro q hq;obtain ⟨j,hj⟩:=D_ hq;let hjm:j<m:=by have:=(be.mp hj).1;rw [<-F.1];exact this
 by_cases c:∃(i:Nat)(x:Ψ),nd[i]?=some x/\x.1=j
 ·obtain ⟨i,x,e,rfl⟩:=c
  let hi:i<nd.length:=(be.mp e).1;let h1:=F.2.1 i hi x e;erw [hj] at h1;let hm:=DE e;exact w8 (R.here x hm) (R.MQ x hm m) (R.MQ x hm x.1)
 ·let h1:=F.2.2 j hjm (fun i _ x e z=>c ⟨i,x,e,z⟩)
  erw [hj] at h1;show ⟨gt,gt,KZ _,RV⟩
theorem zE.sol {os:ζ}(R:Red os (m+1) m b nd lv)(F:zE m nd.length nd qs)(hz:∀l∈lv,l.getD m 0=0):∀o∈os,ev o (qL (qs.map vl))=0:=by
 let ql:=F.1
 let zl:∀j q,qs[j]?=some q->qL (qs.map vl) j=vl q:=fun j q e=>by
  let hj:j<qs.length:=(be.mp e).1;unfold qL;rw [mK (by rwa [ir]),KU,Wp,e];rfl
 let zm:qL (qs.map vl) m= -1:=by
  unfold qL;rw [mJ (by rw [ir];omega)]
 refine (R.sol _).mp ⟨fun x hx=>?_,fun l hl=>?_⟩
 ·obtain ⟨i,e⟩:=D_ hx
  let hi:i<nd.length:=(be.mp e).1;let hc:=R.cols x hx;let hh:=R.here x hx;let h1:=F.2.1 i hi x e;let zc:=zl _ _ h1;rw [tq hh] at zc
  let jK:∀j,j≠x.1->j≠m->((x.2.getD j 0:Int):Rat)*qL (qs.map vl) j=0:=by
   intro j n1 n2;by_cases hj:j<m
   ·by_cases c:∃(i:Nat)(x:Ψ),nd[i]?=some x/\x.1=j
    ·obtain ⟨i',y,e',rfl⟩:=c
     rw [R.off x hx y (DE e') (FG n1)];simp
    ·let h2:=F.2.2 j hj (fun i _ x e z=>c ⟨i,x,e,z⟩)
     rw [zl _ _ h2];unfold vl;simp;grind
   ·rw [nH (by rw [R.tR x hx];omega)]
    simp
  let sp:qL (qs.map vl)=fun i=>(if i=m then 0 else qL (qs.map vl) i)+(if i=m then -1 else 0):=by
   funext i;by_cases z:i=m
   ·rw [mK z,mK z,z,zm]
    grind
   ·rw [mJ z,mJ z]
    grind
  rw [sp,DM]
  let a1:=lZ x.2 (fun i=>if i=m then 0 else qL (qs.map vl) i) x.1 (fun j hj=>by
   by_cases z:j=m
   ·simp [z]
   ·rw [mJ z]
    exact jK j hj z)
  let a2:=lZ x.2 (fun i=>if i=m then (-1:Rat) else 0) m (fun j hj=>by rw [mJ hj];simp);rw [a1,a2];rw [mJ ga,mK rfl,zc];let hh':=cO hh;grind
 ·refine rW l _ (fun j=>?_)
  have:l.getD j 0=0:=by
   by_cases h1:j<m
   ·exact R.zero l hl j h1
   ·by_cases h2:j=m
    ·rw [h2]
     exact hz l hl
    ·exact nH (by rw [R.ma l hl];omega)
  rw [this];simp
def zE.put {os:ζ}{x:Ψ}(R:Red os (m+1) m b nd lv)(F:zE m t nd qs)(e:nd[t]?=some x):zE m (t+1) nd (qs.set x.1 (low (x.2.getD m 0) (x.2.getD x.1 0))):=by
 let ql:=F.1;let hx:=R.cols x (DE e)
 let dis:∀i y,i<t->nd[i]?=some y->y.1≠x.1:=fun i y hi ey=>by
  let a:=agB.mp R.asc i t (by rw [ir];exact (be.mp ey).1) (by rw [ir];exact (be.mp e).1) hi;simp only [anQ] at a;let e1:=(be.mp ey).2;let e2:=(be.mp e).2;rw [e1,e2] at a;omega
 show ⟨by simp [ql],fun i hi y ey=>?_,fun j hj h=>?_⟩
 ·rcases Rc.mp hi with z|z
  ·rw [Mr,mJ (FG (dis i y z ey))]
   exact F.2.1 i z y ey
  ·subst z
   erw [e] at ey;rw [Mr,mK rfl,mK ga]
 ·rw [Mr,mJ (h t (NM _) x e)]
  exact F.2.2 j hj (fun i hi y ey=>h i (QT hi) y ey)
def EE (h:j<n):wo n (j:Int)=some j:=by
 unfold wo;simp;omega
def bK.putL (h:bK K H a xs)(e:H d=some (.lst ys)):bK K (upd H d o) a xs:=by
 rcases h with (h|⟨o',h⟩)|h
 ·exact .inl (.inl (by rw [ao (fun z=>by erw [z,e] at h)];exact h))
 ·exact .inl (.inr ⟨o',by rw [ao (fun z=>by erw [z,e] at h)];exact h⟩)
 ·exact .inr h
inductive mf (K:Frag)(vs:θ)(H:Hp)(Q:VK)(E_:XK):Prop
|mk (a:AG)(us:θ)(os:List (List Int:_))(m b:Nat)(_:vs=[.ref a,.int (m:Int)])(_:aU K H a us)(_:tQ H us os)(_:(∀o∈os,o.length=m+1))(_:m<=900)(_:os.length<=900)(_:(∀o∈os,Bd b o))(_:bb b (min m os.length)<=29000000)(_:(∀(l:π)(H':Hp),aq H H' ->l.length=m+1->pO os l->(∀j,j<m->l.getD j 0=0)->l.getD m 0≠0->Q .dw H'))(_:(∀(x:AG)(mS :θ)(qs:ο)(H':Hp),aq H H' ->H x=none->H' x=some (.lst mS)->c6 K H' mS qs->qs.length=m->(∀q∈qs,Sm (bb b (min m os.length)) (bb b (min m os.length)) q)->(∀o∈os,ev o (qL (qs.map vl))=0)->Q (.ref x) H'))
def zF:aE ["lines","many","told","x","column","line"] PJ (ae Ll):=sq
def ahG (hN:∀H:Hp,bK K H aN [.int 0,.int 1])(rC:mg "NOUGHT"=some (.ref aN))(D:Def K mg "solution_of" Ll PJ)(vG:mg "any"=none)(Wd:am P w K mg iN 35 "reduced" PJ (kN K))(EF:am P w K mg iN 33 "lowest_terms" RL gU):am P w K mg iN 36 "solution_of" PJ (mf K):=by
 refine D.oo zF fun H hr h=>?_;obtain ⟨a,us,os,m,b,rfl,hS,hL,hlen,hm,ho,hB,hb,q1,q2⟩:=h
 show ⟨_,(aa (aG 2 zF.nd (aZ Wd hr (aT (pv 0) (pv 1)))) (aa (bI (gD (aK (vA rfl) rfl vG Ub (aV (df (tn:=["line"]) (fr:=["many"]) (mL:=[1]) (bu (aL (pv 2))) (fk qB (bD (gy (K:=K) rfl) (pv 0) (pv 1)) ag (fY _)))))) (ah (aJ sH)) a_) (aa (aG 3 zF.nd (aF wA (bQ (aV (gN (v:=.ref aN) rfl rC rfl))) (pv 1))) (aa (bG K6 rfl (ni (aL (pv 2))) (ft rfl (aY (b9 4 zF.nd) (aY (b9 5 zF.nd) cZ))) (ah (iO (aZ EF hr (aT (bD aS (pv 5) (pv 1)) (bD aS (pv 5) (pv 4)))) (lO (pv 3) (pv 4) set_list)))) (ah (aJ (pv 3))))))),?_⟩;sleep 4
 show ⟨_,rfl,_,rfl,a,us,os,m+1,m,b,rfl,hS,hL,hlen,ga,ga,ga,hB,hb,fun p d a' AD mS nd lv H1 s1 JE np hp hd MR Wf Uh R=>?_⟩;let lu:=Uh.1;let cnt:=R.cnt;show ⟨_,rfl,p,_,_,_,rfl,rfl,bK.of hp,jN,a',rfl,⟨_,MR⟩,fun D1 n1=>?_⟩;refine dN (oe:=[some (.int (m:Int))]) (K:=K) (a:=a') (xs:=mS) (fun k v _=>∃l,lv[k]?=some l/\v=.bl (decide (l.getD m 0≠0))) n1 (FU (show mS.length<=1000 by omega) gt) (fun H2 s2=>s2.seq MR) (fun _ _ _ _ _ _ _ h=>h) ?_ ?_
 ·intro k x H2 RR ex s2 kk
  obtain ⟨l,el,b',rfl,jZ⟩:=Uh.at ex;let hll:=R.ma l (DE el);show ⟨_,rfl,_,rfl,b',_,_,_,rfl,rfl,aU.of (s2 _ _ jZ),qQ ga,rfl,kk _ _ (aq.refl _) ⟨l,el,?_⟩⟩;simp
 ·intro ys H2 hy h_ s2 hD
  let ey:ys=(lv.map fun l=>decide (l.getD m 0≠0)).map V.bl:=by
   refine Mt fun i=>?_;by_cases hi:i<ys.length
   ·let e1:ys[i]?=some ys[i]:=gE hi
    obtain ⟨l,el,e⟩:=h_ i _ e1;rw [e1,e,Wp,Wp,el];rfl
   ·rw [EZ ga,EZ (by simp;omega)]
  subst ey;show ⟨D1,_,rfl,aU.of hD,_,rfl,?_⟩;let Oy:=s1.trans s2;refine bU (fun c=>?_) (fun c=>?_)
  ·obtain ⟨b',jZ,hb1⟩:=Vm.mp c
   obtain ⟨l,hl,rfl⟩:=CZ.mp jZ;let hn:l.getD m 0≠0:=Km hb1;exact q1 l H2 Oy (R.ma l hl) (R.nG l hl) (R.zero l hl) hn
  ·let hz:∀l∈lv,l.getD m 0=0:=fun l hl=>by
    by_cases z:l.getD m 0=0
    ·exact z
    ·exact DL (Vm.mpr ⟨true,CZ.mpr ⟨l,hl,Kk z⟩,rfl⟩) c
   show ⟨rh,fun p3 n3=>?_⟩;let s3:=aH n3 (.lst [V.ref aN]);show ⟨_,rfl,p3,_,_,rfl,rfl,aj,ga,ga,DC (show 1*(m:Int).toNat<=1000 by omega) gt,fun x n4=>?_⟩;let s4:=aH n4 (.lst (EI (m:Int).toNat [V.ref aN]).flatten);let ZQ:=(Oy.trans s3).trans s4;let nx:H x=none:=(Oy.trans s3).free n4;let er:(EI (m:Int).toNat [V.ref aN]).flatten=EI m (V.ref aN):=by simp
   let hp4:=s4 _ _ (s3 _ _ (s2 _ _ hp));let L1:=s4 _ _ (s3 _ _ (s2 _ _ hd));let P9:=((Wf.ji s2).ji s3).ji s4;let dx:d≠x:=ak (s3 _ _ (s2 _ _ hd)) n4;show ⟨_,rfl,p,_,_,_,rfl,rfl,bK.of hp4,j6,d,AD,rfl,L1,fun o=>?_⟩
   refine let I:dL:=fun t Y H'=>P8 fun (o4 o5:Α) (vH:θ) (qs:ο)=>Y=[ce a,some (.int (m:Int)),ce p,ce x,o4,o5]/\aq H H'/\H' d=some (.fV o (.dK AD))/\H' x=some (.lst vH)/\c6 K H' vH qs/\qR H' AD nd/\zE m t nd qs;i6 (d:=d) (o:=o) (AD:=AD) I
    ⟨none,none,EI m (V.ref aN),EI m (0,1),rfl,i_ ZQ JE,aj,by rw [ao (FG dx),aj,er],⟨by simp,fun i u q' e1 e2=>?_⟩,P9.put L1,⟨by simp,fun i hi=>DL hi (Oi _),fun j hj _=>by rw [OV,mK hj]⟩⟩ (fun t Y H' _ h=>by
     obtain ⟨_,_,_,_,_,_,h,_⟩:=h
     exact h) ?_ ?_
   ·rw [OV] at e1 e2
    by_cases z:i<m
    ·rw [mK z] at e1 e2
     cases e1;cases e2;show ⟨aN,rfl,hN _⟩
    ·rw [mJ z] at e1
     cases e1
   ·rintro t k v Y H5 p7 vF ⟨o4,o5,vH,qs,rfl,s5,Wc,hx5,RD,EG,F⟩ n7
    let ht:t<AD.length:=(be.mp vF).1;let hl5:=EG.1;obtain ⟨c,ec⟩:∃c,nd[t]?=some c:=⟨_,gE ga⟩;obtain ⟨k1,k2⟩:=EG.2 t _ c vF ec;let k1':k=.inl (c.1:Int):=k1;subst k1';obtain ⟨b',eb,jZ⟩:=k2;have ZR :v=.ref b':=eb;subst ZR;let hcm:=DE ec;let hcl:=R.tR c hcm;let hcc:=R.cols c hcm;let s7:=aH n7 (.tup [kV (.inl (c.1:Int)),.ref b']);let ZS:=s7 _ _ jZ;show ⟨p7,_,rfl,bK.of aj,rfl,_,_,rfl,_,_,rfl,rfl,_,rfl,_,rfl,b',_,_,_,rfl,rfl,aU.of ZS,qQ ga,_,rfl,_,rfl,b',_,_,_,rfl,rfl,aU.of ZS,qQ ga,_,_,rfl,R.here c hcm,fun p8 H8 s8 e8=>?_⟩;let EH:=s7.trans s8;let ZT:=EH _ _ hx5;let l2:=RD.1;let xn:∀{b0:AG} {o0:HO},H b0=some o0->b0≠x:=fun e=>ak e nx;let dx8:=EH _ _ Wc;show ⟨_,rfl,_,rfl,x,vH,_,c.1,rfl,rfl,ZT,EE (by rwa [l2,F.1]),?_⟩;show ⟨_,_,vH.set c.1 (.ref p8),qs.set c.1 (low (c.2.getD m 0) (c.2.getD c.1 0)),rfl,i_ (s5.trans EH) nx,by rwa [ao dx],aj,?_,?_,F.put R ec⟩
    ·let iN:c6 K H8 (vH.set c.1 (.ref p8)) (qs.set c.1 (low (c.2.getD m 0) (c.2.getD c.1 0))):=(RD.ji EH).set ⟨p8,rfl,bK.of e8⟩
     show ⟨iN.1,fun i u q' e1 e2=>?_⟩;obtain ⟨p9,e9,h9⟩:=iN.2 i u q' e1 e2;show ⟨p9,e9,bK.putL h9 ZT⟩
    ·let iN:=EG.ji EH
     show ⟨iN.1,fun i kv y e1 e2=>⟨(iN.2 i kv y e1 e2).1,?_⟩⟩;obtain ⟨p9,e9,h9⟩:=Wf.2 i kv y e1 e2 |>.2
     show ⟨p9,e9,?_⟩
     let px9:p9≠x:=fun z=>by
      have:=(s3 _ _ (s2 _ _ h9));erw [z,n4] at this
     rw [ao px9];obtain ⟨p10,Wg,h10⟩:=(iN.2 i kv y e1 e2).2;erw [e9] at Wg;exact h10
   ·rintro Y H5 ⟨o4,o5,vH,qs,rfl,s5,Wc,hx5,RD,EG,F⟩
    let hl5:=EG.1;rw [hl5] at F;show ⟨_,rfl,q2 x vH qs H5 s5 nx hx5 RD F.1 (F.sm R) (F.sol R hz)⟩
def mh (H:Hp)(r:AG)(ls:ω)(cy:Η):Prop:=H r=some (.lst (ls.map V.ref))/\ls.length=cy.length/\∀(i:Nat)(l:AG)(vs:θ),ls[i]?=some l->cy[i]?=some vs->H l=some (.lst vs)
def mh.ji (h:mh H r ls cy)(s:aq H H'):mh H' r ls cy:=⟨s _ _ h.1,h.2.1,fun i l vs e1 e2=>s _ _ (h.2.2 i l vs e1 e2)⟩
def Shape (T B m:Nat)(bP:υ):Prop:=∀qs∈bP,qs.length=m/\∀q∈qs,Sm T B q
def gG (K:Frag)(H:Hp)(cy:Η)(bP:υ):Prop:=cy.length=bP.length/\∀(i:Nat)(vs:θ)(qs:ο),cy[i]?=some vs->bP[i]?=some qs->c6 K H vs qs
theorem gG.ji (h:gG K H cy bP)(s:aq H H'):gG K H' cy bP:=⟨h.1,fun i vs qs e1 e2=>(h.2 i vs qs e1 e2).ji s⟩
def Oz {Z:Type}{xs:List Z}{x y:Z}(e:(xs++[x])[j]?=some y):(j<xs.length/\xs[j]?=some y)\/(j=xs.length/\x=y):=by
 by_cases c:j<xs.length
 ·rw [K_ c] at e
  exact .inl ⟨c,e⟩
 ·rw [Kx ga] at e
  by_cases z:j-xs.length=0
  ·rw [z] at e
   exact .inr ⟨ga,FA e⟩
  ·rw [EZ (by simp;omega)] at e
   cases e
def mh.snoc (h:mh H r ls cy)(nr:r∉ls)(hD:H D=some (.lst us))(nD:D≠r):mh (upd H r (.lst (ls.map V.ref++[.ref D]))) r (ls++[D]) (cy++[us]):=by
 obtain ⟨m1,m2,m3⟩:=h;show ⟨by rw [aj,K7];rfl,by simp [m2],fun j l vs e1 e2=>?_⟩
 rcases Oz e1 with ⟨c1,d1⟩|⟨c1,d1⟩<;>rcases Oz e2 with ⟨c2,d2⟩|⟨c2,d2⟩
 ·let ne:l≠r:=fun z=>nr (by rw [<-z];exact DE d1)
  rw [ao ne];exact m3 j l vs d1 d2
 ·omega
 ·omega
 ·subst d1 d2
  rwa [ao nD]
def mh.row (h:mh H r ls cy){i:Nat}{vs:θ}(e:cy[i]?=some vs):∃l,ls[i]?=some l/\H l=some (.lst vs):=by
 let hi:i<cy.length:=(be.mp e).1;let l1:=h.2.1;let e1:ls[i]?=some (ls[i]'ga):=gE ga;show ⟨_,e1,h.2.2 i _ _ e1 e⟩
def w_ (cy:Η)(j:Nat):List V:=cy.map fun vs=>vs.getD j .dw
def jE (cy:Η)(m:Nat):List (List V):=(KC m).map fun j=>w_ cy j
inductive nI (vs:θ)(H:Hp)(Q:VK)(E_:XK):Prop
|mk (r:AG)(ls:ω)(cy:List (List V:_))(m:Int)(_:vs=[.ref r,.int m])(_:mh H r ls cy)(_:0<=m)(_:m<=1000)(_:ls.length<=1000)(_:(∀vs∈cy,m<=(vs.length:Int)))(_:∀c cs H',aq H H' ->mh H' c cs (jE cy m.toNat)->Q (.ref c) H')
def OA:aE ["rows","many","columns","column"] O_ (ae Lj):=sq
def ahA (D:Def K mg "turned" Lj O_)(bg:mg "range"=none):am P w K mg iN 1 "turned" O_ nI:=by
 refine D.op OA fun f cL A lj s H vs Q E hr h=>?_;obtain ⟨r,ls,cy,m,rfl,M,m0,m1,hn,hv,q⟩:=h
 show ⟨_,(aa (aG 2 OA.nd (bQ gF)) (aa (bG K6 rfl (bS rfl bg (aV (pv 1))) (b9 3 OA.nd) (ah (cu (lH Ov Ri Rh fE (pv 2) (aV (df (tn:=["row"]) (fr:=["column"]) (mL:=[3]) (bu (pv 0)) (bD (gy (K:=K) rfl) (pv 0) (pv 1)))))))) (ah (aJ (pv 2))))),?_⟩
 let l1:=M.2.1;show ⟨z0L,fun c nc=>?_⟩;show ⟨_,rfl,_,rfl,ga,ga,?_⟩;refine let I:dL:=fun i Y H'=>P7 fun (o:Α) (cs:ω)=>Y=[ce r,some (.int m),ce c,o]/\aq H H'/\mh H' c cs (jE cy i)/\c∉cs;cP (lo:=0) (n:=m.toNat) I ⟨none,[],rfl,aH nc _,⟨aj,rfl,fun i l vs e=>by simp at e⟩,by simp⟩ ?_ ?_
 ·rintro i Y H' hi ⟨o,cs,rfl,s1,C,ncs⟩
  let M':=M.ji s1;show ⟨_,rfl,.inl ⟨rfl,_,aU.of C.1⟩,_,rfl,r,rfl,⟨_,aU.of M'.1⟩,fun D nD=>?_⟩;refine dN (oe:=[some (.int ((0:Int)+i))]) (K:=K) (a:=r) (xs:=ls.map V.ref) (fun k v _=>∃vs,cy[k]?=some vs/\v=vs.getD i .dw) nD (by rw [ir];exact FU hn gt) (fun H2 s2=>aU.of (s2 _ _ M'.1)) (fun _ _ _ _ _ _ _ h=>h) ?_ ?_
  ·intro k u H2 R hu s2 kk
   rw [Wp] at hu;obtain ⟨l,el,rfl⟩:=K9.mp hu;let hk:k<ls.length:=(be.mp el).1;let ev:cy[k]?=some (cy[k]'ga):=gE ga;let hl:=M'.2.2 k l _ el ev
   have CA :i<(cy[k]'ga).length:=by
    have:=hv _ (DE ev);omega
   let ea:gS (cy[k]'ga) ((0:Int)+(i:Int))=some ((cy[k]'ga).getD i .dw):=by
    rw [Kp];exact bE (by rw [gE CA,KU,gE CA];rfl)
   show ⟨_,rfl,_,rfl,l,_,_,_,rfl,rfl,aU.of (s2 _ _ hl),ea,kk _ _ (aq.refl _) ⟨_,ev,rfl⟩⟩
  ·intro ys H2 hy h_ s2 hD
   rw [ir] at hy
   let ey:ys=w_ cy i:=by
    refine Mt fun k=>?_;unfold w_;by_cases hk:k<ys.length
    ·let e1:ys[k]?=some ys[k]:=gE hk
     obtain ⟨vs,ev,e2⟩:=h_ k _ e1;rw [e1,e2,Wp,ev];rfl
    ·rw [EZ ga,EZ (by simp;omega)]
   subst ey;let lc:cs.length=i:=by have:=C.2.1;simpa [jE] using this
   let nDc:D≠c:=fun z=>by erw [z,C.1] at nD
   let fc:∀b o,H b=some o->b≠c:=fun b o e=>ak e nc;show ⟨c,_,_,rfl,rfl,s2 _ _ C.1,by rw [ir,lc];exact FU (show i<=1000 by omega) gt,?_⟩;show ⟨_,cs++[D],rfl,fun b o e=>?_,?_,fun z=>?_⟩
   ·rw [ao (fc b o e)]
    exact s2 _ _ (s1 _ _ e)
   ·let e:jE cy (i+1)=jE cy i++[w_ cy i]:=by simp [jE,oN]
    rw [e];exact (C.ji s2).snoc ncs hD nDc
   ·rcases K2.mp z with y|y
    ·exact ncs y
    ·exact nDc (K3.mp y).symm
 ·rintro Y H' ⟨o,cs,rfl,s1,C,ncs⟩
  show ⟨_,rfl,q c cs H' s1 C⟩
def fN (bP:υ)(j:Nat):List (Int×Int):=bP.map fun qs=>qs.getD j (0,1)
def ag' (sh:Shape T B m bP)(hj:j<m):∀q∈fN bP j,Sm T B q:=fun q hq=>by
 unfold fN at hq;obtain ⟨qs,hqs,rfl⟩:=CZ.mp hq;obtain ⟨hl,hs⟩:=sh qs hqs;rw [KU,gE ga];exact hs _ (V5 _)
def Bd.of (h:∀t∈l,t.natAbs<=2^b):Bd b l:=fun j=>by
 by_cases hj:j<l.length
 ·let e:l[j]?=some l[j]:=gE hj
  rw [getD_mem e];exact h _ (V5 hj)
 ·rw [nH ga]
  exact KZ _
abbrev Wl:=List Int×Int×AG×AG
def WlP (T B m:Nat)(qs:ο)(d:Int×Int)(w:Wl):Prop:=jB w.1 (qs++[d]) w.2.1/\0<w.2.1/\w.2.1.natAbs<=2^(B*(m+1))/\∀t∈w.1,t.natAbs<=2^(T+B*(m+1))
def zan {MS:ζ}(h:∀l∈MS,l.length=n)(hj:j<n):w_ (MS.map fun l=>l.map V.int) j=(MS.map fun l=>l.getD j 0).map V.int:=by
 unfold w_;rw [K4,K4];refine Ml fun l hl=>?_;let hlen:=h l hl;let e:l[j]?=some (l[j]'ga):=gE ga;show (l.map V.int).getD j .dw=.int (l.getD j 0);rw [getD_mem e,KU,Wp,e];rfl
theorem tV (j:Nat):∀{ws:List Wl} {ss ys:ο} {cs:ο},ss.length=ws.length->ys.length=ws.length->cs.length=ws.length->
  (∀(i:Nat)(w:Wl)(s y:Int×Int),ws[i]?=some w->ss[i]?=some s->ys[i]?=some y->vl y=vl s*w.2.1)->(∀(i:Nat)(w:Wl)(c:Int×Int),ws[i]?=some w->cs[i]?=some c->((w.1.getD j 0:Int):Rat)=vl c*w.2.1)->jq ys cs=fT (ss.map vl) (ws.map (·.1)) j
 | [],[],[],[],_,_,_,_,_=>by simp [jq,fT]
 | w::ws,s::ss,y::ys,c::cs,h1,h2,h3,h4,h5=>by
  let ih:=tV j (ws:=ws) (ss:=ss) (ys:=ys) (cs:=cs) (by simpa using h1) (by simpa using h2) (by simpa using h3) (fun i w s y e1 e2 e3=>h4 (i+1) w s y (by simpa using e1) (by simpa using e2) (by simpa using e3)) (fun i w c e1 e2=>h5 (i+1) w c (by simpa using e1) (by simpa using e2));let a:=h4 0 w s y rfl rfl rfl;let b:=h5 0 w c rfl rfl;let ed:jq (y::ys) (c::cs)=vl y*vl c+jq ys cs:=by simp [jq]
  simp only [DG,fT];rw [ed,ih,a,b];grind
 | [],_::_,_,_,h,_,_,_,_=>by simp at h
 | [],[],_::_,_,_,h,_,_,_=>by simp at h
 | [],[],[],_::_,_,_,h,_,_=>by simp at h
 | _::_,[],_,_,h,_,_,_,_=>by simp at h
 | _::_,_::_,[],_,_,h,_,_,_=>by simp at h
 | _::_,_::_,_::_,[],_,_,h,_,_=>by simp at h
def CD (m:Nat)(MS:ζ):List (List Int):=(KC m).map (fun j=>(MS.map fun l=>l.getD j 0)++[0])++[(MS.map fun l=>l.getD m 0)++[1]]
def xa {o:π}(h:o∈CD m MS):∃k,k<m+1/\o=(MS.map fun l=>l.getD k 0)++[if k=m then 1 else 0]/\True:=by
 unfold CD at h
 rcases K2.mp h with z|z
 ·obtain ⟨j,hj,rfl⟩:=CZ.mp z
  let hj':j<m:=Md.mp hj;show ⟨j,ga,by rw [mJ ga],trivial⟩
 ·show ⟨m,ga,by rw [mK rfl];exact K3.mp z,trivial⟩
def afw (h:k<m+1):(MS.map fun l=>l.getD k 0)++[if k=m then 1 else 0]∈CD m MS:=by
 unfold CD;by_cases z:k=m
 ·subst z
  rw [mK rfl];simp
 ·rw [mJ z]
  exact K2.mpr (.inl (CZ.mpr ⟨k,Md.mpr ga,rfl⟩))
def aa2 {ws:List Wl}(hlen:∀l∈ws.map (·.1),l.length=m+1)(hn:ws.length=n)(c0:pO (ws.map (·.1)) l0)(h0:∀j,j<m->l0.getD j 0=0)(h0m:l0.getD m 0≠0)(c1:pO (CD m (ws.map (·.1))) l1)(l1l:l1.length=n+1)(h1:∀j,j<n->l1.getD j 0=0)(hp:∀o∈CD m (ws.map (·.1)),o.length=n+1):l1.getD n 0=0:=by
 obtain ⟨y0,ly,ey⟩:=c0;have ayM :=cO h0m;have ZV :(y0.map fun a=>a*(1 / ((l0.getD m 0:Int):Rat))).length=(ws.map (·.1)).length:=by simp [ly]
 let all:∀o∈CD m (ws.map (·.1)),ev o (qL (y0.map fun a=>a*(1 / ((l0.getD m 0:Int):Rat))))=0:=by
  intro o ho;obtain ⟨k,hk,rfl,_⟩:=xa ho;rw [DN k _ (ws.map (·.1)) _ ZV,tH,<-ey k];by_cases z:k=m
  ·subst z
   rw [mK rfl];let e':((1:Int):Rat)=1:=by simp
   rw [e'];grind
  ·rw [mJ z,h0 k ga]
   simp;grind
 let e:=ae3 (n:=n+1) c1 ga (fun o ho=>by rw [hp o ho];exact DU _) all
 rw [lZ l1 _ n (fun j hj=>by
  by_cases z:j<n
  ·rw [h1 j z]
   simp
  ·rw [nH ga]
   simp)] at e
 let zn:qL (y0.map fun a=>a*(1 / ((l0.getD m 0:Int):Rat))) n= -1:=by
  unfold qL;rw [mJ (by rw [ZV,ir];omega)]
 rw [zn] at e;have:((l1.getD n 0:Int):Rat)=0:=by grind
 exact_mod_cast this
def ab9 {d:Int×Int}(h:jB ts (qs++[d]) b)(hj:j<qs.length):((ts.getD j 0:Int):Rat)=vl (qs.getD j (0,1))*b:=by
 let l:=h.1;rw [ER] at l;simp at l;let e1:ts[j]?=some (ts[j]'ga):=gE ga;let e2:qs[j]?=some qs[j]:=gE hj;have:=h.2 j _ _ e1 (by rwa [K_ hj]);rw [getD_mem e1,KU,e2];exact this
def aaU {d:Int×Int}(h:jB ts (qs++[d]) b)(hm:qs.length=m):((ts.getD m 0:Int):Rat)=vl d*b:=by
 let l:=h.1;rw [ER] at l;simp at l;let e1:ts[m]?=some (ts[m]'ga):=gE ga;have:=h.2 m _ d e1 (by rw [Kx ga,hm];simp);rw [getD_mem e1];exact this
inductive r6 (K:Frag)(vs:θ)(H:Hp)(Q:VK)(E_:XK):Prop
|mk (r dl:AG)(m:Nat)(ls:ω)(cy:List (List V:_))(bP:υ)(dus:θ)(ds:ο)(T B α:Nat)(_:vs=[.ref r,.ref dl,.int (m:Int)])(_:mh H r ls cy)(_:gG K H cy bP)(_:H dl=some (.lst dus))(_:c6 K H dus ds)(_:ds.length=bP.length)(_:Shape T B m bP)(_:(∀d∈ds,Sm T B d))(_:m<=100)(_:bP.length<=100)(_:T<=20000)(_:B*(m+1)<=100000)(_:B<=8000)(_:bb (T+B*(m+1)) (min (m+1) bP.length)<=α)(_:α<=29000000)(_:(∀(p x:AG)(us:θ)(xs:ο)(H':Hp),aq H H' ->H' p=some (.tup [.str "solved",.ref x])->H' x=some (.lst us)->c6 K H' us xs->xs.length=m->(∀q∈xs,Sm α α q)->(∀(i:Nat)(qs:ο)(d:Int×Int),bP[i]?=some qs->ds[i]?=some d->jq qs xs=vl d)->Q (.ref p) H'))(_:(∀(p y:AG)(us:θ)(ys:ο)(H':Hp),aq H H' ->H' p=some (.tup [.str "paper",.ref y])->H' y=some (.lst us)->c6 K H' us ys->ys.length=bP.length->(∀q∈ys,Sm (α+B*(m+1)) α q)->(∀j,j<m->jq ys (fN bP j)=0)->jq ys ds=1->Q (.ref p) H'))
def tX:aE ["rows","due","many","wholes","lines","x","columns","papers","shares"] Vc (ae Li):=sq
def agy (D:Def K mg "solve_rows" Li Vc)(lJ:mg "zip"=none)(aX:mg "len"=none)(Wj:am P w K mg iN 2 "whole_row" ["row"] (Rw K))(ZX:am P w K mg iN 36 "solution_of" PJ (mf K))(Wk:am P w K mg iN 1 "turned" O_ nI)(EF:am P w K mg iN 33 "lowest_terms" RL gU):
  am P w K mg iN 37 "solve_rows" Vc (r6 K):=by
 refine D.op tX fun f cL A lj s H vs Q E hr h=>?_;obtain ⟨r,dl,m,ls,cy,bP,dus,ds,T,B,α,rfl,M,NN,hdl,ND,YG,sh,sd,hm,hn,hT,hB,hB1,hZ,hZ1,q1,q2⟩:=h
 show ⟨_,(aa (Ot (i:=3) (tn:=["row","number"]) (fr:=[]) (mL:=[]) tX.nd (DI rfl lJ (aT (pv 0) (pv 1))) (fun _ _ _ _=>(rS (K:=K) (n:=2) rfl rfl (aY (fj (i:=0) (show (["row","number"]:List Str).Nodup from by decide+kernel) rfl (NY rfl)) (aY (fj (i:=1) (show (["row","number"]:List Str).Nodup from by decide+kernel) rfl (NY rfl)) cZ)))) (fun _ _ _ _=>pH) (qP Wj hr (aV (aF gZ (pv 0) (bQ (aV (pv 1))))))) (aa (tN (i:=4) (tn:=["whole"]) (fr:=[]) (mL:=[]) tX.nd (bu (pv 3)) (bD (dz (K:=K) rfl) (pv 0) ag)) (aa (aG 5 tX.nd (aZ ZX hr (aT (pv 4) (pv 2)))) (aa (bI (bW afo (pv 5) sH) (ah (aJ (aR (aT cU (pv 5))))) a_) (aa (aG 6 tX.nd (aZ Wk hr (aT (pv 4) (aF cD (pv 2) ag)))) (aa (aG 7 tX.nd (aF gZ (df (tn:=["column"]) (fr:=[]) (mL:=[]) (bu (cV fQ (pv 6) dP (dy (pv 2)))) (aF gZ (pv 0) (bQ (aV ag)))) (bQ (aV (aF gZ (bD aS (pv 6) (pv 2)) (bQ (aV ag))))))) (aa (aG 8 tX.nd (aZ ZX hr (aT (pv 7) (aK av rfl aX bJ (aV (pv 4)))))) (ah (aJ (aR (aT cU (wY (tn:=wH) (fr:=[]) (mL:=[]) (DI rfl lJ (aT (pv 8) (pv 3))) (fun _ _ _ _=>(rS (K:=K) (n:=2) rfl rfl (aY (fj (i:=0) (show (wH:List Str).Nodup from by decide+kernel) rfl (NY rfl)) (aY (fj (i:=1) (show (wH:List Str).Nodup from by decide+kernel) rfl (NY rfl)) cZ)))) (fun _ _ _ _=>pH) (qP EF hr (aT (aF iC (bD (dz (K:=K) rfl) (pv 0) ag) (bD (dz (K:=K) rfl) (pv 1) ag)) (bD (dz (K:=K) rfl) (pv 0) ag))))))))))))))),?_⟩;sleep 6
 let l1:=M.2.1;let l2:=NN.1;let l3:=ND.1;show ⟨_,rfl,_,rfl,r,dl,rfl,⟨_,aU.of M.1⟩,⟨_,aU.of hdl⟩,fun D1 n1=>?_⟩;refine ac_ (oe:=[]) (K:=K) (xs:=ls.map V.ref) (ys:=dus) (fun i v H=>∃w:Wl,v=.ref w.2.2.2/\w.2.2.1≠D1/\H w.2.2.2=some (.tup [.ref w.2.2.1,.int w.2.1])/\H w.2.2.1=some (.lst (w.1.map V.int))/\∀qs d,bP[i]?=some qs->ds[i]?=some d->WlP T B m qs d w) n1 (by rw [ir];exact FU (show ls.length<=1000 by omega) gt) (by rw [ir];omega) (fun H2 s2=>aU.of (s2 _ _ M.1)) (fun H2 s2=>aU.of (s2 _ _ hdl)) ?_ ?_ ?_
 ·rintro i v H2 H3 ys hD ks ⟨w,e1,e2,e3,e4,e5⟩
  show ⟨w,e1,e2,ks _ _ (fun z=>by erw [z,hD] at e3) e3,ks _ _ e2 e4,e5⟩
 ·rintro i x y H2 RR ex ey s2 ⟨ys0,hD0⟩ kk
  rw [Wp] at ex;obtain ⟨l,el,rfl⟩:=K9.mp ex;let hi:i<ls.length:=(be.mp el).1;obtain ⟨qs,eq⟩:∃qs,bP[i]?=some qs:=⟨_,gE ga⟩;obtain ⟨vs,ev⟩:∃vs,cy[i]?=some vs:=⟨_,gE ga⟩;let hl:=M.2.2 i l vs el ev;let hq:=NN.2 i vs qs ev eq;obtain ⟨d,ed,nd⟩:=ND.at ey;obtain ⟨lq,sq⟩:=sh qs (DE eq);let lvs:=hq.1;show ⟨_,rfl,_,rfl,rh,fun p1 np1=>?_⟩;let t1:=aH np1 (.lst [y]);show ⟨l,p1,vs,_,rfl,rfl,t1 _ _ (s2 _ _ hl),aj,DC (show vs.length+1<=1000 by omega) gt,fun p2 np2=>?_⟩;let t2:=aH np2 (.lst (vs++[y]));let t12:=t1.trans t2;show ⟨p2,qs++[d],T,B,rfl,⟨_,aU.of aj,(c6.snoc ((hq.ji s2).ji t12) ((nd.ji s2).ji t12))⟩,fun q' DB =>?_,hT,by rwa [ER,lq],hB1,by rw [ER,lq];show m+1<=1000;omega,fun p3 ZY ts b H3 s3 nl hp3 hl3 hb OC wh ZZ=>?_⟩
  ·rcases K2.mp DB with z|z
   ·exact sq q' z
   ·rw [K3.mp z]
    exact sd d (DE ed)
  ·refine kk _ _ (t12.trans s3) ⟨(ts,b,ZY,p3),rfl,fun z=>?_,hp3,hl3,fun X0 d' e1 e2=>?_⟩
   ·have:=t12 _ _ hD0
    erw [show ZY =D1 from z,this] at nl
   ·rw [eq] at e1
    rw [ed] at e2;cases e1;cases e2;rw [ER,lq] at OC ZZ;show ⟨wh,hb,OC,ZZ⟩
 ·intro zs H2 hz h_ s2 α0
  rw [ir] at hz;obtain ⟨ws,lw,hw⟩:=kK (P:=fun i v (w:Wl)=>v=.ref w.2.2.2/\w.2.2.1≠D1/\H2 w.2.2.2=some (.tup [.ref w.2.2.1,.int w.2.1])/\H2 w.2.2.1=some (.lst (w.1.map V.int))/\∀qs d,bP[i]?=some qs->ds[i]?=some d->WlP T B m qs d w) zs h_
  let ez:zs=ws.map (fun w=>V.ref w.2.2.2):=by
   refine Mt fun i=>?_;rw [Wp];by_cases hi:i<zs.length
   ·let e1:zs[i]?=some zs[i]:=gE hi
    let e2:ws[i]?=some (ws[i]'ga):=gE ga;let h:=(hw i _ _ e1 e2).1;rw [e1,e2,h];rfl
   ·rw [EZ ga,EZ ga]
    rfl
  subst ez;let RE:ws.length=bP.length:=ga
  let X4:∀(i:Nat)(w:Wl),ws[i]?=some w->H2 w.2.2.2=some (.tup [.ref w.2.2.1,.int w.2.1])/\H2 w.2.2.1=some (.lst (w.1.map V.int))/\∀qs d,bP[i]?=some qs->ds[i]?=some d->WlP T B m qs d w:=fun i w e=>(hw i _ w (by rw [Wp,e];rfl) e).2.2
  let wp:∀(i:Nat)(w:Wl),ws[i]?=some w->∃qs d,bP[i]?=some qs/\ds[i]?=some d/\WlP T B m qs d w:=fun i w e=>by
   let hi:i<ws.length:=(be.mp e).1;obtain ⟨qs,eq⟩:∃qs,bP[i]?=some qs:=⟨_,gE ga⟩;obtain ⟨d,ed⟩:∃d,ds[i]?=some d:=⟨_,gE ga⟩;show ⟨qs,d,eq,ed,(X4 i w e).2.2 qs d eq ed⟩
  let L7:∀l∈ws.map (·.1),l.length=m+1:=fun l hl=>by
   obtain ⟨w,OD,rfl⟩:=CZ.mp hl;obtain ⟨i,e⟩:=D_ OD;obtain ⟨qs,d,eq,_,wh,_⟩:=wp i w e;have:=wh.1;rwa [ER,(sh qs (DE eq)).1] at this
  let wbd:∀l∈ws.map (·.1),Bd (T+B*(m+1)) l:=fun l hl=>by
   obtain ⟨w,OD,rfl⟩:=CZ.mp hl;obtain ⟨i,e⟩:=D_ OD;obtain ⟨qs,d,eq,_,_,_,_,h⟩:=wp i w e;exact Bd.of h
  let α1:(ws.map (·.1)).length=bP.length:=by rwa [ir]
  show ⟨_,rfl,D1,rfl,⟨_,aU.of α0⟩,fun D2 n2=>?_⟩;refine dN (oe:=[]) (K:=K) (a:=D1) (xs:=ws.map (fun w=>V.ref w.2.2.2)) (fun k v _=>∃w,ws[k]?=some w/\v=.ref w.2.2.1) n2 (by rw [ir];exact FU (show ws.length<=1000 by omega) gt) (fun H3 s3=>aU.of (s3 _ _ α0)) (fun _ _ _ _ _ _ _ h=>h) ?_ ?_
  ·intro k x H3 RR ex s3 kk
   rw [Wp] at ex;obtain ⟨w,ew,rfl⟩:=K9.mp ex;show ⟨_,rfl,w.2.2.2,_,_,_,rfl,rfl,bK.of (s3 _ _ (X4 k w ew).1),j6,kk _ _ (aq.refl _) ⟨w,ew,rfl⟩⟩
  intro ys H3 hy α2 s3 X5
  let ey:ys=(ws.map (fun w=>w.2.2.1)).map V.ref:=by
   refine Mt fun i=>?_;rw [ir] at hy;by_cases hi:i<ys.length
   ·let e1:ys[i]?=some ys[i]:=gE hi
    obtain ⟨w,e2,e3⟩:=α2 i _ e1;rw [e1,e3,Wp,Wp,e2];rfl
   ·rw [EZ ga,EZ (by simp;omega)]
  subst ey
  let hLl:tQ H3 ((ws.map (fun w=>w.2.2.1)).map V.ref) (ws.map (·.1)):=⟨by simp,fun i u l e1 e2=>by
   rw [Wp,Wp] at e1;rw [Wp] at e2;cases e:ws[i]? with
   | none=>erw [e] at e2
   | some w=>
    rw [e] at e1 e2;cases e1;cases e2
    show ⟨w.2.2.1,rfl,s3 _ _ (X4 i w e).2.1⟩⟩
  let hMm:mh H3 D2 (ws.map (fun w=>w.2.2.1)) ((ws.map (·.1)).map fun l=>l.map V.int):=⟨X5,by simp,fun i l vs e1 e2=>by
   rw [Wp] at e1;rw [Wp,Wp] at e2;cases e:ws[i]? with
   | none=>erw [e] at e2
   | some w=>
    rw [e] at e1 e2;cases e1;cases e2
    exact s3 _ _ (X4 i w e).2.1⟩
  let mn:bb (T+B*(m+1)) (min m (ws.map (·.1)).length)<=α:=DC (rZ _ (by rw [α1];omega)) hZ;let s23:=s2.trans s3;show ⟨_,rfl,_,rfl,D2,_,ws.map (·.1),m,T+B*(m+1),rfl,aU.of X5,hLl,L7,ga,ga,wbd,DC mn hZ1,fun l0 H4 s4 l0l cm l00 l0m=>?_,fun x mS xs H4 s4 nx hx nxs lxs sxs sol=>?_⟩
  ·show ⟨_,rfl,rfl,_,rfl,bU (fun z=>by simp at z) (fun _=>?_)⟩
   let M4:=hMm.ji s4;show ⟨_,rfl,_,rfl,_,_,rfl,rfl,D2,ws.map (fun w=>w.2.2.1),_,(m:Int)+1,rfl,M4,ga,ga,by rw [ir];omega,fun vs hvs=>?_,fun c cs H5 s5 M5=>?_⟩
   ·obtain ⟨l,hl,rfl⟩:=CZ.mp hvs
    rw [ir,L7 l hl];omega
   let lcs:cs.length=m+1:=by
    have:=M5.2.1;unfold jE at this;simp at this;omega
   let col:∀k,k<m+1->∃l,cs[k]?=some l/\H5 l=some (.lst (((ws.map (·.1)).map fun l=>l.getD k 0).map V.int)):=fun k hk=>by
    let e:(jE ((ws.map (·.1)).map fun l=>l.map V.int) ((m:Int)+1).toNat)[k]?=some (((ws.map (·.1)).map fun l=>l.getD k 0).map V.int):=by
     rw [<-zan L7 hk];unfold jE;rw [Wp,Oh ga];rfl
    exact M5.row e
   show ⟨_,rfl,_,rfl,_,rfl,c,_,rfl,aU.of M5.1,fun p6 n6=>?_⟩;let t6:=aH n6 (.lst (gO (cs.map V.ref) none (some (m:Int))));show ⟨p6,rfl,⟨_,aU.of aj⟩,fun D6 nD6=>?_⟩;let lcl:((ws.map (·.1)).map fun l=>l.getD 0 0).length<=100:=by simp;omega
   refine lY (oe:=[]) (K:=K) (a:=p6) (xs:=(cs.map V.ref).take m) (fun k v H=>∃p,v=.ref p/\p≠D6/\H p=some (.lst ((List.map (fun l:List Int=>l.getD k 0) (ws.map (fun w:Wl=>w.1))++[(0:Int)]).map V.int))) nD6 (FU (show ((cs.map V.ref).take m).length<=1000 by simp;omega) gt) (fun H7 s7=>aU.of (s7 _ _ (by rw [aj,kJ (by simp;omega)]))) ?_ ?_ ?_
   ·rintro k v H7 H8 ys hD ks ⟨p,e1,e2,e3⟩
    show ⟨p,e1,e2,ks _ _ e2 e3⟩
   ·rintro k x H7 RR ex s7 ⟨ys0,ED⟩ kk
    let hk:k<m:=by have:=(be.mp ex).1;simp at this;omega
    obtain ⟨l,el,hl⟩:=col k ga;erw [List.getElem?_take,mK hk,Wp,el] at ex;show ⟨_,rfl,rh,fun pz nz=>?_⟩;let tz:=aH nz (.lst [.int 0]);show ⟨l,pz,_,_,rfl,rfl,tz _ _ (s7 _ _ (t6 _ _ hl)),aj,DC (show _<=1000 by simp;omega) gt,fun pn nn=>?_⟩;let tn:=aH nn (.lst (((ws.map (·.1)).map fun l=>l.getD k 0).map V.int++[.int 0]));refine kk _ _ (tz.trans tn) ⟨pn,rfl,fun z=>?_,by rw [aj,K7];rfl⟩;have:=tz _ _ ED;erw [z,this] at nn
   intro P_ H7 hy6 α3 s7 hD6;let ly6:P_.length=m:=by rw [hy6];simp;omega
   let t67:=t6.trans s7;obtain ⟨lm,elm,ag4⟩:=col m ga;show ⟨_,rfl,_,rfl,c,_,_,_,rfl,rfl,aU.of (t67 _ _ M5.1),bE (by rw [Wp,elm];rfl),rh,fun pz nz=>?_⟩;let tz:=aH nz (.lst [.int 1]);show ⟨lm,pz,_,_,rfl,rfl,tz _ _ (t67 _ _ ag4),aj,DC (show _<=1000 by simp;omega) gt,fun pn nn=>?_⟩;let tn:=aH nn (.lst (((ws.map (·.1)).map fun l=>l.getD m 0).map V.int++[.int 1]));show ⟨rh,fun pL nL=>?_⟩;let tL:=aH nL (.lst [V.ref pn]);let tzL:=(tz.trans tn).trans tL;show ⟨D6,pL,P_,_,rfl,rfl,tzL _ _ hD6,aj,DC (show P_.length+1<=1000 by omega) gt,fun pP nP=>?_⟩;let tP:=aH nP (.lst (P_++[V.ref pn]));let s7P:=tzL.trans tP;let hpn:=tP _ _ (tL _ _ (aj (H:=upd H7 pz (.lst [.int 1])) (a:=pn) (o:=.lst (((ws.map (·.1)).map fun l=>l.getD m 0).map V.int++[.int 1]))));let eP:upd (upd (upd (upd H7 pz (.lst [.int 1])) pn (.lst (((ws.map (·.1)).map fun l=>l.getD m 0).map V.int++[.int 1]))) pL (.lst [V.ref pn])) pP (.lst (P_++[V.ref pn])) pP=some (.lst (P_++[V.ref pn])):=aj
   let ag5:∀(k:Nat)(v:V),P_[k]?=some v->Ln H7 v (((ws.map (·.1)).map fun l=>l.getD k 0)++[0]):=fun k v e=>by
    obtain ⟨p,e1,_,e3⟩:=α3 k v e;show ⟨p,e1,e3⟩
   let s5P:=t67.trans s7P;generalize upd (upd (upd (upd H7 pz (.lst [.int 1])) pn (.lst (((ws.map (·.1)).map fun l=>l.getD m 0).map V.int++[.int 1]))) pL (.lst [V.ref pn])) pP (.lst (P_++[V.ref pn]))=H9 at*
   let ag6:tQ H9 (P_++[V.ref pn]) (CD m (ws.map (·.1))):=by
    show ⟨by simp [CD,ly6],fun k u l e1 e2=>?_⟩;unfold CD at e2;by_cases hk:k<m
    ·rw [K_ ga] at e1
     erw [K_ (by simpa using hk),Wp,Oh hk] at e2;exact (ag5 k u e1).ji s7P
    ·rw [Kx ga] at e1
     rw [Kx (by simp;omega)] at e2;by_cases hkm:k=m
     ·subst hkm
      rw [show k-P_.length=0 by omega] at e1;rw [show k-((KC k).map fun j=>((ws.map (·.1)).map fun l=>l.getD j 0)++[0]).length=0 by simp] at e2;cases e1;cases e2;show ⟨pn,rfl,by rw [hpn,K7];rfl⟩
     ·rw [EZ (by simp;omega)] at e1
      cases e1
   let ppl:∀o∈CD m (ws.map (·.1)),o.length=bP.length+1:=fun o ho=>by
    rcases xa ho with ⟨k,hk,e⟩
    rw [e.1];simp [RE]
   let ppb:∀o∈CD m (ws.map (·.1)),Bd (T+B*(m+1)) o:=fun o ho=>by
    rcases xa ho with ⟨k,hk,e,hc⟩
    rw [e];refine Bd.of fun t ht=>?_
    rcases K2.mp ht with z|z
    ·obtain ⟨l,hl,rfl⟩:=CZ.mp z
     exact wbd l hl k
    ·rw [K3.mp z]
     refine DC ?_ (RV (n:=T+B*(m+1)));split<;>decide
   let lpp:(CD m (ws.map (·.1))).length=m+1:=by simp [CD]
   let mn2:bb (T+B*(m+1)) (min bP.length (CD m (ws.map (·.1))).length)<=α:=DC (rZ _ (by rw [lpp];omega)) hZ;let s39:=(s4.trans s5).trans s5P;show ⟨_,rfl,_,rfl,D2,_,rfl,.inl (aU.of (s39 _ _ X5)),pP,_,CD m (ws.map (·.1)),bP.length,T+B*(m+1),by simp [RE],aU.of eP,ag6,ppl,ga,ga,ppb,DC mn2 hZ1,fun l1 H10 T4 l1l cm1 l10 l1m=>?_,fun x2 vH ss H10 T4 nx2 hx2 nss Wm sss u3=>?_⟩
   ·exact DL (aa2 L7 RE cm l00 l0m cm1 l1l l10 ppl) l1m
   let csm:∀k,k<m+1->fT (ss.map vl) (ws.map (·.1)) k=if k=m then 1 else 0:=fun k hk=>by
    let e:=u3 _ (afw hk);rw [DN k _ (ws.map (·.1)) (ss.map vl) (by simp [RE,Wm])] at e;by_cases z:k=m
    ·rw [mK z] at e ⊢
     let e':((1:Int):Rat)=1:=by simp
     rw [e'] at e;grind
    ·rw [mJ z] at e ⊢
     let e':((0:Int):Rat)=0:=by simp
     rw [e'] at e;grind
   let Wn:=s39.trans T4;let α4:=Wn _ _ (s3 _ _ α0);let ay6:=nss.1;show ⟨_,rfl,_,rfl,x2,D1,rfl,⟨_,aU.of hx2⟩,⟨_,aU.of α4⟩,fun D9 n9=>?_⟩;refine yT (oe:=[]) (K:=K) (xs:=vH) (ys:=ws.map (fun w=>V.ref w.2.2.2)) (fun k v H=>∃w q,ws[k]?=some w/\ss[k]?=some q/\Nm H v (low (q.1*w.2.1) q.2)) n9 (FU (show vH.length<=1000 by omega) gt) (by rw [ir];omega) (fun XR KG=>aU.of (KG _ _ hx2)) (fun XR KG=>aU.of (KG _ _ α4)) ?_ ?_ ?_
   ·rintro k v XR H12 ys hD ks ⟨w,q,e1,e2,e3⟩
    show ⟨w,q,e1,e2,e3.kept hD ks⟩
   ·intro k x y XR RR ex ey KG kk
    obtain ⟨q,Wo,ps,rfl,hps⟩:=nss.at ex;rw [Wp] at ey;obtain ⟨w,ew,rfl⟩:=K9.mp ey;obtain ⟨qs,d,eqs,Wq,wh,wb,wbs,_⟩:=wp k w ew;let sq:=sss q (DE Wo);let hw1:=KG _ _ (Wn _ _ (s3 _ _ (X4 k w ew).1));let α5:=Ty.aq.cp KG hps;show ⟨_,rfl,ps,_,_,_,rfl,rfl,α5,j6,_,rfl,w.2.2.2,_,_,_,rfl,rfl,bK.of hw1,jN,_,_,rfl,rfl,gA (tu sq.top mn2) wbs ga,_,rfl,ps,_,_,_,rfl,rfl,α5,jN,_,_,rfl,by have:=sq.pos;omega,fun p8 H8 s8 e8=>kk _ _ s8 ⟨w,q,ew,Wo,p8,rfl,e8⟩⟩
   intro Uj XR h9 α6 KG hD9;show ⟨qp,fun p12 n12=>?_⟩;let Oy:=aH n12 (.tup [.str "paper",.ref D9]);let yat:∀(k:Nat)(w:Wl)(q:Int×Int),ws[k]?=some w->ss[k]?=some q->(NZ (fun (w:Wl) (q:Int×Int)=>low (q.1*w.2.1) q.2) ws ss)[k]?=some (low (q.1*w.2.1) q.2):=fun k w q e1 e2=>by rw [Wr,e1,e2]
   let OE:(NZ (fun (w:Wl) (q:Int×Int)=>low (q.1*w.2.1) q.2) ws ss).length=bP.length:=by simp [RE,Wm]
   let vly:∀(k:Nat)(w:Wl)(q y:Int×Int),ws[k]?=some w->ss[k]?=some q->(NZ (fun (w:Wl) (q:Int×Int)=>low (q.1*w.2.1) q.2) ws ss)[k]?=some y->vl y=vl q*w.2.1:=fun k w q y e1 e2 e3=>by
    erw [yat k w q e1 e2] at e3;let sq:=sss q (DE e2);rw [tq (by have:=sq.pos;omega)];unfold vl;push_cast;grind
   refine q2 p12 D9 Uj (NZ (fun (w:Wl) (q:Int×Int)=>low (q.1*w.2.1) q.2) ws ss) _ (((s23.trans Wn).trans KG).trans Oy) aj (Oy _ _ hD9) ⟨by rw [h9,OE];omega,fun k u y e1 e2=>?_⟩ OE (fun y hy=>?_) (fun j hj=>?_) ?_
   ·obtain ⟨w,q,ew,Wo,p,e,hp⟩:=α6 k u e1
    erw [yat k w q ew Wo] at e2;show ⟨p,e,bK.of (Oy _ _ hp)⟩
   ·obtain ⟨k,hk⟩:=D_ hy
    let hkl:k<bP.length:=by rw [<-OE];exact (be.mp hk).1
    obtain ⟨w,ew⟩:∃w,ws[k]?=some w:=⟨_,gE ga⟩;obtain ⟨q,Wo⟩:∃q,ss[k]?=some q:=⟨_,gE ga⟩;erw [yat k w q ew Wo] at hk;obtain ⟨qs,d,eqs,Wq,wh,wb,wbs,_⟩:=wp k w ew;let sq:=sss q (DE Wo);exact w8 (by have:=sq.pos;omega) (wL (tu sq.top mn2) wbs) (tu sq.bot mn2)
   ·rw [tV j (ws:=ws) (ss:=ss) ga (by rw [OE,RE]) (by simp [fN,RE]) vly ?_,csm j ga,mJ ga]
    intro k w cq ew ec;obtain ⟨qs,d,eqs,Wq,wh,_⟩:=wp k w ew;unfold fN at ec;erw [Wp,eqs] at ec;exact ab9 wh (by rwa [(sh qs (DE eqs)).1])
   ·rw [tV m (ws:=ws) (ss:=ss) ga (by rw [OE,RE]) ga vly ?_,csm m ga,mK rfl]
    intro k w cq ew ec;obtain ⟨qs,d,eqs,Wq,wh,_⟩:=wp k w ew;erw [ec] at Wq;exact aaU wh (sh qs (DE eqs)).1
  ·show ⟨_,rfl,rfl,_,rfl,bU (fun _=>?_) (fun z=>by simp at z)⟩
   show ⟨_,rfl,qp,fun p5 n5=>?_⟩;let s5:=aH n5 (.tup [.str "solved",.ref x]);refine q1 p5 x mS xs _ ((s23.trans s4).trans s5) aj (s5 _ _ hx) (nxs.ji s5) lxs (fun q hq=>(sxs q hq).up mn mn) (fun i qs d eq ed=>?_);let hi:i<bP.length:=(be.mp eq).1;obtain ⟨w,ew⟩:∃w,ws[i]?=some w:=⟨_,gE ga⟩;obtain ⟨wh,wb,_⟩:=(X4 i w ew).2.2 qs d eq ed;let e0:=sol w.1 (CZ.mpr ⟨w,DE ew,rfl⟩);rw [zf wh (by rw [lxs,(sh qs (DE eq)).1])] at e0;let wb':=cO (b:=w.2.1) ga;grind
inductive EK (K:Frag)(f:Int×Int->Int×Int->Int×Int)(vs:θ)(H:Hp)(Q:VK)(E_:XK):Prop
|mk (u v:V)(x y:Int×Int)(_:vs=[u,v])(_:oY K H u x)(_:oY K H v y)(_:ZA 8000000 x)(_:ZA 8000000 y)(_:gives H Q (f x y))
def aiF:aE Mh Mh (ae EA):=sq
def aiE (hM:DH CX)(D:Def K mg "difference_of" EA Mh)(EF:Fn P w K mg iN CX 33 "lowest_terms" RL gU):Fn P w K mg iN CX 34 "difference_of" Mh (EK K subQ):=by
 refine D.op aiF fun f cL A lj s H vs Q E hr h=>?_;obtain ⟨u,v,x,y,rfl,⟨p1,rfl,h1⟩,⟨p2,rfl,h2⟩,k1,k2,q⟩:=h;let px:=vp (X:=pC CX P w K mg iN Mh "difference_of" (ae EA) f cL A lj s H E) hM;show ⟨_,(ah (aJ (yQ EF hr.mo px (aT (aF dB (aF bY (aL (pv 0)) (aL (pv 1))) (aF bY (aL (pv 1)) (aL (pv 0)))) (aF bY (aL (pv 0)) (aL (pv 1))))))),?_⟩;let b1:=k1.top;let b2:=k1.bot;let b3:=k2.top;let b4:=k2.bot;let c:∀{i j:Int},intBits i<=8000000->intBits j<=8000000->qG i j:=fun a b=>⟨DC a gt,DC b gt⟩;show ⟨_,rfl,p1,_,_,_,rfl,rfl,h1,j6,_,rfl,p2,_,_,_,rfl,rfl,h2,jN,_,_,rfl,rfl,c b1 b4,_,rfl,p2,_,_,_,rfl,rfl,h2,j6,_,rfl,p1,_,_,_,rfl,rfl,h1,jN,_,_,rfl,rfl,c b3 b2,_,_,rfl,rfl,_,rfl,p1,_,_,_,rfl,rfl,h1,jN,_,rfl,p2,_,_,_,rfl,rfl,h2,jN,_,_,rfl,rfl,c b2 b4,_,_,rfl,zaK k1 k2,q⟩
inductive EL (K:Frag)(f:Rat->Rat->Rat)(vs:θ)(H:Hp)(Q:VK)(E_:XK):Prop
|mk (u v:V)(x y:Rat)(_:vs=[u,v])(_:g_ K H u x)(_:g_ K H v y)(_:Sz 8000000 x)(_:Sz 8000000 y)(_:gives H Q (qr (f x y)))
def OF (h:Sz k r):ZA k (qr r):=⟨dF r,h.top,h.bot⟩
def afv (F:Fn P w K mg iN CX k x ps (EK K subQ)):Fn P w K mg iN CX k x ps (EL K fun a b=>a-b):=by
 obtain ⟨f,fd,G,r⟩:=F.ex;show ⟨f,fd,G.imp fun vs H Q E h=>?_,r⟩;obtain ⟨u,v,a,b,e,h1,h2,k1,k2,q⟩:=h;show ⟨u,v,qr a,qr b,e,h1,h2,OF k1,OF k2,?_⟩;unfold subQ;rwa [Ob]
def OG (K:Frag)(H:Hp)(Q:VK)(p:Rat×Rat):Prop:=∀(v:V)(H':Hp),aq H H' ->kG K H' v p->Q v H'
inductive EM (K:Frag)(f:Rat->Rat->Rat)(vs:θ)(H:Hp)(Q:VK)(E_:XK):Prop
|mk (u v:V)(x y:Rat×Rat)(_:vs=[u,v])(_:kG K H u x)(_:kG K H v y)(_:Sz 8000000 x.1)(_:Sz 8000000 x.2)(_:Sz 8000000 y.1)(_:Sz 8000000 y.2)(_:OG K H Q (f x.1 y.1,f x.2 y.2))
def aiD:aE Mh Mh (ae EB):=sq
def agr (hM:DH CX)(D:Def K mg "pair_difference" EB Mh)(α':Fn P w K mg iN CX 34 "difference_of" Mh (EL K fun a b=>a-b)):Fn P w K mg iN CX 35 "pair_difference" Mh (EM K fun a b=>a-b):=by
 refine D.op aiD fun f cL A lj s H vs Q E hr h=>?_;obtain ⟨u,v,x,y,rfl,⟨p1,a1,a2,rfl,h1,n1,n2⟩,⟨p2,b1,b2,rfl,h2,m1,m2⟩,k1,k2,l1,l2,q⟩:=h;let px:=vp (X:=(pC (ba P w) P w K mg iN Mh "pair_difference" (ae EB) f cL A lj s H E)) hM;show ⟨_,(ah (aJ (aR (aT (yQ α' hr.mo px (aT (aL (pv 0)) (aL (pv 1)))) (yQ α' hr.mo px (aT (aL (pv 0)) (aL (pv 1)))))))),_,rfl,p1,_,_,_,rfl,rfl,h1,j6,_,rfl,p2,_,_,_,rfl,rfl,h2,j6,a1,b1,_,_,rfl,n1,m1,k1,l1,fun c1 H1 s1 e1=>?_⟩;show ⟨_,rfl,p1,_,_,_,rfl,rfl,Ty.aq.cp s1 h1,jN,_,rfl,p2,_,_,_,rfl,rfl,Ty.aq.cp s1 h2,jN,a2,b2,_,_,rfl,n2.ji s1,m2.ji s1,k2,l2,fun c2 H2 s2 e2=>?_⟩;show ⟨qp,fun c3 n3=>?_⟩;let s3:=aH n3 (.tup [.ref c1,.ref c2]);exact q (.ref c3) _ (fun b o z=>s3 _ _ (s2 _ _ (s1 _ _ z))) ⟨c3,_,_,rfl,bK.of aj,⟨c1,rfl,bK.of (s3 _ _ (s2 _ _ e1))⟩,⟨c2,rfl,bK.of (s3 _ _ e2)⟩⟩
inductive xg (K:Frag)(C:AG)(vs:θ)(H:Hp)(Q:VK)(E_:XK):Prop
|mk (a dx:AG)(_:vs=[.ref a])(_:H a=some (.ins C dx []))(_:∀(pP pW pB:AG)(H':Hp),bh a H H' ->H pP=none->H pW=none->H pB=none->iy K H' C a dx pP pW pB [] [] [] [] []->Q .dw H')
def acB :fP "pin_places" x []=([("pin_places",x)]:List (Str×V)):=rfl
def acA :fP "pin_ways" y [("pin_places",x)]=([("pin_places",x),("pin_ways",y)]:List (Str×V)):=by
 simp only [fP];rw [mJ gt]
def ac6 :fP "bar_ends" z [("pin_places",x),("pin_ways",y)]=([("pin_places",x),("pin_ways",y),("bar_ends",z)]:List (Str×V)):=by
 simp only [fP];rw [mJ gt,mJ gt]
def aaa:aE K8 K8 (ae LM):=sq
def aab (F:sU K "__init__" "Frame.__init__" LM f fd)(fc:N_ K C):ap P w K mg iN 1 f fd K8 (xg K C):=by
 refine hV F aaa fun H hr h=>?_;obtain ⟨a,dx,rfl,ha,q⟩:=h
 show ⟨_,(aa (wj (pv 0) dX rfl) (aa (wj (pv 0) dX rfl) (ah (wj (pv 0) dX rfl)))),?_⟩
 intro pP nP;let aP:a≠pP:=ak ha nP;show ⟨_,rfl,a,C,dx,_,rfl,(by rwa [ao aP]),fc.cls,fc.pl,(by show 0<1000;decide),?_⟩;rw [acB];generalize e1:upd (upd H pP (.dK [])) a (.ins C dx [("pin_places",.ref pP)])=H1;let o1:H1 a=some (.ins C dx [("pin_places",.ref pP)]):=by rw [<-e1,aj]
 let p1:H1 pP=some (.dK []):=by rw [<-e1,ao (FG aP),aj]
 let k1:∀b o,b≠a->H b=some o->H1 b=some o:=fun b o n e=>by rwa [<-e1,ao n,ao (ak e nP)]
 intro pW nW;let aW:a≠pW:=ak o1 nW;show ⟨_,rfl,a,C,dx,_,rfl,(by rwa [ao aW]),fc.cls,fc.wy,(by show 1<1000;decide),?_⟩;rw [acA];generalize e2:upd (upd H1 pW (.dK [])) a (.ins C dx [("pin_places",.ref pP),("pin_ways",.ref pW)])=H2;let PW:pP≠pW:=ak p1 nW;let o2:H2 a=some (.ins C dx [("pin_places",.ref pP),("pin_ways",.ref pW)]):=by rw [<-e2,aj]
 let w2:H2 pW=some (.dK []):=by rw [<-e2,ao (FG aW),aj]
 let k2:∀b o,b≠a->H1 b=some o->H2 b=some o:=fun b o n e=>by rwa [<-e2,ao n,ao (ak e nW)]
 intro pB nB;let aB:a≠pB:=ak o2 nB;let p2:=k2 _ _ (FG aP) p1;show ⟨_,rfl,a,C,dx,_,rfl,(by rwa [ao aB]),fc.cls,fc.br,(by show 2<1000;decide),?_⟩;rw [ac6];let PB:pP≠pB:=ak p2 nB;let WB:pW≠pB:=ak w2 nB;let k3:∀b o,b≠a->H2 b=some o->(upd (upd H2 pB (.dK [])) a (.ins C dx [("pin_places",.ref pP),("pin_ways",.ref pW),("bar_ends",.ref pB)])) b=some o:=fun b o n e=>by rwa [ao n,ao (ak e nB)]
 let f1:∀b,b≠a->H1 b=none->H b=none:=fun b n e=>by
  cases z:H b with
  | none=>rfl
  | some o=>erw [k1 b o n z] at e
 let f2:∀b,b≠a->H2 b=none->H b=none:=fun b n e=>by
  cases z:H b with
  | none=>rfl
  | some o=>erw [k2 b o n (k1 b o n z)] at e
 refine q pP pW pB _ (fun b o n e=>k3 b o n (k2 b o n (k1 b o n e))) nP (f1 _ (FG aW) nW) (f2 _ (FG aB) nB) ⟨aj,k3 _ _ (FG aP) p2,k3 _ _ (FG aW) w2,?_,PW,PB,WB,.nil,.nil⟩;rw [ao (FG aB),aj]
inductive js (K:Frag)(C:AG)(vs:θ)(H:Hp)(Q:VK)(E_:XK):Prop
|mk (a dx pP pW pB:AG)(ps:Ξ)(bs:Ζ)(kP kW kB:δ)(_:vs=[.ref a])(_:iy K H C a dx pP pW pB ps bs kP kW kB)(_:∀(l:AG)(H':Hp),aq H H' ->H l=none->H' l=some (.lst ((bs.map (·.1)).map V.str))->Q (.ref l) H')
def aac:aE K8 K8 (ae LR):=sq
def aad (F:sU K "bars" "Frame.bars" LR f fd)(fc:N_ K C)(c9:mg "list"=none):ap P w K mg iN 1 f fd K8 (js K C):=by
 refine hV F aac fun H hr h=>?_;obtain ⟨a,dx,pP,pW,pB,ps,bs,kP,kW,kB,rfl,R,q⟩:=h;show ⟨_,(ah (aJ (cQ (fZ rfl) rfl c9 jY (aV (eU (pv 0) rfl))))),_,rfl,a,C,dx,_,_,rfl,R.obj,fc.cls,fc.br,rfl,pB,kB,rfl,.inl R.br,fun l nl=>?_⟩;refine q l _ (aH nl _) nl ?_;rw [aj]
 let e:kB.map (fun kv=>kV kv.1)=(bs.map (·.1)).map V.str:=by
  let z:kB.map (fun kv=>kV kv.1)=(kB.map (·.1)).map kV:=by rw [K4];rfl
  rw [z,R.qM,K4];rfl
 rw [e]
inductive fU (K:Frag)(C:AG)(vs:θ)(H:Hp)(Q:VK)(E_:XK):Prop
|mk (a dx pP pW pB:AG)(ps:Ξ)(bs:Ζ)(kP kW kB:δ)(_:vs=[.ref a])(_:iy K H C a dx pP pW pB ps bs kP kW kB)(_:∀(l:AG)(H':Hp),aq H H' ->H l=none->H' l=some (.lst ((ps.map (·.1)).map V.str))->Q (.ref l) H')
def aae:aE K8 K8 (ae LQ):=sq
def aaf (F:sU K "pins" "Frame.pins" LQ f fd)(fc:N_ K C)(c9:mg "list"=none):ap P w K mg iN 1 f fd K8 (fU K C):=by
 refine hV F aae fun H hr h=>?_;obtain ⟨a,dx,pP,pW,pB,ps,bs,kP,kW,kB,rfl,R,q⟩:=h;show ⟨_,(ah (aJ (cQ (fZ rfl) rfl c9 jY (aV (eU (pv 0) rfl))))),_,rfl,a,C,dx,_,_,rfl,R.obj,fc.cls,fc.pl,rfl,pP,kP,rfl,.inl R.pl,fun l nl=>?_⟩;refine q l _ (aH nl _) nl ?_;rw [aj]
 let e:kP.map (fun kv=>kV kv.1)=(ps.map (·.1)).map V.str:=by
  let z:kP.map (fun kv=>kV kv.1)=(kP.map (·.1)).map kV:=by rw [K4];rfl
  rw [z,R.IQ,K4];rfl
 rw [e]
inductive gc (K:Frag)(C:AG)(vs:θ)(H:Hp)(Q:VK)(E_:XK):Prop
|mk (a dx pP pW pB:AG)(ps:Ξ)(bs:Ζ)(kP kW kB:δ)(x:Str)(_:vs=[.ref a,.str x])(_:iy K H C a dx pP pW pB ps bs kP kW kB)(_:x∈ps.map (·.1))(_:Q .dw H)
def aag:aE N7 N7 (ae LP):=sq
def aah (F:sU K "check_pin" "Frame.check_pin" LP f fd)(fc:N_ K C):ap P w K mg iN 1 f fd N7 (gc K C):=by
 refine hV F aag fun H hr h=>?_;obtain ⟨a,dx,pP,pW,pB,ps,bs,kP,kW,kB,x,rfl,R,hx,q⟩:=h;show ⟨_,(ah (bI (sI (pJ (cW hr) (pv 1) (eU (pv 0) rfl))) (ah (dR)) a_)),_,rfl,_,rfl,a,C,dx,_,_,rfl,R.obj,fc.cls,fc.pl,rfl,pP,_,rfl,eZ.k (k:=.inr x) R.pl,_,rfl,?_⟩;rwa [R.pin x,Kk hx]
inductive r8 (K:Frag)(C:AG)(vs:θ)(H:Hp)(Q:VK)(E_:XK):Prop
|mk (a dx pP pW pB:AG)(ps:Ξ)(bs:Ζ)(kP kW kB:δ)(x:Str)(p:Pt)(_:vs=[.ref a,.str x])(_:iy K H C a dx pP pW pB ps bs kP kW kB)(_:(ps.map (·.1)).Nodup)(_:(x,p)∈ps)(_:∀v,Spot K H v p->Q v H)
def aai:aE N7 N7 (ae LS):=sq
def aaj (F:sU K "place" "Frame.place" LS f fd)(fc:N_ K C)(MC:bn P w K mg iN 1 C "check_pin" N7 (gc K C)):ap P w K mg iN 2 f fd N7 (r8 K C):=by
 refine hV F aai fun H hr h=>?_;obtain ⟨a,dx,pP,pW,pB,ps,bs,kP,kW,kB,x,p,rfl,R,nd,hx,q⟩:=h
 show ⟨_,(aa (cu (fu (k:=1) (pv 0) hr.mo (Oq P w) (aV (pv 1)))) (ah (aJ (fS (cW hr) (eU (pv 0) rfl) (pv 1) (fun _ _=>rfl))))),?_⟩
 show ⟨_,rfl,a,C,dx,_,_,_,rfl,R.obj,rfl,MC,_,rfl,a,dx,pP,pW,pB,ps,bs,kP,kW,kB,x,rfl,R,CZ.mpr ⟨_,hx,rfl⟩,?_⟩;obtain ⟨v,ev,hv⟩:=R.place nd hx;show ⟨_,rfl,a,C,dx,_,_,rfl,R.obj,fc.cls,fc.pl,rfl,_,rfl,pP,v,rfl,(by rw [<-ev];exact eZ.k (k:=.inr x) R.pl),q v hv⟩
inductive xh (K:Frag)(C:AG)(vs:θ)(H:Hp)(Q:VK)(E_:XK):Prop
|mk (a dx pP pW pB:AG)(ps:Ξ)(bs:Ζ)(kP kW kB:δ)(x one jK:Str)(_:vs=[.ref a,.str x])(_:iy K H C a dx pP pW pB ps bs kP kW kB)(_:(bs.map (·.1)).Nodup)(_:(x,one,jK)∈bs)(_:∀p,Rd H p (.tup [.str one,.str jK])->Q (.ref p) H)
def aak:aE Yl Yl (ae LV):=sq
def aal (F:sU K "ends" "Frame.ends" LV f fd)(fc:N_ K C):ap P w K mg iN 1 f fd Yl (xh K C):=by
 refine hV F aak fun H hr h=>?_;obtain ⟨a,dx,pP,pW,pB,ps,bs,kP,kW,kB,x,one,jK,rfl,R,nd,hx,q⟩:=h
 show ⟨_,(aa (bI (sI (pJ (cW hr) (pv 1) (eU (pv 0) rfl))) (ah (dR)) a_) (ah (aJ (fS (cW hr) (eU (pv 0) rfl) (pv 1) (fun _ _=>rfl))))),?_⟩
 let hm:x∈bs.map (·.1):=CZ.mpr ⟨_,hx,rfl⟩;show ⟨_,rfl,_,rfl,a,C,dx,_,_,rfl,R.obj,fc.cls,fc.br,rfl,pB,_,rfl,eZ.k (k:=.inr x) R.br,_,rfl,?_⟩;rw [R.bar x,Kk hm];obtain ⟨p,ev,hv⟩:=R.ends nd hx;show ⟨_,rfl,a,C,dx,_,_,rfl,R.obj,fc.cls,fc.br,rfl,_,rfl,pB,.ref p,rfl,(by rw [<-ev];exact eZ.k (k:=.inr x) R.br),q p hv⟩
inductive qe (K:Frag)(C:AG)(vs:θ)(H:Hp)(Q:VK)(E_:XK):Prop
|mk (a dx pP pW pB:AG)(ps:Ξ)(bs:Ζ)(kP kW kB:δ)(pw:Τ)(x:Str)(ws:Κ)(_:vs=[.ref a,.str x])(_:iy K H C a dx pP pW pB ps bs kP kW kB)(_:CB K H pw kW)(_:(pw.map (·.1)).Nodup)(_:(x,ws)∈pw)(_:x∈ps.map (·.1))(_:∀(l:AG)(us:θ)(H':Hp),aq H H' ->H l=none->H' l=some (.lst us)->rq K H' us ws->Q (.ref l) H')
def aam:aE N7 N7 (ae LU):=sq
def aan (F:sU K "ways" "Frame.ways" LU f fd)(fc:N_ K C)(c9:mg "list"=none)(MC:bn P w K mg iN 1 C "check_pin" N7 (gc K C)):ap P w K mg iN 2 f fd N7 (qe K C):=by
 refine hV F aam fun H hr h=>?_;obtain ⟨a,dx,pP,pW,pB,ps,bs,kP,kW,kB,pw,x,ws,rfl,R,W,nd,hx,hp,q⟩:=h
 show ⟨_,(aa (cu (fu (k:=1) (pv 0) hr.mo (Oq P w) (aV (pv 1)))) (ah (aJ (cQ tm rfl c9 jY (aV (fS (cW hr) (eU (pv 0) rfl) (pv 1) (fun _ _=>rfl))))))),?_⟩
 show ⟨_,rfl,a,C,dx,_,_,_,rfl,R.obj,rfl,MC,_,rfl,a,dx,pP,pW,pB,ps,bs,kP,kW,kB,x,rfl,R,hp,?_⟩;obtain ⟨v,ev,l,us,el,hl,pt⟩:=l_ W nd hx;let el':v=.ref l:=el;subst el';show ⟨_,rfl,a,C,dx,_,_,rfl,R.obj,fc.cls,fc.wy,rfl,_,rfl,pW,.ref l,rfl,(by rw [<-ev];exact eZ.k (k:=.inr x) R.wy),l,us,rfl,aU.of hl,fun l2 n2=>q l2 us _ (aH n2 _) n2 aj (pt.ji (aH n2 _))⟩
def Ws (K:Frag)(H:Hp)(Q:VK)(ws:Κ):Prop:=∀(l:AG)(us:θ)(H':Hp),aq H H' ->H l=none->H' l=some (.lst us)->rq K H' us ws->Q (.ref l) H'
def JF (h:(qr x).1=0):x=0:=by
 have:=g9 x;unfold vl at this;rw [h] at this;let z:=DR (r:=x);let e:((0:Int):Rat)=0:=by rfl
 rw [e] at this;grind
inductive xi (K:Frag)(C:AG)(vs:θ)(H:Hp)(Q:VK)(E_:XK):Prop
|mk (a dx:AG)(ux uy:V)(x y:Rat)(_:vs=[.ref a,ux,uy])(_:H a=some (.ins C dx []))(_:g_ K H ux x)(_:g_ K H uy y)(_:¬ (x=0/\y=0))(_:∀p,H p=none->Q .dw (upd (upd H p (.tup [ux,uy])) a (.ins C dx [("way",.ref p)])))
def aao:aE VY VY (ae LW):=sq
def aap (F:sU K "__init__" "Roller.__init__" LW f fd)(cl:yE K C)(nw:gX K C "way"):ap P w K mg iN 1 f fd VY (xi K C):=by
 refine hV F aao fun H hr h=>?_;obtain ⟨a,dx,ux,uy,x,y,rfl,ha,⟨p1,rfl,h1⟩,⟨p2,rfl,h2⟩,nz,q⟩:=h;let sz:(2:Nat)<=C_:=gt
 show ⟨_,(aa (bI (PW.pt (aiH (bW eR (aL (pv 1)) ag) (zaH (bW eR (aL (pv 2)) ag)))) (ah (dR)) a_) (ah (wj (pv 0) (aR (aT (pv 1) (pv 2))) rfl))),?_⟩
 show ⟨_,rfl,p1,_,_,_,rfl,rfl,h1,j6,rfl,_,rfl,?_⟩;refine bU (fun c1=>?_) (fun c1=>?_)
 ·let e1:(qr x).1=0:=by simpa using Km c1
  show ⟨_,rfl,p2,_,_,_,rfl,rfl,h2,j6,rfl,_,rfl,?_⟩;refine bU (fun c2=>?_) (fun c2=>?_)
  ·let e2:(qr y).1=0:=by simpa using Km c2
   exact DL ⟨JF e1,JF e2⟩ nz
  ·show ⟨_,rfl,_,rfl,sz,fun p hp=>⟨_,rfl,a,C,dx,[],rfl,(by rwa [ao (ak ha hp)]),cl,nw,(by show 0<1000;decide),q p hp⟩⟩
 ·refine YO ?_
  show ⟨_,rfl,_,rfl,sz,fun p hp=>⟨_,rfl,a,C,dx,[],rfl,(by rwa [ao (ak ha hp)]),cl,nw,(by show 0<1000;decide),q p hp⟩⟩
inductive nJ (K:Frag)(C:AG)(vs:θ)(H:Hp)(Q:VK)(E_:XK):Prop
|mk (a dx p:AG)(w:Rat×Rat)(_:vs=[.ref a])(_:H a=some (.ins C dx [("way",.ref p)]))(_:kG K H (.ref p) w)(_:Ws K H Q [w])
def aaq:aE K8 K8 (ae LX):=sq
def aar (F:sU K "ways" "Roller.ways" LX f fd)(cl:yE K C)(nw:gX K C "way"):ap P w K mg iN 1 f fd K8 (nJ K C):=by
 refine hV F aaq fun H hr h=>?_;obtain ⟨a,dx,p,w,rfl,ha,hw,q⟩:=h;show ⟨_,(ah (aJ (bQ (aV (eU (pv 0) rfl))))),_,rfl,a,C,dx,_,.ref p,rfl,ha,cl,nw,gV,rh,fun l hl=>?_⟩;exact q l [.ref p] _ (aH hl _) hl aj (.cons (hw.ji (aH hl _)) .nil)
inductive nK (K:Frag)(vs:θ)(H:Hp)(Q:VK)(E_:XK):Prop
|mk (a:AG)(_:vs=[.ref a])(_:Ws K H Q [(1,0),(0,1)])
def OH:qr 1=(1,1):=by
 have:=tK 1;simpa using this
def kO:qr 0=(0,1):=by
 have:=tK 0;simpa using this
def Uk (ea:qr a=x)(eb:qr b=y)(h:H p=some (.tup [.ref p1,.ref p2]))(h1:H p1=some (.tup [.int x.1,.int x.2]))(h2:H p2=some (.tup [.int y.1,.int y.2])):kG K H (.ref p) (a,b):=
 ⟨p,.ref p1,.ref p2,rfl,bK.of h,⟨p1,rfl,by rw [ea];exact bK.of h1⟩,⟨p2,rfl,by rw [eb];exact bK.of h2⟩⟩
def aas:aE K8 K8 (ae LY):=sq
def aat (F:sU K "ways" "Fixed.ways" LY f fd):ap P w K mg iN 1 f fd K8 (nK K):=by
 refine hV F aas fun H hr h=>?_;obtain ⟨a,rfl,q⟩:=h;let sz:(2:Nat)<=C_:=gt
 show ⟨_,(ah (aJ (bQ (aT (aR (aT (aR (aT ag ag)) (aR (aT ag ag)))) (aR (aT (aR (aT ag ag)) (aR (aT ag ag)))))))),sz,fun p1 n1=>?_⟩;let s1:=aH n1 (.tup [.int 1,.int 1]);let e1:upd H p1 (.tup [.int 1,.int 1]) p1=some (.tup [.int 1,.int 1]):=aj;generalize upd H p1 (.tup [.int 1,.int 1])=H1 at s1 e1 ⊢;show ⟨sz,fun p2 n2=>?_⟩;let s2:=aH n2 (.tup [.int 0,.int 1]);let e2:upd H1 p2 (.tup [.int 0,.int 1]) p2=some (.tup [.int 0,.int 1]):=aj;generalize upd H1 p2 (.tup [.int 0,.int 1])=H2 at s2 e2 ⊢;show ⟨sz,fun p3 n3=>?_⟩;let s3:=aH n3 (.tup [.ref p1,.ref p2]);let e3:upd H2 p3 (.tup [.ref p1,.ref p2]) p3=some (.tup [.ref p1,.ref p2]):=aj;generalize upd H2 p3 (.tup [.ref p1,.ref p2])=H3 at s3 e3 ⊢;show ⟨sz,fun p4 n4=>?_⟩;let s4:=aH n4 (.tup [.int 0,.int 1]);let e4:upd H3 p4 (.tup [.int 0,.int 1]) p4=some (.tup [.int 0,.int 1]):=aj;generalize upd H3 p4 (.tup [.int 0,.int 1])=H4 at s4 e4 ⊢;show ⟨sz,fun p5 n5=>?_⟩;let s5:=aH n5 (.tup [.int 1,.int 1]);let e5:upd H4 p5 (.tup [.int 1,.int 1]) p5=some (.tup [.int 1,.int 1]):=aj;generalize upd H4 p5 (.tup [.int 1,.int 1])=H5 at s5 e5 ⊢;show ⟨sz,fun p6 n6=>?_⟩;let s6:=aH n6 (.tup [.ref p4,.ref p5]);let e6:upd H5 p6 (.tup [.ref p4,.ref p5]) p6=some (.tup [.ref p4,.ref p5]):=aj;generalize upd H5 p6 (.tup [.ref p4,.ref p5])=H6 at s6 e6 ⊢;show ⟨sz,fun l nl=>?_⟩;let s7:=aH nl (.lst [.ref p3,.ref p6]);let e7:upd H6 l (.lst [.ref p3,.ref p6]) l=some (.lst [.ref p3,.ref p6]):=aj;generalize upd H6 l (.lst [.ref p3,.ref p6])=H7 at s7 e7 ⊢;let s16:=s1.trans (s2.trans (s3.trans (s4.trans (s5.trans s6))));let w1:kG K H7 (.ref p3) (1,0):=Uk OH kO (s7 _ _ (s6 _ _ (s5 _ _ (s4 _ _ e3)))) (s7 _ _ (s6 _ _ (s5 _ _ (s4 _ _ (s3 _ _ (s2 _ _ e1)))))) (s7 _ _ (s6 _ _ (s5 _ _ (s4 _ _ (s3 _ _ e2)))));let w2:kG K H7 (.ref p6) (0,1):=Uk kO OH (s7 _ _ e6) (s7 _ _ (s6 _ _ (s5 _ _ e4))) (s7 _ _ (s6 _ _ e5));exact q l [.ref p3,.ref p6] H7 (s16.trans s7) (s16.free nl) e7 (.cons w1 (.cons w2 .nil))
def Ul (P:FQ)(w:World)(K:Frag)(mg:ξ)(iN:Heap)(H:Hp)(hv:V)(ws:Κ):Prop:=(hv=.dw/\ws=[])\/∃(h Ch dxh:AG)(X6:List (Str×V))(psh:ψ)(sph:Sp),hv=.ref h/\H h=some (.ins Ch dxh X6)/\X6.lookup ("ways":Str)=none/\bn P w K mg iN 2 Ch "ways" psh sph/\(∀H1,H1 h=some (.ins Ch dxh X6)->bF H H1->∀Q',Ws K H1 Q' ws->sph [.ref h] H1 Q' E0)
inductive gd (P:FQ)(w:World)(K:Frag)(mg:ξ)(iN:Heap)(C:AG)(vs:θ)(H:Hp)(Q:VK)(E_:XK):Prop
|mk (a dx pP pW pB:AG)(ps:Ξ)(bs:Ζ)(kP kW kB:δ)(pw:Τ)(x:Str)(u v hv:V)(p:Pt)(ws:Κ)(_:vs=[.ref a,.str x,u,v,hv])(_:iy K H C a dx pP pW pB ps bs kP kW kB)(_:CB K H pw kW)(_:pw.map (·.1)=ps.map (·.1))(_:oY K H u p.1)(_:oY K H v p.2)(_:x∉ps.map (·.1))(_:(∀z∈ps,z.2≠p))(_:ps.length<24)(_:Ul P w K mg iN H hv ws)(_:∀(H':Hp)(OI zh :δ),(∀b o,b≠pP->b≠pW->H b=some o->H' b=some o)->iy K H' C a dx pP pW pB (ps++[(x,p)]) bs OI zh kB->CB K H' (pw++[(x,ws)]) zh ->Q .dw H')
def OJ:aE ["self","name","x","y","hold","pin","spot"] σ7 (ae rB):=sq
def aav (F:V0 K "put_pin" "Frame.put_pin" rB f fd)(fc:N_ K C)(Wt:mg "MOST_PINS"=some (.int 24 tkP))(aX:mg "len"=none)(c9:mg "list"=none):ap P w K mg iN 3 f fd σ7 (gd P w K mg iN C):=by
 refine aeD F OJ (fun vs H Q E h=>?_) (fun cL A lj s H vs Q E hr h=>?_)
 ·obtain ⟨a,dx,pP,pW,pB,ps,bs,kP,kW,kB,pw,x,u,v,hv,p,ws,rfl,_⟩:=h
  rfl
 obtain ⟨a,dx,pP,pW,pB,ps,bs,kP,kW,kB,pw,x,u,v,hvv,p,ws,rfl,R,W,ew,hu,hv,hx,hs,hl,hH,q⟩:=h
 show ⟨_,(aa (bI (sI (NW (cW hr) (pv 1) (eU (pv 0) rfl))) (ah (dR)) a_) (aa (rX (bG K6 rfl (ni (eU (pv 0) rfl)) (ft rfl (aY (b9 5 OJ.nd) (aY (b9 6 OJ.nd) cZ))) (ah (bI (bW (jm hr.units) (pv 6) (aR (aT (pv 2) (pv 3)))) (ah (dR)) a_)))) (aa (bI (bW TL (aK pR rfl aX bJ (aV (eU (pv 0) rfl))) (gN (v:=.int 24) rfl Wt ⟨_,rfl⟩)) (ah (dR)) a_) (aa (dQ (cW hr) (eU (pv 0) rfl) (pv 1) (aR (aT (pv 2) (pv 3))) rfl) (ah (dQ (cW hr) (eU (pv 0) rfl) (pv 1) (yy (bW Nh (pv 4) sH) (bQ gF) (cQ tm rfl c9 jY (aV (cM (k:=2) (pv 4) hr.mo (pY P w))))) rfl)))))),?_⟩;sleep 4
 show ⟨_,rfl,_,rfl,a,C,dx,_,_,rfl,R.obj,fc.cls,fc.pl,rfl,pP,_,rfl,eZ.k (k:=.inr x) R.pl,_,rfl,?_⟩;rw [R.pin x,O7 hx];let lk:kP.length=ps.length:=(EO R.rp).symm;show ⟨_,rfl,a,C,dx,_,_,rfl,R.obj,fc.cls,fc.pl,rfl,pP,kP,rfl,R.pl,fun o=>?_⟩;let k0:bh pP H (upd H pP (.fV o (.dK kP))):=fun b o' n e=>by rwa [ao n]
 refine let I:dL:=fun t Y H'=>P7 fun (o2 o3:Α)=>Y=[ce a,some (.str x),some u,some v,some hvv,o2,o3]/\bh pP H H'/\H' pP=some (.fV o (.dK kP));i6 (d:=pP) (o:=o) (AD:=kP) I ⟨none,none,rfl,k0,aj⟩ (fun t Y H' _ h=>by
   obtain ⟨_,_,_,_,h⟩:=h
   exact h) ?_ ?_
 ·rintro t k y Y H6 p7 vF ⟨o2,o3,rfl,k6,Wu⟩ n7
  obtain ⟨z,ez,hz1,Zv⟩:=aI (dD R.rp) vF;have ahd :k=.inr z.1:=hz1;subst ahd
  let s6:bF H H6:=fun b xs r=>by
   rcases r with r|⟨o',r⟩
   ·exact .inl (k6 _ _ (fun e=>by erw [e,R.pl] at r) r)
   ·exact .inr ⟨o',k6 _ _ (fun e=>by erw [e,R.pl] at r) r⟩
  let s7:=aH n7 (.tup [kV (.inr z.1),y]);let s67:bF H (upd H6 p7 (.tup [kV (.inr z.1),y])):=s6.trans (.of s7);show ⟨p7,_,rfl,bK.of aj,rfl,_,_,rfl,_,_,rfl,rfl,_,rfl,_,rfl,_,rfl,qp,fun t8 n8=>?_⟩;let s8:=aH n8 (.tup [u,v]);let EH:bF H (upd (upd H6 p7 (.tup [kV (.inr z.1),y])) t8 (.tup [u,v])):=s67.trans (.of s8);show ⟨i7 z.2,i7 p,.inl ⟨(Spot.bq Zv EH).is,(Spot.is (p:=p) ⟨t8,u,v,rfl,bK.of aj,hu.bq EH,hv.bq EH⟩)⟩,ahb _ _,ab5 _,?_⟩;rw [ag3];show ⟨_,rfl,bU (fun c=>DL (Km c) (hs z (DE ez))) (fun _=>?_)⟩;show ⟨_,_,rfl,fun b o' n e=>s8 _ _ (s7 _ _ (k6 b o' n e)),s8 _ _ (s7 _ _ Wu)⟩
 ·rintro Y H1 ⟨o2,o3,rfl,k1,hd1⟩
  show ⟨pP,o,kP,hd1,fun o' u' z=>(by have z':H pP=some (.fV o' u'):=z;erw [R.pl] at z'),?_⟩
  let s2:aq H (upd H1 pP (.dK kP)):=fun b o' e=>by
   by_cases n:b=pP
   ·subst n
    rw [R.pl] at e;rwa [aj]
   ·rw [ao n]
    exact k1 b o' n e
  generalize upd H1 pP (.dK kP)=H2 at s2 ⊢;let R2:=R.ji s2;show ⟨_,rfl,a,C,dx,_,_,rfl,R2.obj,fc.cls,fc.pl,rfl,pP,kP,rfl,.inl R2.pl,_,_,rfl,rfl,_,rfl,?_⟩;refine bU (fun c=>?_) (fun _=>?_)
  ·let c':(24:Int)<=(kP.length:Int):=Km c
   omega
  show ⟨_,rfl,_,rfl,qp,fun t nt=>?_⟩;let s3:=aH nt (.tup [u,v]);let R3:=R2.ji s3;let X2:=(hu.ji s2).ji s3;let hv3:=(hv.ji s2).ji s3;show ⟨_,rfl,a,C,dx,_,_,rfl,R3.obj,fc.cls,fc.pl,rfl,_,rfl,pP,_,rfl,iS.k (k:=.inr x) R3.pl (FU (show kP.length<=1000 by omega) gt),?_⟩;let e:putK kP (.inr x) (.ref t)=kP++[(.inr x,.ref t)]:=dJ _ (cR (by rw [R.IQ];exact fun z=>hx (iG.mp z)));rw [e];let R4:=R3.V2 (x:=x) (p:=p) (t:=t) ⟨t,u,v,rfl,bK.of aj,X2,hv3⟩;let k4:∀b o,b≠pP->H b=some o->(upd (upd H2 t (.tup [u,v])) pP (.dK (kP++[(.inr x,.ref t)]))) b=some o:=fun b o n e=>by rw [ao n];exact s3 _ _ (s2 _ _ e)
  generalize upd (upd H2 t (.tup [u,v])) pP (.dK (kP++[(.inr x,.ref t)]))=H4 at R4 k4 ⊢
  let lw:kW.length=ps.length:=by
   let e1:kW.length=pw.length:=(EO W).symm;let e2:=oP NO ew;rw [ir,ir] at e2;omega
  let t4:bF H H4:=fun b xs r=>by
   rcases r with r|⟨o',r⟩
   ·exact .inl (k4 _ _ (fun e=>by erw [e,R.pl] at r) r)
   ·exact .inr ⟨o',k4 _ _ (fun e=>by erw [e,R.pl] at r) r⟩
  let W4:CB K H4 pw kW:=Paired.cg W fun _ _ z=>⟨z.1,by
   obtain ⟨l,us,e1,e2,e3⟩:=z.2
   show ⟨l,us,e1,k4 _ _ (fun e=>by erw [e,R.pl] at e2) e2,e3.bq t4⟩⟩
  show ⟨_,rfl,rfl,_,rfl,?_⟩
  rcases hH with ⟨rfl,rfl⟩|⟨h,Ch,dxh,X6,psh,sph,rfl,hh,hlk,MH,HR⟩
  ·refine bU (fun _=>?_) (fun c=>DL gt c)
   show ⟨by show 0<=C_;decide,fun l2 n6=>?_⟩;let s6:=aH n6 (.lst []);let R6:=R4.ji s6;let W6:=W4.ji s6;show ⟨_,rfl,a,C,dx,_,_,rfl,R6.obj,fc.cls,fc.wy,rfl,_,rfl,pW,_,rfl,iS.k (k:=.inr x) R6.wy (FU (show kW.length<=1000 by omega) gt),?_⟩;let ek:putK kW (.inr x) (.ref l2)=kW++[(.inr x,.ref l2)]:=dJ _ (cR (by rw [W.keys,ew];exact fun z=>hx (iG.mp z)));rw [ek];let ne6:l2≠pW:=fun z=>by have h:=R6.wy;erw [<-z,aj] at h
   exact q _ _ _ (fun b o n1 n2 e=>by rw [ao n2];exact s6 _ _ (k4 b o n1 e)) (R6.IS _) (V7 (W6.dict R6.wy) ⟨rfl,l2,[],rfl,by rw [ao ne6,aj],.nil⟩)
  let h4:H4 h=some (.ins Ch dxh X6):=k4 _ _ (fun e=>by erw [e,R.pl] at hh) hh;refine bU (fun c=>DL (Km c) (fun z=>nomatch z)) (fun _=>?_);show ⟨_,rfl,h,Ch,dxh,X6,psh,sph,rfl,h4,hlk,MH,HR H4 h4 t4 _ fun l1 us H5 s5 n5 e5 p5=>?_⟩;show ⟨l1,us,rfl,aU.of e5,fun l2 n6=>?_⟩;let s6:=aH n6 (.lst us);let R6:=(R4.ji s5).ji s6;let W6:=(W4.ji s5).ji s6;show ⟨_,rfl,a,C,dx,_,_,rfl,R6.obj,fc.cls,fc.wy,rfl,_,rfl,pW,_,rfl,iS.k (k:=.inr x) R6.wy (FU (show kW.length<=1000 by omega) gt),?_⟩;let ek:putK kW (.inr x) (.ref l2)=kW++[(.inr x,.ref l2)]:=dJ _ (cR (by rw [W.keys,ew];exact fun z=>hx (iG.mp z)));rw [ek];let Qa:aq H4 (upd H5 l2 (.lst us)):=fun b o z=>s6 _ _ (s5 _ _ z);refine q _ _ _ (fun b o n1 n2 e=>by rw [ao n2];exact Qa _ _ (k4 b o n1 e)) (R6.IS _) ?_;let ne6:l2≠pW:=fun z=>by have h:=R6.wy;erw [<-z,aj] at h
  exact V7 (W6.dict R6.wy) ⟨rfl,l2,us,rfl,by rw [ao ne6,aj],(p5.ji s6).bq (.dict R6.wy)⟩
inductive ib (K:Frag)(C:AG)(vs:θ)(H:Hp)(Q:VK)(E_:XK):Prop
|mk (a dx pP pW pB:AG)(ps:Ξ)(bs:Ζ)(kP kW kB:δ)(x one jK:Str)(_:vs=[.ref a,.str x,.str one,.str jK])(_:iy K H C a dx pP pW pB ps bs kP kW kB)(_:x∉bs.map (·.1))(_:one∈ps.map (·.1))(_:jK∈ps.map (·.1))(_:one≠jK)(_:bs.length<60)(_:Q .dw H)
def aaw:aE PQ PQ (ae LO):=sq
def aax (F:sU K "check_bar" "Frame.check_bar" LO f fd)(fc:N_ K C)(Wv:mg "MOST_BARS"=some (.int 60 tkB))(aX:mg "len"=none)
  (MC:bn P w K mg iN 1 C "check_pin" N7 (gc K C)):ap P w K mg iN 2 f fd PQ (ib K C):=by
 refine hV F aaw fun H hr h=>?_;obtain ⟨a,dx,pP,pW,pB,ps,bs,kP,kW,kB,x,one,jK,rfl,R,hx,h1,h2,ne,hl,q⟩:=h
 show ⟨_,(aa (bI (sI (NW (cW hr) (pv 1) (eU (pv 0) rfl))) (ah (dR)) a_) (aa (cu (fu (k:=1) (pv 0) hr.mo (Oq P w) (aV (pv 2)))) (aa (cu (fu (k:=1) (pv 0) hr.mo (Oq P w) (aV (pv 3)))) (aa (bI (bW eR (pv 2) (pv 3)) (ah (dR)) a_) (ah (bI (bW TL (aK pR rfl aX bJ (aV (eU (pv 0) rfl))) (gN (v:=.int 60) rfl Wv ⟨_,rfl⟩)) (ah (dR)) a_)))))),?_⟩
 show ⟨_,rfl,_,rfl,a,C,dx,_,_,rfl,R.obj,fc.cls,fc.br,rfl,pB,_,rfl,eZ.k (k:=.inr x) R.br,_,rfl,?_⟩;rw [R.bar x,O7 hx];show ⟨_,rfl,a,C,dx,_,_,_,rfl,R.obj,rfl,MC,_,rfl,a,dx,pP,pW,pB,ps,bs,kP,kW,kB,one,rfl,R,h1,_,rfl,a,C,dx,_,_,_,rfl,R.obj,rfl,MC,_,rfl,a,dx,pP,pW,pB,ps,bs,kP,kW,kB,jK,rfl,R,h2,_,rfl,_,rfl,rfl,_,rfl,bU (fun c=>DL (by simpa [lV] using c) ne) (fun _=>?_)⟩;let lk:kB.length=bs.length:=(EO R.rb).symm;show ⟨_,rfl,a,C,dx,_,_,rfl,R.obj,fc.cls,fc.br,rfl,pB,kB,rfl,.inl R.br,_,_,rfl,rfl,_,rfl,bU (fun c=>?_) (fun _=>q)⟩;let c':(60:Int)<=(kB.length:Int):=Km c;omega
inductive nM (K:Frag)(C:AG)(vs:θ)(H:Hp)(Q:VK)(E_:XK):Prop
|mk (a dx pP pW pB:AG)(ps:Ξ)(bs:Ζ)(kP kW kB:δ)(x one jK:Str)(_:vs=[.ref a,.str x,.str one,.str jK])(_:iy K H C a dx pP pW pB ps bs kP kW kB)(_:x∉bs.map (·.1))(_:one∈ps.map (·.1))(_:jK∈ps.map (·.1))(_:one≠jK)(_:bs.length<60)(_:∀(H':Hp)(kB':δ),bh pB H H' ->iy K H' C a dx pP pW pB ps (bs++[(x,one,jK)]) kP kW kB' ->Q .dw H')
def aay:aE PQ PQ (ae LN):=sq
def aaz (F:sU K "put_bar" "Frame.put_bar" LN f fd)(fc:N_ K C)
  (MC:bn P w K mg iN 2 C "check_bar" PQ (ib K C)):ap P w K mg iN 3 f fd PQ (nM K C):=by
 refine IM F aay (fun vs H Q E h=>?_) (fun cL A lj s H vs Q E hr h=>?_)
 ·obtain ⟨a,dx,pP,pW,pB,ps,bs,kP,kW,kB,x,one,jK,rfl,_⟩:=h
  rfl
 obtain ⟨a,dx,pP,pW,pB,ps,bs,kP,kW,kB,x,one,jK,rfl,R,hx,h1,h2,ne,hl,q⟩:=h
 show ⟨_,(aa (cu (fu (k:=2) (pv 0) hr.mo (pY P w) (bR (pv 1) (pv 2) (pv 3)))) (ah (dQ (cW hr) (eU (pv 0) rfl) (pv 1) (aR (aT (pv 2) (pv 3))) rfl))),?_⟩
 show ⟨_,rfl,a,C,dx,_,_,_,rfl,R.obj,rfl,MC,_,rfl,_,rfl,_,rfl,a,dx,pP,pW,pB,ps,bs,kP,kW,kB,x,one,jK,rfl,R,hx,h1,h2,ne,hl,_,rfl,_,rfl,qp,fun t nt=>?_⟩;let s:=aH nt (.tup [.str one,.str jK]);let R':=R.ji s;let lk:kB.length=bs.length:=(EO R.rb).symm;show ⟨_,rfl,a,C,dx,_,_,rfl,R'.obj,fc.cls,fc.br,rfl,_,rfl,pB,_,rfl,iS.k (k:=.inr x) R'.br (FU (show kB.length<=1000 by omega) gt),?_⟩;let e:putK kB (.inr x) (.ref t)=kB++[(.inr x,.ref t)]:=dJ _ (cR (by rw [R.qM];exact fun z=>hx (iG.mp z)));rw [e];refine q _ _ (fun b o n z=>?_) (R'.V1 (.inl aj));rw [ao n];exact s _ _ z
def jt (p q:aA):Rat×Rat:=(q.sp.1-p.sp.1,q.sp.2-p.sp.2)
inductive OK (K:Frag)(C:AG)(vs:θ)(H:Hp)(Q:VK)(E_:XK):Prop
|mk (a:AG)(pX:ν)(ip:ρ)(p q:aA)(_:vs=[.ref a,.str p.nm,.str q.nm])(_:qN K H C a pX ip)(_:bM pX ip)(_:p∈pX)(_:q∈pX)(_:OG K H Q (jt p q))
def Um {pX:ν}(h:(pX.map (·.nm)).Nodup):((pX.map fun p=>(p.nm,MK p.sp)).map (·.1)).Nodup:=by
 rwa [K4]
def OL {pX:ν}(h:(pX.map (·.nm)).Nodup):((pX.map fun p=>(p.nm,p.ws)).map (·.1)).Nodup:=by
 rwa [K4]
def aaA {ip:ρ}(h:(ip.map (·.nm)).Nodup):((ip.map fun b=>(b.nm,b.one.nm,b.jK.nm)).map (·.1)).Nodup:=by
 rwa [K4]
def aaB:aE OB OB (ae La):=sq
def aaC (D:Def K mg "arm_between" La OB)(MP:bn P w K mg iN 2 C "place" N7 (r8 K C))(ahg:am P w K mg iN 35 "pair_difference" Mh (EM K fun a b=>a-b)):am P w K mg iN 36 "arm_between" OB (OK K C):=by
 refine D.oo aaB fun H hr h=>?_;obtain ⟨a,pX,ip,p,q,rfl,R,g,hp,hq,k⟩:=h;obtain ⟨dx,pP,pW,pB,kP,kW,kB,R,W⟩:=R.ex;show ⟨_,(ah (aJ (aZ ahg hr (aT (fu (k:=2) (pv 0) hr.mo (Oq P w) (aV (pv 2))) (fu (k:=2) (pv 0) hr.mo (Oq P w) (aV (pv 1))))))),_,rfl,a,C,dx,_,_,_,rfl,R.obj,rfl,MP,_,rfl,a,dx,pP,pW,pB,_,_,kP,kW,kB,q.nm,MK q.sp,rfl,R,Um g.np,CZ.mpr ⟨q,hq,rfl⟩,fun v1 h1=>?_⟩;show ⟨_,rfl,a,C,dx,_,_,_,rfl,R.obj,rfl,MP,_,rfl,a,dx,pP,pW,pB,_,_,kP,kW,kB,p.nm,MK p.sp,rfl,R,Um g.np,CZ.mpr ⟨p,hp,rfl⟩,fun v2 h2=>?_⟩;let z1:=g.sz q hq;let z2:=g.sz p hp;show ⟨v1,v2,q.sp,p.sp,rfl,h1,h2,z1.1.up gt,z1.2.1.up gt,z2.1.up gt,z2.2.1.up gt,k⟩
def mv (M:ς)(x:Str):Rat×Rat:=(M x).getD (0,0)
def dm (F:ς)(pX:ν):List (Int×Int):=pX.flatMap fun p=>[qr (mv F p.nm).1,qr (mv F p.nm).2]
theorem j7 (F:ς):∀pX:List aA,(dm F pX).length=2*pX.length
 | []=>rfl
 | p::ps=>by
  have:=j7 F ps;unfold dm at this ⊢;rw [KO,ER,this];simp;omega
def aey (F:ς)(ps:ν)(p:aA):dm F (ps++[p])=dm F ps++[qr (mv F p.nm).1,qr (mv F p.nm).2]:=by
 unfold dm;rw [RX];simp
def gf (x:Str)(w:Rat×Rat):Str->Option (Rat×Rat):=fun y=>if y=x then some w else none
def cF (b:aD):Str->Option (Rat×Rat):=fun y=>if y=b.one.nm then some (jt b.one b.jK) else if y=b.jK.nm then some (jt b.jK b.one) else none
def nO (pX:ν)(p:aA):List (List (Int×Int)):=p.ws.map fun w=>dm (gf p.nm w) pX
def bw (pX:ν)(ip:ρ):List (List (Int×Int)):=(pX.flatMap fun p=>nO pX p)++ip.map fun b=>dm (cF b) pX
structure iI (K:Frag)(H:Hp)(r:AG)(ls:ω)(cy:Η)(bP:υ):Prop where
 iW:mh H r ls cy
 num:gG K H cy bP
 nr:r∉ls
theorem iI.ji (h:iI K H r ls cy bP)(s:aq H H'):iI K H' r ls cy bP:=⟨h.iW.ji s,h.num.ji s,h.nr⟩
def mi (h:gG K H cy bP)(n:c6 K H us qs):gG K H (cy++[us]) (bP++[qs]):=by
 show ⟨by simp [h.1],fun i u q' e1 e2=>?_⟩;let l:=h.1;by_cases c:i<cy.length
 ·rw [K_ c] at e1
  rw [K_ ga] at e2;exact h.2 i u q' e1 e2
 ·rw [Kx ga] at e1 e2
  by_cases z:i-cy.length=0
  ·rw [z] at e1
   rw [show i-bP.length=0 by omega] at e2;cases e1;cases e2;exact n
  ·rw [EZ (by simp;omega)] at e1
   cases e1
def xj {H:Hp}{ls:ω}{cy:Η}(hl:ls.length=cy.length)(h:∀(i:Nat)(l:AG)(vs:θ),ls[i]?=some l->cy[i]?=some vs->H l=some (.lst vs))(e:H l=some (.lst us)):
  ∀(i:Nat)(l':AG)(vs:θ),(ls++[l])[i]?=some l' ->(cy++[us])[i]?=some vs->H l'=some (.lst vs):=fun i l' vs e1 e2=>by
 by_cases c:i<ls.length
 ·rw [K_ c] at e1
  rw [K_ ga] at e2;exact h i l' vs e1 e2
 ·rw [Kx ga] at e1 e2
  by_cases z:i-ls.length=0
  ·rw [z] at e1
   rw [show i-cy.length=0 by omega] at e2;cases e1;cases e2;exact e
  ·rw [EZ (by simp;omega)] at e1
   cases e1
def iI.push (h:iI K H r ls cy bP)(e:H l=some (.lst us))(ne:l≠r)(n:c6 K H us qs):
  iI K (upd H r (.lst (ls.map V.ref++[.ref l]))) r (ls++[l]) (cy++[us]) (bP++[qs]):=by
 let st:bF H (upd H r (.lst (ls.map V.ref++[.ref l]))):=.list h.iW.1
 let hm:∀(i:Nat)(l':AG)(vs:θ),ls[i]?=some l' ->cy[i]?=some vs->(upd H r (.lst (ls.map V.ref++[.ref l]))) l'=some (.lst vs):=fun i l' vs e1 e2=>by
  rw [ao (fun z:l'=r=>h.nr (by rw [<-z];exact DE e1))];exact h.iW.2.2 i l' vs e1 e2
 show ⟨⟨by rw [aj,K7];rfl,by simp [h.iW.2.1],xj h.iW.2.1 hm (by rwa [ao ne])⟩,?_,?_⟩
 ·exact mi ⟨h.num.1,fun i vs qs e1 e2=>(h.num.2 i vs qs e1 e2).bq st⟩ (n.bq st)
 ·intro z
  rcases K2.mp z with z|z
  ·exact h.nr z
  ·exact ne (K3.mp z).symm
inductive ja (K:Frag)(C:AG)(vs:θ)(H:Hp)(Q:VK)(E_:XK):Prop
|mk (a d:AG)(pX:ν)(ip:ρ)(AD:δ)(F:ς)(_:vs=[.ref a,.ref d])(_:qN K H C a pX ip)(_:pX.length<=100)(_:H d=some (.dK AD))(_:Rj K H AD F)(_:∀(l:AG)(us:θ)(H':Hp),aq H H' ->H l=none->H' l=some (.lst us)->c6 K H' us (dm F pX)->Q (.ref l) H')
def dh (pX:ν):((pX.map fun p=>(p.nm,MK p.sp)).map (·.1))=pX.map (·.nm):=by rw [K4];rfl
def OM:aE ["F","draws","row","pin"] Rv (ae Lb):=sq
def aaD (hM:∀H:Hp,kG K H (.ref aM) (0,0))(Ww:mg "NO_MOVE"=some (.ref aM))(D:Def K mg "pair_row" Lb Rv)(MP:bn P w K mg iN 1 C "pins" K8 (fU K C)):am P w K mg iN 2 "pair_row" Rv (ja K C):=by
 refine D.oo OM fun H hr h=>?_;obtain ⟨a,d,pX,ip,AD,F,rfl,R,lp,hd,hP,q⟩:=h
 show ⟨_,(aa (aG 2 OM.nd (bQ gF)) (aa (bG K6 rfl (bu (cM (k:=1) (pv 0) hr.mo (Oq P w))) (b9 3 OM.nd) (ah (cu (lH Ov PySem.F.slot_list_extend PySem.F.type_list_extend acR (pv 2) (aV (ae4 (cW hr) (pv 1) (pv 3) (gN (v:=.ref aM) rfl Ww rfl) ⟨rfl,rfl,rfl,rfl⟩)))))) (ah (aJ (pv 2))))),?_⟩
 show ⟨z0L,?_⟩;intros l nl H1 s1 el;let R1:=R.ji s1;obtain ⟨dx,pP,pW,pB,kP,kW,kB,F1,W1⟩:=R1.ex;show ⟨_,rfl,a,C,dx,_,_,_,rfl,F1.obj,rfl,MP,a,dx,pP,pW,pB,_,_,kP,kW,kB,rfl,F1,fun lp H2 s2 yu lK=>?_⟩;rw [dh] at lK;let jF:=s1.trans s2;let RI:lp≠l:=fun z=>by erw [z,el] at yu
 show ⟨lp,rfl,⟨_,aU.of lK⟩,let I:dL:=fun i Y H'=>P7 fun (o3:Α) (us:θ)=>Y=[ce a,ce d,ce l,o3]/\aq H H'/\H' lp=some (.lst ((pX.map (·.nm)).map V.str))/\H' l=some (.lst us)/\c6 K H' us (dm F (pX.take i));cC (K:=K) (a:=lp) (xs:=(pX.map (·.nm)).map V.str) I ⟨none,[],rfl,jF,lK,s2 _ _ el,⟨rfl,fun i u q e=>by simp at e⟩⟩ (fun i Y H' _ h=>by
   obtain ⟨_,_,_,_,h,_⟩:=h
   exact aU.of h) ?_ ?_⟩
 ·rintro i z Y H4 hi ⟨o3,us,rfl,s4,l4,e4,n4⟩
  rw [Wp,Wp] at hi;obtain ⟨x,hx,rfl⟩:=K9.mp hi;obtain ⟨p,hp,rfl⟩:=K9.mp hx;let il:i<pX.length:=(be.mp hp).1;let d4:=s4 _ _ hd;let g1:kG K H4 ((cI AD (.inr p.nm)).getD (.ref aM)) (mv F p.nm):=(hP.ji s4).agv (hM H4);obtain ⟨b,u1,u2,eb,hb,h1,h2⟩:=g1
  let lu:us.length<=200:=by
   have:=n4.1;rw [j7,KI] at this;omega
  show ⟨_,rfl,.inl ⟨rfl,_,aU.of e4⟩,_,rfl,d,rfl,.inl ⟨_,.inl d4⟩,_,rfl,_,eZ.k (k:=.inr p.nm) d4,l,b,us,[u1,u2],rfl,by rw [eb],e4,hb,by simp;omega,?_⟩;let st:bF H4 (upd H4 l (.lst (us++[u1,u2]))):=.list e4;show ⟨_,us++[u1,u2],rfl,fun c o z=>?_,?_,aj,?_⟩
  ·rw [ao (ak z nl)]
   exact s4 _ _ z
  ·rw [ao RI]
   exact l4
  ·rw [take_snoc hp,aey]
   let a1:=c6.snoc (K:=K) (n4.bq st) (g_.bq h1 st);let a2:=c6.snoc (K:=K) a1 (g_.bq h2 st);simpa using a2
 ·rintro Y H4 ⟨o3,us,rfl,s4,l4,e4,n4⟩
  rw [ir,ir,Mo] at n4;show ⟨_,rfl,q l us H4 s4 nl e4 n4⟩
inductive qf (K:Frag)(C:AG)(vs:θ)(H:Hp)(Q:VK)(E_:XK):Prop
|mk (a d:AG)(pX:ν)(ip:ρ)(AD:δ)(F:ς)(_:vs=[.ref a,.ref d])(_:qN K H C a pX ip)(_:pX.length<=100)(_:H d=some (.dK AD))(_:Rj K H AD F)(_:(∀kv∈AD,∃x∈pX.map (·.nm),kv.1=.inr x))(_:∀(l:AG)(us:θ)(H':Hp),aq H H' ->H l=none->H' l=some (.lst us)->c6 K H' us (dm F pX)->Q (.ref l) H')
def ON:aE ["F","load","pins","pin"] QO (ae Lc):=sq
def aaE (D:Def K mg "load_row" Lc QO)(MP:bn P w K mg iN 1 C "pins" K8 (fU K C))(OO:am P w K mg iN 2 "pair_row" Rv (ja K C)):am P w K mg iN 3 "load_row" QO (qf K C):=by
 refine D.oo ON fun H hr h=>?_;obtain ⟨a,d,pX,ip,AD,F,rfl,R,lp,hd,hP,hk,q⟩:=h
 show ⟨_,(aa (aG 2 ON.nd (cM (k:=1) (pv 0) hr.mo (Oq P w))) (aa (rX (bG K6 rfl (adA (pv 1)) (b9 3 ON.nd) (ah (bI (v_ mZ (pv 3) (pv 2) rfl) (ah (dR)) a_)))) (ah (aJ (aZ OO hr (aT (pv 0) (pv 1))))))),?_⟩
 obtain ⟨dx,pP,pW,pB,kP,kW,kB,F1,W1⟩:=R.ex;show ⟨_,rfl,a,C,dx,_,_,_,rfl,F1.obj,rfl,MP,a,dx,pP,pW,pB,_,_,kP,kW,kB,rfl,F1,fun l H1 s1 nl el=>?_⟩;rw [dh] at el;let hd1:=s1 _ _ hd;show ⟨_,rfl,d,AD,rfl,hd1,fun o=>?_⟩;let ld:l≠d:=fun z=>by erw [z,hd1] at el
 refine let I:dL:=fun t Y H'=>∃(o2:Α),Y=[ce a,ce d,ce l,o2]/\H'=upd H1 d (.fV o (.dK AD));zak (d:=d) (o:=o) (AD:=AD) I ⟨none,rfl,rfl⟩ (fun t Y H' _ h=>by
   obtain ⟨_,_,rfl⟩:=h
   exact aj) ?_ ?_
 ·rintro t k y Y H6 vF ⟨o2,rfl,rfl⟩
  obtain ⟨x,hx,ex⟩:=hk _ (DE vF);have MU :k=.inr x:=ex;subst MU;show ⟨_,rfl,_,rfl,l,_,rfl,.inl (aU.of (by rwa [ao ld])),rfl,vC _,_,rfl,bU (fun c=>?_) (fun _=>⟨_,rfl,rfl⟩)⟩;let c':(!XQ (.str x) ((pX.map (·.nm)).map V.str))=true:=c;erw [tJ,Kk hx] at c'
 ·rintro Y H6 ⟨o2,rfl,rfl⟩
  show ⟨d,o,AD,aj,fun o' u' z=>(by have z':H d=some (.fV o' u'):=z;erw [hd] at z'),?_⟩
  let s2:aq H (upd (upd H1 d (.fV o (.dK AD))) d (.dK AD)):=fun b o' e=>by
   by_cases n:b=d
   ·subst n
    rw [hd] at e;rwa [aj]
   ·rw [ao n,ao n]
    exact s1 _ _ e
  generalize upd (upd H1 d (.fV o (.dK AD))) d (.dK AD)=H2 at s2 ⊢;show ⟨_,rfl,_,rfl,a,d,pX,ip,AD,F,rfl,R.ji s2,lp,s2 _ _ hd,hP.ji s2,fun l' us H3 s3 n3 e3 nm=>?_⟩;exact q l' us H3 (s2.trans s3) (s2.free n3) e3 nm
inductive nQ (K:Frag)(C:AG)(vs:θ)(H:Hp)(Q:VK)(E_:XK):Prop
|mk (a:AG)(pX:ν)(ip:ρ)(b:aD)(_:vs=[.ref a,.str b.one.nm,.str b.jK.nm])(_:qN K H C a pX ip)(_:bM pX ip)(_:b.one∈pX)(_:b.jK∈pX)(_:b.one.nm≠b.jK.nm)(_:∀(l:AG)(us:θ)(H':Hp),aq H H' ->H l=none->H' l=some (.lst us)->c6 K H' us (dm (cF b) pX)->Q (.ref l) H')
def afu (k:Key)(v:V):cX [] [(k,v)]=[(k,v)]:=rfl
def afq (v u:V)(h:k≠j):cX [] [(k,v),(j,u)]=[(k,v),(j,u)]:=by
 show putK [(k,v)] j u=_;rw [dJ]
 ·rfl
 ·rw [bO h]
  rfl
def aaF:aE OB OB (ae Ld):=sq
def aaG (D:Def K mg "bar_row" Ld OB)(aaH:am P w K mg iN 36 "arm_between" OB (OK K C))(OO:am P w K mg iN 2 "pair_row" Rv (ja K C)):am P w K mg iN 37 "bar_row" OB (nQ K C):=by
 refine D.oo aaF fun H hr h=>?_;obtain ⟨a,pX,ip,b,rfl,R,g,m1,m2,ne,q⟩:=h;show ⟨_,(ah (aJ (aZ OO hr (aT (pv 0) (II (tw (pv 1) (aZ aaH hr (bR (pv 0) (pv 1) (pv 2))) (tw (pv 2) (aZ aaH hr (bR (pv 0) (pv 2) (pv 1))) IH)) rfl rfl (anR _ _) gt))))),_,rfl,fun d nd=>?_⟩;let s1:=aH nd (.dK []);let e1:(upd H d (.dK [])) d=some (.dK []):=aj;generalize upd H d (.dK [])=H1 at s1 e1 ⊢;show ⟨_,rfl,_,rfl,_,rfl,_,rfl,a,pX,ip,b.one,b.jK,rfl,R.ji s1,g,m1,m2,fun v1 H2 s2 h2=>?_⟩;show ⟨_,rfl,_,rfl,_,rfl,_,rfl,a,pX,ip,b.jK,b.one,rfl,(R.ji s1).ji s2,g,m2,m1,fun v2 H3 s3 h3=>?_⟩;let e3:=s3 _ _ (s2 _ _ e1);show ⟨e3,[(.inr b.one.nm,v1),(.inr b.jK.nm,v2)],rfl,(by show 2<=15;decide),?_⟩;rw [afq _ _ (fun z=>ne (NQ z))];let st:bF H3 (upd H3 d (.dK [(.inr b.one.nm,v1),(.inr b.jK.nm,v2)])):=.dict e3;let e4:(upd H3 d (.dK [(.inr b.one.nm,v1),(.inr b.jK.nm,v2)])) d=some (.dK [(.inr b.one.nm,v1),(.inr b.jK.nm,v2)]):=aj
 let s4:aq H (upd H3 d (.dK [(.inr b.one.nm,v1),(.inr b.jK.nm,v2)])):=fun c o z=>by
  rw [ao (ak z nd)];exact s3 _ _ (s2 _ _ (s1 _ _ z))
 generalize upd H3 d (.dK [(.inr b.one.nm,v1),(.inr b.jK.nm,v2)])=H4 at st e4 s4 ⊢;show ⟨a,d,pX,ip,_,cF b,rfl,R.ji s4,DC g.lp gt,e4,fun x=>?_,fun l us H5 s5 n5 e5 nm=>q l us H5 (s4.trans s5) (s4.free n5) e5 nm⟩;by_cases c1:x=b.one.nm
 ·subst c1
  exact .inr ⟨v1,jt b.one b.jK,cw rfl,by unfold cF;rw [mK rfl],(h2.ji s3).bq st⟩
 ·by_cases c2:x=b.jK.nm
  ·subst c2
   exact .inr ⟨v2,jt b.jK b.one,by rw [bO (fun z=>c1 (NQ z).symm),cw rfl],by unfold cF;rw [mJ c1,mK rfl],h3.bq st⟩
  ·exact .inl ⟨by rw [bO (fun z=>c1 (NQ z).symm),bO (fun z=>c2 (NQ z).symm)];rfl,by unfold cF;rw [mJ c1,mJ c2]⟩
inductive fw (K:Frag)(C:AG)(vs:θ)(H:Hp)(Q:VK)(E_:XK):Prop
|mk (a:AG)(pX:ν)(ip:ρ)(_:vs=[.ref a])(_:qN K H C a pX ip)(_:bM pX ip)(_:∀(r:AG)(ls:ω)(cy:Η)(H':Hp),aq H H' ->H r=none->iI K H' r ls cy (bw pX ip)->Q (.ref r) H')
def ju (ip:ρ):((ip.map fun b=>(b.nm,b.one.nm,b.jK.nm)).map (·.1))=ip.map (·.nm):=by rw [K4];rfl
def fe (pX:ν)(h:∀p∈pX,p.ws.length<=2):(pX.flatMap fun p=>p.ws).length<=2*pX.length:=by
 induction pX with
 | nil=>simp
 | cons p ps ih=>
  let h1:=h p EJ;let h2:=ih fun q hq=>h q (FF _ hq);rw [KO,ER,Me];omega
def j8 (all pX:ν):(pX.flatMap fun p=>nO all p).length=(pX.flatMap fun p=>p.ws).length:=by
 induction pX with
 | nil=>rfl
 | cons p ps ih=>
  rw [KO,KO,ER,ER,ih];unfold nO;rw [ir]
def eG (pX:ν)(ip:ρ):(bw pX ip).length=(pX.flatMap fun p=>p.ws).length+ip.length:=by
 unfold bw;rw [ER,j8,ir]
def vI:aE ["F","rows","pin","way","bar","two"] KY (ae Le):=sq
def aaI (D:Def K mg "draw_rows" Le KY)(MP:bn P w K mg iN 1 C "pins" K8 (fU K C))(MW:bn P w K mg iN 2 C "ways" N7 (qe K C))(MB:bn P w K mg iN 1 C "bars" K8 (js K C))(ME:bn P w K mg iN 1 C "ends" Yl (xh K C))
  (OO:am P w K mg iN 2 "pair_row" Rv (ja K C)) (Wz:am P w K mg iN 37 "bar_row" OB (nQ K C)):am P w K mg iN 38 "draw_rows" KY (fw K C):=by
 refine D.op vI fun f cL A lj s H vs Q E hr h=>?_;obtain ⟨a,pX,ip,rfl,R,g,q⟩:=h
 show ⟨_,(aa (aG 1 vI.nd (bQ gF)) (aa (bG K6 rfl (bu (cM (k:=1) (pv 0) hr.mo (pY P w))) (b9 2 vI.nd) (ah (bG K6 rfl (bu (fu (k:=2) (pv 0) hr.mo (pY P w) (aV (pv 2)))) (b9 3 vI.nd) (ah (cu (lH Ov Ri Rh fE (pv 1) (aV (aZ OO hr (aT (pv 0) (II (tw (pv 2) (pv 3) IH) rfl rfl (anR _ _) gt)))))))))) (aa (bG K6 rfl (bu (cM (k:=1) (pv 0) hr.mo (pY P w))) (b9 4 vI.nd) (aa (aG 5 vI.nd (fu (k:=1) (pv 0) hr.mo (pY P w) (aV (pv 4)))) (ah (cu (lH Ov Ri Rh fE (pv 1) (aV (aZ Wz hr (bR (pv 0) (aL (pv 5)) (aL (pv 5)))))))))) (ah (aJ (pv 1)))))),?_⟩;sleep 3
 show ⟨z0L,?_⟩;intros r nr H1 s1 er;let big:(100:Nat)<=C_:=gt
 let wl:=fe pX g.lw;let gl:=g.lp;let R0:iI K H1 r [] [] []:=⟨⟨er,rfl,fun i l vs e=>by simp at e⟩,⟨rfl,fun i vs qs e=>by simp at e⟩,by simp⟩;let R1:=R.ji s1;obtain ⟨dx,pP,pW,pB,kP,kW,kB,F1,W1⟩:=R1.ex;show ⟨_,rfl,a,C,dx,_,_,_,rfl,F1.obj,rfl,MP,a,dx,pP,pW,pB,_,_,kP,kW,kB,rfl,F1,fun lp H2 s2 yu lK=>?_⟩;rw [dh] at lK;let jF:=s1.trans s2;let RI:lp≠r:=fun z=>by erw [z,er] at yu
 show ⟨lp,rfl,⟨_,aU.of lK⟩,let I:dL:=fun i Y H'=>P8 fun (o2 o3:Α) (ls:ω) (cy:Η)=>Y=[ce a,ce r,o2,o3,none,none]/\aq H H'/\H' lp=some (.lst ((pX.map (·.nm)).map V.str))/\iI K H' r ls cy ((pX.take i).flatMap fun p=>nO pX p);cC (K:=K) (a:=lp) (xs:=(pX.map (·.nm)).map V.str) I ⟨none,none,[],[],rfl,jF,lK,R0.ji s2⟩ (fun i Y H' _ h=>by
   obtain ⟨_,_,_,_,_,_,h,_⟩:=h
   exact aU.of h) ?_ ?_⟩
 ·rintro i z Y H4 hi ⟨o2,o3,ls,cy,rfl,s4,l4,RR⟩
  rw [Wp,Wp] at hi;obtain ⟨x,hx,rfl⟩:=K9.mp hi;obtain ⟨p,hp,rfl⟩:=K9.mp hx;let mp:p∈pX:=DE hp;let R4:=R.ji s4;obtain ⟨dx,pP,pW,pB,kP,kW,kB,F4,W4⟩:=R4.ex;let mpn:p.nm∈(pX.map fun p=>(p.nm,MK p.sp)).map (·.1):=by rw [dh];exact CZ.mpr ⟨p,mp,rfl⟩
  show ⟨_,rfl,a,C,dx,_,_,_,rfl,F4.obj,rfl,MW,_,rfl,a,dx,pP,pW,pB,_,_,kP,kW,kB,_,p.nm,p.ws,rfl,F4,W4,OL g.np,CZ.mpr ⟨p,mp,rfl⟩,mpn,fun m us H5 s5 n5 e5 p5=>?_⟩;let lu:us.length=p.ws.length:=EO p5;let JG:=s4.trans s5;let mr:m≠r:=fun z=>by erw [z,RR.iW.1] at n5
  show ⟨m,rfl,⟨_,aU.of e5⟩,let I:dL:=fun j Y H'=>I_ fun (o3:Α) (ls:ω) (cy:Η)=>Y=[ce a,ce r,some (.str p.nm),o3,none,none]/\aq H H'/\H' lp=some (.lst ((pX.map (·.nm)).map V.str))/\H' m=some (.lst us)/\rq K H' us p.ws/\iI K H' r ls cy (((pX.take i).flatMap fun p=>nO pX p)++(p.ws.take j).map fun w=>dm (gf p.nm w) pX);cC (K:=K) (a:=m) (xs:=us) I ⟨o3,ls,cy,rfl,JG,s5 _ _ l4,e5,p5,by simpa using RR.ji s5⟩ (fun j Y H' _ h=>by
    obtain ⟨_,_,_,_,_,_,h,_⟩:=h
    exact aU.of h) ?_ ?_⟩
  ·rintro j u Y H6 hu ⟨o3,ls,cy,rfl,s6,l6,e6,p6,zG⟩
   obtain ⟨w,ew,hw⟩:=aI p6 hu;let jl:=(be.mp hu).1;show ⟨_,rfl,.inl ⟨rfl,_,aU.of zG.iW.1⟩,_,rfl,fun d nd=>?_⟩;let t1:=aH nd (.dK []);let d1:(upd H6 d (.dK [])) d=some (.dK []):=aj;generalize upd H6 d (.dK [])=H7 at t1 d1 ⊢;show ⟨_,rfl,_,rfl,d1,[(.inr p.nm,u)],rfl,(by show 1<=15;decide),?_⟩;rw [afu];let st:bF H7 (upd H7 d (.dK [(.inr p.nm,u)])):=.dict d1;let d8:(upd H7 d (.dK [(.inr p.nm,u)])) d=some (.dK [(.inr p.nm,u)]):=aj
   let t8:aq H6 (upd H7 d (.dK [(.inr p.nm,u)])):=fun c o z=>by
    rw [ao (ak z nd)];exact t1 _ _ z
   let hw8:=(hw.ji t1).bq st;generalize upd H7 d (.dK [(.inr p.nm,u)])=H8 at d8 t8 hw8 ⊢;let s8:=s6.trans t8;show ⟨a,d,pX,ip,_,gf p.nm w,rfl,R.ji s8,DC g.lp gt,d8,fun x=>?_,fun l mS H9 t9 n9 e9 nm=>?_⟩
   ·by_cases c1:x=p.nm
    ·subst c1
     exact .inr ⟨u,w,cw rfl,by unfold gf;rw [mK rfl],hw8⟩
    ·exact .inl ⟨by rw [bO (fun z=>c1 (NQ z).symm)];rfl,by unfold gf;rw [mJ c1]⟩
   let t69:=t8.trans t9;let MT:=zG.ji t69;let lr:l≠r:=fun z=>by erw [z,t8 _ _ zG.iW.1] at n9
   let Wm:ls.length<=18:=by
    let h1:=zG.iW.2.1;let h2:=zG.num.1;rw [ER,ir,KI,j8] at h2
    let h3:((pX.take i).flatMap fun p=>p.ws).length+p.ws.length<=(pX.flatMap fun p=>p.ws).length:=by
     let e:pX=pX.take i++p::pX.drop (i+1):=by
      let lt:=(be.mp hp).1;let e2:=(be.mp hp).2;rw [<-e2,ahK,Rb]
     let e3:=oP (fun l:List aA=>(l.flatMap fun p=>p.ws).length) e;simp only [RX,KO,ER] at e3;omega
    omega
   show ⟨r,_,_,rfl,rfl,MT.iW.1,(by rw [ir];omega),?_⟩;let RN:=MT.push e9 lr nm;let tr:bF H9 (upd H9 r (.lst (ls.map V.ref++[.ref l]))):=.list MT.iW.1;let kk:∀b o,b≠r->H6 b=some o->(upd H9 r (.lst (ls.map V.ref++[.ref l]))) b=some o:=fun b o n e=>by rw [ao n];exact t69 _ _ e
   show ⟨_,ls++[l],cy++[mS],rfl,fun b o e=>?_,kk _ _ RI l6,kk _ _ mr e6,(p6.ji t69).bq tr,?_⟩
   ·exact kk _ _ (ak e nr) (s6 _ _ e)
   ·rw [take_snoc ew,K7,<-QU]
    exact RN
  ·rintro Y H6 ⟨o3,ls,cy,rfl,s6,l6,e6,p6,zG⟩
   show ⟨_,_,ls,cy,rfl,s6,l6,?_⟩;rw [lu,Mo] at zG;rw [take_snoc hp,RX];simpa [nO] using zG
 ·rintro Y H4 ⟨o2,o3,ls,cy,rfl,s4,l4,RR⟩
  rw [ir,ir,Mo] at RR;let R4:=R.ji s4;obtain ⟨dx,pP,pW,pB,kP,kW,kB,F4,W4⟩:=R4.ex;show ⟨_,rfl,a,C,dx,_,_,_,rfl,F4.obj,rfl,MB,a,dx,pP,pW,pB,_,_,kP,kW,kB,rfl,F4,fun lb H5 s5 nlb EN=>?_⟩;rw [ju] at EN;let bne:lb≠r:=fun z=>by erw [z,RR.iW.1] at nlb
  show ⟨lb,rfl,⟨_,aU.of EN⟩,let I:dL:=fun i Y H'=>P8 fun (o4 o5:Α) (ls:ω) (cy:Η)=>Y=[ce a,ce r,o2,o3,o4,o5]/\aq H H'/\H' lb=some (.lst ((ip.map (·.nm)).map V.str))/\iI K H' r ls cy ((pX.flatMap fun p=>nO pX p)++(ip.take i).map fun b=>dm (cF b) pX);cC (K:=K) (a:=lb) (xs:=(ip.map (·.nm)).map V.str) I ⟨none,none,ls,cy,rfl,s4.trans s5,EN,by simpa using RR.ji s5⟩ (fun i Y H' _ h=>by
    obtain ⟨_,_,_,_,_,_,h,_⟩:=h
    exact aU.of h) ?_ ?_⟩
  ·rintro i z Y H6 hi ⟨o4,o5,ls,cy,rfl,s6,l6,zG⟩
   rw [Wp,Wp] at hi;obtain ⟨x,hx,rfl⟩:=K9.mp hi;obtain ⟨b,hb,rfl⟩:=K9.mp hx;let mb:b∈ip:=DE hb;let il:=(be.mp hb).1;let R6:=R.ji s6;obtain ⟨dx,pP,pW,pB,kP,kW,kB,F6,W6⟩:=R6.ex;show ⟨_,rfl,a,C,dx,_,_,_,rfl,F6.obj,rfl,ME,_,rfl,a,dx,pP,pW,pB,_,_,kP,kW,kB,b.nm,b.one.nm,b.jK.nm,rfl,F6,aaA g.nb,CZ.mpr ⟨b,mb,rfl⟩,fun p rd=>?_⟩;let tp:bK K H6 p [.str b.one.nm,.str b.jK.nm]:=.inl rd;obtain ⟨m1,m2,m3⟩:=g.ends b mb;show ⟨_,rfl,.inl ⟨rfl,_,aU.of zG.iW.1⟩,_,rfl,_,rfl,p,_,_,_,rfl,rfl,tp,j6,_,rfl,p,_,_,_,rfl,rfl,tp,jN,a,pX,ip,b,rfl,R6,g,m1,m2,m3,fun l mS H9 t9 n9 e9 nm=>?_⟩;let MT:=zG.ji t9;let lr:l≠r:=fun z=>by erw [z,zG.iW.1] at n9
   let Wm:ls.length<=45:=by
    let h1:=zG.iW.2.1;let h2:=zG.num.1;rw [ER,ir,KI,j8] at h2;have:=g.lb;omega
   show ⟨r,_,_,rfl,rfl,MT.iW.1,(by rw [ir];omega),?_⟩;let RN:=MT.push e9 lr nm;let kk:∀c o,c≠r->H6 c=some o->(upd H9 r (.lst (ls.map V.ref++[.ref l]))) c=some o:=fun c o n e=>by rw [ao n];exact t9 _ _ e
   show ⟨_,_,ls++[l],cy++[mS],rfl,fun c o e=>kk _ _ (ak e nr) (s6 _ _ e),kk _ _ bne l6,?_⟩;rwa [take_snoc hb,K7,<-QU]
  ·rintro Y H6 ⟨o4,o5,ls,cy,rfl,s6,l6,zG⟩
   rw [ir,ir,Mo] at zG;show ⟨_,rfl,q r ls cy H6 s6 nr zG⟩
def zac {i j:Nat}(h:i<=j)(hj:j<=xs.length):gO xs (some (i:Int)) (some (j:Int))=(xs.drop i).take (j-i):=by
 unfold gO;rw [HT.rM,HT.rM,RY hj,RY (show i<=xs.length by omega)]
theorem gQ :∀{l:List Z} {m:List β} (n:Nat),Paired R l m->Paired R (l.drop n) (m.drop n)
 | _,_,0,h=>h
 | _,_,_+1,.nil=>.nil
 | _,_,n+1,.cons _ t=>gQ n t
theorem eI :∀{l:List Z} {m:List β} (n:Nat),Paired R l m->Paired R (l.take n) (m.take n)
 | _,_,0,_=>.nil
 | _,_,_+1,.nil=>.nil
 | _,_,n+1,.cons h t=>.cons h (eI n t)
theorem nR:∀(more AD:δ),((AD++more).map (·.1)).Nodup->cX AD more=AD++more
 | [],AD,_=>by simp [cX]
 | p::r,AD,h=>by
  let e:cX AD (p::r)=cX (putK AD p.1 p.2) r:=rfl
  let hn:p.1∉AD.map (·.1):=fun z=>by
   rw [K7,DG,Vp] at h;exact h.2.2 p.1 z p.1 EJ rfl
  rw [e,dJ _ (cR hn),nR r (AD++[(p.1,p.2)]) (by rwa [QU]),QU];rfl
theorem JH :∀{ip:ρ} {ys:θ} {rs:Λ},(ip.map (·.nm)).Nodup->ip.length=rs.length->Paired R ys rs->
  ∃T:Str->Rat,ip.map (fun b=>T b.nm)=rs/\(((ip.map fun b=>(KA b.nm:Key)).zip ys).map (·.1))=ip.map (fun b=>(KA b.nm:Key))/\∀b∈ip,∃v,cI ((ip.map fun b=>(KA b.nm:Key)).zip ys) (.inr b.nm)=some v/\R v (T b.nm)
 | [],_,[],_,_,.nil=>⟨fun _=>0,rfl,rfl,by simp⟩
 | _::_,[],_,_,hl,.nil=>by simp at hl
 | b::bs,y::ys,r::rs,nd,hl,.cons h t=>by
  rw [DG,Kr] at nd;obtain ⟨T,h1,h2,h3⟩:=JH nd.2 (by simpa using hl) t;let ne:∀c∈bs,c.nm≠b.nm:=fun c hc z=>nd.1 (z▸CZ.mpr ⟨c,hc,rfl⟩);obtain ⟨T',t1,t2⟩:∃T':Str->Rat,T' b.nm=r/\∀x,x≠b.nm->T' x=T x:=⟨fun x=>if x=b.nm then r else T x,mK rfl,fun x h=>mJ h⟩;show ⟨T',?_,?_,fun c hc=>?_⟩
  ·let em:bs.map (fun c=>T' c.nm)=rs:=by
    rw [<-h1];exact Ml fun c hc=>t2 _ (ne c hc)
   rw [DG,t1,em]
  ·rw [DG,aie,DG,h2]
  ·rw [DG,aie]
   rcases KD.mp hc with e|hc
   ·subst e
    show ⟨y,cw rfl,by rwa [t1]⟩
   ·obtain ⟨v,e1,e2⟩:=h3 c hc
    show ⟨v,?_,by rwa [t2 _ (ne c hc)]⟩;rwa [bO (fun z=>ne c hc (NQ z).symm)]
def ar (pX:ν):Nat:=(pX.flatMap fun p=>p.ws).length
def tY (ps:ν)(p:aA):ar (ps++[p])=ar ps+p.ws.length:=by
 unfold ar;rw [RX,ER];simp
def abX (h:pX[i]?=some p):ar (pX.take i)+p.ws.length<=ar pX:=by
 let e:pX=pX.take i++p::pX.drop (i+1):=by
  let lt:=(be.mp h).1;let e2:=(be.mp h).2;rw [<-e2,ahK,Rb]
 let e3:=oP (fun l:List aA=>(l.flatMap fun p=>p.ws).length) e;simp only [RX,KO,ER] at e3;unfold ar;omega
structure PPR (K:Frag)(H H':Hp)(pX:ν)(ip:ρ)(dT dU:AG)(kT kU:δ)(T:Δ)(U:χ)(L:Str->AG):Prop where
 nT:H dT=none
 nU:H dU=none
 ne:dT≠dU
 hT:H' dT=some (.dK kT)
 hU:H' dU=some (.dK kU)
 WA:kT.map (·.1)=ip.map (fun b=>(KA b.nm:Key))
 aaL:kU.map (·.1)=pX.map (fun p=>(KA p.nm:Key))
 tT:∀b∈ip,∃v,cI kT (.inr b.nm)=some v/\g_ K H' v (T b.nm)
 tU:∀p∈pX,∃vs,cI kU (.inr p.nm)=some (.ref (L p.nm))/\H (L p.nm)=none/\H' (L p.nm)=some (.lst vs)/\Paired (g_ K H') vs (U p.nm)
 lU:∀p∈pX,(U p.nm).length=p.ws.length
 inj:∀p∈pX,∀q∈pX,L p.nm=L q.nm->p.nm=q.nm
inductive L9 (K:Frag)(C:AG)(vs:θ)(H:Hp)(Q:VK)(E_:XK):Prop
|mk (a nl:AG)(pX:ν)(ip:ρ)(us:θ)(rs:Λ)(_:vs=[.ref a,.ref nl])(_:qN K H C a pX ip)(_:bM pX ip)(_:H nl=some (.lst us))(_:Paired (g_ K H) us rs)(_:rs.length=ar pX+ip.length)(_:∀(T:Δ)(U:χ)(L:Str->AG)(p dT dU:AG)(kT kU:δ)(H':Hp),aq H H' ->rs=(pX.flatMap fun p=>U p.nm)++ip.map (fun b=>T b.nm)->H' p=some (.tup [.ref dT,.ref dU])->PPR K H H' pX ip dT dU kT kU T U L->Q (.ref p) H')
def aaW {ps:ν}{U W:χ}(h:∀p∈ps,U p.nm=W p.nm):(ps.flatMap fun p=>U p.nm)=ps.flatMap fun p=>W p.nm:=by
 induction ps with
 | nil=>rfl
 | cons p ps ih=>
  rw [KO,KO,h p EJ,ih fun q hq=>h q (FF _ hq)]
def tZ:aE ["F","numbers","pushes","at","pin","behind","pulls"] NX (ae Lf):=sq
def aaM (D:Def K mg "pulls_and_pushes" Lf NX)(aX:mg "len"=none)(qg:mg "dict"=none)(lJ:mg "zip"=none)(MP:bn P w K mg iN 1 C "pins" K8 (fU K C))(MW:bn P w K mg iN 2 C "ways" N7 (qe K C))(MB:bn P w K mg iN 1 C "bars" K8 (js K C)):
  am P w K mg iN 3 "pulls_and_pushes" NX (L9 K C):=by
 refine D.op tZ fun f cL A lj s H vs Q E hr h=>?_;obtain ⟨a,nl,pX,ip,us,rs,rfl,R,g,hn,hu,hl,q⟩:=h;let lu:us.length=rs.length:=EO hu;let wl:ar pX<=2*pX.length:=fe pX g.lw;let gl:=g.lp;let gb:=g.lb
 show ⟨_,(aa (aG 2 tZ.nd dX) (aa (aG 3 tZ.nd ag) (aa (bG K6 rfl (bu (cM (k:=1) (pv 0) hr.mo (pY P w))) (b9 4 tZ.nd) (aa (aG 5 tZ.nd (aF cD (pv 3) (aK av rfl aX bJ (aV (fu (k:=2) (pv 0) hr.mo (pY P w) (aV (pv 4))))))) (aa (dQ (cW hr) (pv 2) (pv 4) (cV fQ (pv 1) (dy (pv 3)) (dy (pv 5))) rfl) (ah (aG 3 tZ.nd (pv 5)))))) (aa (aG 6 tZ.nd (aeZ rfl rfl qg rfl lJ (aT (cM (k:=1) (pv 0) hr.mo (pY P w)) (cV fQ (pv 1) (dy (pv 3)) dP)))) (ah (aJ (aR (aT (pv 6) (pv 2))))))))),?_⟩;sleep 4
 intro dU nU;let s1:=aH nU (.dK []);let e1:(upd H dU (.dK [])) dU=some (.dK []):=aj;generalize upd H dU (.dK [])=H1 at s1 e1 ⊢;let R1:=R.ji s1;obtain ⟨dx,pP,pW,pB,kP,kW,kB,F1,W1⟩:=R1.ex;show ⟨_,rfl,a,C,dx,_,_,_,rfl,F1.obj,rfl,MP,a,dx,pP,pW,pB,_,_,kP,kW,kB,rfl,F1,fun lp H2 s2 yu lK=>?_⟩;rw [dh] at lK;let jF:=s1.trans s2;let RI:lp≠dU:=fun z=>by erw [z,e1] at yu
 show ⟨lp,rfl,⟨_,aU.of lK⟩,let I:dL:=fun i Y H'=>Ex5 fun (o4 o5:Α) (kU:δ) (U:χ) (L:Str->AG)=>Y=[ce a,ce nl,ce dU,some (.int (ar (pX.take i):Int)),o4,o5,none]/\aq H H'/\H' lp=some (.lst ((pX.map (·.nm)).map V.str))/\H' dU=some (.dK kU)/\kU.map (·.1)=(pX.take i).map (fun p=>(KA p.nm:Key))/\((pX.take i).flatMap fun p=>U p.nm)=rs.take (ar (pX.take i))/\ (∀p∈pX.take i,∃vs,cI kU (.inr p.nm)=some (.ref (L p.nm))/\H (L p.nm)=none/\H' (L p.nm)=some (.lst vs)/\Paired (g_ K H') vs (U p.nm))/\(∀p∈pX.take i,(U p.nm).length=p.ws.length)/\(∀p∈pX.take i,∀q∈pX.take i,L p.nm=L q.nm->p.nm=q.nm);cC (K:=K) (a:=lp) (xs:=(pX.map (·.nm)).map V.str) I
   ⟨none,none,[],fun _=>[],fun _=>0,rfl,jF,lK,s2 _ _ e1,rfl,rfl,by simp,by simp,by simp⟩ (fun i Y H' _ h=>by
   obtain ⟨_,_,_,_,_,_,_,h,_⟩:=h
   exact aU.of h) ?_ ?_⟩
 ·rintro i z Y H4 hi ⟨o4,o5,kU,U,L,rfl,s4,l4,e4,ks,fl,tU,lU,inj⟩
  rw [Wp,Wp] at hi;obtain ⟨x,hx,rfl⟩:=K9.mp hi;obtain ⟨p,hp,rfl⟩:=K9.mp hx;let mp:p∈pX:=DE hp;let il:i<pX.length:=(be.mp hp).1;let R4:=R.ji s4;obtain ⟨dx,pP,pW,pB,kP,kW,kB,F4,W4⟩:=R4.ex;let mpn:p.nm∈(pX.map fun p=>(p.nm,MK p.sp)).map (·.1):=by rw [dh];exact CZ.mpr ⟨p,mp,rfl⟩
  show ⟨_,rfl,_,rfl,a,C,dx,_,_,_,rfl,F4.obj,rfl,MW,_,rfl,a,dx,pP,pW,pB,_,_,kP,kW,kB,_,p.nm,p.ws,rfl,F4,W4,OL g.np,CZ.mpr ⟨p,mp,rfl⟩,mpn,fun m vs H5 s5 n5 e5 p5=>?_⟩;let lv:vs.length=p.ws.length:=EO p5;show ⟨m,_,rfl,.inl (aU.of e5),_,_,rfl,rfl,?_⟩;let tk:=take_snoc hp;let wn:ar (pX.take (i+1))=ar (pX.take i)+p.ws.length:=by rw [tk,tY]
  let wt:=abX hp;let eb:(ar (pX.take i):Int)+((vs.length:Nat):Int)=((ar (pX.take (i+1)):Nat):Int):=by rw [wn,lv];omega
  let WC:=s4.trans s5;let RD:=WC _ _ hn;dsimp only;rw [eb];show ⟨_,rfl,_,rfl,_,rfl,_,rfl,_,rfl,nl,_,rfl,aU.of RD,?_⟩;rw [zac ga ga];intros m2 n6 H6 s6 e6;let e46:=s6 _ _ (s5 _ _ e4)
  let lk:kU.length<=9:=by
   let z:=oP NO ks;rw [ir,ir,KI] at z;omega
  show ⟨_,rfl,_,rfl,dU,_,rfl,iS.k (k:=.inr p.nm) e46 (FU (show kU.length<=1000 by omega) gt),?_⟩
  let fresh:(KA p.nm:Key)∉kU.map (·.1):=by
   rw [ks];intro z;obtain ⟨b',jZ,ZR⟩:=CZ.mp z;exact j4 (nm:=aA.nm) g.np hp jZ (NQ ZR)
  let pk:putK kU (.inr p.nm) (.ref m2)=kU++[(.inr p.nm,.ref m2)]:=dJ _ (cR fresh);let t6:bF H6 (upd H6 dU (.dK (putK kU (.inr p.nm) (.ref m2)))):=.dict e46;let Qa:=s5.trans s6;let md:m2≠dU:=fun z=>by erw [z,s5 _ _ e4] at n6
  let kk:∀b o,b≠dU->H4 b=some o->(upd H6 dU (.dK (putK kU (.inr p.nm) (.ref m2)))) b=some o:=fun b o n e=>by rw [ao n];exact Qa _ _ e
  let ne:∀p' ∈pX.take i,p'.nm≠p.nm:=fun p' uO =>j4 (nm:=aA.nm) g.np hp uO
  have xk :∀p' ∈pX.take (i+1),p' ∈pX.take i\/p'=p:=fun p' uO =>by
   rw [tk] at uO
   rcases K2.mp uO with h|h
   ·exact .inl h
   ·exact .inr (K3.mp h)
  let hold:∀p' ∈pX.take i,∃o,H4 (L p'.nm)=some o:=fun p' uO =>by
   obtain ⟨vs,_,_,h,_⟩:=tU p' uO;show ⟨_,h⟩
  obtain ⟨U',hU1,hU2⟩:∃U':Str->List Rat,U' p.nm=(rs.drop (ar (pX.take i))).take p.ws.length/\∀x,x≠p.nm->U' x=U x:=⟨fun x=>if x=p.nm then (rs.drop (ar (pX.take i))).take p.ws.length else U x,mK rfl,fun x h=>mJ h⟩;obtain ⟨L',Uh,Ui⟩:∃L':Str->AG,L' p.nm=m2/\∀x,x≠p.nm->L' x=L x:=⟨fun x=>if x=p.nm then m2 else L x,mK rfl,fun x h=>mJ h⟩;show ⟨_,rfl,_,_,putK kU (.inr p.nm) (.ref m2),U',L',rfl,fun b o e=>?_,kk _ _ RI l4,aj,?_,?_,fun p' uO =>?_,fun p' uO =>?_,fun p' uO q' DB =>?_⟩
  ·rw [ao (ak e nU)]
   exact Qa _ _ (s4 _ _ e)
  ·rw [pk,K7,ks,tk,K7]
   rfl
  ·rw [tk,RX,tY]
   rw [aaW (U:=U') (W:=U) fun p' uO =>hU2 _ (ne p' uO),fl];simp only [KO,List.flatMap_nil,Zl,hU1];rw [List.take_add]
  ·rw [yW]
   rcases xk p' uO with h|h
   ·rw [mJ (fun z=>ne p' h (NQ z)),Ui _ (ne p' h),hU2 _ (ne p' h)]
    obtain ⟨mT,h1,h2,h3,h4⟩:=tU p' h;show ⟨mT,h1,h2,kk _ _ (fun z=>by erw [z,e4] at h3) h3,Paired.cg h4 fun _ _ z=>(z.ji Qa).bq t6⟩
   ·subst h
    rw [mK rfl,Uh,hU1];show ⟨_,rfl,(s4.trans s5).free n6,by rwa [ao md],?_⟩;let a1:=eI (ar (pX.take (i+1))-ar (pX.take i)) (gQ (ar (pX.take i)) hu);let a2:ar (pX.take (i+1))-ar (pX.take i)=p'.ws.length:=ga
    rw [a2] at a1 ⊢;exact Paired.cg a1 fun _ _ z=>((z.ji s4).ji Qa).bq t6
  ·rcases xk p' uO with h|h
   ·rw [hU2 _ (ne p' h)]
    exact lU p' h
   ·subst h
    rw [hU1,KI,QR];omega
  ·rcases xk p' uO with h|h<;>rcases xk q' DB with h'|h'
   ·rw [Ui _ (ne p' h),Ui _ (ne q' h')]
    exact inj p' h q' h'
   ·subst h'
    rw [Ui _ (ne p' h),Uh];intro z;obtain ⟨o,ho⟩:=hold p' h;erw [z,s5.free n6] at ho
   ·subst h
    rw [Ui _ (ne q' h'),Uh];intro z;obtain ⟨o,ho⟩:=hold q' h';erw [<-z,s5.free n6] at ho
   ·intro _
    rw [h,h']
 ·rintro Y H4 ⟨o4,o5,kU,U,L,rfl,s4,l4,e4,ks,fl,tU,lU,inj⟩
  rw [ir,ir,Mo] at ks fl tU lU inj;let R4:=R.ji s4;obtain ⟨dx,pP,pW,pB,kP,kW,kB,F4,W4⟩:=R4.ex;show ⟨_,rfl,a,C,dx,_,_,_,rfl,F4.obj,rfl,MB,a,dx,pP,pW,pB,_,_,kP,kW,kB,rfl,F4,fun lb H5 s5 nlb EN=>?_⟩;rw [ju] at EN;let WC:=s4.trans s5;show ⟨_,rfl,_,rfl,_,rfl,nl,_,rfl,aU.of (WC _ _ hn),?_⟩;let hw:ar pX<=us.length:=ga
  rw [ir,ir,Mo,qd hw];intros m2 n6 H6 s6 e6;let hp6:Paired (g_ K H6) (us.drop (ar pX)) (rs.drop (ar pX)):=Paired.cg (gQ (ar pX) hu) fun _ _ z=>(z.ji WC).ji s6;obtain ⟨T,h1,h2,h3⟩:=JH (R:=g_ K H6) g.nb (by rw [QR];omega) hp6
  let eks:(ip.map (·.nm)).map V.str=(ip.map fun b=>(KA b.nm:Key)).map kV:=by
   rw [K4,K4];rfl
  rw [eks] at EN;show ⟨lb,m2,ip.map fun b=>(KA b.nm:Key),us.drop (ar pX),rfl,s6 _ _ EN,e6,by rw [ir];omega,fun dT H7 s7 n7 e7=>?_⟩
  let ndk:(ip.map fun b=>(KA b.nm:Key)).Nodup:=by
   have:=abp g.nb;rwa [K4] at this
  rw [nR _ [] (by rwa [WM,h2]),WM] at e7;show ⟨_,rfl,_,rfl,qp,?_⟩;intros pt n8 H8 s8 e8;let WD:=(s5.trans s6).trans (s7.trans s8);let Qb:=s4.trans WD;let er:rs=(pX.flatMap fun p=>U p.nm)++ip.map (fun b=>T b.nm):=by rw [fl,h1,Rb]
  refine q T U L pt dT dU _ kU H8 Qb er e8 ⟨(WC.trans s6).free n7,nU,(fun z=>by erw [z,s6 _ _ (s5 _ _ e4)] at n7),s8 _ _ e7,WD _ _ e4,h2,ks,fun b hb=>?_,fun p hp=>?_,lU,inj⟩
  ·obtain ⟨v,e1,e2⟩:=h3 b hb
   show ⟨v,e1,(e2.ji s7).ji s8⟩
  ·obtain ⟨mT,a1,a2,a3,a4⟩:=tU p hp
   show ⟨mT,a1,a2,WD _ _ a3,Paired.cg a4 fun _ _ z=>z.ji WD⟩
inductive jb (K:Frag)(C:AG)(vs:θ)(H:Hp)(Q:VK)(E_:XK):Prop
|mk (a nl:AG)(pX:ν)(ip:ρ)(us:θ)(_:vs=[.ref a,.ref nl])(_:qN K H C a pX ip)(_:bM pX ip)(_:H nl=some (.lst us))(_:us.length=2*pX.length)(_:∀(d:AG)(H':Hp),aq H H' ->Q (.ref d) H')
def JI:aE ["F","numbers","motion","at","pin"] NX (ae Lg):=sq
def aaN (D:Def K mg "motion_from" Lg NX)(fM:mg "enumerate"=none)(MP:bn P w K mg iN 1 C "pins" K8 (fU K C)):
  am P w K mg iN 2 "motion_from" NX (jb K C):=by
 refine D.oo JI fun H hr h=>?_;obtain ⟨a,nl,pX,ip,us,rfl,R,g,hn,lu,q⟩:=h;let gl:=g.lp
 show ⟨_,(aa (aG 2 JI.nd dX) (aa (bG K6 rfl (IK rfl fM (aV (cM (k:=1) (pv 0) hr.mo (Oq P w)))) (ft rfl (aY (b9 3 JI.nd) (aY (b9 4 JI.nd) cZ))) (ah (dQ (cW hr) (pv 2) (pv 4) (aR (aT (bD aS (pv 1) (aF bY ag (pv 3))) (bD aS (pv 1) (aF cD (aF bY ag (pv 3)) ag)))) rfl))) (ah (aJ (pv 2))))),?_⟩;sleep 2
 intro d nd;let s1:=aH nd (.dK []);let e1:(upd H d (.dK [])) d=some (.dK []):=aj;generalize upd H d (.dK [])=H1 at s1 e1 ⊢;let R1:=R.ji s1;obtain ⟨dx,pP,pW,pB,kP,kW,kB,F1,W1⟩:=R1.ex;show ⟨_,rfl,a,C,dx,_,_,_,rfl,F1.obj,rfl,MP,a,dx,pP,pW,pB,_,_,kP,kW,kB,rfl,F1,fun lp H2 s2 yu lK=>?_⟩;rw [dh] at lK;let jF:=s1.trans s2;let RI:lp≠d:=fun z=>by erw [z,e1] at yu
 show ⟨lp,rfl,⟨_,aU.of lK⟩,let I:dL:=fun i Y H'=>I_ fun (o3 o4:Α) (kM:δ)=>Y=[ce a,ce nl,ce d,o3,o4]/\aq H H'/\H' lp=some (.lst ((pX.map (·.nm)).map V.str))/\H' d=some (.dK kM)/\kM.length<=i;ze (K:=K) (a:=lp) (xs:=(pX.map (·.nm)).map V.str) I ⟨none,none,[],rfl,jF,lK,s2 _ _ e1,DU _⟩ (fun i Y H' _ h=>by
   obtain ⟨_,_,_,_,_,h,_⟩:=h
   exact aU.of h) ?_ ?_⟩
 ·rintro i z Y H4 p9 hi ⟨o3,o4,kM,rfl,s4,l4,e4,lk⟩ n9
  rw [Wp,Wp] at hi;obtain ⟨x,hx,rfl⟩:=K9.mp hi;obtain ⟨p,hp,rfl⟩:=K9.mp hx;let il:i<pX.length:=(be.mp hp).1;let t9:=aH n9 (.tup [.int (i:Int),.str p.nm]);let e9:(upd H4 p9 (.tup [.int (i:Int),.str p.nm])) p9=some (.tup [.int (i:Int),.str p.nm]):=aj;generalize upd H4 p9 (.tup [.int (i:Int),.str p.nm])=H5 at t9 e9 ⊢;show ⟨p9,_,rfl,bK.of e9,rfl,_,_,rfl,_,_,rfl,rfl,?_⟩;let WC:=s4.trans t9;let RD:=WC _ _ hn;let l1:2*i<us.length:=ga
  let l2:2*i+1<us.length:=ga
  let c2:qG 2 (i:Int):=⟨by decide+kernel,DC (Rm ga ga) gt⟩
  let a1:gS us (2*(i:Int))=some us[2*i]:=by
   have:=bE (xs:=us) (j:=2*i) (gE l1);rwa [show ((2*i:Nat):Int)=2*(i:Int) by omega] at this
  let a2:gS us (2*(i:Int)+1)=some us[2*i+1]:=by
   have:=bE (xs:=us) (j:=2*i+1) (gE l2);rwa [show ((2*i+1:Nat):Int)=2*(i:Int)+1 by omega] at this
  show ⟨_,rfl,_,rfl,_,_,rfl,rfl,c2,nl,_,_,_,rfl,rfl,aU.of RD,a1,_,rfl,_,rfl,_,_,rfl,rfl,c2,_,_,rfl,rfl,nl,_,_,_,rfl,rfl,aU.of RD,a2,qp,?_⟩;intros t n6 H6 s6 e6;let e46:=s6 _ _ (t9 _ _ e4);show ⟨_,rfl,_,rfl,d,_,rfl,iS.k (k:=.inr p.nm) e46 (FU (show kM.length<=1000 by omega) gt),?_⟩;let lp9:=iB kM (.inr p.nm) (.ref t);let kk:∀b o,b≠d->H4 b=some o->(upd H6 d (.dK (putK kM (.inr p.nm) (.ref t)))) b=some o:=fun b o n e=>by rw [ao n];exact s6 _ _ (t9 _ _ e)
  show ⟨_,_,_,rfl,fun b o e=>kk b o (ak e nd) (s4 _ _ e),kk _ _ RI l4,aj,ga⟩
 ·rintro Y H4 ⟨o3,o4,kM,rfl,s4,_⟩
  show ⟨_,rfl,q d _ s4⟩
def dt (a b:Rat×Rat):Rat:=a.1*b.1+a.2*b.2
def sP (as bs:Λ):Rat:=(NZ (·*·) as bs).sum
def gh (bs:Λ):sP [] bs=0:=by simp [sP]
def cv (a b:Rat)(as bs:Λ):sP (a::as) (b::bs)=a*b+sP as bs:=by simp [sP]
theorem j9:∀{a c:Λ} (b d:Λ),a.length=c.length->sP (a++b) (c++d)=sP a c+sP b d
 | [],[],b,d,_=>by
  rw [WM,WM,gh];grind
 | x::a,y::c,b,d,h=>by
  rw [Sj,Sj,cv,cv,j9 b d (by simpa using h)];grind
 | [],_::_,_,_,h=>by simp at h
 | _::_,[],_,_,h=>by simp at h
theorem jw:∀(ys cs:ο),jq ys cs=sP (ys.map vl) (cs.map vl)
 | [],_=>by simp [jq,sP]
 | _::_,[]=>by simp [jq,sP]
 | y::ys,c::cs=>by rw [aeA,DG,DG,cv,jw ys cs]
theorem r9 (F:ς)(M:Μ):∀pX:List aA,sP ((dm F pX).map vl) (pX.flatMap fun p=>[(M p.nm).1,(M p.nm).2])=(pX.map fun p=>dt (mv F p.nm) (M p.nm)).sum
 | []=>by simp [dm,sP]
 | p::ps=>by
  let ih:=r9 F M ps;unfold dm at ih ⊢;rw [KO,KO,K7,j9 _ _ gV,ih];simp only [DG,MV,g9,cv,gh,KR];unfold dt;grind
def zar {pX:ν}(nd:(pX.map (·.nm)).Nodup)(hp:p∈pX){f:Δ}(h:∀q∈pX,q.nm≠p.nm->f q.nm=0):(pX.map fun q=>f q.nm).sum=f p.nm:=by
 induction pX with
 | nil=>simp at hp
 | cons q ps ih=>
  rw [DG,Kr] at nd;rw [DG,KR]
  let zero:∀(l:ν),(∀r∈l,f r.nm=0)->(l.map fun q=>f q.nm).sum=0:=fun l hl=>by
   induction l with
   | nil=>simp
   | cons r l ihl=>
    rw [DG,KR,hl r EJ,ihl fun s hs=>hl s (FF _ hs)];grind
  by_cases e:q.nm=p.nm
  ·rw [e,zero ps fun r hr=>h r (FF _ hr) fun z=>nd.1 (by rw [e,<-z];exact CZ.mpr ⟨r,hr,rfl⟩)]
   grind
  ·rw [h q EJ e]
   have uO :p∈ps:=by
    rcases KD.mp hp with z|z
    ·exact DL (by rw [z]) e
    ·exact z
   rw [ih nd.2 uO fun r hr=>h r (FF _ hr)];grind
def mj (x:Str)(w:Rat×Rat)(y:Str):mv (gf x w) y=if y=x then w else (0,0):=by
 unfold mv gf;by_cases e:y=x
 ·rw [mK e,mK e]
  rfl
 ·rw [mJ e,mJ e]
  rfl
def nX (m:Rat×Rat):dt (0,0) m=0:=by
 unfold dt;grind
def r_ {pX:ν}(nd:(pX.map (·.nm)).Nodup)(hp:p∈pX)(w:Rat×Rat)(M:Μ):(pX.map fun q=>dt (mv (gf p.nm w) q.nm) (M q.nm)).sum=dt w (M p.nm):=by
 rw [zar nd hp (f:=fun x=>dt (mv (gf p.nm w) x) (M x)) fun q _ e=>by rw [mj,mJ e];exact nX _];rw [mj,mK rfl]
theorem sum_add (f g:aA->Rat):∀l:List aA,(l.map fun q=>f q+g q).sum=(l.map f).sum+(l.map g).sum
 | []=>by
  simp only [MV,Oe];grind
 | p::l=>by
  rw [DG,KR,sum_add f g l,DG,DG,KR,KR];grind
def nY (M:Μ)(b:aD):Rat:=dt (jt b.one b.jK) ((M b.jK.nm).1-(M b.one.nm).1,(M b.jK.nm).2-(M b.one.nm).2)
def agW (b:aD)(h:b.one.nm≠b.jK.nm)(x:Str)(m:Rat×Rat):dt (mv (cF b) x) m=dt (mv (gf b.one.nm (jt b.one b.jK)) x) m+dt (mv (gf b.jK.nm (jt b.jK b.one)) x) m:=by
 rw [mj,mj];unfold mv cF;by_cases c1:x=b.one.nm
 ·rw [mK c1,mK c1,mJ (fun z=>h (c1.symm.trans z)),nX]
  show dt (jt b.one b.jK) m=_;grind
 ·rw [mJ c1,mJ c1,nX]
  by_cases c2:x=b.jK.nm
  ·rw [mK c2,mK c2]
   show dt (jt b.jK b.one) m=_;grind
  ·rw [mJ c2,mJ c2,nX]
   show dt (0,0) m=_;rw [nX];grind
def xl {pX:ν}(nd:(pX.map (·.nm)).Nodup)(b:aD)(h1:b.one∈pX)(h2:b.jK∈pX)(h:b.one.nm≠b.jK.nm)(M:Μ):(pX.map fun q=>dt (mv (cF b) q.nm) (M q.nm)).sum= -(nY M b):=by
 let e:(pX.map fun q=>dt (mv (cF b) q.nm) (M q.nm))=pX.map fun q=>dt (mv (gf b.one.nm (jt b.one b.jK)) q.nm) (M q.nm)+dt (mv (gf b.jK.nm (jt b.jK b.one)) q.nm) (M q.nm):=Ml fun q _=>agW b h _ _;rw [e,sum_add,r_ nd h1,r_ nd h2];unfold nY dt jt;grind
structure WG (pX:ν)(ip:ρ)(M:Μ):Prop where
 RK:∀p∈pX,∀w∈p.ws,dt w (M p.nm)=0
 ip:∀b∈ip,nY M b=0
def JJ (pX:ν)(L:ς)(M:Μ):Rat:=(pX.map fun p=>dt (mv L p.nm) (M p.nm)).sum
def dq (ip:ρ)(T:Δ)(U:χ)(p:aA)(c:Rat×Rat->Rat):Rat:=sP (U p.nm) (p.ws.map c)+(ip.map fun b=>T b.nm*c (mv (cF b) p.nm)).sum
def gH (pX:ν)(ip:ρ)(T:Δ)(U:χ)(L:ς):Prop:=∀p∈pX,dq ip T U p (·.1)+(mv L p.nm).1=0/\dq ip T U p (·.2)+(mv L p.nm).2=0
theorem nZ:∀(as:Λ) {Z:Type} (l:List Z),sP as (l.map fun _=>(0:Rat))=0
 | [],_,_=>gh _
 | _::_,_,[]=>by simp [sP]
 | a::as,_,x::l=>by
  rw [DG,cv,nZ as l];grind
theorem JK {U:χ}(c0:c (0,0)=0)(p:aA):∀(ps:ν),(ps.map (·.nm)).Nodup->(∀q∈ps,(U q.nm).length=q.ws.length)->(∀q∈ps,q.nm=p.nm->q=p)->
  sP (ps.flatMap fun q=>U q.nm) (ps.flatMap fun q=>q.ws.map fun w=>c (mv (gf q.nm w) p.nm))=if p.nm∈ps.map (·.nm) then sP (U p.nm) (p.ws.map c) else 0
 | [],_,_,_=>by simp [sP]
 | q::ps,nd,hl,inj=>by
  rw [DG,Kr] at nd;let ih:=JK c0 p ps nd.2 (fun r hr=>hl r (FF _ hr)) fun r hr=>inj r (FF _ hr);rw [KO,KO,j9 _ _ (by rw [hl q EJ,ir]),ih,DG];by_cases e:q.nm=p.nm
  ·let eq:q=p:=inj q EJ e
   subst eq;let ec:(q.ws.map fun w=>c (mv (gf q.nm w) q.nm))=q.ws.map c:=Ml fun w _=>by rw [mj,mK rfl]
   rw [mJ nd.1,mK EJ,ec];grind
  ·let ec:(q.ws.map fun w=>c (mv (gf q.nm w) p.nm))=q.ws.map fun _=>(0:Rat):=Ml fun w _=>by rwa [mj,mJ (fun z=>e z.symm)]
   rw [ec,nZ];by_cases hm:p.nm∈ps.map (·.nm)
   ·rw [mK hm,mK (FF _ hm)]
    grind
   ·rw [mJ hm,mJ (fun z=>by
     rcases KD.mp z with z|z
     ·exact e z.symm
     ·exact hm z)]
    grind
theorem OQ {Z:Type}(f g:Z->Rat):∀l:List Z,sP (l.map f) (l.map g)=(l.map fun x=>f x*g x).sum
 | []=>by simp [sP]
 | x::l=>by rw [DG,DG,cv,OQ f g l,DG,KR]
def JL {pX:ν}{ip:ρ}{T:Δ}{U:χ}{c:Rat×Rat->Rat}(c0:c (0,0)=0)(nd:(pX.map (·.nm)).Nodup)(hl:∀q∈pX,(U q.nm).length=q.ws.length)(hp:p∈pX)(y:Rat):
  sP ((pX.flatMap fun q=>U q.nm)++ip.map (fun b=>T b.nm)++[y]) (((pX.flatMap fun q=>q.ws.map fun w=>c (mv (gf q.nm w) p.nm))++ip.map fun b=>c (mv (cF b) p.nm))++[c (mv L p.nm)])=dq ip T U p c+y*c (mv L p.nm):=by
 let l1:(pX.flatMap fun q=>U q.nm).length=(pX.flatMap fun q=>q.ws.map fun w=>c (mv (gf q.nm w) p.nm)).length:=by
  clear hp nd
  induction pX with
  | nil=>rfl
  | cons q ps ih=>rw [KO,KO,ER,ER,ih fun r hr=>hl r (FF _ hr),hl q EJ,ir]
 rw [j9 _ _ (by rw [ER,ER,l1,ir,ir]),j9 _ _ l1,JK c0 p pX nd hl fun q hq e=>af' (nm:=aA.nm) nd hq hp e,mK (CZ.mpr ⟨p,hp,rfl⟩),OQ,cv,gh];unfold dq;grind
theorem n_ (F:ς):∀{pX:ν} {k:Nat} {p:aA},pX[k]?=some p->vl ((dm F pX).getD (2*k) (0,1))=(mv F p.nm).1/\vl ((dm F pX).getD (2*k+1) (0,1))=(mv F p.nm).2
 | q::ps,0,p,h=>by
  cases h;unfold dm;rw [KO];show ⟨g9 _,g9 _⟩
 | q::ps,k+1,p,h=>by
  let ih:=n_ F (pX:=ps) (k:=k) (p:=p) (by simpa using h);unfold dm at ih ⊢;rwa [KO]
def vJ (pX:ν)(ip:ρ)(L:ς){k:Nat}(h:pX[k]?=some p)(j:Nat)(c:Rat×Rat->Rat)(hj:∀F,vl ((dm F pX).getD j (0,1))=c (mv F p.nm)):
  (fN (bw pX ip++[dm L pX]) j).map vl=((pX.flatMap fun q=>q.ws.map fun w=>c (mv (gf q.nm w) p.nm))++ip.map fun b=>c (mv (cF b) p.nm))++[c (mv L p.nm)]:=by
 let flat:∀ps:List aA,((ps.flatMap fun q=>nO pX q).map fun qs=>vl (qs.getD j (0,1)))=ps.flatMap fun q=>q.ws.map fun w=>c (mv (gf q.nm w) p.nm):=fun ps=>by
  induction ps with
  | nil=>rfl
  | cons q ps ih=>
   rw [KO,KO,K7,ih];congr 1;unfold nO;rw [K4];exact Ml fun w _=>hj _
 unfold fN bw;rw [K4,K7,K7,DG,MV];congr 1
 ·congr 1
  ·exact flat pX
  ·rw [K4]
   exact Ml fun b _=>hj _
 ·rw [<-hj]
  rfl
def gv (h:1<=k):Sz k 0:=by
 have:=wQ (i:=0) (k:=k) (by simpa using zo k) h;simpa using this
structure Zb (n:Nat)(r:Rat):Prop where
 top:(qr r).1.natAbs<=2^n
 bot:(qr r).2.natAbs<=2^n
def Uo (h:Sm T B q):q=qr (vl q):=zi h.pos h.low
def Up (h:Sz k r)(h2:k<=58):Sm 58 58 (qr r):=
 ⟨dF r,wO r,O0 (Kq (intBits_le_iff.mp h.top) (L8 gt h2)),O0 (Kq (intBits_le_iff.mp h.bot) (L8 gt h2))⟩
def JM (h:∀x,Sz 58 (mv F x).1/\Sz 58 (mv F x).2)(pX:ν):∀q∈dm F pX,Sm 58 58 q:=fun q hq=>by
 unfold dm at hq;obtain ⟨p,_,hq⟩:=Pq.mp hq;let z:=h p.nm
 rcases KD.mp hq with e|hq
 ·rw [e]
  exact Up z.1 (DU _)
 ·rw [K3.mp hq]
  exact Up z.2 (DU _)
def agM {w:Rat×Rat}(h:Sz 58 w.1/\Sz 58 w.2)(y:Str):Sz 58 (mv (gf x w) y).1/\Sz 58 (mv (gf x w) y).2:=by
 rw [mj];by_cases c:y=x
 ·rw [mK c]
  exact h
 ·rw [mJ c]
  show ⟨gv gt,gv gt⟩
def OR (g:bM pX ip)(hb:b∈ip)(y:Str):Sz 58 (mv (cF b) y).1/\Sz 58 (mv (cF b) y).2:=by
 obtain ⟨m1,m2,_⟩:=g.ends b hb;let z1:=g.sz _ m1;let z2:=g.sz _ m2;unfold mv cF;by_cases c1:y=b.one.nm
 ·rw [mK c1]
  show ⟨(z2.1.sub z1.1).up gt,(z2.2.1.sub z1.2.1).up gt⟩
 ·rw [mJ c1]
  by_cases c2:y=b.jK.nm
  ·rw [mK c2]
   show ⟨(z1.1.sub z2.1).up gt,(z1.2.1.sub z2.2.1).up gt⟩
  ·rw [mJ c2]
   show ⟨gv gt,gv gt⟩
def dY (g:bM pX ip):∀qs∈bw pX ip,qs.length=2*pX.length/\∀q∈qs,Sm 58 58 q:=fun qs hq=>by
 unfold bw at hq
 rcases K2.mp hq with h|h
 ·obtain ⟨p,hp,h⟩:=Pq.mp h
  unfold nO at h;obtain ⟨w,hw,rfl⟩:=CZ.mp h;let z:=(g.sz p hp).2.2 w hw;show ⟨j7 _ _,JM (agM ⟨z.1.up gt,z.2.up gt⟩) pX⟩
 ·obtain ⟨b,hb,rfl⟩:=CZ.mp h
  show ⟨j7 _ _,JM (OR g hb) pX⟩
def afr (h:n<=9):bb (58+58*(2*n+1)) (2*n+1)<=29000000:=by
 unfold bb;have:=Mc (show 2*n+1+1<=20 by omega) (show 58+58*(2*n+1)+11<=1171 by omega);omega
theorem og :∀{us:θ} {qs:ο},c6 K H us qs->(∀q∈qs,Sm T B q)->Paired (g_ K H) us (qs.map vl)
 | [],[],_,_=>.nil
 | u::us,q::qs,h,hs=>by
  refine .cons ?_ (og ⟨by simpa using h.1,fun i u q e1 e2=>h.2 (i+1) u q (by simpa using e1) (by simpa using e2)⟩ fun r hr=>hs r (FF _ hr));let n:=h.2 0 u q rfl rfl;show oY K H u (qr (vl q));rwa [<-Uo (hs q EJ)]
 | [],_::_,h,_=>(nomatch h.1)
 | _::_,[],h,_=>(nomatch h.1)
def aaO {m n:Nat}(h:Sm T B q)(h1:T<=n)(h2:B<=n):Zb n (vl q):=by
 let e:=Uo h;show ⟨?_,?_⟩
 ·rw [<-e]
  exact DC h.top (L8 gt h1)
 ·rw [<-e]
  exact DC h.bot (L8 gt h2)
def cT {Z:Type}{l:List Z}(h:l.Nodup){i j:Nat}{x:Z}(hi:l[i]?=some x)(hj:l[j]?=some x):i=j:=by
 obtain ⟨i1,i2⟩:=be.mp hi;obtain ⟨j1,j2⟩:=be.mp hj;exact (anK h).mp (i2.trans j2.symm)
theorem gi :∀{us:θ} {zs:List Z},us.length=zs.length->(∀(i:Nat)(u:V),us[i]?=some u->∃z,zs[i]?=some z/\R u z)->Paired R us zs
 | [],[],_,_=>.nil
 | u::us,z::zs,l,h=>by
  obtain ⟨z',e,hz⟩:=h 0 u rfl;cases e;exact .cons hz (gi (by simpa using l) fun i u e=>h (i+1) u (by simpa using e))
theorem t_ {Z β:Type}(f:Z->β->Rat)(bs:List β):∀as:List Z,(as.map fun a=>(bs.map fun b=>f a b).sum).sum=(bs.map fun b=>(as.map fun a=>f a b).sum).sum
 | []=>by
  induction bs with
  | nil=>rfl
  | cons b bs ih=>
   rw [DG,KR,<-ih];simp only [MV,Oe];grind
 | a::as=>by
  rw [DG,KR,t_ f bs as];clear t_
  induction bs with
  | nil=>
   simp only [MV,Oe];grind
  | cons b bs ih=>
   simp only [DG,KR] at ih ⊢;grind
theorem sj {Z:Type}(t:Rat)(f:Z->Rat):∀l:List Z,(l.map fun a=>t*f a).sum=t*(l.map f).sum
 | []=>by
  simp only [MV,Oe];grind
 | a::l=>by
  rw [DG,KR,DG,KR,sj t f l];grind
theorem sum_neg {Z:Type}(f:Z->Rat):∀l:List Z,(l.map fun a=> -(f a)).sum= -(l.map f).sum
 | []=>by
  simp only [MV,Oe];grind
 | a::l=>by
  rw [DG,KR,DG,KR,sum_neg f l];grind
theorem Uq (m:Rat×Rat):∀(us:Λ)(ws:Κ),sP us (ws.map (·.1))*m.1+sP us (ws.map (·.2))*m.2=sP us (ws.map fun w=>dt w m)
 | [],_=>by
  simp only [gh];grind
 | _::_,[]=>by
  simp [sP];grind
 | u::us,w::ws=>by
  let ih:=Uq m us ws;simp only [DG,cv];unfold dt at ih ⊢;grind
theorem JN (T:Δ)(p:aA)(m:Rat×Rat):∀ip:List aD,(ip.map fun b=>T b.nm*(mv (cF b) p.nm).1).sum*m.1+(ip.map fun b=>T b.nm*(mv (cF b) p.nm).2).sum*m.2=(ip.map fun b=>T b.nm*dt (mv (cF b) p.nm) m).sum
 | []=>by
  simp only [MV,Oe];grind
 | b::ip=>by
  let ih:=JN T p m ip;simp only [DG,KR];unfold dt at ih ⊢;grind
def zaA {ws:Κ}(us:Λ)(h:∀w∈ws,dt w m=0):sP us (ws.map fun w=>dt w m)=0:=by
 have:(ws.map fun w=>dt w m)=ws.map fun _=>(0:Rat):=Ml h;rw [this];exact nZ us ws
def WI (g:bM pX ip)(h:gH pX ip T U L)(hw:∀p∈pX,∀w∈p.ws,dt w (M p.nm)=0):JJ pX L M=(ip.map fun b=>T b.nm*nY M b).sum:=by
 let e1:∀p∈pX,dt (mv L p.nm) (M p.nm)= -((ip.map fun b=>T b.nm*dt (mv (cF b) p.nm) (M p.nm)).sum):=fun p hp=>by
  obtain ⟨r1,r2⟩:=h p hp;unfold dq at r1 r2;let a:=Uq (M p.nm) (U p.nm) p.ws;rw [zaA _ (hw p hp)] at a;let b:=JN T p (M p.nm) ip;rw [<-b];unfold dt;grind
 unfold JJ;rw [Ml e1,sum_neg,t_ (fun (p:aA) (b:aD)=>T b.nm*dt (mv (cF b) p.nm) (M p.nm)) ip pX]
 let e2:∀b∈ip,(pX.map fun p=>T b.nm*dt (mv (cF b) p.nm) (M p.nm)).sum= -(T b.nm*nY M b):=fun b hb=>by
  obtain ⟨m1,m2,m3⟩:=g.ends b hb;rw [sj (T b.nm) (fun p:aA=>dt (mv (cF b) p.nm) (M p.nm)) pX,xl g.np b m1 m2 m3];grind
 rw [Ml e2,sum_neg];grind
def aeU (g:bM pX ip)(h:gH pX ip T U L)(mo:WG pX ip M)(w:JJ pX L M=1):False:=by
 let e:=WI g h mo.RK
 have:(ip.map fun b=>T b.nm*nY M b)=ip.map fun b=>0*T b.nm:=Ml fun b hb=>by
  rw [mo.ip b hb];grind
 rw [this,sj 0 (fun b:aD=>T b.nm)] at e;grind
def ahp {ps:ν}{U W:Μ}(h:∀p∈ps,U p.nm=W p.nm):(ps.flatMap fun p=>[(U p.nm).1,(U p.nm).2])=ps.flatMap fun p=>[(W p.nm).1,(W p.nm).2]:=by
 induction ps with
 | nil=>rfl
 | cons p ps ih=>rw [KO,KO,h p EJ,ih fun q hq=>h q (FF _ hq)]
theorem OU:∀{pX:ν} {xs:Λ},(pX.map (·.nm)).Nodup->xs.length=2*pX.length->∃M:Str->Rat×Rat,xs=pX.flatMap fun p=>[(M p.nm).1,(M p.nm).2]
 | [],[],_,_=>⟨fun _=>(0,0),rfl⟩
 | [],_::_,_,h=>by simp at h
 | p::ps,[],_,h=>by simp at h
 | p::ps,[a],_,h=>by simp at h;omega
 | p::ps,a::b::xs,nd,h=>by
  rw [DG,Kr] at nd;obtain ⟨M,e⟩:=OU (pX:=ps) (xs:=xs) nd.2 (by simp at h ⊢;omega);show ⟨fun x=>if x=p.nm then (a,b) else M x,?_⟩;let e2:=ahp (ps:=ps) (U:=fun x=>if x=p.nm then (a,b) else M x) (W:=M) fun q hq=>mJ fun z=>nd.1 (by rw [<-z];exact CZ.mpr ⟨q,hq,rfl⟩);rw [KO,e2,<-e];show _=[(if p.nm=p.nm then (a,b) else M p.nm).1,(if p.nm=p.nm then (a,b) else M p.nm).2]++xs;rw [mK rfl];rfl
def zL (n:Nat):Nat:=bb (2000+2000*(2*n+1)) (2*n+1)+2000*(2*n+1)
def aeR (h:n<=9):bb (2000+2000*(2*n+1)) (2*n+1)<=29000000:=by
 unfold bb;have:=Mc (show 2*n+1+1<=20 by omega) (show 2000+2000*(2*n+1)+11<=40011 by omega);omega
def aaP (h:n<=9):bb (2000+2000*(2*n+1)) (2*n+1)<=800220:=by
 unfold bb;exact DC (Mc (show 2*n+1+1<=20 by omega) (show 2000+2000*(2*n+1)+11<=40011 by omega)) gt
def zL9 (h:n<=9):zL n<=900000:=by
 let h1:=aaP h;unfold zL;generalize bb (2000+2000*(2*n+1)) (2*n+1)=x at h1;omega
def mvL (M:ς):Prop:=∀x,Sz 2000 (mv M x).1/\Sz 2000 (mv M x).2
def ahk (h:Sm T B q)(h1:T<=T')(h2:B<=B'):Sm T' B' q:=⟨h.pos,h.low,DC h.top (L8 gt h1),DC h.bot (L8 gt h2)⟩
def OW (h:Sz 2000 r):Sm 2000 2000 (qr r):=
 ⟨dF r,wO r,O0 (intBits_le_iff.mp h.top),O0 (intBits_le_iff.mp h.bot)⟩
def acv (h:∀x,Sz 2000 (mv F x).1/\Sz 2000 (mv F x).2)(pX:ν):∀q∈dm F pX,Sm 2000 2000 q:=fun q hq=>by
 unfold dm at hq;obtain ⟨p,_,hq⟩:=Pq.mp hq;let z:=h p.nm
 rcases KD.mp hq with e|hq
 ·rw [e]
  exact OW z.1
 ·rw [K3.mp hq]
  exact OW z.2
inductive ES (K:Frag)(C:AG)(vs:θ)(H:Hp)(Q:VK)(E_:XK):Prop
|mk (a d:AG)(pX:ν)(ip:ρ)(AD:δ)(L:ς)(_:vs=[.ref a,.ref d])(_:qN K H C a pX ip)(_:bM pX ip)(_:pX.length<=9)(_:H d=some (.dK AD))(_:Rj K H AD L)(_:mvL L)(_:(∀kv∈AD,∃x∈pX.map (·.nm),kv.1=.inr x))(_:(∃T0 U0,gH pX ip T0 U0 L))(_:(∀(T:Δ)(U:χ)(Lx:Str->AG)(p dT dU:AG)(kT kU:δ)(H':Hp),aq H H' ->H' p=some (.tup [.str "rest",.ref dT,.ref dU])->PPR K H H' pX ip dT dU kT kU T U Lx->gH pX ip T U L->(∀b∈ip,Zb (zL pX.length) (T b.nm))->(∀p∈pX,∀u∈U p.nm,Zb (zL pX.length) u)->Q (.ref p) H'))
def vK:aE ["F","load","drawn","rows","due","told","forces"] QO (ae Lu):=sq
def aaQ (hN:∀H:Hp,bK K H aN [.int 0,.int 1])(rC:mg "NOUGHT"=some (.ref aN))(hO:∀H:Hp,bK K H aO [.int 1,.int 1])(L_:mg "ONE"=some (.ref aO))(D:Def K mg "rest_of" Lu QO)(aX:mg "len"=none)(MP:bn P w K mg iN 1 C "pins" K8 (fU K C))
  (xm:am P w K mg iN 38 "draw_rows" KY (fw K C)) (ahl:am P w K mg iN 3 "load_row" QO (qf K C)) (WJ:am P w K mg iN 37 "solve_rows" Vc (r6 K)) (ET:am P w K mg iN 2 "motion_from" NX (jb K C)) (EU:am P w K mg iN 3 "pulls_and_pushes" NX (L9 K C)):
  am P w K mg iN 39 "rest_of" QO (ES K C):=by
 refine D.op vK fun f cL A lj s H vs Q E hr h=>?_;obtain ⟨a,d,pX,ip,AD,L,rfl,R,g,lp5,hd,hP,zl,hk,⟨T0,U0,oi⟩,q2⟩:=h;let gl:=g.lp;let gb:=g.lb;let big:(100:Nat)<=C_:=gt
 let wl:ar pX<=2*pX.length:=fe pX g.lw;let ql:=eG pX ip;let lpp:pX.length<=100:=ga
 show ⟨_,(aa (aG 2 vK.nd (aZ xm hr (aV (pv 0)))) (aa (aG 3 vK.nd (aF gZ (pv 2) (bQ (aV (aZ ahl hr (aT (pv 0) (pv 1))))))) (aa (aG 4 vK.nd (aF gZ (aF wA (bQ (aV (gN (v:=.ref aN) rfl rC rfl))) (aK av rfl aX bJ (aV (pv 2)))) (bQ (aV (gN (v:=.ref aO) rfl L_ rfl))))) (aa (aG 5 vK.nd (aZ WJ hr (bR (pv 3) (pv 4) (aF bY ag (aK av rfl aX bJ (aV (cM (k:=1) (pv 0) hr.mo (pY P w)))))))) (aa (bI (bW eR (aL (pv 5)) cU) (ah (aJ (aR (aT cU (aZ ET hr (aT (pv 0) (aL (pv 5)))))))) a_) (aa (aG 6 vK.nd (aZ EU hr (aT (pv 0) (cV fQ (aL (pv 5)) dP (dy (aK av rfl aX bJ (aV (pv 2)))))))) (ah (aJ (aR (bR cU (aL (pv 6)) (aL (pv 6)))))))))))),?_⟩;sleep 6
 show ⟨_,rfl,a,pX,ip,rfl,R,g,fun r ls cy H1 s1 nr RR=>?_⟩;show ⟨_,rfl,_,rfl,_,rfl,a,d,pX,ip,AD,L,rfl,R.ji s1,lpp,s1 _ _ hd,hP.ji s1,hk,fun l us H2 s2 nl el nm=>⟨rh,?_⟩⟩;intros l1 n3 H3 s3 e3;let RR3:=RR.ji (s2.trans s3);let Ma:ls.length=(bw pX ip).length:=by rw [RR.iW.2.1,RR.num.1]
 let lq:(bw pX ip).length<=45:=by
  have:(bw pX ip).length=ar pX+ip.length:=ql;omega
 show ⟨r,l1,_,_,rfl,rfl,RR3.iW.1,e3,(by rw [ir];show ls.length+1<=C_;omega),?_⟩;intros r2 n4 H4 s4 e4;let Mb:=s3.trans s4;show ⟨rh,?_⟩;intros l5 n5 H5 s5 e5;let X7:=(RR3.ji s4).ji s5;show ⟨_,rfl,r,_,rfl,.inl (aU.of X7.iW.1),l5,_,_,rfl,rfl,e5,ga,(by rw [ir];omega),(by rw [ir];simp;omega),?_⟩;intros l6 n6 H6 s6 e6;show ⟨rh,?_⟩;intros l7 n7 H7 s7 e7;let WK:(EI (((ls.map V.ref).length:Nat):Int).toNat [V.ref aN]).flatten=EI ls.length (V.ref aN):=by simp
 rw [WK] at e6;show ⟨l6,l7,_,_,rfl,rfl,s7 _ _ e6,e7,(by rw [OT];show ls.length+1<=C_;omega),?_⟩;intros l8 n8 H8 s8 e8;let s48:=(s5.trans s6).trans (s7.trans s8);let Ur:=Mb.trans s48;let s18:=s2.trans Ur;let Qb:=s1.trans s18;let R8:=R.ji Qb;obtain ⟨dx,pP,pW,pB,kP,kW,kB,F8,W8⟩:=R8.ex;let c2:qG 2 ((pX.length:Nat):Int):=⟨by decide+kernel,DC (Rm ga ga) gt⟩;show ⟨_,rfl,_,rfl,_,rfl,a,C,dx,_,_,_,rfl,F8.obj,rfl,MP,a,dx,pP,pW,pB,_,_,kP,kW,kB,rfl,F8,fun lp H9 s9 yu lK=>?_⟩;rw [dh] at lK;show ⟨lp,_,rfl,.inl (aU.of lK),_,_,rfl,rfl,(by rwa [ir,ir]),?_⟩;let s89:=s8.trans s9
 let MT:iI K H9 r2 (ls++[l]) (cy++[us]) (bw pX ip++[dm L pX]):=by
  let e29:=Ur.trans s9;let RRx:=(RR.ji s2).ji e29;show ⟨⟨?_,by simp [RR.iW.2.1],xj RR.iW.2.1 RRx.iW.2.2 (e29 _ _ el)⟩,mi RRx.num (nm.ji e29),fun z=>?_⟩
  ·rw [(s48.trans s9) _ _ e4,K7]
   rfl
  ·rcases K2.mp z with z|z
   ·obtain ⟨i,ei⟩:=D_ z
    let hi:=(be.mp ei).1;have:=RR3.iW.2.2 i r2 _ ei (gE (by rwa [<-RR.iW.2.1]));erw [this] at n4
   ·rw [K3.mp z,s3 _ _ el] at n4
    cases n4
 let em:(2:Int)*((((pX.map (·.nm)).map V.str).length:Nat):Int)=((2*pX.length:Nat):Int):=by rw [ir,ir];omega
 let OY:c6 K H9 (EI ls.length (V.ref aN)++[V.ref aO]) (EI ls.length (0,1)++[(1,1)]):=by
  refine c6.snoc ⟨by simp,fun i u q e1 e2=>?_⟩ ⟨aO,rfl,hO _⟩;rw [OV] at e1 e2;split at e1
  ·rename_i c
   rw [mK c] at e2;cases e1;cases e2;show ⟨aN,rfl,hN _⟩
  ·cases e1
 let sh:Shape 2000 2000 (2*pX.length) (bw pX ip++[dm L pX]):=fun qs hq=>by
  rcases K2.mp hq with h|h
  ·show ⟨(dY g qs h).1,fun q hq=>ahk ((dY g qs h).2 q hq) gt gt⟩
  ·rw [K3.mp h]
   show ⟨j7 _ _,acv (fun x=>⟨(zl x).1,(zl x).2⟩) pX⟩
 let s01:Sm 2000 2000 ((0,1):Int×Int):=⟨gt,gt,by decide+kernel,by decide+kernel⟩;let KG:Sm 2000 2000 ((1,1):Int×Int):=⟨gt,gt,by decide+kernel,by decide+kernel⟩;let e89:=s9 _ _ e8;show ⟨r2,l8,2*pX.length,ls++[l],cy++[us],bw pX ip++[dm L pX],_,EI ls.length (0,1)++[(1,1)],2000,2000,bb (2000+2000*(2*pX.length+1)) (2*pX.length+1),(by rw [<-em];rfl),MT.iW,MT.num,e89,OY,by simp [Ma],sh,fun q hq=>?_,ga,by simp;omega,gt,ga,gt,rZ _ (an1 _ _),aeR lp5,?_,?_⟩
 ·rcases K2.mp hq with h|h
  ·rw [(List.mem_replicate.mp h).2]
   exact s01
  ·rw [K3.mp h]
   exact KG
 ·intro p x mS xs HA sA ep ex nx lx zx hx
  exfalso;obtain ⟨M,eM⟩:=OU g.np (xs:=xs.map vl) (by rwa [ir])
  let row:∀(i:Nat)(F:ς)(dd:Int×Int),(bw pX ip++[dm L pX])[i]?=some (dm F pX)->(EI ls.length ((0,1):Int×Int)++[(1,1)])[i]?=some dd->(pX.map fun p=>dt (mv F p.nm) (M p.nm)).sum=vl dd:=fun i F dd h1 h2=>by
   have:=hx i _ dd h1 h2;rwa [jw,eM,r9] at this
  let v0:vl ((0,1):Int×Int)=0:=by decide+kernel
  let v1:vl ((1,1):Int×Int)=1:=by decide+kernel
  let draw:∀F,dm F pX∈bw pX ip->(pX.map fun p=>dt (mv F p.nm) (M p.nm)).sum=0:=fun F hF=>by
   obtain ⟨i,ei⟩:=D_ hF;let hi:=(be.mp ei).1;rw [<-v0];refine row i F (0,1) (by rwa [K_ hi]) ?_;rw [K_ (by rwa [OT,Ma]),OV,mK (by rwa [Ma])]
  refine aeU (M:=M) g oi ⟨fun p hp w hw=>?_,fun b hb=>?_⟩ ?_
  ·rw [<-r_ g.np hp w M]
   refine draw _ ?_;unfold bw nO;exact O1 _ (Pq.mpr ⟨p,hp,CZ.mpr ⟨w,hw,rfl⟩⟩)
  ·obtain ⟨m1,m2,m3⟩:=g.ends b hb
   have:=draw (cF b) (by unfold bw;exact N8 _ (CZ.mpr ⟨b,hb,rfl⟩));rw [xl g.np b m1 m2 m3] at this;grind
  ·unfold JJ
   rw [<-v1];refine row (bw pX ip).length L (1,1) gV ?_;rw [<-Ma];simp
 ·intro p y mS ys HA sA ep ey ny ly zy ED hy1
  show ⟨_,rfl,p,_,_,_,rfl,rfl,bK.of ep,rfl,rfl,_,rfl,bU (fun c=>DL c (by simp [lV];decide+kernel)) (fun _=>?_)⟩;let OZ:=(Qb.trans s9).trans sA;let e0A:=(s18.trans s9).trans sA;let py:=og ny zy;let lys:ys.length=ls.length+1:=by rw [ly,Ma];simp
  let lus:mS.length=ls.length+1:=by rw [ny.1,lys]
  let rA:HA r=some (.lst (ls.map V.ref)):=e0A _ _ RR.iW.1;show ⟨_,rfl,_,rfl,p,_,_,_,rfl,rfl,bK.of ep,rfl,_,rfl,r,_,rfl,.inl (aU.of rA),_,rfl,y,_,rfl,aU.of ey,?_⟩;rw [ir,kJ (show ls.length<=mS.length by omega)];intros l9 nB HB sB eB;let pyB:Paired (g_ K HB) (mS.take ls.length) ((ys.map vl).take ls.length):=Paired.cg (eI ls.length py) fun _ _ z=>z.ji sB;let Qc:=OZ.trans sB;show ⟨a,l9,pX,ip,_,_,rfl,R.ji Qc,g,eB,pyB,?_,fun T U Lx pf dT dU kT kU HC sC er Qd PR=>?_⟩
  ·rw [KI,ir,lys,Ma,ql]
   unfold ar;omega
  show ⟨_,rfl,pf,_,_,_,rfl,rfl,bK.of Qd,rfl,_,rfl,pf,_,_,_,rfl,rfl,bK.of Qd,rfl,z3L,?_⟩;intros pt nD HD sD eD;let sx:=Qc.trans (sC.trans sD)
  obtain ⟨yl,eyl⟩:∃yl,(ys.map vl)=(ys.map vl).take ls.length++[yl]:=by
   let hl:ls.length<(ys.map vl).length:=by rw [ir];omega
   show ⟨(ys.map vl)[ls.length],?_⟩;have:=yw (l:=ys.map vl) (i:=ls.length);rw [gE hl,Si (by rw [ir];omega)] at this;exact this
  let v0:vl ((0,1):Int×Int)=0:=by decide+kernel
  let v1:vl ((1,1):Int×Int)=1:=by decide+kernel
  let ly1:yl=1:=by
   rw [jw,eyl,K7,j9 _ _ (by rw [KI,ir,ir,OT];omega),aii,v0] at hy1;let ez:EI ls.length (0:Rat)=(EI ls.length ()).map fun _=>(0:Rat):=by simp
   rw [ez,nZ,DG,MV,cv,gh,v1] at hy1;grind
  let rest:gH pX ip T U L:=fun p hp=>by
   obtain ⟨k,ek⟩:=D_ hp;let hk:=(be.mp ek).1
   let one:∀(j:Nat)(c:Rat×Rat->Rat),j<2*pX.length->c (0,0)=0->(∀F,vl ((dm F pX).getD j (0,1))=c (mv F p.nm))->dq ip T U p c+c (mv L p.nm)=0:=fun j c hj c0 hc=>by
    have:=ED j hj;rw [jw,vJ pX ip L ek j c hc,eyl,er,ly1,JL c0 g.np PR.lU hp] at this;grind
   show ⟨one (2*k) (·.1) ga rfl fun F=>(n_ F ek).1,one (2*k+1) (·.2) ga rfl fun F=>(n_ F ek).2⟩
  let mem:∀r∈(ys.map vl).take ls.length,Zb (zL pX.length) r:=fun r hr=>by
   obtain ⟨q,hq,rfl⟩:=CZ.mp (ZW hr);exact aaO (m:=0) (zy q hq) (by unfold zL;omega) (Nat.le_add_right _ _)
  rw [er] at mem;refine q2 T U Lx pt dT dU kT kU HD sx eD ⟨Qc.free PR.nT,Qc.free PR.nU,PR.ne,sD _ _ PR.hT,sD _ _ PR.hU,PR.WA,PR.aaL,fun b hb=>?_,fun p hp=>?_,PR.lU,PR.inj⟩ rest (fun b hb=>mem _ (N8 _ (CZ.mpr ⟨b,hb,rfl⟩))) fun p hp u hu=>mem _ (O1 _ (Pq.mpr ⟨p,hp,hu⟩))
  ·obtain ⟨v,h1,h2⟩:=PR.tT b hb
   show ⟨v,h1,h2.ji sD⟩
  ·obtain ⟨vs,h1,h2,h3,h4⟩:=PR.tU p hp
   show ⟨vs,h1,Qc.free h2,sD _ _ h3,Paired.cg h4 fun _ _ z=>z.ji sD⟩
def fX (c m t:Nat)(nd:ι)(qs:ο):Prop:=qs.length=m/\qs[c]?=some (1,1)/\(∀i,i<t->∀x,nd[i]?=some x->qs[x.1]?=some (low (-(x.2.getD c 0)) (x.2.getD x.1 0)))/\∀j,j<m->j≠c->(∀i,i<t->∀x,nd[i]?=some x->x.1≠j)->qs[j]?=some (0,1)
def fX.put {os:ζ}{x:Ψ}(R:Red os L m b nd lv)(F:fX c m t nd qs)(hc:∀y∈nd,y.1≠c)(e:nd[t]?=some x):fX c m (t+1) nd (qs.set x.1 (low (-(x.2.getD c 0)) (x.2.getD x.1 0))):=by
 let ql:=F.1;let hx:=R.cols x (DE e);let xc:=hc x (DE e)
 let dis:∀i y,i<t->nd[i]?=some y->y.1≠x.1:=fun i y hi ey=>by
  let a:=agB.mp R.asc i t (by rw [ir];exact (be.mp ey).1) (by rw [ir];exact (be.mp e).1) hi;simp only [anQ] at a;let e1:=(be.mp ey).2;let e2:=(be.mp e).2;rw [e1,e2] at a;omega
 show ⟨by simp [ql],by rw [Mr,mJ xc];exact F.2.1,fun i hi y ey=>?_,fun j hj jc h=>?_⟩
 ·rcases Rc.mp hi with z|z
  ·rw [Mr,mJ (FG (dis i y z ey))]
   exact F.2.2.1 i z y ey
  ·subst z
   erw [e] at ey;rw [Mr,mK rfl,mK ga]
 ·rw [Mr,mJ (h t (NM _) x e)]
  exact F.2.2.2 j hj jc (fun i hi y ey=>h i (QT hi) y ey)
def Ln.ks (h:Ln H v l)(r:Rd H d (.dK AD))(k:bh d H H'):Ln H' v l:=by
 obtain ⟨p,e,z⟩:=h;show ⟨p,e,k p _ (fun y=>?_) z⟩;rw [y] at z
 rcases r with r|⟨o,r⟩<;>(erw [r] at z)
theorem qR.ks (h:qR H AD nd)(r:Rd H d (.dK Wa))(k:bh d H H'):qR H' AD nd:=⟨h.1,fun i kv x e1 e2=>⟨(h.2 i kv x e1 e2).1,(h.2 i kv x e1 e2).2.ks r k⟩⟩
def bh.step (k:bh d H H')(s:aq H' H2):bh d H H2:=fun b o n e=>s _ _ (k b o n e)
def bh.put (k:bh d H H')(n:H x=none):bh d H (upd H' x o):=fun b o' nb e=>by
 rw [ao (fun z=>by erw [z,n] at e)];exact k b o' nb e
inductive xo (K:Frag)(vs:θ)(H:Hp)(Q:VK)(E_:XK):Prop
|mk (d:AG)(c m L b:Nat)(AD:δ)(nd:ι)(os lv:List (List Int:_))(_:vs=[.ref d,.int (c:Int),.int (m:Int)])(_:Rd H d (.dK AD))(_:qR H AD nd)(_:Red os L m b nd lv)(_:m<=L)(_:m<=900)(_:c<m)(_:(∀y∈nd,y.1≠c))(_:∀(x:AG)(us:θ)(qs:ο)(o:Obj)(H':Hp),bh d H H' ->H' d=some (.fV o (.dK AD))->H x=none->H' x=some (.lst us)->c6 K H' us qs->fX c m nd.length nd qs->Q (.ref x) H')
def gw:aE ["needed","column","many","numbers","place","line"] Yt (ae d3):=sq
def acz (hN:∀H:Hp,bK K H aN [.int 0,.int 1])(rC:mg "NOUGHT"=some (.ref aN))(hO:∀H:Hp,bK K H aO [.int 1,.int 1])(L_:mg "ONE"=some (.ref aO))(D:Def K mg "spare_list" d3 Yt)(EF:am P w K mg iN 33 "lowest_terms" RL gU):am P w K mg iN 34 "spare_list" Yt (xo K):=by
 refine D.oo gw fun H hr h=>?_;obtain ⟨d,c,m,L,b,AD,nd,os,lv,rfl,rd,Wf,R,hmL,hm,hc,hnc,q⟩:=h
 show ⟨_,(aa (aG 3 gw.nd (aF wA (bQ (aV (gN (v:=.ref aN) rfl rC rfl))) (pv 2))) (aa (iO (gN (v:=.ref aO) rfl L_ rfl) (lO (pv 3) (pv 1) set_list)) (aa (bG K6 rfl (zaw (pv 0)) (ft rfl (aY (b9 4 gw.nd) (aY (b9 5 gw.nd) cZ))) (ah (iO (aZ EF hr (aT (iA fO (bD aS (pv 5) (pv 1))) (bD aS (pv 5) (pv 4)))) (lO (pv 3) (pv 4) set_list)))) (ah (aJ (pv 3)))))),?_⟩;sleep 3
 show ⟨rh,fun p3 n3=>?_⟩;let s3:=aH n3 (.lst [V.ref aN]);show ⟨_,rfl,p3,_,_,rfl,rfl,aj,ga,ga,DC (show 1*(m:Int).toNat<=1000 by omega) gt,fun x n4=>?_⟩;let er:(EI (m:Int).toNat [V.ref aN]).flatten=EI m (V.ref aN):=by simp
 rw [er];let s4:=aH n4 (.lst (EI m (V.ref aN)));let nx:H x=none:=s3.free n4
 let xd:d≠x:=by
  rcases rd with r|⟨o,r⟩
  ·exact ak r nx
  ·exact ak r nx
 show ⟨_,rfl,_,rfl,x,_,_,c,rfl,rfl,aj,by rw [OT];exact EE hc,?_⟩;let s5:aq H (upd (upd (upd H p3 (.lst [V.ref aN])) x (.lst (EI m (V.ref aN)))) x (.lst ((EI m (V.ref aN)).set c (V.ref aO)))):=i_ (s3.trans s4) nx
 let Qe:Rd (upd (upd (upd H p3 (.lst [V.ref aN])) x (.lst (EI m (V.ref aN)))) x (.lst ((EI m (V.ref aN)).set c (V.ref aO)))) d (.dK AD):=by
  rcases rd with r|⟨o,r⟩
  ·exact .inl (s5 _ _ r)
  ·exact .inr ⟨o,s5 _ _ r⟩
 let x5:upd (upd (upd H p3 (.lst [V.ref aN])) x (.lst (EI m (V.ref aN)))) x (.lst ((EI m (V.ref aN)).set c (V.ref aO))) x=some (.lst ((EI m (V.ref aN)).set c (V.ref aO))):=aj;generalize upd (upd (upd H p3 (.lst [V.ref aN])) x (.lst (EI m (V.ref aN)))) x (.lst ((EI m (V.ref aN)).set c (V.ref aO)))=H5 at*;let EG:=Wf.ji s5;show ⟨_,rfl,d,AD,rfl,Qe,fun o=>?_⟩;let k5:bh d H (upd H5 d (.fV o (.dK AD))):=fun b o' n e=>by rw [ao n];exact s5 _ _ e
 let k55:bh d H5 (upd H5 d (.fV o (.dK AD))):=fun b o' n e=>by rwa [ao n]
 refine let I:dL:=fun t Y H'=>P8 fun (o4 o5:Α) (vH:θ) (qs:ο)=>Y=[ce d,some (.int (c:Int)),some (.int (m:Int)),ce x,o4,o5]/\bh d H H'/\H' d=some (.fV o (.dK AD))/\H' x=some (.lst vH)/\c6 K H' vH qs/\qR H' AD nd/\fX c m t nd qs;i6 (d:=d) (o:=o) (AD:=AD) I
  ⟨none,none,(EI m (V.ref aN)).set c (V.ref aO),(EI m (0,1)).set c (1,1),rfl,k5,aj,by rwa [ao (FG xd)],c6.set ⟨by simp,fun i u q' e1 e2=>?_⟩ ⟨aO,rfl,hO _⟩,EG.ks Qe k55,⟨by simp,by rw [Mr,mK rfl,mK (by simpa using hc)],fun i hi=>DL hi (Oi _),fun j hj jc _=>by rw [Mr,mJ (FG jc),OV,mK hj]⟩⟩ (fun t Y H' _ h=>by
   obtain ⟨_,_,_,_,_,_,h,_⟩:=h
   exact h) ?_ ?_
 ·rw [OV] at e1 e2
  by_cases z:i<m
  ·rw [mK z] at e1 e2
   cases e1;cases e2;show ⟨aN,rfl,hN _⟩
  ·rw [mJ z] at e1
   cases e1
 ·rintro t k v Y H6 p7 vF ⟨o4,o5,vH,qs,rfl,k6,Wu,hx6,X8,hN6,F⟩ n7
  let ht:t<AD.length:=(be.mp vF).1;let hl6:=hN6.1;obtain ⟨y,ey⟩:∃y,nd[t]?=some y:=⟨_,gE ga⟩;obtain ⟨k1,k2⟩:=hN6.2 t _ y vF ey;let k1':k=.inl (y.1:Int):=k1;subst k1';obtain ⟨b',eb,jZ⟩:=k2;have ZR :v=.ref b':=eb;subst ZR;let hym:=DE ey;let hyl:=R.tR y hym;let hyc:=R.cols y hym;let s7:=aH n7 (.tup [kV (.inl (y.1:Int)),.ref b']);let ZS:=s7 _ _ jZ;show ⟨p7,_,rfl,bK.of aj,rfl,_,_,rfl,_,_,rfl,rfl,_,rfl,_,rfl,b',_,_,_,rfl,rfl,aU.of ZS,qQ ga,_,rfl,_,rfl,_,rfl,b',_,_,_,rfl,rfl,aU.of ZS,qQ ga,_,_,rfl,R.here y hym,fun p8 H8 s8 e8=>?_⟩;let EH:=s7.trans s8;let ZT:=EH _ _ hx6;let l2:=X8.1;let dx8:=EH _ _ Wu;show ⟨_,rfl,_,rfl,x,vH,_,y.1,rfl,rfl,ZT,EE (by rwa [l2,F.1]),?_⟩;show ⟨_,_,vH.set y.1 (.ref p8),qs.set y.1 (low (-(y.2.getD c 0)) (y.2.getD y.1 0)),rfl,bh.put (bh.step k6 EH) nx,by rwa [ao xd],aj,?_,?_,F.put R hnc ey⟩
  ·let iN:c6 K H8 (vH.set y.1 (.ref p8)) (qs.set y.1 (low (-(y.2.getD c 0)) (y.2.getD y.1 0))):=(X8.ji EH).set ⟨p8,rfl,bK.of e8⟩
   show ⟨iN.1,fun i u q' e1 e2=>?_⟩;obtain ⟨p9,e9,h9⟩:=iN.2 i u q' e1 e2;show ⟨p9,e9,bK.putL h9 ZT⟩
  ·let iN:=hN6.ji EH
   show ⟨iN.1,fun i kv y' e1 e2=>⟨(iN.2 i kv y' e1 e2).1,?_⟩⟩;obtain ⟨p9,e9,h9⟩:=(Wf.2 i kv y' e1 e2).2;show ⟨p9,e9,?_⟩;rw [ao (fun z=>by erw [z,nx] at h9)];obtain ⟨p10,Wg,h10⟩:=(iN.2 i kv y' e1 e2).2;erw [e9] at Wg;exact h10
 ·rintro Y H6 ⟨o4,o5,vH,qs,rfl,k6,Wu,hx6,X8,hN6,F⟩
  let hl6:=hN6.1;rw [hl6] at F;show ⟨_,rfl,q x vH qs o H6 k6 Wu nx hx6 X8 F⟩
def bK.ks (h:bK K H a xs)(r:Rd H d (.dK AD))(k:bh d H H'):bK K H' a xs:=by
 let ne:∀{u:HO},H a=some u->(∀o,u≠.fV o (.dK AD))->u≠.dK AD->a≠d:=fun {u} e n1 n2 z=>by
  rw [z] at e
  rcases r with r|⟨o,r⟩
  ·rw [r] at e
   cases e;exact n2 rfl
  ·rw [r] at e
   cases e;exact n1 o rfl
 rcases h with (h|⟨o,h⟩)|h
 ·exact .inl (.inl (k _ _ (ne h (fun o z=>nomatch z) (fun z=>nomatch z)) h))
 ·exact .inl (.inr ⟨o,k _ _ (ne h (fun o z=>by cases z) (fun z=>nomatch z)) h⟩)
 ·exact .inr h
theorem c6.ks (h:c6 K H us qs)(r:Rd H d (.dK AD))(k:bh d H H'):c6 K H' us qs:=⟨h.1,fun i u q e1 e2=>by
 obtain ⟨p,e,z⟩:=h.2 i u q e1 e2
 show ⟨p,e,bK.ks z r k⟩⟩
def zI (K:Frag)(H:Hp)(AD:δ)(ss:Θ):Prop:=AD.length=ss.length/\∀(i:Nat)(kv:Key×V)(x:Nat×List (Int×Int)),AD[i]?=some kv->ss[i]?=some x->kv.1=.inl (x.1:Int)/\∃p us,kv.2=.ref p/\H p=some (.lst us)/\c6 K H us x.2
theorem zI.ji (h:zI K H AD ss)(s:aq H H'):zI K H' AD ss:=⟨h.1,fun i kv x e1 e2=>by
 obtain ⟨a,p,us,b,c,d⟩:=h.2 i kv x e1 e2
 show ⟨a,p,us,b,s _ _ c,d.ji s⟩⟩
theorem zI.ks (h:zI K H AD ss)(r:Rd H d (.dK Wa))(k:bh d H H'):zI K H' AD ss:=⟨h.1,fun i kv x e1 e2=>by
 obtain ⟨a,p,us,b,c,d'⟩:=h.2 i kv x e1 e2;show ⟨a,p,us,b,k _ _ (fun z=>?_) c,c6.ks d' r k⟩;rw [z] at c
 rcases r with r|⟨o,r⟩<;>(erw [r] at c)⟩
def zI.snoc (h:zI K H AD ss){c:Nat}(hp:H p=some (.lst us))(hn:c6 K H us qs):zI K H (AD++[(.inl (c:Int),.ref p)]) (ss++[(c,qs)]):=by
 let hl:=h.1;show ⟨by simp [hl],fun j kv x e1 e2=>?_⟩;by_cases z:j<AD.length
 ·rw [K_ z] at e1
  rw [K_ ga] at e2;exact h.2 j kv x e1 e2
 ·rw [Kx ga] at e1 e2
  rw [<-hl] at e2;by_cases y:j-AD.length=0
  ·rw [y] at e1 e2
   cases e1;cases e2;show ⟨rfl,p,us,rfl,hp,hn⟩
  ·rw [EZ (by simp;omega)] at e1
   cases e1
def zI.keys (h:zI K H AD ss):AD.map (·.1)=ss.map (fun x=>(Oa (x.1:Int):Key)):=by
 refine Mt fun i=>?_;let hl:=h.1;rw [Wp,Wp];by_cases hi:i<ss.length
 ·let e:ss[i]?=some ss[i]:=gE hi
  let e2:AD[i]?=some (AD[i]'ga):=gE ga;rw [e,e2];simp only [R_];rw [(h.2 i _ _ e2 e).1]
 ·rw [EZ ga,EZ ga]
  rfl
def WlQ (T B m:Nat)(qs:ο)(w:Wl):Prop:=jB w.1 qs w.2.1/\0<w.2.1/\w.2.1.natAbs<=2^(B*m)/\∀t∈w.1,t.natAbs<=2^(T+B*m)
def oj (T B m:Nat)(bP:υ)(os:ζ):Prop:=os.length=bP.length/\∀(i:Nat)(o:π)(qs:ο),os[i]?=some o->bP[i]?=some qs->∃b:Int,0<b/\jB o qs b
def free (nd:ι)(j:Nat):Bool:=nd.all fun y=>decide (y.1≠j)
def dZ :free nd j=true ↔ ∀y∈nd,y.1≠j:=by
 unfold free;rw [anP];show ⟨fun h y hy=>Km (h y hy),fun h y hy=>Kk (h y hy)⟩
inductive om (K:Frag)(vs:θ)(H:Hp)(Q:VK)(E_:XK):Prop
|mk (r:AG)(m:Nat)(ls:ω)(cy:List (List V:_))(bP:υ)(T B α:Nat)(_:vs=[.ref r,.int (m:Int)])(_:mh H r ls cy)(_:gG K H cy bP)(_:Shape T B m bP)(_:m<=100)(_:bP.length<=100)(_:T<=20000)(_:B*m<=8000)(_:B<=8000)(_:bb (T+B*m) (min m bP.length)<=α)(_:α<=29000000)(_:∀(sd:AG)(AD:δ)(ss:Θ)(os lv:ζ)(nd:ι)(H':Hp),aq H H' ->H sd=none->H' sd=some (.dK AD)->zI K H' AD ss->oj T B m bP os->Red os m m α nd lv->ss.map (·.1)=(KC m).filter (free nd)->(∀x∈ss,fX x.1 m nd.length nd x.2)->Q (.ref sd) H')
def eJ:aE ["rows","many","needed","spare","column"] O_ (ae dc):=sq
def aeh (D:Def K mg "spare_columns" dc O_)(bg:mg "range"=none)(Wj:am P w K mg iN 2 "whole_row" ["row"] (Rw K))(Wd:am P w K mg iN 35 "reduced" PJ (kN K))(xp:am P w K mg iN 34 "spare_list" Yt (xo K)):am P w K mg iN 36 "spare_columns" O_ (om K):=by
 refine D.op eJ fun f cL A lj s H vs Q E hr h=>?_;obtain ⟨r,m,ls,cy,bP,T,B,α,rfl,M,NN,sh,hm,hn,hT,hB,hB1,hZ,hZ1,q⟩:=h
 show ⟨_,(aa (aG 2 eJ.nd (aL (aZ Wd hr (aT (df (tn:=["row"]) (fr:=[]) (mL:=[]) (bu (pv 0)) (bD (dz (K:=K) rfl) (qP Wj hr (aV (pv 0))) ag)) (pv 1))))) (aa (aG 3 eJ.nd dX) (aa (bG K6 rfl (bS rfl bg (aV (pv 1))) (b9 4 eJ.nd) (ah (bI (sI (pJ (cW hr) (pv 4) (pv 2))) (ah (dQ (cW hr) (pv 3) (pv 4) (aZ xp hr (bR (pv 2) (pv 4) (pv 1))) rfl)) a_))) (ah (aJ (pv 3)))))),?_⟩;sleep 3
 let l1:=M.2.1;let l2:=NN.1;show ⟨_,rfl,r,rfl,⟨_,aU.of M.1⟩,fun D1 n1=>?_⟩;refine lY (oe:=[]) (K:=K) (a:=r) (xs:=ls.map V.ref) (fun i v H=>∃w:Wl,v=.ref w.2.2.1/\w.2.2.1≠D1/\H w.2.2.1=some (.lst (w.1.map V.int))/\∀qs,bP[i]?=some qs->WlQ T B m qs w) n1 (by rw [ir];exact FU (show ls.length<=1000 by omega) gt) (fun H2 s2=>aU.of (s2 _ _ M.1)) ?_ ?_ ?_
 ·rintro i v H2 H3 ys hD ks ⟨w,e1,e2,e3,e4⟩
  show ⟨w,e1,e2,ks _ _ e2 e3,e4⟩
 ·rintro i x H2 RR ex s2 ⟨ys0,hD0⟩ kk
  rw [Wp] at ex;obtain ⟨l,el,rfl⟩:=K9.mp ex;let hi:i<ls.length:=(be.mp el).1;obtain ⟨qs,eq⟩:∃qs,bP[i]?=some qs:=⟨_,gE ga⟩;obtain ⟨vs,ev⟩:∃vs,cy[i]?=some vs:=⟨_,gE ga⟩;let hl:=M.2.2 i l vs el ev;let hq:=NN.2 i vs qs ev eq;obtain ⟨lq,sq⟩:=sh qs (DE eq);show ⟨_,rfl,l,qs,T,B,rfl,⟨_,aU.of (s2 _ _ hl),hq.ji s2⟩,sq,hT,by rw [lq];omega,hB1,ga,fun p3 ZY ts b H3 s3 nl hp3 hl3 hb OC wh ZZ=>?_⟩;rw [lq] at OC ZZ;show ⟨p3,_,_,_,rfl,rfl,bK.of hp3,j6,kk _ _ s3 ⟨(ts,b,ZY,p3),rfl,fun z=>?_,hl3,fun X0 e1=>?_⟩⟩
  ·rw [show ZY =D1 from z,hD0] at nl
   cases nl
  ·rw [eq] at e1
   cases e1;show ⟨wh,hb,OC,ZZ⟩
 intro zs H2 hz h_ s2 α0;rw [ir] at hz;obtain ⟨ws,lw,hw⟩:=kK (P:=fun i v (w:Wl)=>v=.ref w.2.2.1/\w.2.2.1≠D1/\H2 w.2.2.1=some (.lst (w.1.map V.int))/\∀qs,bP[i]?=some qs->WlQ T B m qs w) zs h_
 let wp:∀(i:Nat)(w:Wl),ws[i]?=some w->∃v qs,zs[i]?=some v/\bP[i]?=some qs/\v=.ref w.2.2.1/\H2 w.2.2.1=some (.lst (w.1.map V.int))/\WlQ T B m qs w:=fun i w e=>by
  let hi:i<ws.length:=(be.mp e).1;obtain ⟨v,ev⟩:∃v,zs[i]?=some v:=⟨_,gE ga⟩;obtain ⟨qs,eq⟩:∃qs,bP[i]?=some qs:=⟨_,gE ga⟩;obtain ⟨h1,_,h3,h4⟩:=hw i v w ev e;show ⟨v,qs,ev,eq,h1,h3,h4 qs eq⟩
 let hLl:tQ H2 zs (ws.map (·.1)):=⟨by simp [lw],fun i u l e1 e2=>by
  rw [Wp] at e2;obtain ⟨w,ew,rfl⟩:=K9.mp e2;obtain ⟨v,qs,ev,_,e,h,_⟩:=wp i w ew;erw [e1] at ev
  show ⟨_,e,h⟩⟩
 let L7:∀l∈ws.map (·.1),l.length=m:=fun l hl=>by
  obtain ⟨w,OD,rfl⟩:=CZ.mp hl;obtain ⟨i,e⟩:=D_ OD;obtain ⟨v,qs,_,eq,_,_,wh,_⟩:=wp i w e;rw [wh.1,(sh qs (DE eq)).1]
 let wbd:∀l∈ws.map (·.1),Bd (T+B*m) l:=fun l hl=>by
  obtain ⟨w,OD,rfl⟩:=CZ.mp hl;obtain ⟨i,e⟩:=D_ OD;obtain ⟨v,qs,_,eq,_,_,_,_,_,h⟩:=wp i w e;exact Bd.of h
 let α1:(ws.map (·.1)).length=bP.length:=by rw [ir];omega
 let ahq:oj T B m bP (ws.map (·.1)):=⟨α1,fun i o qs e1 e2=>by
  rw [Wp] at e1;obtain ⟨w,ew,rfl⟩:=K9.mp e1;obtain ⟨v,X0,_,eq,_,_,wh,wb,_⟩:=wp i w ew;erw [e2] at eq
  show ⟨_,wb,wh⟩⟩
 show ⟨_,rfl,D1,zs,ws.map (·.1),m,m,T+B*m,rfl,aU.of α0,hLl,L7,DU _,ga,ga,wbd,by rw [α1];omega,fun p d a' AD mS nd lv H3 s3 JE np hp hd MR Wf Uh R=>?_⟩;rw [α1] at R;let RZ:=R.up hZ;show ⟨p,_,_,_,rfl,rfl,bK.of hp,j6,fun sd RM=>?_⟩;let t4:=aH RM (.dK []);let jP:=(s2.trans s3).trans t4;let Hd:H d=none:=s2.free JE;let Qf:H sd=none:=(s2.trans s3).free RM;let ds:d≠sd:=ak hd RM;show ⟨_,rfl,_,rfl,ga,ga,?_⟩
 refine let I:dL:=fun i Y H'=>I_ fun (o4:Α) (oq:δ) (ss:Θ)=>Y=[ce r,some (.int (m:Int)),ce d,ce sd,o4]/\aq H H'/\Rd H' d (.dK AD)/\H' sd=some (.dK oq)/\qR H' AD nd/\zI K H' oq ss/\ss.map (·.1)=(KC i).filter (free nd)/\∀x∈ss,fX x.1 m nd.length nd x.2;cP (lo:=0) (n:=m) I
  ⟨none,[],[],rfl,jP,.inl (t4 _ _ hd),aj,Wf.ji t4,⟨rfl,fun i kv x e=>by simp at e⟩,by simp,fun x h=>nomatch h⟩ ?_ ?_
 ·rintro i Y H5 hi ⟨o4,oq,ss,rfl,s5,Qe,EV,EG,RO,X9,hF5⟩
  let nk:(AD.map (·.1)).Nodup:=by
   rw [EG.keys];exact keys_nodup R.asc
  by_cases fr:free nd i=true
  ·let fr':=dZ.mp fr
   let Vw:cI AD (.inl ((0:Int)+i))=none:=rY (fun z=>by
    rw [EG.keys] at z;obtain ⟨x',BZ,e⟩:=CZ.mp z;let e1:(x'.1:Int)=0+i:=Sa e
    exact fr' x' BZ ga)
   show ⟨_,rfl,_,rfl,d,none,rfl,.inl ⟨AD,.inl ((0:Int)+i),Qe,rfl,Vw.symm⟩,_,rfl,bU (fun _=>?_) (fun c=>DL rfl c)⟩;show ⟨_,rfl,_,rfl,_,rfl,d,i,m,m,α,AD,nd,ws.map (·.1),lv,by rw [Kp];rfl,Qe,EG,RZ,DU _,ga,hi,fr',fun x us qs o H6 k6 Wu nx hx6 X8 F=>?_⟩;let WL:H6 sd=some (.dK oq):=k6 _ _ (FG ds) EV;let lsk:=RO.1
   let Wm:ss.length<=m:=by
    have:=oP NO X9;rw [ir] at this;let h2:=Wi (free nd) (KC i);rw [Mf] at h2;omega
   show ⟨_,rfl,_,rfl,sd,_,rfl,iS.k (k:=.inl ((0:Int)+i)) WL (FU (show oq.length<=1000 by omega) gt),?_⟩
   let ahr:cI oq (.inl ((0:Int)+i))=none:=rY (fun z=>by
    rw [RO.keys] at z;obtain ⟨x',BZ,e⟩:=CZ.mp z;let e1:(x'.1:Int)=0+i:=Sa e;have:x'.1∈(KC i).filter (free nd):=by rw [<-X9];exact CZ.mpr ⟨x',BZ,rfl⟩
    have:=Md.mp (KN.mp this).1
    omega)
   rw [dJ _ ahr,Kp];let s6:aq H H6:=fun b o' e=>k6 _ _ (ak e Hd) (s5 _ _ e);let ksd:bh sd H6 (upd H6 sd (.dK (oq++[(.inl (i:Int),.ref x)]))):=fun b o' n e=>by rwa [ao n]
   show ⟨_,_,ss++[(i,qs)],rfl,i_ s6 Qf,.inr ⟨o,by rwa [ao ds]⟩,aj,(EG.ks Qe k6).ks (.inl WL) ksd,((RO.ks Qe k6).snoc hx6 X8).ks (.inl WL) ksd,?_,fun x' BZ =>?_⟩
   ·rw [K7,X9,oN,Sh]
    simp [fr]
   ·rcases K2.mp BZ with z|z
    ·exact hF5 x' z
    ·rw [K3.mp z]
     exact F
  ·let nf:∃y∈nd,y.1=i:=by
    apply O5;intro z;exact fr (dZ.mpr fun y hy e=>z ⟨y,hy,e⟩)
   obtain ⟨y,hy,ey⟩:=nf;obtain ⟨t,et⟩:=D_ hy;obtain ⟨v,ev,_⟩:=EG.at et;let vat:=kI nk ev;show ⟨_,rfl,_,rfl,d,some v,rfl,.inl ⟨AD,.inl ((0:Int)+i),Qe,rfl,by rw [Kp,<-ey];exact vat.symm⟩,_,rfl,bU (fun c=>nomatch c) (fun _=>?_)⟩;show ⟨_,_,ss,rfl,s5,Qe,EV,EG,RO,?_,hF5⟩;rw [X9,oN,Sh];simp [fr]
 ·rintro Y H5 ⟨o4,oq,ss,rfl,s5,Qe,EV,EG,RO,X9,hF5⟩
  show ⟨_,rfl,q sd oq ss _ lv nd H5 s5 Qf EV RO ahq RZ X9 hF5⟩
def fsum (l:Ν)(f:Nat->Rat):Rat:=(l.map f).sum
def zJ (f:Nat->Rat):fsum [] f=0:=rfl
def bC (a:Nat)(l:Ν)(f:Nat->Rat):fsum (a::l) f=f a+fsum l f:=by simp [fsum]
theorem j_ (p:Nat->Bool)(f:Nat->Rat):∀l:List Nat,fsum l f=fsum (l.filter p) f+fsum (l.filter fun i=> !p i) f
 | []=>by simp [fsum];grind
 | a::l=>by
  let ih:=j_ p f l;cases h:p a
  ·rw [Zj (by simp [h]),Zg (by simp [h]),bC,bC,ih]
   grind
  ·rw [Zg h,Zj (by simp [h]),bC,bC,ih]
   grind
theorem gW (f:Nat->Rat):∀l:List Nat,(∀i∈l,f i=0)->fsum l f=0
 | [],_=>rfl
 | a::l,h=>by
  rw [bC,h a EJ,gW f l (fun i hi=>h i (FF _ hi))];grind
theorem ot (f:Nat->Rat)(j:Nat):∀l:List Nat,l.Nodup->j∈l->(∀i∈l,i≠j->f i=0)->fsum l f=f j
 | [],_,h,_=>nomatch h
 | a::l,n,h,z=>by
  rw [Kr] at n;rw [bC];by_cases e:a=j
  ·subst e
   rw [gW f l (fun i hi=>z i (FF _ hi) (fun y=>n.1 (by rwa [<-y])))];grind
  ·let hj:j∈l:=by
    rcases KD.mp h with y|y
    ·exact DL y.symm e
    ·exact y
   rw [z a EJ e,ot f j l n.2 hj (fun i hi=>z i (FF _ hi))];grind
theorem dG :∀l:List Nat,(∀i∈l,f i=g i)->fsum l f=fsum l g
 | [],_=>rfl
 | a::l,h=>by rw [bC,bC,h a EJ,dG l (fun i hi=>h i (FF _ hi))]
theorem jd (c:Rat)(f:Nat->Rat):∀l:List Nat,fsum l (fun i=>c*f i)=c*fsum l f
 | []=>by simp [fsum]
 | a::l=>by
  rw [bC,bC,jd c f l];grind
def ae_ (g:Nat->Nat)(f:Nat->Rat)(l:Ν):fsum (l.map g) f=fsum l (fun i=>f (g i)):=by
 unfold fsum;rw [K4];rfl
theorem fB:∀(n:Nat)(f:Nat->Rat),sumTo n f=fsum (KC n) f
 | 0,_=>rfl
 | n+1,f=>by
  rw [ahF,bC,ae_,<-fB n];rfl
def xq :vl (0,1)=0:=by
 unfold vl;simp;grind
def EW :vl (1,1)=1:=by
 unfold vl;simp;grind
structure CG (nd:ι)(c:Nat)(z:Nat->Rat):Prop where
 one:z c=1
 at':∀y∈nd,z y.1=(-(y.2.getD c 0):Int) / ((y.2.getD y.1 0:Int):Rat)
 no:∀j,j≠c->(∀y∈nd,y.1≠j)->z j=0
theorem CG.sol {os lv:ζ}(R:Red os L m b nd lv)(hc:c<m)(h:CG nd c z)(fr:∀y∈nd,y.1≠c):∀o∈os,ev o z=0:=by
 refine (R.sol z).mp ⟨fun x hx=>?_,fun l hl=>?_⟩
 ·let e:z=fun j=>(if j=c then 1 else 0)+(if j=c then 0 else z j):=by
   funext j;by_cases q:j=c
   ·rw [mK q,mK q,q,h.one]
    grind
   ·rw [mJ q,mJ q]
    grind
  rw [e,DM,lZ x.2 (fun j=>if j=c then 1 else 0) c (fun j hj=>by rw [mJ hj];grind),lZ x.2 (fun j=>if j=c then 0 else z j) x.1 (fun j hj=>?_)]
  ·let hh:=cO (R.here x hx)
   rw [mK rfl,mJ (fr x hx),h.at' x hx];push_cast;grind
  ·by_cases q:j=c
   ·rw [mK q]
    grind
   ·rw [mJ q]
    by_cases y:∃u∈nd,u.1=j
    ·obtain ⟨u,hu,rfl⟩:=y
     rw [R.off x hx u hu (FG hj)];simp
    ·rw [h.no j q (fun u hu e=>y ⟨u,hu,e⟩)]
     grind
 ·refine rW l z fun j=>?_
  by_cases hj:j<m
  ·rw [R.zero l hl j hj]
   simp
  ·rw [h.no j ga (fun y hy e=>by have:=R.cols y hy;omega)]
   grind
def CG.behind {os lv:ζ}(R:Red os L m b nd lv)(h:CG nd c z)(hj:c<j):z j=0:=by
 by_cases q:∃y∈nd,y.1=j
 ·obtain ⟨y,hy,rfl⟩:=q
  rw [h.at' y hy,R.low y hy c hj];simp [xG]
 ·exact h.no j ga (fun y hy e=>q ⟨y,hy,e⟩)
theorem zK:∀(m:Nat)(f g:Nat->Rat),(∀j,j<m->f j=g j)->Ty.sumTo m f=Ty.sumTo m g
 | 0,_,_,_=>rfl
 | m+1,f,g,h=>by
  simp only [Ty.sumTo];rw [h 0 ga,zK m (fun i=>f (i+1)) (fun i=>g (i+1)) (fun j hj=>h (j+1) ga)]
def agJ (h:jB ts qs b)(hm:qs.length=m)(z:Nat->Rat):ev ts z=(b:Rat)*sumTo m (fun j=>vl (qs.getD j (0,1))*z j):=by
 let hl:=h.1;rw [nj m ts z ga,<-pQ];refine zK m _ _ fun j hj=>?_;let e1:ts[j]?=some (ts[j]'ga):=gE ga;let e2:qs[j]?=some (qs[j]'ga):=gE ga;let w:=h.2 j _ _ e1 e2;rw [getD_mem e1,w,KU,e2];show _=(b:Rat)*(vl (qs[j]'ga)*z j);grind
def JO (h:jB ts qs b)(hb:0<b)(hm:qs.length=m)(z:Nat->Rat):ev ts z=0 ↔ sumTo m (fun j=>vl (qs.getD j (0,1))*z j)=0:=by
 rw [agJ h hm z];have jZ :=cO (show b≠0 by omega);constructor<;>intro q<;>grind
def je {os:ζ}(jD:oj T B m bP os)(len:∀qs∈bP,qs.length=m)(z:Nat->Rat):(∀o∈os,ev o z=0) ↔ ∀qs∈bP,sumTo m (fun j=>vl (qs.getD j (0,1))*z j)=0:=by
 let hl:=jD.1;constructor
 ·intro h qs hq
  obtain ⟨i,e⟩:=D_ hq;let hi:i<bP.length:=(be.mp e).1;let e1:os[i]?=some (os[i]'ga):=gE ga;obtain ⟨b,hb,wh⟩:=jD.2 i _ qs e1 e;exact (JO wh hb (len qs hq) z).mp (h _ (DE e1))
 ·intro h o ho
  obtain ⟨i,e⟩:=D_ ho;let hi:i<os.length:=(be.mp e).1;let e1:bP[i]?=some (bP[i]'ga):=gE ga;obtain ⟨b,hb,wh⟩:=jD.2 i o _ e e1;exact (JO wh hb (len _ (DE e1)) z).mpr (h _ (DE e1))
def getD_some {qs:ο}(e:qs[j]?=some q):qs.getD j (0,1)=q:=by
 rw [KU,e];rfl
theorem fX.z {os lv:ζ}(R:Red os L m b nd lv)(F:fX c m nd.length nd qs):CG nd c (fun j=>vl (qs.getD j (0,1))) where
 one:=by
  show vl (qs.getD c (0,1))=1;rw [getD_some F.2.1,EW]
 at':=fun y hy=>by
  obtain ⟨i,e⟩:=D_ hy;let hi:i<nd.length:=(be.mp e).1;show vl (qs.getD y.1 (0,1))=_;rw [getD_some (F.2.2.1 i hi y e),tq (R.here y hy)]
 no:=fun j hj h=>by
  show vl (qs.getD j (0,1))=0;by_cases z:j<m
  ·rw [getD_some (F.2.2.2 j z hj (fun i _ x e=>h x (DE e))),xq]
  ·rw [KU,EZ (by rw [F.1];omega)]
   exact xq
def ab6 (pX:ν)(ip:ρ){k:Nat}(h:pX[k]?=some p)(j:Nat)(c:Rat×Rat->Rat)(hj:∀F,vl ((dm F pX).getD j (0,1))=c (mv F p.nm)):
  (fN (bw pX ip) j).map vl=(pX.flatMap fun q=>q.ws.map fun w=>c (mv (gf q.nm w) p.nm))++ip.map fun b=>c (mv (cF b) p.nm):=by
 have:=vJ pX ip (fun _=>none) h j c hj;unfold fN at this ⊢;rw [K7,K7] at this;exact (List.append_inj' this rfl).1
def aeP {pX:ν}{ip:ρ}{T:Δ}{U:χ}{c:Rat×Rat->Rat}(c0:c (0,0)=0)(nd:(pX.map (·.nm)).Nodup)(hl:∀q∈pX,(U q.nm).length=q.ws.length)(hp:p∈pX):
  sP ((pX.flatMap fun q=>U q.nm)++ip.map (fun b=>T b.nm)) ((pX.flatMap fun q=>q.ws.map fun w=>c (mv (gf q.nm w) p.nm))++ip.map fun b=>c (mv (cF b) p.nm))=dq ip T U p c:=by
 let l1:(pX.flatMap fun q=>U q.nm).length=(pX.flatMap fun q=>q.ws.map fun w=>c (mv (gf q.nm w) p.nm)).length:=by
  clear hp nd
  induction pX with
  | nil=>rfl
  | cons q ps ih=>rw [KO,KO,ER,ER,ih fun r hr=>hl r (FF _ hr),hl q EJ,ir]
 have:=JL (L:=fun _=>none) (ip:=ip) (T:=T) c0 nd hl hp 0;rw [j9 _ _ (by rw [ER,ER,l1,ir,ir]),cv,gh] at this;grind
def ou {U:χ}(hl:∀q∈pX,(U q.nm).length=q.ws.length):(pX.flatMap fun q=>U q.nm).length=ar pX:=by
 unfold ar
 induction pX with
 | nil=>rfl
 | cons q ps ih=>rw [KO,KO,ER,ER,ih fun r hr=>hl r (FF _ hr),hl q EJ]
def gI (pX:ν)(ip:ρ)(T:Δ)(U:χ):Prop:=∀p∈pX,dq ip T U p (·.1)=0/\dq ip T U p (·.2)=0
def vL (g:bM pX ip){T:Δ}{U:χ}(hl:∀q∈pX,(U q.nm).length=q.ws.length)(h:∀j,j<2*pX.length->sP ((pX.flatMap fun q=>U q.nm)++ip.map (fun b=>T b.nm)) ((fN (bw pX ip) j).map vl)=0):gI pX ip T U:=fun p hp=>by
 obtain ⟨k,ek⟩:=D_ hp;let hk:=(be.mp ek).1
 let one:∀(j:Nat)(c:Rat×Rat->Rat),j<2*pX.length->c (0,0)=0->(∀F,vl ((dm F pX).getD j (0,1))=c (mv F p.nm))->dq ip T U p c=0:=fun j c hj c0 hc=>by
  have:=h j hj;rwa [ab6 pX ip ek j c hc,aeP c0 g.np hl hp] at this
 show ⟨one (2*k) (·.1) ga rfl fun F=>(n_ F ek).1,one (2*k+1) (·.2) ga rfl fun F=>(n_ F ek).2⟩
theorem O3:∀(rs:Λ)(qs:ο),rs.length=qs.length->Ty.sumTo qs.length (fun j=>vl (qs.getD j (0,1))*rs.getD j 0)=sP rs (qs.map vl)
 | [],[],_=>by simp [Ty.sumTo,sP]
 | r::rs,q::qs,h=>by
  rw [DG,cv,<-O3 rs qs (by simpa using h),Me];show vl q*r+Ty.sumTo qs.length (fun j=>vl (qs.getD j (0,1))*rs.getD j 0)=_;grind
def mm (pX:ν)(ip:ρ)(T:Δ)(U:χ):List Rat:=(pX.flatMap fun q=>U q.nm)++ip.map (fun b=>T b.nm)
def afn (hl:∀q∈pX,(U q.nm).length=q.ws.length):(mm pX ip T U).length=ar pX+ip.length:=by
 unfold mm;rw [ER,ou hl,ir]
def ua (hl:∀q∈pX,(U q.nm).length=q.ws.length)(e:ip[k]?=some b):(mm pX ip T U)[ar pX+k]?=some (T b.nm):=by
 unfold mm;rw [Kx (by rw [ou hl];omega),ou hl,agK,Wp,e];rfl
def EY (ws:Κ):Prop:=∀us:List Rat,us.length=ws.length->sP us (ws.map (·.1))=0->sP us (ws.map (·.2))=0->∀u∈us,u=0
def anM (wi:∀p∈pX,EY p.ws)(hl:∀q∈pX,(U q.nm).length=q.ws.length)(no:gI pX ip T U)(h1:(mm pX ip T U)[c]?=some 1)(h0:∀j r,c<j->(mm pX ip T U)[j]?=some r->r=0):ar pX<=c:=by
 rcases Nat.lt_or_ge c (ar pX) with z|z
 ·exfalso
  let tz:∀b∈ip,T b.nm=0:=fun b hb=>by
   obtain ⟨k,ek⟩:=D_ hb;exact h0 _ _ ga (ua (T:=T) hl ek)
  let f0:∀(p:aA)(cc:Rat×Rat->Rat),dq ip T U p cc=sP (U p.nm) (p.ws.map cc):=fun p cc=>by
   unfold dq;have:(ip.map fun b=>T b.nm*cc (mv (cF b) p.nm))=ip.map fun _=>(0:Rat):=Ml fun b hb=>by rw [tz b hb];grind
   rw [this]
   let s0:∀l:List aD,(l.map fun _=>(0:Rat)).sum=0:=fun l=>by
    induction l with
    | nil=>rfl
    | cons a l ih=>rw [DG,KR,ih];grind
   rw [s0];grind
  let uz:∀p∈pX,∀u∈U p.nm,u=0:=fun p hp=>wi p hp (U p.nm) (hl p hp) (by rw [<-f0];exact (no p hp).1) (by rw [<-f0];exact (no p hp).2)
  let m1:(1:Rat)∈pX.flatMap fun q=>U q.nm:=by
   let e:=h1;unfold mm at e;rw [K_ (by rwa [ou hl])] at e;exact DE e
  obtain ⟨p,hp,hu⟩:=Pq.mp m1;have:=uz p hp 1 hu;grind
 ·exact z
def fX.ahs {os lv:ζ}(R:Red os L m b nd lv)(F:fX c m nd.length nd qs):∀q∈qs,Sm b b q:=by
 intro q hq;obtain ⟨j,hj⟩:=D_ hq;let hjm:j<m:=by have:=(be.mp hj).1;rw [<-F.1];exact this
 by_cases jc:j=c
 ·subst jc
  erw [F.2.1] at hj;show ⟨gt,gt,RV,RV⟩
 by_cases cc:∃(i:Nat)(x:Ψ),nd[i]?=some x/\x.1=j
 ·obtain ⟨i,x,e,rfl⟩:=cc
  let hi:i<nd.length:=(be.mp e).1;let h1:=F.2.2.1 i hi x e;erw [hj] at h1;let hm:=DE e;exact w8 (R.here x hm) (by rw [ZG];exact R.MQ x hm c) (R.MQ x hm x.1)
 ·let h1:=F.2.2.2 j hjm jc (fun i _ x e z=>cc ⟨i,x,e,z⟩)
  erw [hj] at h1;show ⟨gt,gt,KZ _,RV⟩
theorem CG.ex (c:Nat):∀{nd:ι},(nd.map (·.1)).Pairwise (· < ·)->(∀y∈nd,y.1≠c)->∃z,CG nd c z
 | [],_,_=>⟨fun j=>if j=c then 1 else 0,mK rfl,(fun y hy=>nomatch hy),fun j h _=>mJ h⟩
 | x::r,a,f=>by
  rw [DG,zX] at a;obtain ⟨z,hz⟩:=CG.ex c a.2 (fun y hy=>f y (FF _ hy));show ⟨fun j=>if j=x.1 then (-(x.2.getD c 0):Int) / ((x.2.getD x.1 0:Int):Rat) else z j,?_,fun y hy=>?_,fun j h1 h2=>?_⟩
  ·show (if c=x.1 then _ else z c)=1
   rw [mJ (FG (f x EJ))];exact hz.one
  ·rcases KD.mp hy with q|q
   ·subst q
    exact mK rfl
   ·have:=a.1 y.1 (CZ.mpr ⟨y,q,rfl⟩)
    show (if y.1=x.1 then _ else z y.1)=_;rw [mJ ga];exact hz.at' y q
  ·show (if j=x.1 then _ else z j)=0
   rw [mJ (FG (h2 x EJ))];exact hz.no j h1 (fun y hy=>h2 y (FF _ hy))
def qT {os lv:ζ}(R:Red os L m b nd lv)(z1:z c≠0)(zb:∀j,c<j->z j=0)(hz:∀o∈os,ev o z=0):∀y∈nd,y.1≠c:=by
 intro y hy e;let e0:=((R.sol z).mpr hz).1 y hy;rw [lZ y.2 z c (fun j hj=>?_)] at e0
 ·let hh:=cO (R.here y hy)
  rw [e] at hh;grind
 ·by_cases q:j<c
  ·rw [R.low y hy j (by rwa [e])]
   simp
  ·rw [zb j ga]
   grind
theorem xr:∀{l1 l2:Ν},l1.Pairwise (· < ·)->l2.Pairwise (· < ·)->(∀c,c∈l1 ↔ c∈l2)->l1=l2
 | [],[],_,_,_=>rfl
 | [],b::l2,_,_,h=>DL ((h b).mpr EJ) gV
 | a::l1,[],_,_,h=>DL ((h a).mp EJ) gV
 | a::l1,b::l2,p,q,h=>by
  rw [zX] at p q
  let e:a=b:=by
   let h1:=(h a).mp EJ;let h2:=(h b).mpr EJ
   rcases KD.mp h1 with z|z
   ·exact z
   ·rcases KD.mp h2 with y|y
    ·exact y.symm
    ·have:=p.1 b y
     have:=q.1 a z;omega
  subst e;rw [xr p.2 q.2 (fun c=>⟨fun hc=>?_,fun hc=>?_⟩)]
  ·have:=p.1 c hc
   rcases KD.mp ((h c).mp (FF _ hc)) with z|z
   ·omega
   ·exact z
  ·have:=q.1 c hc
   rcases KD.mp ((h c).mpr (FF _ hc)) with z|z
   ·omega
   ·exact z
def aeO (h:l1.Perm l2)(f:Nat->Rat):fsum l1 f=fsum l2 f:=by
 induction h with
 | nil=>rfl
 | cons a _ ih=>rw [bC,bC,ih]
 | swap a b l=>
  rw [bC,bC,bC,bC];grind
 | trans _ _ ih1 ih2=>exact ih1.trans ih2
theorem oy (f g:Nat->Rat):∀l:List Nat,fsum l (fun i=>f i+g i)=fsum l f+fsum l g
 | []=>by simp [fsum];grind
 | a::l=>by
  rw [bC,bC,bC,oy f g l];grind
theorem vM (F:Nat->Nat->Rat)(l2:Ν):∀l1:List Nat,fsum l1 (fun a=>fsum l2 (fun b=>F a b))=fsum l2 (fun b=>fsum l1 (fun a=>F a b))
 | []=>by
  rw [zJ,gW _ l2 (fun i _=>zJ _)]
 | a::l1=>by
  rw [bC,vM F l2 l1,<-oy];refine dG _ fun b _=>?_;rw [bC]
theorem gJ:∀(n:Nat)(es:List (Nat->Rat))(ps:Ν),es.length=n->ps.Nodup->es.length<ps.length->∃x:Nat->Rat,(∀j,j∉ps->x j=0)/\(∃p∈ps,x p≠0)/\∀e∈es,fsum ps (fun p=>e p*x p)=0
 | _,[],ps,_,_,h=>by
  cases ps with
  | nil=>simp at h
  | cons p0 ps=>
   show ⟨fun j=>if j=p0 then 1 else 0,fun j hj=>mJ (fun z=>hj (by rw [z];exact EJ)),⟨p0,EJ,?_⟩,(fun e he=>nomatch he)⟩;show (if p0=p0 then (1:Rat) else 0)≠0;rw [mK rfl];decide
 | 0,e::es,ps,l,nd,h=>by simp at l
 | n+1,e::es,ps,l,nd,h=>by
  by_cases z:∀p∈ps,e p=0
  ·obtain ⟨x,h1,h2,h3⟩:=gJ n es ps (by simpa using l) nd (by simp at h;omega)
   show ⟨x,h1,h2,fun f hf=>?_⟩
   rcases KD.mp hf with y|y
   ·rw [y]
    refine gW _ _ fun p hp=>?_;rw [z p hp];grind
   ·exact h3 f y
  ·obtain ⟨p0,hp0,ne⟩:∃p0,p0∈ps/\e p0≠0:=by
    apply O5;intro y;exact z fun p hp=>O5 fun q=>y ⟨p,hp,q⟩
   let pe:=List.perm_cons_erase hp0;have jM :(p0::ps.erase p0).Nodup:=pe.nodup_iff.mp nd;rw [Kr] at jM;let le:=pe.length_eq;rw [Me] at le;obtain ⟨x,h1,⟨p1,hp1,nz⟩,h3⟩:=gJ n (es.map fun f=>fun p=>f p-f p0 / e p0*e p) (ps.erase p0) (by rw [ir];simpa using l) jM.2 (by rw [ir];simp at h;omega)
   let off:∀p∈ps.erase p0,p≠p0:=fun p hp y=>by
    subst y;exact jM.1 hp
   let sm:∀f:Nat->Rat,fsum ps (fun p=>f p*(if p=p0 then -(fsum (ps.erase p0) fun p=>e p*x p) / e p0 else x p))=f p0*(-(fsum (ps.erase p0) fun p=>e p*x p) / e p0)+fsum (ps.erase p0) (fun p=>f p*x p):=fun f=>by
    rw [aeO pe,bC,mK rfl];congr 1;refine dG _ fun p hp=>?_;rw [mJ (off p hp)]
   show ⟨fun p=>if p=p0 then -(fsum (ps.erase p0) fun p=>e p*x p) / e p0 else x p,fun j hj=>?_,⟨p1,ahU hp1,?_⟩,fun f hf=>?_⟩
   ·show (if j=p0 then _ else x j)=0
    rw [mJ (fun y=>hj (by rwa [y]))];exact h1 j (fun y=>hj (ahU y))
   ·show (if p1=p0 then _ else x p1)≠0
    rw [mJ (off p1 hp1)];exact nz
   ·rw [sm f]
    rcases KD.mp hf with y|y
    ·rw [y]
     grind
    ·let k:=h3 _ (CZ.mpr ⟨f,y,rfl⟩)
     let k2:fsum (ps.erase p0) (fun p=>(f p-f p0 / e p0*e p)*x p)=fsum (ps.erase p0) (fun p=>f p*x p)+(-(f p0 / e p0))*fsum (ps.erase p0) (fun p=>e p*x p):=by
      rw [<-jd,<-oy];refine dG _ fun p _=>?_;grind
     let k':fsum (ps.erase p0) (fun p=>(f p-f p0 / e p0*e p)*x p)=0:=k;rw [k2] at k';grind
def acZ (es:List (Nat->Rat))(ps:Ν)(nd:ps.Nodup)(h:es.length<ps.length):∃x:Nat->Rat,(∀j,j∉ps->x j=0)/\(∃p∈ps,x p≠0)/\∀e∈es,fsum ps (fun p=>e p*x p)=0:=gJ _ es ps rfl nd h
theorem JP {x:Nat->Rat}:∀(m:Nat),(∀j,m<=j->x j=0)->(∃p,x p≠0)->∃c,c<m/\x c≠0/\∀j,c<j->x j=0
 | 0,h,⟨p,hp⟩=>DL (h p (KZ _)) hp
 | m+1,h,hp=>by
  by_cases z:x m=0
  ·obtain ⟨c,h1,h2,h3⟩:=JP m (fun j hj=>by
    by_cases y:j=m
    ·rwa [y]
    ·exact h j ga) hp
   show ⟨c,ga,h2,h3⟩
  ·show ⟨m,ga,z,fun j hj=>h j ga⟩
def aQ (bP:υ)(i j:Nat):Rat:=vl ((bP.getD i []).getD j (0,1))
inductive Rk (m:Nat)(bP:υ)(N:Nat):Prop
|mk (T B b:Nat)(os lv:ζ)(nd:ι)(_:oj T B m bP os)(_:(∀qs∈bP,qs.length=m))(_:Red os m m b nd lv)(_:nd.length=N)
inductive Fac (n m:Nat)(a:Nat->Nat->Rat)(k:Nat):Prop
|mk (cs:Ν)(B C:Nat->Nat->Rat)(_:cs.length=k)(_:∀i j,i<n->j<m->a i j=fsum cs (fun c=>B i c*C c j))
def xt {bP:υ}{i:Nat}{qs:ο}(e:bP[i]?=some qs)(j:Nat):aQ bP i j=vl (qs.getD j (0,1)):=by
 unfold aQ;rw [KU (l:=bP),e];rfl
def vN {z:Nat->Rat}:(∀qs∈bP,sumTo m (fun j=>vl (qs.getD j (0,1))*z j)=0) ↔ ∀i,i<bP.length->sumTo m (fun j=>aQ bP i j*z j)=0:=by
 constructor
 ·intro h i hi
  let e:bP[i]?=some bP[i]:=gE hi;let k:=h _ (DE e);rw [<-k];congr 1;funext j;rw [xt e]
 ·intro h qs hq
  obtain ⟨i,e⟩:=D_ hq;let k:=h i (be.mp e).1;rw [<-k];congr 1;funext j;rw [xt e]
def ka (hc:∀y∈nd,y.1<m)(asc:(nd.map (·.1)).Pairwise (· < ·)):nd.map (·.1)=(KC m).filter (fun i=> !free nd i):=by
 refine xr asc (ahL.filter _) fun c=>⟨fun h=>?_,fun h=>?_⟩
 ·obtain ⟨y,hy,rfl⟩:=CZ.mp h
  refine KN.mpr ⟨Md.mpr (hc y hy),?_⟩;cases q:free nd y.1
  ·rfl
  ·exact DL rfl (dZ.mp q y hy)
 ·obtain ⟨_,h2⟩:=KN.mp h
  apply O5;intro nc;have:free nd c=true:=dZ.mpr fun y hy e=>nc (CZ.mpr ⟨y,hy,e⟩);erw [this] at h2
def Rk.Ug (h:Rk m bP N):Fac bP.length m (aQ bP) N:=by
 obtain ⟨T,B,b,os,lv,nd,jD,len,R,rfl⟩:=h;let nod:(nd.map (·.1)).Nodup:=ahi.mpr (R.asc.imp fun {a b} h=>KJ h)
 let zz:∀j,∃z:Nat->Rat,(∀y∈nd,y.1≠j)->CG nd j z:=fun j=>by
  by_cases q:∀y∈nd,y.1≠j
  ·obtain ⟨z,hz⟩:=CG.ex j R.asc q
   show ⟨z,fun _=>hz⟩
  ·show ⟨fun _=>0,fun y=>DL y q⟩
 obtain ⟨z,hz⟩:=Classical.axiomOfChoice zz;show ⟨nd.map (·.1),aQ bP,fun c j=>if free nd j=true then -(z j c) else if c=j then 1 else 0,ir _,fun i j hi hj=>?_⟩;by_cases fr:free nd j=true
 ·let fr':=dZ.mp fr
  let hzj:=hz j fr';let k:=vN.mp ((je jD len _).mp (hzj.sol R hj fr')) i hi;rw [fB,j_ (free nd),<-ka R.cols R.asc] at k
  let e1:fsum ((KC m).filter (free nd)) (fun c=>aQ bP i c*z j c)=aQ bP i j*z j j:=by
   refine ot _ j _ (Ry.filter _) (KN.mpr ⟨Md.mpr hj,fr⟩) fun c hc ne=>?_;rw [hzj.no c ne (dZ.mp (KN.mp hc).2)];grind
  rw [e1,hzj.one] at k
  let e2:fsum (nd.map (·.1)) (fun c=>aQ bP i c*(if free nd j=true then -(z j c) else if c=j then 1 else 0))=(-1)*fsum (nd.map (·.1)) (fun c=>aQ bP i c*z j c):=by
   rw [<-jd];refine dG _ fun c _=>?_;rw [mK fr];grind
  rw [e2];grind
 ·let nf:∃y∈nd,y.1=j:=by
   apply O5;intro z;exact fr (dZ.mpr fun y hy e=>z ⟨y,hy,e⟩)
  obtain ⟨y,hy,ey⟩:=nf
  rw [ot _ j _ nod (by rw [<-ey];exact CZ.mpr ⟨y,hy,rfl⟩) (fun c _ ne=>by
   show aQ bP i c*(if free nd j=true then -(z j c) else if c=j then 1 else 0)=0;rw [mJ fr,mJ ne]
   grind)]
  show aQ bP i j=aQ bP i j*(if free nd j=true then -(z j j) else if j=j then 1 else 0);rw [mJ fr,mK rfl];grind
def Rk.le (h:Rk m bP N)(f:Fac bP.length m (aQ bP) k):N<=k:=by
 obtain ⟨T,B,b,os,lv,nd,jD,len,R,rfl⟩:=h;obtain ⟨cs,BB,C,rfl,Ug⟩:=f;apply O5;intro lt;let nod:(nd.map (·.1)).Nodup:=ahi.mpr (R.asc.imp fun {a b} h=>KJ h);obtain ⟨x,h1,⟨p,hp,hpz⟩,h3⟩:=acZ (cs.map fun c=>C c) (nd.map (·.1)) nod (by rw [ir,ir];omega)
 let aaX:∀c,c∈nd.map (·.1)->c<m:=fun c hc=>by
  obtain ⟨y,hy,rfl⟩:=CZ.mp hc;exact R.cols y hy
 obtain ⟨c,cm,cz,cb⟩:=JP (x:=x) m (fun j hj=>h1 j (fun z=>by have:=aaX j z;omega)) ⟨p,hpz⟩;let cin:c∈nd.map (·.1):=O5 fun z=>cz (h1 c z);obtain ⟨y,hy,rfl⟩:=CZ.mp cin;refine qT R cz cb ((je jD len x).mpr (vN.mpr fun i hi=>?_)) y hy rfl
 rw [fB,j_ (free nd),<-ka R.cols R.asc,gW _ ((KC m).filter (free nd)) (fun j hj=>by
  rw [h1 j (fun z=>by
   obtain ⟨u,hu,e⟩:=CZ.mp z
   exact dZ.mp (KN.mp hj).2 u hu e)]
  grind)]
 let e1:fsum (nd.map (·.1)) (fun j=>aQ bP i j*x j)=fsum (nd.map (·.1)) (fun j=>fsum cs (fun c=>BB i c*C c j*x j)):=by
  refine dG _ fun j hj=>?_;rw [Ug i j hi (aaX j hj)];have:=jd (x j) (fun c=>BB i c*C c j) cs;rw [show fsum cs (fun c=>BB i c*C c j)*x j=x j*fsum cs (fun c=>BB i c*C c j) by grind,<-this];refine dG _ fun c _=>?_;grind
 rw [e1,vM,gW _ cs (fun c hc=>?_)]
 ·grind
 ·let k:=h3 (C c) (CZ.mpr ⟨c,hc,rfl⟩)
  have:fsum (nd.map (·.1)) (fun a=>BB i c*C c a*x a)=BB i c*fsum (nd.map (·.1)) (fun p=>C c p*x p):=by
   rw [<-jd];refine dG _ fun a _=>?_;grind
  rw [this,k];grind
def Rk.turn (h:Rk m bP N)(h':Rk m' WN N')(e:∀i j,i<WN.length->j<m' ->j<bP.length/\i<m/\aQ WN i j=aQ bP j i):N' <=N:=by
 obtain ⟨cs,B,C,l,k⟩:=h.Ug;refine h'.le ⟨cs,fun i c=>C c i,fun c j=>B j c,l,fun i j hi hj=>?_⟩;obtain ⟨e1,e2,e3⟩:=e i j hi hj;rw [e3,k _ _ e1 e2];exact dG _ fun c _=>by grind
def Rk.turned (h:Rk m bP N)(h':Rk bP.length ((KC m).map fun j=>fN bP j) N'):N'=N:=by
 let at':∀i j,i<m->j<bP.length->aQ ((KC m).map fun j=>fN bP j) i j=aQ bP j i:=fun i j hi hj=>by
  let e:bP[j]?=some bP[j]:=gE hj;rw [xt (qs:=fN bP i) (by rw [Wp,Oh hi];rfl),xt e];unfold fN;rw [KU,Wp,e];rfl
 refine Nat.le_antisymm (h.turn h' fun i j hi hj=>?_) (h'.turn h fun i j hi hj=>?_)
 ·rw [ir,Mf] at hi
  show ⟨hj,hi,at' i j hi hj⟩
 ·show ⟨by rwa [ir,Mf],hi,(at' j i hj hi).symm⟩
def aeN (h:gG K H cy bP)(sh:Shape T B m bP)(hj:j<m):c6 K H (w_ cy j) (fN bP j):=by
 show ⟨by simp [w_,fN,h.1],fun i u q e1 e2=>?_⟩;unfold w_ at e1;unfold fN at e2;rw [Wp] at e1 e2;obtain ⟨vs,ev,rfl⟩:=K9.mp e1;obtain ⟨qs,eq,rfl⟩:=K9.mp e2;let N:=h.2 i vs qs ev eq;let hl:=(sh qs (DE eq)).1;let lN:=N.1;refine N.2 j _ _ ?_ ?_
 ·rw [KU,gE ga];rfl
 ·rw [KU,gE ga];rfl
def gB (pX:ν)(ip:ρ):List (List (Int×Int)):=(KC (2*pX.length)).map fun j=>fN (bw pX ip) j
theorem dj :∀{oW:List Z} {oV:List β} {a:Z} {b:β},Paired F oW oV->F a b->Paired F (oW++[a]) (oV++[b])
 | _,_,_,_,.nil,h=>.cons h .nil
 | _,_,_,_,.cons h t,h'=>.cons h (dj t h')
def kb :∀qs∈gB pX ip,qs.length=ar pX+ip.length:=fun qs hq=>by
 let dl:(bw pX ip).length=ar pX+ip.length:=eG pX ip;obtain ⟨i,_,rfl⟩:=CZ.mp hq;unfold fN;rw [ir,dl]
def vO (pX:ν)(ip:ρ):(gB pX ip).length=2*pX.length:=by unfold gB;simp
def aeI (g:bM pX ip)(h:gG K H cy (bw pX ip)):gG K H (jE cy (2*pX.length)) (gB pX ip):=⟨by unfold jE gB;simp,fun i vs qs e1 e2=>by
 unfold jE at e1;unfold gB at e2;rw [Wp] at e1 e2;obtain ⟨j,ej,rfl⟩:=K9.mp e1;erw [ej] at e2
 exact aeN h (dY g) (Md.mp (DE ej))⟩
def aaS (g:bM pX ip):Shape 58 58 (ar pX+ip.length) (gB pX ip):=fun qs hq=>by
 show ⟨kb qs hq,?_⟩;obtain ⟨j,hj,rfl⟩:=CZ.mp hq;exact ag' (dY g) (Md.mp hj)
def afz (g:bM pX ip):bb (58+58*(ar pX+ip.length)) (min (ar pX+ip.length) (gB pX ip).length)<=140000:=by
 let gl:=g.lp;let gb:=g.lb;let wl:ar pX<=2*pX.length:=fe pX g.lw;unfold bb;rw [vO];let h1:min (ar pX+ip.length) (2*pX.length)+1<=19:=ga
 let h2:58+58*(ar pX+ip.length)+11<=7121:=ga
 exact DC (Mc h1 h2) gt
def afx (g:bM pX ip)(h:gG K H cy (bw pX ip)):∀vs∈cy,((2*pX.length:Nat):Int)<=(vs.length:Int):=fun vs hv=>by
 obtain ⟨i,ei⟩:=D_ hv;let hi:=(be.mp ei).1;let l1:=h.1;obtain ⟨qs,eq⟩:∃qs,(bw pX ip)[i]?=some qs:=⟨_,gE ga⟩;let l2:=(h.2 i vs qs ei eq).1;let l3:=(dY g qs (DE eq)).1;omega
def JQ (m:Nat)(bP:υ)(j:Nat):Prop:=∃z:Nat->Rat,z j≠0/\(∀i,j<i->z i=0)/\∀qs∈bP,Ty.sumTo m (fun i=>vl (qs.getD i (0,1))*z i)=0
def xu {os lv:ζ}(jD:oj T B m bP os)(len:∀qs∈bP,qs.length=m)(R:Red os m m α nd lv)(hj:j<m):(∀y∈nd,y.1≠j) ↔ JQ m bP j:=by
 constructor
 ·intro fr
  obtain ⟨z,hz⟩:=CG.ex j R.asc fr;show ⟨z,by rw [hz.one];decide,fun i hi=>CG.behind R hz hi,(je jD len z).mp (CG.sol R hj hz fr)⟩
 ·rintro ⟨z,z1,zb,hz⟩
  exact qT R z1 zb ((je jD len z).mpr hz)
theorem ub {Z:Type}(p:Z->Bool):∀l:List Z,(l.filter p).length+(l.filter fun x=> !p x).length=l.length
 | []=>rfl
 | a::l=>by
  let ih:=ub p l;cases h:p a
  ·rw [Zj (by simp [h]),Zg (by simp [h])]
   simp only [Me];omega
  ·rw [Zg h,Zj (by simp [h])]
   simp only [Me];omega
def vP {os lv:ζ}(jD:oj T B m bP os)(len:∀qs∈bP,qs.length=m)(R:Red os m m α nd lv):((KC m).filter (free nd)).length+(nd.map (·.1)).length=m/\Rk m bP (nd.map (·.1)).length:=by
 let h:=ub (free nd) (KC m);rw [<-ka R.cols R.asc,Mf] at h;show ⟨h,T,B,α,os,lv,nd,jD,len,R,by rw [ir]⟩
def ae9 (g:bM pX ip):∀qs∈bw pX ip,qs.length=2*pX.length:=fun qs hq=>(dY g qs hq).1
def zM (g:bM pX ip){os lv:ζ}(jD:oj 58 58 (ar pX+ip.length) (gB pX ip) os)(R:Red os (ar pX+ip.length) (ar pX+ip.length) α nd lv){x:Nat×List (Int×Int)}(F:fX x.1 (ar pX+ip.length) nd.length nd x.2)(fr:∀y∈nd,y.1≠x.1)(hc:x.1<ar pX+ip.length)(hl:∀q∈pX,(U q.nm).length=q.ws.length)(e:mm pX ip T U=x.2.map vl):gI pX ip T U:=by
 let dl:(bw pX ip).length=ar pX+ip.length:=eG pX ip
 let len:∀qs∈gB pX ip,qs.length=ar pX+ip.length:=fun qs hq=>by
  obtain ⟨i,_,rfl⟩:=CZ.mp hq;unfold fN;rw [ir,dl]
 let hz:=fX.z R F
 let ez:∀i,(x.2.map vl).getD i 0=vl (x.2.getD i (0,1)):=fun i=>by
  rw [KU,KU,Wp];cases x.2[i]? with
  | none=>exact xq.symm
  | some q=>rfl
 let sol:=(je jD len _).mp (CG.sol R hc hz fr)
 exact vL g hl fun j hj=>by
  let lq:(fN (bw pX ip) j).length=ar pX+ip.length:=by
   unfold fN;rw [ir,dl]
  have:=sol (fN (bw pX ip) j) (CZ.mpr ⟨j,Md.mpr hj,rfl⟩);show sP (mm pX ip T U) _=0;rw [<-O3 _ _ (by rw [lq];exact afn hl),lq,e];refine Eq.trans ?_ this;congr 1;funext i;rw [ez]
def acp (g:bM pX ip)(wi:∀p∈pX,EY p.ws){os lv:ζ}(jD:oj 58 58 (ar pX+ip.length) (gB pX ip) os)(R:Red os (ar pX+ip.length) (ar pX+ip.length) α nd lv){x:Nat×List (Int×Int)}(F:fX x.1 (ar pX+ip.length) nd.length nd x.2)(fr:∀y∈nd,y.1≠x.1)(hc:x.1<ar pX+ip.length)(hl:∀q∈pX,(U q.nm).length=q.ws.length)(e:mm pX ip T U=x.2.map vl):ar pX<=x.1:=by
 let hz:=fX.z R F;let no:gI pX ip T U:=zM g jD R F fr hc hl e;refine anM (T:=T) wi hl no ?_ fun j r hj er=>?_
 ·rw [e,Wp,F.2.1]
  show some (vl (1,1))=some 1;rw [EW]
 ·rw [e,Wp] at er
  obtain ⟨q,eq,rfl⟩:=K9.mp er;have:=CG.behind R hz hj;rw [show x.2.getD j (0,1)=q by rw [KU,eq];rfl] at this;exact this
def vQ (u:HO):Prop:=(∀xs,u≠.tup xs)/\∀o xs,u≠.fV o (.tup xs)
def Us :vQ (.dK AD):=⟨fun _ z=>(nomatch z),fun _ _ z=>(nomatch z)⟩
def Ut :vQ (.dT AD):=⟨fun _ z=>(nomatch z),fun _ _ z=>(nomatch z)⟩
def ag9 :vQ (.fV o (.dK AD)):=⟨fun _ z=>(nomatch z),fun _ _ z=>(nomatch z)⟩
def j3 (e:H d=some u)(n:vQ u)(k:bh d H H'):bF H H':=fun b xs z=>by
 rcases z with z|⟨o',z⟩
 ·exact .inl (k _ _ (fun c=>by erw [c,e] at z;exact n.1 _ rfl) z)
 ·exact .inr ⟨o',k _ _ (fun c=>by erw [c,e] at z;exact n.2 _ _ rfl) z⟩
def gM (pX:ν):List (Str×Nat):=pX.flatMap fun p=>[(p.nm,0),(p.nm,1)]
theorem kQ:∀pX:List aA,(gM pX).length=2*pX.length
 | []=>rfl
 | p::ps=>by
  have:=kQ ps;unfold gM at this ⊢;rw [KO,ER,this];simp;omega
def jG (H:Hp)(v:V)(x:Str×Nat):Prop:=∃t,v=.ref t/\H t=some (.tup [.str x.1,.int (x.2:Int)])
def jG.ji (h:jG H v x)(s:aq H H'):jG H' v x:=by
 obtain ⟨t,a,b⟩:=h;show ⟨t,a,s _ _ b⟩
def jG.ks (h:jG H v x)(e:H d=some u)(n:vQ u)(k:bh d H H'):jG H' v x:=by
 obtain ⟨t,a,b⟩:=h;show ⟨t,a,k _ _ (fun z=>by erw [z,e] at b;exact n.1 _ rfl) b⟩
inductive xv (K:Frag)(C:AG)(vs:θ)(H:Hp)(Q:VK)(E_:XK):Prop
|mk (a:AG)(pX:ν)(ip:ρ)(_:vs=[.ref a])(_:qN K H C a pX ip)(_:bM pX ip)(_:∀(r:AG)(us:θ)(H':Hp),aq H H' ->H r=none->H' r=some (.lst us)->Paired (jG H') us (gM pX)->Q (.ref r) H')
def aa4 (ps:ν)(p:aA):gM (ps++[p])=gM ps++[(p.nm,0),(p.nm,1)]:=by
 unfold gM;rw [RX];simp
def kc:aE ["F","pairs","pin"] KY (ae f7):=sq
def ahm (D:Def K mg "pairs_of" f7 KY)(MP:bn P w K mg iN 1 C "pins" K8 (fU K C)):am P w K mg iN 2 "pairs_of" KY (xv K C):=by
 refine D.op kc fun f cL A lj s H vs Q E hr h=>?_;obtain ⟨a,pX,ip,rfl,R,g,q⟩:=h
 show ⟨_,(aa (aG 1 kc.nd (bQ gF)) (aa (bG K6 rfl (bu (cM (k:=1) (pv 0) hr.mo (pY P w))) (b9 2 kc.nd) (ah (cu (lH Ov PySem.F.slot_list_extend PySem.F.type_list_extend aby (pv 1) (aV (bQ (aT (aR (aT (pv 2) ag)) (aR (aT (pv 2) ag))))))))) (ah (aJ (pv 1))))),?_⟩
 show ⟨z0L,?_⟩;intros r nr H1 s1 er;let big:(40:Nat)<=C_:=gt
 let L2:2<=C_:=gt
 let gl:=g.lp;let R1:=R.ji s1;obtain ⟨dx,pP,pW,pB,kP,kW,kB,F1,W1⟩:=R1.ex;show ⟨_,rfl,a,C,dx,_,_,_,rfl,F1.obj,rfl,MP,a,dx,pP,pW,pB,_,_,kP,kW,kB,rfl,F1,fun lp H2 s2 yu lK=>?_⟩;rw [dh] at lK;let RI:lp≠r:=fun z=>by erw [z,er] at yu
 show ⟨lp,rfl,⟨_,aU.of lK⟩,let I:dL:=fun i Y H'=>P7 fun (o2:Α) (us:θ)=>Y=[ce a,ce r,o2]/\aq H H'/\H' lp=some (.lst ((pX.map (·.nm)).map V.str))/\H' r=some (.lst us)/\Paired (jG H') us (gM (pX.take i));cC (K:=K) (a:=lp) (xs:=(pX.map (·.nm)).map V.str) I ⟨none,[],rfl,s1.trans s2,lK,s2 _ _ er,.nil⟩ (fun i Y H' _ h=>by
   obtain ⟨_,_,_,_,h,_⟩:=h
   exact aU.of h) ?_ ?_⟩
 ·rintro i z Y H4 hi ⟨o2,us,rfl,s4,l4,r4,p4⟩
  rw [Wp,Wp] at hi;obtain ⟨x,hx,rfl⟩:=K9.mp hi;obtain ⟨p,hp,rfl⟩:=K9.mp hx;let il:=(be.mp hp).1
  let lu:us.length<=18:=by
   let h1:=EO p4;rw [kQ,KI] at h1;omega
  show ⟨_,rfl,.inl ⟨rfl,_,aU.of r4⟩,_,rfl,L2,?_⟩;intros t5 n5 H5 s5 e5;show ⟨_,rfl,L2,?_⟩;intros t6 n6 H6 s6 e6;show ⟨L2,?_⟩;intros l7 n7 H7 s7 e7;let WQ:=s5.trans (s6.trans s7);let r7:=WQ _ _ r4;show ⟨r,l7,us,_,rfl,rfl,r7,e7,(by simp;omega),?_⟩;let ks:bh r H7 (upd H7 r (.lst (us++[.ref t5,.ref t6]))):=bh.upd;let nt:vQ (.lst us):=⟨fun _ z=>(nomatch z),fun _ _ z=>(nomatch z)⟩;show ⟨_,us++[.ref t5,.ref t6],rfl,fun b o e=>?_,?_,aj,?_⟩
  ·rw [ao (ak e nr)]
   exact WQ _ _ (s4 _ _ e)
  ·rw [ao RI]
   exact WQ _ _ l4
  ·rw [take_snoc hp,aa4]
   let p5:=dj (dj (Paired.cg p4 fun _ _ z=>z.ji WQ) (show jG H7 (.ref t5) (p.nm,0) from ⟨t5,rfl,(s6.trans s7) _ _ e5⟩)) (show jG H7 (.ref t6) (p.nm,1) from ⟨t6,rfl,s7 _ _ e6⟩);rw [QU,QU] at p5;exact Paired.cg p5 fun _ _ z=>z.ks r7 nt ks
 ·rintro Y H4 ⟨o2,us,rfl,s4,l4,r4,p4⟩
  rw [ir,ir,Mo] at p4;show ⟨_,rfl,q r us H4 s4 nr r4 p4⟩
abbrev u6:=Str×(Str->Rat)×(Str->List Rat)
structure PPS (K:Frag)(H:Hp)(pX:ν)(ip:ρ)(dT dU:AG)(T:Δ)(U:χ):Prop where
 hT:∃kT,H dT=some (.dK kT)/\∀b∈ip,∃v,cI kT (.inr b.nm)=some v/\g_ K H v (T b.nm)
 hU:∃kU,H dU=some (.dK kU)/\∀p∈pX,∃la vs,cI kU (.inr p.nm)=some (.ref la)/\H la=some (.lst vs)/\Paired (g_ K H) vs (U p.nm)
inductive ud (K:Frag)(H:Hp)(pX:ν)(ip:ρ)(d:AG)(kv:Key×V)(o:u6):Prop
|mk (p dT dU:AG)(_:kv=(.inr o.1,.ref p))(_:bK K H p [.ref dT,.ref dU])(_:dT≠d)(_:dU≠d)(_:PPS K H pX ip dT dU o.2.1 o.2.2)
def ud.keep (h:ud K H pX ip d kv o)(t:bF H H')(k:∀b u,(b≠d\/∃vs,u=.lst vs)->(∀o x,u≠.fV o x)->H b=some u->H' b=some u):ud K H' pX ip d kv o:=by
 obtain ⟨p,dT,dU,e,hp,n1,n2,⟨kT,hT,tT⟩,kU,hU,tU⟩:=h;show ⟨p,dT,dU,e,t.cp hp,n1,n2,⟨kT,k _ _ (.inl n1) (fun _ _ z=>nomatch z) hT,fun b hb=>?_⟩,kU,k _ _ (.inl n2) (fun _ _ z=>nomatch z) hU,fun q hq=>?_⟩
 ·obtain ⟨v,a,c⟩:=tT b hb
  show ⟨v,a,c.bq t⟩
 ·obtain ⟨la,vs,a,b,c⟩:=tU q hq
  show ⟨la,vs,a,k _ _ (.inr ⟨_,rfl⟩) (fun _ _ z=>nomatch z) b,Paired.cg c fun _ _ z=>z.bq t⟩
def ud.ji (h:ud K H pX ip d kv o)(s:aq H H'):ud K H' pX ip d kv o:=h.keep (fun _ _ r=>r.imp (s _ _) fun ⟨o,z⟩=>⟨o,s _ _ z⟩) fun _ _ _ _ e=>s _ _ e
structure O8 (pX:ν)(ip:ρ)(o:u6)(c:Nat):Prop where
 wc:ar pX<=c
 nm:(ip.map (·.nm))[c-ar pX]?=some o.1
 no:gI pX ip o.2.1 o.2.2
 lU:∀q∈pX,(o.2.2 q.nm).length=q.ws.length
 one:o.2.1 o.1=1
 oth:∀k x,(ip.map (·.nm))[k]?=some x->ar pX+k≠c->JQ (ar pX+ip.length) (gB pX ip) (ar pX+k)->o.2.1 x=0
 beh:∀k x,(ip.map (·.nm))[k]?=some x->c<ar pX+k->o.2.1 x=0
def RT (pX:ν)(ip:ρ)(os:List u6)(fc:Ν):Prop:=Paired (O8 pX ip) os fc/\fc.Pairwise (· < ·)/\∀c,c∈fc ↔ c<ar pX+ip.length/\JQ (ar pX+ip.length) (gB pX ip) c
theorem qU {R:β->Z->Prop}{S:β->Nat->Prop}(h:∀b a,R b a->S b (f a)):∀{bs:List β} {as:List Z},Paired R bs as->Paired S bs (as.map f)
 | _,_,.nil=>.nil
 | _,_,.cons a t=>.cons (h _ _ a) (qU h t)
def FC {qs:ο}(lU:∀q∈pX,(U q.nm).length=q.ws.length)(h:mm pX ip T U=qs.map vl)(e:(ip.map (·.nm))[k]?=some n)(eq:qs[ar pX+k]?=some q):T n=vl q:=by
 rw [Wp] at e;obtain ⟨b,eb,rfl⟩:=K9.mp e;have:=ua (T:=T) lU eb;rw [h,Wp,eq] at this;exact (FA this).symm
def aaY (g:bM pX ip)(wi:∀p∈pX,EY p.ws){os lv:ζ}(jD:oj 58 58 (ar pX+ip.length) (gB pX ip) os)(R:Red os (ar pX+ip.length) (ar pX+ip.length) α nd lv){x:Nat×List (Int×Int)}(F:fX x.1 (ar pX+ip.length) nd.length nd x.2)(fr:∀y∈nd,y.1≠x.1)(hc:x.1<ar pX+ip.length)(hl:∀q∈pX,(U q.nm).length=q.ws.length)(e:mm pX ip T U=x.2.map vl):∃b,ip[x.1-ar pX]?=some b/\O8 pX ip (b.nm,T,U) x.1:=by
 let no:=zM g jD R F fr hc hl e;let wc:=acp g wi jD R F fr hc hl e;let eb:=gE (show x.1-ar pX<ip.length by omega);let en:(ip.map (·.nm))[x.1-ar pX]?=some (ip[x.1-ar pX]'ga).nm:=by rw [Wp,eb];rfl
 let ew:ar pX+(x.1-ar pX)=x.1:=ga
 let lk:∀k n,(ip.map (·.nm))[k]?=some n->k<ip.length:=fun k n h=>by
  have:=(be.mp h).1
  rwa [ir] at this
 show ⟨_,eb,wc,en,no,hl,?_,fun k n ek ne f=>?_,fun k n ek hk=>?_⟩
 ·show T _=1
  rw [FC hl e en (by rw [ew];exact F.2.1),EW]
 ·have:=lk k n ek
  let nf:=(xu jD kb R (j:=ar pX+k) ga).mpr f;show T n=0;rw [FC hl e ek (F.2.2.2 _ ga ne fun i _ y ey=>nf y (DE ey)),xq]
 ·have:=lk k n ek
  let eq:=gE (show ar pX+k<x.2.length by rw [F.1];omega);show T n=0;rw [FC hl e ek eq,<-getD_some eq];exact CG.behind R (fX.z R F) hk
inductive xw (K:Frag)(C:AG)(vs:θ)(H:Hp)(Q:VK)(E_:XK):Prop
|mk (a:AG)(pX:ν)(ip:ρ)(_:vs=[.ref a])(_:qN K H C a pX ip)(_:bM pX ip)(_:(∀p∈pX,EY p.ws))(_:∀(d:AG)(AD:δ)(os:List u6)(fc:Ν)(cs:Nat)(H':Hp),aq H H' ->H' d=some (.dK AD)->Paired (ud K H' pX ip d) AD os->RT pX ip os fc->Rk (ar pX+ip.length) (gB pX ip) cs->AD.length+cs=ar pX+ip.length->Q (.ref d) H')
def dH:aE ["F","rows","bars","ways","spares","column","numbers"] KY (ae fF):=sq
def an5 (D:Def K mg "spares_of" fF KY)(aX:mg "len"=none)(MP:bn P w K mg iN 1 C "pins" K8 (fU K C))(MB:bn P w K mg iN 1 C "bars" K8 (js K C))
  (xm:am P w K mg iN 38 "draw_rows" KY (fw K C)) (Wk:am P w K mg iN 1 "turned" O_ nI) (gK:am P w K mg iN 36 "spare_columns" O_ (om K)) (EU:am P w K mg iN 3 "pulls_and_pushes" NX (L9 K C)):
  am P w K mg iN 39 "spares_of" KY (xw K C):=by
 refine D.op dH fun f cL A lj s H vs Q E hr h=>?_;obtain ⟨a,pX,ip,rfl,R,g,wi,q⟩:=h;let gl:=g.lp;let gb:=g.lb;let wl:ar pX<=2*pX.length:=fe pX g.lw;let lcq:=vO pX ip;let dl:(bw pX ip).length=ar pX+ip.length:=eG pX ip
 show ⟨_,(aa (aG 1 dH.nd (aZ xm hr (aV (pv 0)))) (aa (aG 2 dH.nd (cM (k:=1) (pv 0) hr.mo (pY P w))) (aa (aG 3 dH.nd (aF dB (aK av rfl aX bJ (aV (pv 1))) (aK av rfl aX bJ (aV (pv 2))))) (aa (aG 4 dH.nd dX) (aa (rX (bG K6 rfl (ni (aZ gK hr (aT (aZ Wk hr (aT (pv 1) (aF bY ag (aK av rfl aX bJ (aV (cM (k:=1) (pv 0) hr.mo (pY P w))))))) (aK av rfl aX bJ (aV (pv 1)))))) (ft rfl (aY (b9 5 dH.nd) (aY (b9 6 dH.nd) cZ))) (ah (dQ (cW hr) (pv 4) (bD aS (pv 2) (aF dB (pv 5) (pv 3))) (aZ EU hr (aT (pv 0) (pv 6))) rfl)))) (ah (aJ (pv 4)))))))),?_⟩;sleep 4
 show ⟨_,rfl,a,pX,ip,rfl,R,g,fun r ls cy H1 s1 nr RR=>?_⟩;obtain ⟨dx,pP,pW,pB,kP,kW,kB,F0,W0⟩:=R.ex;let F1:=F0.ji s1;show ⟨_,rfl,a,C,dx,_,_,_,rfl,F1.obj,rfl,MB,a,dx,pP,pW,pB,_,_,kP,kW,kB,rfl,F1,fun lb H2 s2 nlb EN=>?_⟩;rw [ju] at EN;let RR2:=RR.ji s2;show ⟨_,rfl,r,_,rfl,.inl (aU.of RR2.iW.1),_,rfl,lb,_,rfl,.inl (aU.of EN),_,_,rfl,rfl,?_⟩;intros d JE H3 s3 e3;let RR3:=RR2.ji s3;let F3:=F1.ji (s2.trans s3);let oZ:=s1.trans (s2.trans s3);let Ma:ls.length=ar pX+ip.length:=by rw [RR.iW.2.1,RR.num.1,dl]
 show ⟨_,rfl,_,rfl,a,C,dx,_,_,_,rfl,F3.obj,rfl,MP,a,dx,pP,pW,pB,_,_,kP,kW,kB,rfl,F3,fun lp H4 s4 yu lK=>?_⟩;rw [dh] at lK;let RR4:=RR3.ji s4;let sz4:((pX.map (·.nm)).map V.str).length=pX.length:=by rw [ir,ir]
 let c2:qG 2 ((pX.length:Nat):Int):=⟨by decide+kernel,DC (Rm ga ga) gt⟩;show ⟨lp,_,rfl,.inl (aU.of lK),_,_,rfl,rfl,(by rwa [ir,ir]),?_⟩;let em:(2*((((pX.map (·.nm)).map V.str).length:Nat):Int))=((2*pX.length:Nat):Int):=by rw [sz4];omega
 show ⟨r,ls,cy,((2*pX.length:Nat):Int),oP (fun i:Int=>[V.ref r,V.int i]) em,RR4.iW,ga,ga,ga,afx g RR4.num,fun c cs H5 s5 M5=>?_⟩;rw [ais] at M5;let X7:=RR4.ji s5;show ⟨_,rfl,r,_,rfl,.inl (aU.of X7.iW.1),?_⟩;let emm:(((ls.map V.ref).length:Nat):Int)=((ar pX+ip.length:Nat):Int):=by rw [ir,Ma]
 show ⟨c,ar pX+ip.length,cs,_,gB pX ip,58,58,140000,oP (fun i:Int=>[V.ref c,V.int i]) emm,M5,aeI g X7.num,aaS g,ga,ga,gt,ga,gt,afz g,gt,fun sd oq ss os lv nd H6 s6 RM EV hSp jD RZ DW hF=>?_⟩
 let eW:((((ls.map V.ref).length:Nat):Int)-((((ip.map (·.nm)).map V.str).length:Nat):Int))=(ar pX:Int):=by
  rw [ir,ir,ir,Ma];omega
 let Qa:=s4.trans (s5.trans s6);let s06:=oZ.trans Qa;let Qf:H sd=none:=(oZ.trans (s4.trans s5)).free RM;let Hd:H d=none:=(s1.trans s2).free JE;let ed6:=Qa _ _ e3;let WR:=Qa _ _ (s3 _ _ EN)
 let OY:d≠sd:=fun z=>by
  have:=(s4.trans s5) _ _ e3;erw [z,RM] at this
 show ⟨sd,oq,rfl,EV,fun o=>?_⟩;let k0:bh sd H6 (upd H6 sd (.fV o (.dK oq))):=bh.upd;let lsk:oq.length=ss.length:=hSp.1
 let Wm:ss.length<=ar pX+ip.length:=by
  have:=oP NO DW;rw [ir] at this;let h2:=Wi (free nd) (KC (ar pX+ip.length));rw [Mf] at h2;omega
 let nodup:(ss.map (·.1)).Nodup:=by
  rw [DW];exact Ry.filter _
 refine let I:dL:=fun t Y H'=>P8 fun (o5 o6:Α) (AD:δ) (ow:List u6)=>Y=[ce a,ce r,ce lb,some (.int ((((ls.map V.ref).length:Nat):Int)-((((ip.map (·.nm)).map V.str).length:Nat):Int))),ce d,o5,o6]/\aq H H'/\H' lb=some (.lst ((ip.map (·.nm)).map V.str))/\zI K H' oq ss/\H' sd=some (.fV o (.dK oq))/\H' d=some (.dK AD)/\Paired (ud K H' pX ip d) AD ow/\Paired (fun o x=>O8 pX ip o x.1) ow (ss.take t);i6 (d:=sd) (o:=o) (AD:=oq) I ⟨none,none,[],[],rfl,fun b o' e=>k0 _ _ (ak e Qf) (s06 _ _ e),k0 _ _ (fun z=>by erw [z,EV] at WR) WR,hSp.ks (.inl EV) k0,aj,k0 _ _ OY ed6,.nil,by simpa using Paired.nil⟩ (fun t Y H' _ h=>by
   obtain ⟨_,_,_,_,_,_,_,_,h,_⟩:=h
   exact h) ?_ ?_
 ·rintro t k y Y H7 p7 vF ⟨o5,o6,AD,ow,rfl,s7,O9,WS,RU,d7,Qg,WT⟩ n7
  let ht:t<oq.length:=(be.mp vF).1;obtain ⟨x,ex⟩:∃x,ss[t]?=some x:=⟨_,gE ga⟩;let mx:=DE ex;obtain ⟨ek,lx,us,ey,hlx,hus⟩:=WS.2 t (k,y) x vF ex;let ek':k=.inl (x.1:Int):=ek;have IZ :y=.ref lx:=ey;subst ek';subst IZ;let t7:=aH n7 (.tup [kV (.inl (x.1:Int)),.ref lx]);let e7:(upd H7 p7 (.tup [kV (.inl (x.1:Int)),.ref lx])) p7=some (.tup [kV (.inl (x.1:Int)),.ref lx]):=aj;generalize upd H7 p7 (.tup [kV (.inl (x.1:Int)),.ref lx])=H8 at t7 e7 ⊢;let s8:=s7.trans t7;show ⟨p7,_,rfl,bK.of e7,rfl,_,_,rfl,_,_,rfl,rfl,?_⟩
  let cx:x.1<ar pX+ip.length/\∀y∈nd,y.1≠x.1:=by
   have:x.1∈ss.map (·.1):=CZ.mpr ⟨x,mx,rfl⟩;rw [DW] at this;obtain ⟨h1,h2⟩:=KN.mp this;show ⟨Md.mp h1,dZ.mp h2⟩
  let Fx:=hF x mx;show ⟨_,rfl,_,rfl,a,lx,pX,ip,us,x.2.map vl,rfl,R.ji s8,g,t7 _ _ hlx,og (hus.ji t7) (fX.ahs RZ Fx),by rw [ir];exact Fx.1,fun T U L p dT dU kT kU H9 s9 er hp9 WU=>?_⟩;obtain ⟨b,eb,of⟩:=aaY g wi jD RZ Fx cx.2 cx.1 WU.lU er.symm;let wc:=of.wc;let uP:=t7.trans s9;let d9:=uP _ _ d7;let d8:=t7 _ _ d7
  let ai:gS ((ip.map (·.nm)).map V.str) ((x.1:Int)-((((ls.map V.ref).length:Nat):Int)-((((ip.map (·.nm)).map V.str).length:Nat):Int)))=some (.str b.nm):=by
   rw [eW,show (x.1:Int)-(ar pX:Int)=((x.1-ar pX:Nat):Int) by omega];exact bE (by rw [Wp,Wp,eb];rfl)
  let lk:AD.length=ow.length:=EO Qg
  let lo:ow.length=t:=by
   have:=EO WT;rw [KI] at this;omega
  show ⟨_,rfl,_,rfl,_,rfl,_,rfl,_,_,rfl,rfl,lb,_,_,_,rfl,rfl,aU.of (uP _ _ O9),ai,d,_,rfl,iS.k (k:=.inr b.nm) d9 (FU (show AD.length<=1000 by omega) gt),?_⟩
  let Vw:cI AD (.inr b.nm)=none:=cR fun z=>by
   obtain ⟨kv,VZ,aa3⟩:=CZ.mp z;obtain ⟨i,ei⟩:=D_ VZ;obtain ⟨o1,eo,_,_,_,ahz,_⟩:=aI Qg ei;rw [ahz] at aa3;obtain ⟨x',MU,w1⟩:=aI WT eo
   let hi:i<t:=by
    have:=(be.mp MU).1;rw [KI] at this;omega
   rw [QV hi] at MU;let f2:=w1.nm;rw [NQ aa3] at f2;let e4:=cT g.nb of.nm f2;let w2:=w1.wc;let f3:(ss.map (·.1))[t]?=some x.1:=by rw [Wp,ex];rfl
   let f4:(ss.map (·.1))[i]?=some x.1:=by
    rw [Wp,MU];show some x'.1=some x.1;congr 1;omega
   have:=cT nodup f3 f4;omega
  rw [dJ _ Vw];let ks:bh d H9 (upd H9 d (.dK (AD++[(.inr b.nm,.ref p)]))):=bh.upd;let tk:bF H9 (upd H9 d (.dK (AD++[(.inr b.nm,.ref p)]))):=j3 d9 Us ks;let kk:∀b' u,(b'≠d\/∃vs,u=HO.lst vs)->(∀o x,u≠.fV o x)->H9 b'=some u->(upd H9 d (.dK (AD++[(.inr b.nm,.ref p)]))) b'=some u:=fun b' u h _ e=>ks _ _ (h.elim id fun ⟨vs,z⟩ y=>by erw [y,d9,z] at e) e
  let nwO:ud K H9 pX ip d (.inr b.nm,.ref p) (b.nm,T,U):=⟨p,dT,dU,rfl,bK.of hp9,(fun z=>by have:=WU.nT;erw [z,d8] at this),(fun z=>by have:=WU.nU;erw [z,d8] at this),⟨kT,WU.hT,WU.tT⟩,kU,WU.hU,fun q' DB =>by
   obtain ⟨vs,a1,_,c1,d1⟩:=WU.tU q' DB
   show ⟨_,vs,a1,c1,d1⟩⟩
  show ⟨_,_,AD++[(.inr b.nm,.ref p)],ow++[(b.nm,T,U)],rfl,fun b' o' e=>?_,?_,?_,?_,aj,dj (Paired.cg Qg fun _ _ z=>(z.ji uP).keep tk kk) (nwO.keep tk kk),?_⟩
  ·exact ks _ _ (ak e Hd) (s9 _ _ (s8 _ _ e))
  ·exact ks _ _ (fun z=>by erw [z,d7] at O9) (uP _ _ O9)
  ·exact ((WS.ji t7).ji s9).ks (.inl d9) ks
  ·exact ks _ _ (FG OY) (uP _ _ RU)
  ·rw [take_snoc ex]
   exact dj WT of
 ·rintro Y H7 ⟨o5,o6,AD,ow,rfl,s7,O9,WS,RU,d7,Qg,WT⟩
  rw [lsk,Mo] at WT;let kS:bh sd H7 (upd H7 sd (.dK oq)):=bh.upd;show ⟨sd,o,oq,RU,fun o' u' z=>(by have z':H sd=some (.fV o' u'):=z;erw [Qf] at z'),_,rfl,?_⟩;obtain ⟨c1,c2⟩:=vP jD kb RZ;rw [<-DW,ir] at c1;refine q d AD ow (ss.map (·.1)) _ _ (fun b' o' e=>kS _ _ (ak e Qf) (s7 _ _ e)) (kS _ _ OY d7) (Paired.cg Qg fun _ _ z=>z.keep (j3 RU ag9 kS) fun b u _ h e=>kS _ _ (fun z=>by rw [z,RU] at e;exact h _ _ (FA e).symm) e) ⟨qU (f:=fun x:Nat×List (Int×Int)=>x.1) (R:=fun o x=>O8 pX ip o x.1) (fun _ _ h=>h) WT,by rw [DW];exact ahL.filter _,fun c=>?_⟩ c2 (by rwa [EO Qg,EO WT]);rw [DW,KN,Md];show ⟨fun h=>⟨h.1,(xu jD kb RZ h.1).mp (dZ.mp h.2)⟩,fun h=>⟨h.1,dZ.mpr ((xu jD kb RZ h.1).mpr h.2)⟩⟩
def ag8 (h:zI K H AD ss)(e:H d=some (.dT Wa))(k:bh d H H'):zI K H' AD ss:=⟨h.1,fun i kv x e1 e2=>by
 obtain ⟨a,p,us,b,c,d'⟩:=h.2 i kv x e1 e2
 show ⟨a,p,us,b,k _ _ (fun z=>by erw [z,e] at c) c,d'.1,fun i u q e3 e4=>by
  obtain ⟨p,e5,z⟩:=d'.2 i u q e3 e4
  show ⟨p,e5,(j3 e Ut k).cp z⟩⟩⟩
def aeH (h:x∈gM pX):x.1∈pX.map (·.nm)/\x.2<=1:=by
 unfold gM at h;obtain ⟨p,hp,h⟩:=Pq.mp h
 rcases KD.mp h with e|h
 ·rw [e]
  show ⟨CZ.mpr ⟨p,hp,rfl⟩,KZ _⟩
 ·rw [K3.mp h]
  show ⟨CZ.mpr ⟨p,hp,rfl⟩,DU _⟩
theorem ue :∀{us:List Z} {l:List β},Paired R us l->∀{i:Nat} {b:β},l[i]?=some b->∃u,us[i]?=some u/\R u b
 | _,_,.nil,i,b,e=>by simp at e
 | _,_,.cons h t,0,b,e=>by
  cases e;show ⟨_,rfl,h⟩
 | _,_,.cons h t,i+1,b,e=>by
  obtain ⟨u,a,c⟩:=ue t (i:=i) (b:=b) (by simpa using e);show ⟨u,by simpa using a,c⟩
def aeE (np:(pX.map (·.nm)).Nodup):(gM pX).Nodup:=by
 induction pX with
 | nil=>exact ZF
 | cons p ps ih=>
  rw [DG,Kr] at np;let e:gM (p::ps)=[(p.nm,0),(p.nm,1)]++gM ps:=rfl;rw [e,Vp];show ⟨by simp,ih np.2,fun a ha b hb z=>np.1 ?_⟩;let h1:=(aeH hb).1;rw [<-z] at h1
  rcases KD.mp ha with y|y
  ·rw [y] at h1
   exact h1
  ·rw [K3.mp y] at h1
   exact h1
def zO (x:Str×Nat):List Key:=[.inr x.1,.inl (x.2:Int)]
def zat (h:zO x=zO y):x=y:=by
 unfold zO at h;injection h with h1 h2
 injection h2 with h2 _
 let h3:=Sa h2;exact Vj (NQ h1) ga
inductive FD (K:Frag)(C:AG)(vs:θ)(H:Hp)(Q:VK)(E_:XK):Prop
|mk (a:AG)(pX:ν)(ip:ρ)(_:vs=[.ref a])(_:qN K H C a pX ip)(_:bM pX ip)(_:∀(d:AG)(AD:Ε)(cs:Nat)(H':Hp),aq H H' ->H' d=some (.dT AD)->Rk (2*pX.length) (bw pX ip) cs->AD.length+cs=2*pX.length->Q (.ref d) H')
def fg:aE ["F","pairs","motions","column","numbers"] KY (ae d_):=sq
def acV (D:Def K mg "motions_of" d_ KY)(aX:mg "len"=none)
  (FE:am P w K mg iN 2 "pairs_of" KY (xv K C)) (xm:am P w K mg iN 38 "draw_rows" KY (fw K C)) (gK:am P w K mg iN 36 "spare_columns" O_ (om K)) (ET:am P w K mg iN 2 "motion_from" NX (jb K C)):
  am P w K mg iN 39 "motions_of" KY (FD K C):=by
 refine D.oo fg fun H hr h=>?_;obtain ⟨a,pX,ip,rfl,R,g,q⟩:=h;let gl:=g.lp;let gb:=g.lb;let wl:(pX.flatMap fun p=>p.ws).length<=2*pX.length:=fe pX g.lw;let dl:(bw pX ip).length=(pX.flatMap fun p=>p.ws).length+ip.length:=eG pX ip
 show ⟨_,(aa (aG 1 fg.nd (aZ FE hr (aV (pv 0)))) (aa (aG 2 fg.nd agV) (aa (rX (bG K6 rfl (ni (aZ gK hr (aT (aZ xm hr (aV (pv 0))) (aK av rfl aX bJ (aV (pv 1)))))) (ft rfl (aY (b9 3 fg.nd) (aY (b9 4 fg.nd) cZ))) (ah (dQ (cW hr) (pv 2) (bD aS (pv 1) (pv 3)) (aZ ET hr (aT (pv 0) (pv 4))) rfl)))) (ah (aJ (pv 2)))))),?_⟩;sleep 3
 show ⟨_,rfl,a,pX,ip,rfl,R,g,fun r us H1 s1 nr er pr=>?_⟩;intros d JE H2 s2 e2;let jF:=s1.trans s2;let lus:us.length=2*pX.length:=by rw [EO pr,kQ]
 show ⟨_,rfl,a,pX,ip,rfl,R.ji jF,g,fun rr ls cy H3 s3 nrr RR=>?_⟩;let r3:=s3 _ _ (s2 _ _ er);show ⟨_,rfl,r,_,rfl,.inl (aU.of r3),?_⟩;let sh:Shape 58 58 (2*pX.length) (bw pX ip):=dY g
 let zz:bb (58+58*(2*pX.length)) (min (2*pX.length) (bw pX ip).length)<=33000:=by
  unfold bb;let h1:min (2*pX.length) (bw pX ip).length+1<=19:=ga
  let h2:58+58*(2*pX.length)+11<=1721:=ga
  exact DC (Mc h1 h2) gt
 show ⟨rr,2*pX.length,ls,cy,bw pX ip,58,58,33000,(by rw [lus];rfl),RR.iW,RR.num,sh,ga,ga,gt,ga,gt,zz,gt,fun sd oq ss os lv nd H6 s6 RM EV hSp jD RZ DW hF=>?_⟩;let s26:=s3.trans s6;let s06:=jF.trans s26;let Qf:H sd=none:=(jF.trans s3).free RM;let Hd:H d=none:=s1.free JE;let ed6:=s26 _ _ e2;let er6:=s6 _ _ r3
 let OY:d≠sd:=fun z=>by
  have:=s3 _ _ e2;erw [z,RM] at this
 show ⟨sd,oq,rfl,EV,fun o=>?_⟩;let k0:bh sd H6 (upd H6 sd (.fV o (.dK oq))):=bh.upd;let lsk:oq.length=ss.length:=hSp.1
 let Wm:ss.length<=2*pX.length:=by
  have:=oP NO DW;rw [ir] at this;let h2:=Wi (free nd) (KC (2*pX.length));rw [Mf] at h2;omega
 let ndc:(ss.map (·.1)).Nodup:=by
  rw [DW];exact Ry.filter _
 let pr6:Paired (jG H6) us (gM pX):=Paired.cg pr fun _ _ z=>z.ji (s2.trans s26)
 refine let I:dL:=fun t Y H'=>I_ fun (o3 o4:Α) (AD:Ε)=>Y=[ce a,ce r,ce d,o3,o4]/\aq H H'/\H' r=some (.lst us)/\Paired (jG H') us (gM pX)/\zI K H' oq ss/\H' sd=some (.fV o (.dK oq))/\H' d=some (.dT AD)/\AD.length=t/\∀k∈AD.map (·.1),∃j∈(ss.map (·.1)).take t,∃x,(gM pX)[j]?=some x/\k=zO x;i6 (d:=sd) (o:=o) (AD:=oq) I ⟨none,none,[],rfl,fun b o' e=>k0 _ _ (ak e Qf) (s06 _ _ e),k0 _ _ (fun z=>by erw [z,EV] at er6) er6,Paired.cg pr6 fun _ _ z=>z.ks EV Us k0,hSp.ks (.inl EV) k0,aj,k0 _ _ OY ed6,rfl,fun k h=>nomatch h⟩ (fun t Y H' _ h=>by
   obtain ⟨_,_,_,_,_,_,_,_,h,_⟩:=h
   exact h) ?_ ?_
 ·rintro t k y Y H7 p7 vF ⟨o3,o4,AD,rfl,s7,er7,Qg,WS,RU,d7,lk7,kk7⟩ n7
  let ht:t<oq.length:=(be.mp vF).1;obtain ⟨xx,exx⟩:∃x,ss[t]?=some x:=⟨_,gE ga⟩;let mxx:=DE exx;obtain ⟨ek,lx,xs,ey,hlx,hus⟩:=WS.2 t (k,y) xx vF exx;let hus:xs.length=2*pX.length:=by rw [hus.1];exact (hF xx mxx).1
  let ex:(ss.map (·.1))[t]?=some xx.1:=by rw [Wp,exx];rfl
  let mx:=DE ex;generalize xx.1=x at ek ex mx;let ek':k=.inl (x:Int):=ek;have IZ :y=.ref lx:=ey;subst ek';subst IZ;let t7:=aH n7 (.tup [kV (.inl (x:Int)),.ref lx]);let e7:(upd H7 p7 (.tup [kV (.inl (x:Int)),.ref lx])) p7=some (.tup [kV (.inl (x:Int)),.ref lx]):=aj;generalize upd H7 p7 (.tup [kV (.inl (x:Int)),.ref lx])=H8 at t7 e7 ⊢;let s8:=s7.trans t7;show ⟨p7,_,rfl,bK.of e7,rfl,_,_,rfl,_,_,rfl,rfl,?_⟩
  let cx:x<2*pX.length:=by
   rw [DW] at mx;exact Md.mp (KN.mp mx).1
  show ⟨_,rfl,_,rfl,a,lx,pX,ip,xs,rfl,R.ji s8,g,t7 _ _ hlx,hus,fun dM H9 s9=>?_⟩;let uP:=t7.trans s9;let d9:=uP _ _ d7;obtain ⟨pq,epq⟩:∃pq,(gM pX)[x]?=some pq:=⟨_,gE (by rwa [kQ])⟩;obtain ⟨u,eu,tp,rfl,htp⟩:=ue Qg epq;let ht9:H9 tp=some (.tup ((zO pq).map kV)):=uP _ _ htp;let ai:gS us (x:Int)=some (.ref tp):=bE eu;show ⟨_,rfl,_,rfl,_,rfl,r,_,_,_,rfl,rfl,aU.of (uP _ _ er7),ai,d,_,rfl,iS.t d9 ht9 (FU (show AD.length<=1000 by omega) gt),?_⟩;let ks:bh d H9 (upd H9 d (.dT (putK AD (zO pq) (.ref dM)))):=bh.upd
  let hnm:zO pq∉AD.map (·.1):=fun z=>by
   obtain ⟨j,hj,x',MU,e'⟩:=kk7 _ z;rw [zat e'] at epq;let e5:=cT (aeE g.np) epq MU;obtain ⟨i,ei⟩:=D_ hj
   let hi:i<t:=by
    have:=(be.mp ei).1;rw [KI] at this;omega
   rw [QV hi,<-e5] at ei;have:=cT ndc ei ex;omega
  rw [dJ _ (cR hnm)] at ks ⊢;show ⟨_,_,AD++[(zO pq,.ref dM)],rfl,fun b' o' e=>?_,?_,Paired.cg Qg fun _ _ z=>(z.ji uP).ks d9 Ut ks,?_,?_,aj,by rw [ER,lk7];rfl,fun k hk=>?_⟩
  ·exact ks _ _ (ak e Hd) (s9 _ _ (s8 _ _ e))
  ·exact ks _ _ (fun z=>by erw [z,d7] at er7) (uP _ _ er7)
  ·exact ag8 (WS.ji uP) d9 ks
  ·exact ks _ _ (FG OY) (uP _ _ RU)
  ·rw [K7] at hk
   rw [take_snoc ex]
   rcases K2.mp hk with h|h
   ·obtain ⟨j,hj,z⟩:=kk7 _ h
    show ⟨j,K2.mpr (.inl hj),z⟩
   ·show ⟨x,K2.mpr (.inr EJ),pq,epq,by simpa using h⟩
 ·rintro Y H7 ⟨o3,o4,AD,rfl,s7,er7,Qg,WS,RU,d7,lk7,kk7⟩
  let kS:bh sd H7 (upd H7 sd (.dK oq)):=bh.upd;show ⟨sd,o,oq,RU,fun o' u' z=>(by have z':H sd=some (.fV o' u'):=z;erw [Qf] at z'),_,rfl,?_⟩;obtain ⟨c1,c2⟩:=vP jD (ae9 g) RZ;rw [<-DW,ir] at c1;exact q d AD _ _ (fun b' o' e=>kS _ _ (ak e Qf) (s7 _ _ e)) (kS _ _ OY d7) c2 (by rwa [lk7,lsk])
def Cnt (pX:ν)(ip:ρ)(s m:Nat):Prop:=m+ar pX+ip.length=s+2*pX.length
theorem zP:∀pX:List aA,(pX.map fun p=>((p.ws.length:Nat):Int)).sum=((ar pX:Nat):Int)
 | []=>rfl
 | p::ps=>by
  rw [DG,KR,zP ps];unfold ar;rw [KO,ER];omega
inductive uf (K:Frag)(C:AG)(vs:θ)(H:Hp)(Q:VK)(E_:XK):Prop
|mk (a:AG)(pX:ν)(ip:ρ)(_:vs=[.ref a])(_:qN K H C a pX ip)(_:bM pX ip)(_:(∀p∈pX,EY p.ws))(_:∀(t:AG)(s m:Nat)(H':Hp),aq H H' ->H' t=some (.tup [.int (pX.length:Int),.int (ar pX:Int),.int (ip.length:Int),.int (s:Int),.int (m:Int)])->Cnt pX ip s m->(∃os fc,os.length=s/\RT pX ip os fc)->Q (.ref t) H')
def oz:aE ["F","ways"] KY (ae fG):=sq
def aoE (D:Def K mg "counts_of" fG KY)(aX:mg "len"=none)(Pa:mg "sum"=none)(MP:bn P w K mg iN 1 C "pins" K8 (fU K C))(MB:bn P w K mg iN 1 C "bars" K8 (js K C))(MW:bn P w K mg iN 2 C "ways" N7 (qe K C))
  (kd:am P w K mg iN 39 "spares_of" KY (xw K C)) (xB:am P w K mg iN 39 "motions_of" KY (FD K C)):
  am P w K mg iN 40 "counts_of" KY (uf K C):=by
 refine D.op oz fun f cL A lj s H vs Q E hr h=>?_;obtain ⟨a,pX,ip,rfl,R,g,wi,q⟩:=h;let gl:=g.lp;let gb:=g.lb;let wl:ar pX<=2*pX.length:=fe pX g.lw;let dl:(bw pX ip).length=ar pX+ip.length:=eG pX ip;obtain ⟨dx,pP,pW,pB,kP,kW,kB,F0,W0⟩:=R.ex
 show ⟨_,(aa (aG 1 oz.nd (aK (ae6 rfl) rfl Pa ac0 (aV (df (tn:=["pin"]) (fr:=KY) (mL:=[0]) (bu (cM (k:=1) (pv 0) hr.mo (pY P w))) (aK (acN (K:=K) rfl) rfl aX bJ (aV (acF (P:=P) (w:=w) (K:=K) (mg:=mg) (iN:=iN) (CX:=ba P w) rfl rfl rfl rfl rfl (k:=2) (pv 1) hr.mo (T7 (by first|assumption|exact ba.yR) rfl) (aV (pv 0)))))))))
  (ah (aJ (aR (iu (aK av rfl aX bJ (aV (cM (k:=1) (pv 0) hr.mo (pY P w)))) (iu (pv 1) (bR (aK av rfl aX bJ (aV (cM (k:=1) (pv 0) hr.mo (pY P w)))) (aK pR rfl aX bJ (aV (aZ kd hr (aV (pv 0))))) (aK abZ rfl aX bJ (aV (aZ xB hr (aV (pv 0)))))))))))),?_⟩;try dsimp only [rf,pC,Cx.yq,Cx.uS]
 show ⟨_,rfl,a,C,dx,_,_,_,rfl,F0.obj,rfl,MP,a,dx,pP,pW,pB,_,_,kP,kW,kB,rfl,F0,fun lp H1 s1 yu lK=>?_⟩;rw [dh] at lK;show ⟨lp,rfl,⟨_,aU.of lK⟩,fun D2 n2=>?_⟩;refine dN (oe:=[some (.ref a)]) (K:=K) (a:=lp) (xs:=(pX.map (·.nm)).map V.str) (fun i v _=>∃p,pX[i]?=some p/\v=.int ((p.ws.length:Nat):Int)) n2 (by rw [ir,ir];exact FU (show pX.length<=1000 by omega) gt) (fun H5 s5=>aU.of (s5 _ _ lK)) (fun _ _ _ _ _ _ _ h=>h) ?_ ?_
 ·intro i u H5 RR hu s5 k
  rw [Wp,Wp] at hu;obtain ⟨x,hx,rfl⟩:=K9.mp hu;obtain ⟨p,hp,rfl⟩:=K9.mp hx;let mp:=DE hp;let R5:=R.ji (s1.trans s5);obtain ⟨dx,pP,pW,pB,kP,kW,kB,F5,W5⟩:=R5.ex;let mpn:p.nm∈(pX.map fun p=>(p.nm,MK p.sp)).map (·.1):=by rw [dh];exact CZ.mpr ⟨p,mp,rfl⟩
  show ⟨_,rfl,a,C,dx,_,_,_,rfl,F5.obj,rfl,MW,_,rfl,a,dx,pP,pW,pB,_,_,kP,kW,kB,_,p.nm,p.ws,rfl,F5,W5,OL g.np,CZ.mpr ⟨p,mp,rfl⟩,mpn,fun m vs H6 s6 n6 e6 p6=>?_⟩;let lv:vs.length=p.ws.length:=EO p6;show ⟨m,_,rfl,.inl (aU.of e6),k _ _ s6 ⟨p,hp,by rw [lv]⟩⟩
 intro ys H2 ly hr2 s2 hD
 let ey:ys=(pX.map fun p=>((p.ws.length:Nat):Int)).map V.int:=by
  refine Mt fun i=>?_;rw [ir,ir] at ly;by_cases hi:i<ys.length
  ·obtain ⟨p,ep,e⟩:=hr2 i _ (gE hi)
   rw [gE hi,e,Wp,Wp,ep];rfl
  ·rw [EZ ga,EZ (by rw [ir,ir];omega)]
 rw [ey] at hD;show ⟨D2,_,rfl,aU.of hD,?_⟩;rw [zP];let jF:=s1.trans s2;let F2:=F0.ji jF;show ⟨_,rfl,a,C,dx,_,_,_,rfl,F2.obj,rfl,MP,a,dx,pP,pW,pB,_,_,kP,kW,kB,rfl,F2,fun l3 H3 s3 n3 e3=>?_⟩;rw [dh] at e3;show ⟨l3,_,rfl,.inl (aU.of e3),_,rfl,?_⟩;let oZ:=jF.trans s3;let F3:=F0.ji oZ;show ⟨_,rfl,a,C,dx,_,_,_,rfl,F3.obj,rfl,MB,a,dx,pP,pW,pB,_,_,kP,kW,kB,rfl,F3,fun l4 H4 s4 n4 e4=>?_⟩;rw [ju] at e4;show ⟨l4,_,rfl,.inl (aU.of e4),?_⟩;let jP:=oZ.trans s4;show ⟨_,rfl,a,pX,ip,rfl,R.ji jP,g,wi,fun d5 kv5 os5 fc5 cs5 H5 s5 e5 pr5 ol5 rk5 l5=>?_⟩;show ⟨d5,kv5,rfl,.inl e5,?_⟩;let JG:=jP.trans s5;show ⟨_,rfl,a,pX,ip,rfl,R.ji JG,g,fun d6 kv6 cs6 H6 s6 e6 rk6 l6=>?_⟩;show ⟨d6,kv6,rfl,.inl e6,z5L,?_⟩;intros t7 n7 H7 s7 e7;rw [ir,ir,ir,ir] at e7;rw [<-dl] at rk5;exact q t7 _ _ H7 (JG.trans (s6.trans s7)) e7 (by have:=rk6.turned rk5;unfold Cnt;omega) ⟨os5,fc5,(EO pr5).symm,ol5⟩
inductive sk (K:Frag)(vs:θ)(H:Hp)(Q:VK)(E_:XK):Prop
|mk (l:AG)(us:θ)(rs:Λ)(_:vs=[.ref l])(_:H l=some (.lst us))(_:Paired (g_ K H) us rs)(_:us.length<=100)(_:∀(l':AG)(mS :θ)(H':Hp),aq H H' ->H' l'=some (.lst mS)->Paired (g_ K H') mS (rs.map fun r=> -r)->Q (.ref l') H')
def aa5:aE Rt Rt (ae Lh):=sq
def aa6 (D:Def K mg "signs_turned" Lh Rt):am P w K mg iN 1 "signs_turned" Rt (sk K):=by
 refine D.oo aa5 fun H hr h=>?_;obtain ⟨l,us,rs,rfl,hl,pp,ln,q⟩:=h;let lu:=EO pp;show ⟨_,(ah (aJ (df (tn:=["number"]) (fr:=[]) (mL:=[]) (bu (pv 0)) (aR (aT (iA fO (bD (dz (K:=K) rfl) (pv 0) ag)) (bD (dz (K:=K) rfl) (pv 0) ag)))))),_,rfl,l,rfl,⟨_,aU.of hl⟩,fun D1 n1=>?_⟩;refine dN (oe:=[]) (K:=K) (a:=l) (xs:=us) (fun i v H'=>∃r,rs[i]?=some r/\g_ K H' v (-r)) n1 (FU ln gt) (fun H2 s2=>aU.of (s2 _ _ hl)) (fun i v H6 H7 ys e ks ⟨r,h1,h2⟩=>⟨r,h1,h2.bq (bF.ks e ks)⟩) ?_ ?_
 ·intro i u H2 R hu s2 k
  obtain ⟨r,er,hr⟩:=aI pp hu;obtain ⟨p,rfl,hq⟩:oY K H2 u (qr r):=hr.ji s2;show ⟨_,rfl,p,_,_,_,rfl,rfl,hq,j6,_,rfl,_,rfl,p,_,_,_,rfl,rfl,hq,jN,qp,?_⟩;intros p3 n3 H3 s3 e3;refine k _ _ s3 ⟨r,er,p3,rfl,?_⟩;rw [DQ];exact bK.of e3
 ·intro ys H2 ly hy s2 hD
  refine q D1 ys H2 s2 hD (gi (by rw [ly,lu,ir]) fun i v e=>?_);obtain ⟨r,er,hr⟩:=hy i v e;show ⟨-r,by rw [Wp,er];rfl,hr⟩
structure xC (pX:ν)(ip:ρ)(x:Str)(M:Μ):Prop where
 RK:∀p∈pX,∀w∈p.ws,dt w (M p.nm)=0
 ip:∀b∈ip,nY M b=if b.nm=x then 1 else 0
theorem Pb:∀(ys zs:Λ),sP (ys.map fun r=> -r) zs= -(sP ys zs)
 | [],_=>by simp [sP]
 | _::_,[]=>by simp [sP]
 | y::ys,z::zs=>by
  rw [DG,cv,cv,Pb ys zs];grind
def vR (pX:ν)(ip:ρ)(h:ip[j]?=some b):(bw pX ip)[ar pX+j]?=some (dm (cF b) pX):=by
 let e:(pX.flatMap fun p=>nO pX p).length=ar pX:=j8 pX pX;unfold bw;rw [Kx ga,e,agK,Wp,h];rfl
def acq (pX:ν)(ip:ρ)(hp:p∈pX){w:Rat×Rat}(hw:w∈p.ws):∃i,i<ar pX/\(bw pX ip)[i]?=some (dm (gf p.nm w) pX):=by
 let e:(pX.flatMap fun p=>nO pX p).length=ar pX:=j8 pX pX;let m:dm (gf p.nm w) pX∈pX.flatMap fun p=>nO pX p:=Pq.mpr ⟨p,hp,CZ.mpr ⟨w,hw,rfl⟩⟩;obtain ⟨i,ei⟩:=D_ m;let hi:=(be.mp ei).1;show ⟨i,ga,?_⟩;unfold bw;rwa [K_ hi]
def afj (g:bM pX ip)(h0:ip[j]?=some b0)(h:∀(i:Nat)(qs:ο),(bw pX ip)[i]?=some qs->sP (qs.map vl) (pX.flatMap fun p=>[(M p.nm).1,(M p.nm).2])=if i=ar pX+j then -1 else 0):xC pX ip b0.nm M:=by
 show ⟨fun p hp w hw=>?_,fun b hb=>?_⟩
 ·obtain ⟨i,hi,ei⟩:=acq pX ip hp hw
  have:=h i _ ei;rwa [r9,r_ g.np hp w M,mJ ga] at this
 ·obtain ⟨k,ek⟩:=D_ hb
  have:=h _ _ (vR pX ip ek);obtain ⟨m1,m2,m3⟩:=g.ends b hb;rw [r9,xl g.np b m1 m2 m3] at this;by_cases c:b.nm=b0.nm
  ·let ekj:k=j:=cT g.nb (x:=b0.nm) (by rw [Wp,ek,<-c];rfl) (by rw [Wp,h0];rfl)
   rw [mK ga] at this;rw [mK c];grind
  ·let ekj:k≠j:=fun z=>c (by rw [z,h0] at ek;rw [FA ek])
   rw [mJ ga] at this;rw [mJ c];grind
def u_ (n t:Nat):List (Int×Int):=(EI n ((0,1):Int×Int)).set t (-1,1)
def xD (h:(u_ n t)[i]?=some d):d=if i=t then (-1,1) else (0,1):=by
 unfold u_ at h;rw [Mr] at h;by_cases c:t=i
 ·rw [mK c,OT] at h
  rw [mK c.symm];split at h
  ·exact (FA h).symm
  ·cases h
 ·rw [mJ c,OV] at h
  rw [mJ (fun z=>c z.symm)];split at h
  ·exact (FA h).symm
  ·cases h
def afm:∀{ys:Λ} {n t:Nat},ys.length=n->t<n->sP ys ((u_ n t).map vl)= -(ys.getD t 0):=fun {ys n t}=>by
 let v0:vl ((0,1):Int×Int)=0:=by decide+kernel
 let v1:vl ((-1,1):Int×Int)= -1:=by decide+kernel
 unfold u_
 induction ys generalizing n t with
 | nil=>
  intro h1 h2;simp at h1;omega
 | cons y ys ih=>
  intro h1 h2;obtain ⟨n,rfl⟩:∃m,n=m+1:=⟨n-1,ga⟩;rw [Q_]
  match t with
  | 0=>
   rw [aia,DG,cv,aii,v0,v1];let ez:EI n (0:Rat)=(EI n ()).map fun _=>(0:Rat):=by simp
   rw [ez,nZ];show y* -1+0= -y;grind
  | t+1=>
   rw [aid,DG,cv,v0,ih (n:=n) (by simpa using h1) ga];show y*0+ -(ys.getD t 0)= -((y::ys).getD (t+1) 0);rw [List.getD_cons_succ];grind
theorem qV {f g:aA->List Rat}:∀{l:ν},(∀x∈l,f x=g x)->l.flatMap f=l.flatMap g
 | [],_=>rfl
 | x::l,h=>by rw [KO,KO,h x EJ,qV fun y hy=>h y (FF _ hy)]
theorem ug:∀(pX:ν)(l:Λ),(pX.map (·.nm)).Nodup->l.length=ar pX->∃U:Str->List Rat,(∀q∈pX,(U q.nm).length=q.ws.length)/\(pX.flatMap fun q=>U q.nm)=l
 | [],l,_,h=>⟨fun _=>[],(fun q hq=>nomatch hq),by
  have:l=[]:=R7.mp h;rw [this]
  rfl⟩
 | q::ps,l,nd,h=>by
  rw [DG,Kr] at nd
  let hw:ar (q::ps)=q.ws.length+ar ps:=by
   unfold ar;rw [KO,ER]
  obtain ⟨U,h1,h2⟩:=ug ps (l.drop q.ws.length) nd.2 (by rw [QR];omega);let ne:∀r∈ps,r.nm≠q.nm:=fun r hr z=>nd.1 (by rw [<-z];exact CZ.mpr ⟨r,hr,rfl⟩);show ⟨fun x=>if x=q.nm then l.take q.ws.length else U x,fun r hr=>?_,?_⟩
  ·rcases KD.mp hr with e|hr
   ·rw [e]
    show (if q.nm=q.nm then l.take q.ws.length else U q.nm).length=_;rw [mK rfl,KI];omega
   ·show (if r.nm=q.nm then l.take q.ws.length else U r.nm).length=_
    rw [mJ (ne r hr)];exact h1 r hr
  ·rw [KO]
   show (if q.nm=q.nm then l.take q.ws.length else U q.nm)++_=l;rw [mK rfl,qV (g:=fun r=>U r.nm) (fun r hr=>mJ (ne r hr)),h2,Rb]
theorem uh:∀(ip:ρ)(l:Λ),(ip.map (·.nm)).Nodup->l.length=ip.length->∃T:Str->Rat,(ip.map fun b=>T b.nm)=l
 | [],l,_,h=>⟨fun _=>0,(R7.mp h).symm⟩
 | b::bs,[],_,h=>(nomatch h)
 | b::bs,r::l,nd,h=>by
  rw [DG,Kr] at nd;obtain ⟨T,hT⟩:=uh bs l nd.2 (by simpa using h);show ⟨fun x=>if x=b.nm then r else T x,?_⟩;rw [DG];show (if b.nm=b.nm then r else T b.nm)::_=r::l;rw [mK rfl];congr 1;refine Eq.trans (Ml fun c hc=>?_) hT;exact mJ fun z=>nd.1 (by rw [<-z];exact CZ.mpr ⟨c,hc,rfl⟩)
def ag7 (g:bM pX ip)(ly:ys.length=ar pX+ip.length)(h0:∀j,j<2*pX.length->sP ys ((fN (bw pX ip) j).map vl)=0)(eb:ip[t]?=some b)(h1:ys.getD (ar pX+t) 0= -1):∃(T:Δ)(U:χ),gI pX ip T U/\(∀q∈pX,(U q.nm).length=q.ws.length)/\T b.nm=1:=by
 let ll:(ys.map fun r=> -r).length=ar pX+ip.length:=by rwa [ir]
 obtain ⟨U,u1,u2⟩:=ug pX ((ys.map fun r=> -r).take (ar pX)) g.np (by rw [KI];omega);obtain ⟨T,hT⟩:=uh ip ((ys.map fun r=> -r).drop (ar pX)) g.nb (by rw [QR];omega)
 let e:mm pX ip T U=ys.map fun r=> -r:=by
  unfold mm;rw [u2,hT,Rb]
 show ⟨T,U,vL g u1 fun c hc=>?_,u1,?_⟩
 ·show sP (mm pX ip T U) _=0
  rw [e,Pb,h0 c hc];grind
 ·have:=ua (T:=T) u1 eb
  let ht:=(be.mp eb).1;let lt:ar pX+t<ys.length:=ga
  rw [KU,gE lt] at h1;rw [e,Wp,gE lt] at this;have jX :ys[ar pX+t]= -1:=h1;let h2: -ys[ar pX+t]=T b.nm:=FA this;rw [<-h2,jX];grind
inductive kR (K:Frag)(C:AG)(vs:θ)(H:Hp)(Q:VK)(E_:XK):Prop
|mk (a r:AG)(pX:ν)(Uu ip:ρ)(ls:ω)(cy:List (List V:_))(t:Nat)(b:aD)(_:vs=[.ref a,.ref r,.int ((ar pX+t:Nat):Int)])(_:qN K H C a pX Uu)(_:bM pX ip)(_:iI K H r ls cy (bw pX ip))(_:ip[t]?=some b)(_:(∀(M:Μ)(p x:AG)(us:θ)(H':Hp),aq H H' ->H' p=some (.tup [.str "solved",.ref x])->H' x=some (.lst us)->us.length=2*pX.length->xC pX ip b.nm M->Q (.ref p) H'))(_:(∀(T:Δ)(U:χ)(p y:AG)(us:θ)(ys:Λ)(H':Hp),aq H H' ->H' p=some (.tup [.str "paper",.ref y])->H' y=some (.lst us)->Paired (g_ K H') us ys->ys.length=ar pX+ip.length->gI pX ip T U->(∀q∈pX,(U q.nm).length=q.ws.length)->T b.nm=1->Q (.ref p) H'))
def Uv:aE ["F","rows","at","due"] Vb (ae Ls):=sq
def aa7 (hN:∀H:Hp,bK K H aN [.int 0,.int 1])(rC:mg "NOUGHT"=some (.ref aN))(D:Def K mg "stretch_of" Ls Vb)(aX:mg "len"=none)(MP:bn P w K mg iN 1 C "pins" K8 (fU K C))(WJ:am P w K mg iN 37 "solve_rows" Vc (r6 K)):
  am P w K mg iN 38 "stretch_of" Vb (kR K C):=by
 refine D.oo Uv fun H hr h=>?_;obtain ⟨a,r,pX,Uu,ip,ls,cy,t0,b,rfl,R,g,RR,eb,q1,q2⟩:=h;let ql:(bw pX ip).length=ar pX+ip.length:=eG pX ip;let wl:ar pX<=2*pX.length:=fe pX g.lw;let gb:=g.lb;let sh:Shape 58 58 (2*pX.length) (bw pX ip):=dY g;let ht0:=(be.mp eb).1;obtain ⟨t,et0⟩:∃t,t=ar pX+t0:=⟨_,rfl⟩;rw [<-et0];let ht:t<(bw pX ip).length:=ga
 obtain ⟨bP,eqs⟩:∃q,q=bw pX ip:=⟨_,rfl⟩;rw [<-eqs] at RR sh ht ql;let gl:=g.lp;let big:(100:Nat)<=C_:=gt
 show ⟨_,(aa (aG 3 Uv.nd (aF wA (bQ (aV (gN (v:=.ref aN) rfl rC rfl))) (aK av rfl aX bJ (aV (pv 1))))) (aa (iO (aR (aT (iA fO ag) ag)) (lO (pv 3) (pv 2) set_list)) (ah (aJ (aZ WJ hr (bR (pv 1) (pv 3) (aF bY ag (aK av rfl aX bJ (aV (cM (k:=1) (pv 0) hr.mo (Oq P w))))))))))),?_⟩;sleep 2
 show ⟨rh,?_⟩;intros l5 n5 H5 s5 e5;let X7:=RR.ji s5;let Ma:ls.length=bP.length:=by rw [RR.iW.2.1,RR.num.1]
 show ⟨_,rfl,r,_,rfl,.inl (aU.of X7.iW.1),l5,_,_,rfl,rfl,e5,ga,(by rw [ir];omega),(by rw [ir];simp;omega),?_⟩;intros l6 n6 H6 s6 e6;let WK:(EI (((ls.map V.ref).length:Nat):Int).toNat [V.ref aN]).flatten=EI ls.length (V.ref aN):=by simp
 rw [WK] at e6;show ⟨_,rfl,qp,?_⟩;intros p7 n7 H7 s7 e7
 let ix:wo (EI ls.length (V.ref aN)).length (t:Int)=some t:=by
  rw [OT];unfold wo;simp;omega
 show ⟨_,rfl,_,rfl,l6,_,_,t,rfl,rfl,s7 _ _ e6,ix,?_⟩;let Qh:=s5.trans (s6.trans s7)
 let h8:aq H (upd H7 l6 (.lst ((EI ls.length (V.ref aN)).set t (.ref p7)))):=fun b o z=>by
  rw [ao (fun e=>by rw [e] at z;erw [s5 _ _ z] at n6)];exact Qh _ _ z
 let e8:(upd H7 l6 (.lst ((EI ls.length (V.ref aN)).set t (.ref p7)))) l6=some (.lst ((EI ls.length (V.ref aN)).set t (.ref p7))):=aj;let p8:bK K (upd H7 l6 (.lst ((EI ls.length (V.ref aN)).set t (.ref p7)))) p7 [.int (-1),.int 1]:=bK.of (by rw [ao (fun e=>by erw [e,s7 _ _ e6] at e7)];exact e7);generalize upd H7 l6 (.lst ((EI ls.length (V.ref aN)).set t (.ref p7)))=H8 at h8 e8 p8 ⊢;let R8:=R.ji h8;obtain ⟨dx,pP,pW,pB,kP,kW,kB,F8,W8⟩:=R8.ex;let c2:qG 2 ((pX.length:Nat):Int):=⟨by decide+kernel,DC (Rm ga ga) gt⟩;show ⟨_,rfl,_,rfl,_,rfl,a,C,dx,_,_,_,rfl,F8.obj,rfl,MP,a,dx,pP,pW,pB,_,_,kP,kW,kB,rfl,F8,fun lp H9 s9 yu lK=>?_⟩;rw [dh] at lK;show ⟨lp,_,rfl,.inl (aU.of lK),_,_,rfl,rfl,(by rwa [ir,ir]),?_⟩;let em:(2:Int)*((((pX.map (·.nm)).map V.str).length:Nat):Int)=((2*pX.length:Nat):Int):=by rw [ir,ir];omega
 let Uw:=h8.trans s9;let MT:=RR.ji Uw
 let OY:c6 K H9 ((EI ls.length (V.ref aN)).set t (.ref p7)) (u_ ls.length t):=by
  show ⟨by simp [u_],fun i u d e1 e2=>?_⟩;let ed:=xD e2;rw [Mr] at e1;by_cases c:t=i
  ·rw [mK c,OT,mK ga] at e1
   rw [mK c.symm] at ed;cases e1;rw [ed];show ⟨p7,rfl,Ty.aq.cp s9 p8⟩
  ·rw [mJ c,OV] at e1
   rw [mJ (fun z=>c z.symm)] at ed;split at e1
   ·cases e1
    rw [ed];show ⟨aN,rfl,hN _⟩
   ·cases e1
 let s01:Sm 58 58 ((0,1):Int×Int):=⟨gt,gt,by decide+kernel,by decide+kernel⟩;let KG:Sm 58 58 ((-1,1):Int×Int):=⟨gt,gt,by decide+kernel,by decide+kernel⟩;show ⟨r,l6,2*pX.length,ls,cy,bP,_,u_ ls.length t,58,58,bb (58+58*(2*pX.length+1)) (2*pX.length+1),(by rw [<-em];rfl),MT.iW,MT.num,s9 _ _ e8,OY,by simp [Ma,u_],sh,fun d hd=>?_,ga,ga,gt,ga,gt,rZ _ (an1 _ _),afr g.lp,?_,?_⟩
 ·obtain ⟨i,ei⟩:=D_ hd
  rw [xD ei];split
  ·exact KG
  ·exact s01
 ·intro p x mS xs HA sA ep ex nx lx zx hx
  obtain ⟨M,eM⟩:=OU g.np (xs:=xs.map vl) (by rwa [ir]);refine q1 M p x mS HA (Uw.trans sA) ep ex (by rwa [nx.1]) (afj g eb fun i qs e=>?_);rw [<-eM];rw [<-eqs] at e;rw [<-et0]
  ·let hi:=(be.mp e).1
   let hd:i<(u_ ls.length t).length:=by simp [u_];omega
   let h2:=hx i qs _ e (gE hd);rw [jw,xD (gE hd)] at h2;rw [h2];split
   ·decide+kernel
   ·decide+kernel
 ·intro p y mS ys HA sA ep ey ny ly zy ED hy1
  let h0:∀j,j<2*pX.length->sP (ys.map vl) ((fN (bw pX ip) j).map vl)=0:=fun j hj=>by
   have:=ED j hj;rwa [jw,eqs] at this
  let h1:(ys.map vl).getD (ar pX+t0) 0= -1:=by
   rw [jw,afm (by rw [ir];omega) ga] at hy1;rw [<-et0];grind
  have ZV :(ys.map vl).length=ar pX+ip.length:=by rwa [ir,ly]
  obtain ⟨T,U,no,lU,tb⟩:=ag7 g ZV h0 eb h1;exact q2 T U p y mS (ys.map vl) HA (Uw.trans sA) ep ey (og ny zy) ZV no lU tb
def aaV (pX:ν)(ip:ρ)(b:aD):bw pX (ip++[b])=bw pX ip++[dm (cF b) pX]:=by
 unfold bw;rw [K7,QU];rfl
def aeK (g:bM pX (ip++[b])):bM pX ip:=⟨g.np,g.nb.sublist ((agH _ _).map _),fun c hc=>g.ends c (O1 _ hc),g.sz,g.lp,by have:=g.lb;rw [ER] at this;omega,g.lw⟩
def zag (h:xs.length=n+1):gO xs none (some (-1))=xs.take n:=by
 unfold gO
 let e:HT.fW xs.length xs.length (some (-1))=n:=by
  rw [h];unfold HT.fW;simp;omega
 rw [e];rfl
def aa8 (pX:ν)(ip:ρ)(x w1 w2:Str)(H:Hp)(Q:VK):Prop:=
 (∀(M:Μ)(p:AG)(v:V)(H':Hp),aq H H' ->H' p=some (.tup [.str w1,v])->xC pX ip x M->Q (.ref p) H')/\
 ∀(T:Δ)(U:χ)(p:AG)(v v':V)(H':Hp),aq H H' ->H' p=some (.tup [.str w2,v,v'])->gI pX ip T U->(∀q∈pX,(U q.nm).length=q.ws.length)->T x=1->Q (.ref p) H'
inductive uk (K:Frag)(C:AG)(vs:θ)(H:Hp)(Q:VK)(E_:XK):Prop
|mk (a:AG)(pX:ν)(ip:ρ)(b:aD)(_:vs=[.ref a,.str b.nm,.str b.one.nm,.str b.jK.nm])(_:qN K H C a pX ip)(_:bM pX (ip++[b]))(_:aa8 pX (ip++[b]) b.nm "stiffer" "spare" H Q)
def eK:aE ["F","name","one","other","rows","told","own","forces","pulls"] Yq (ae fH):=sq
def anU (D:Def K mg "would_put" fH Yq)(aX:mg "len"=none)(MCb:bn P w K mg iN 2 C "check_bar" PQ (ib K C))
  (xm:am P w K mg iN 38 "draw_rows" KY (fw K C)) (Wz:am P w K mg iN 37 "bar_row" OB (nQ K C)) (WX:am P w K mg iN 38 "stretch_of" Vb (kR K C)) (WY:am P w K mg iN 1 "signs_turned" Rt (sk K)) (ET:am P w K mg iN 2 "motion_from" NX (jb K C)) (EU:am P w K mg iN 3 "pulls_and_pushes" NX (L9 K C)):
  am P w K mg iN 39 "would_put" Yq (uk K C):=by
 refine D.op eK fun f cL A lj s H vs Q E hr h=>?_;obtain ⟨a,pX,ip,b,rfl,R,g,q1,q2⟩:=h;let g0:=aeK g;let gl:=g.lp;let gb:=g.lb;rw [ER,Wx] at gb;let wl:ar pX<=2*pX.length:=fe pX g.lw;let ql:(bw pX ip).length=ar pX+ip.length:=eG pX ip;obtain ⟨m1,m2,m3⟩:=g.ends b (N8 _ EJ);let ebj:(ip++[b])[ip.length]?=some b:=by rw [Kx (DU _),xN];rfl
 let nob:b.nm∉ip.map (·.nm):=fun z=>by
  have:=g.nb;rw [K7,Vp] at this;exact this.2.2 b.nm z b.nm EJ rfl
 show ⟨_,(aa (cu (fu (k:=2) (pv 0) hr.mo (pY P w) (bR (pv 1) (pv 2) (pv 3)))) (aa (aG 4 eK.nd (aF gZ (aZ xm hr (aV (pv 0))) (bQ (aV (aZ Wz hr (bR (pv 0) (pv 2) (pv 3))))))) (aa (aG 5 eK.nd (aZ WX hr (bR (pv 0) (pv 4) (aF dB (aK av rfl aX bJ (aV (pv 4))) ag)))) (aa (bI (bW eR (aL (pv 5)) cU) (ah (aJ (aR (aT cU (aZ ET hr (aT (pv 0) (aL (pv 5)))))))) a_) (aa (aG 6 eK.nd (aZ WY hr (aV (aL (pv 5))))) (aa (aG 7 eK.nd (aZ EU hr (aT (pv 0) (cV fQ (pv 6) dP (dy (iA fO ag)))))) (aa (aG 8 eK.nd (aL (pv 7))) (aa (dQ (cW hr) (pv 8) (pv 1) (bD aS (pv 6) (iA fO ag)) rfl) (ah (aJ (aR (bR cU (pv 8) (aL (pv 7)))))))))))))),?_⟩;sleep 8
 obtain ⟨dx,pP,pW,pB,kP,kW,kB,F0,W0⟩:=R.ex;show ⟨_,rfl,a,C,dx,_,_,_,rfl,F0.obj,rfl,MCb,_,rfl,_,rfl,_,rfl,a,dx,pP,pW,pB,_,_,kP,kW,kB,b.nm,b.one.nm,b.jK.nm,rfl,F0,by rwa [ju],by rw [dh];exact CZ.mpr ⟨_,m1,rfl⟩,by rw [dh];exact CZ.mpr ⟨_,m2,rfl⟩,m3,by rw [ir];omega,_,rfl,a,pX,ip,rfl,R,g0,fun r ls cy H1 s1 nr RR=>?_⟩;let Ma:ls.length=(bw pX ip).length:=by rw [RR.iW.2.1,RR.num.1]
 show ⟨_,rfl,_,rfl,_,rfl,a,pX,ip,b,rfl,R.ji s1,g0,m1,m2,m3,fun l us H2 s2 nl el nm=>⟨rh,?_⟩⟩;intros l3 n3 H3 s3 e3;let IU:=s2.trans s3;show ⟨r,l3,_,_,rfl,rfl,IU _ _ RR.iW.1,e3,(by rw [ir];exact DC (show ls.length+1<=100 by omega) gt),?_⟩;intros r4 n4 H4 s4 e4;let ZQ:=IU.trans s4;let jP:=s1.trans ZQ
 let RR4:iI K H4 r4 (ls++[l]) (cy++[us]) (bw pX (ip++[b])):=by
  rw [aaV];let el4:=(s3.trans s4) _ _ el;show ⟨⟨by rw [e4,K7];rfl,by simp [RR.iW.2.1],xj RR.iW.2.1 (fun i l' vs e1 e2=>ZQ _ _ (RR.iW.2.2 i l' vs e1 e2)) el4⟩,mi (RR.num.ji ZQ) (nm.ji (s3.trans s4)),fun z=>?_⟩
  rcases K2.mp z with z|z
  ·obtain ⟨i,ei⟩:=D_ z
   let hi:=(be.mp ei).1;let e5:=RR.iW.2.2 i r4 _ ei (gE (by have:=RR.iW.2.1;omega));erw [IU _ _ e5] at n4
  ·rw [K3.mp z,s3 _ _ el] at n4
   cases n4
 show ⟨_,rfl,_,rfl,_,rfl,r4,_,rfl,.inl (aU.of e4),_,_,rfl,rfl,?_⟩
 let et:(((ls.map V.ref++[V.ref l]).length:Nat):Int)-1=((ar pX+ip.length:Nat):Int):=by
  rw [ER,ir,Wx];omega
 rw [et];show ⟨a,r4,pX,ip,ip++[b],ls++[l],cy++[us],ip.length,b,rfl,R.ji jP,g,RR4,ebj,?_,?_⟩
 ·intro M p y us HA sA ep ex lx tk
  show ⟨_,rfl,p,_,_,_,rfl,rfl,bK.of ep,rfl,rfl,_,rfl,bU (fun _=>?_) (fun c=>DL (by simp [lV]) c)⟩;let OZ:=jP.trans sA;show ⟨_,rfl,_,rfl,p,_,_,_,rfl,rfl,bK.of ep,rfl,a,y,pX,ip,us,rfl,R.ji OZ,g0,ex,lx,fun dM HB sB=>⟨qp,?_⟩⟩;intros pt nC HC sC eC;exact q1 M pt _ HC (OZ.trans (sB.trans sC)) eC tk
 ·intro T U p y us ys HA sA ep ey ny ly no lU tb
  show ⟨_,rfl,p,_,_,_,rfl,rfl,bK.of ep,rfl,rfl,_,rfl,bU (fun c=>DL c (by simp [lV];decide+kernel)) (fun _=>?_)⟩;let OZ:=jP.trans sA;let lus:us.length=ys.length:=EO ny;rw [ER,Wx] at ly;show ⟨_,rfl,p,_,_,_,rfl,rfl,bK.of ep,rfl,y,us,ys,rfl,ey,ny,ga,fun l9 Uj HB sB eB pB'=>?_⟩;let Qc:=OZ.trans sB;let l99:Uj.length=ar pX+ip.length+1:=by rw [EO pB',ir];omega
  show ⟨_,rfl,_,rfl,_,rfl,_,rfl,l9,_,rfl,aU.of eB,?_⟩;rw [zag l99];intros l10 n10 HC T4 Wg;let s0C:=Qc.trans T4;show ⟨a,l10,pX,ip,Uj.take (ar pX+ip.length),(ys.map fun r=> -r).take (ar pX+ip.length),rfl,R.ji s0C,g0,Wg,eI _ (Paired.cg pB' fun _ _ z=>z.ji T4),by rw [KI,ir];show _=ar pX+_;omega,fun T' U' Lx pf dT dU kT kU HD sD er Qd PR=>?_⟩;let sBD:=T4.trans sD
  let lkT:kT.length<=27:=by
   have:=oP NO PR.WA;rw [ir,ir] at this;omega
  obtain ⟨v,ev⟩:∃v,Uj[ar pX+ip.length]?=some v:=⟨_,gE ga⟩;let ate:gS Uj (-1)=some v:=zaO (by rw [l99];exact ev);show ⟨_,rfl,pf,_,_,_,rfl,rfl,bK.of Qd,rfl,_,rfl,_,rfl,l9,_,_,_,rfl,rfl,aU.of (sBD _ _ eB),ate,_,rfl,_,rfl,dT,_,rfl,iS.k (k:=.inr b.nm) PR.hT (FU (show kT.length<=1000 by omega) gt),?_⟩;let kE:bh dT HD (upd HD dT (.dK (putK kT (.inr b.nm) v))):=bh.upd;generalize upd HD dT (.dK (putK kT (.inr b.nm) v))=HE at kE ⊢;let ahJ:=kE _ _ (fun z=>by erw [z,PR.hT] at Qd) Qd;show ⟨_,rfl,_,rfl,pf,_,_,_,rfl,rfl,bK.of ahJ,rfl,z3L,?_⟩;intros pt nF HF sF eF;exact q2 T U pt _ _ HF (fun b' o e=>sF _ _ (kE _ _ (fun z=>by erw [z,s0C.free PR.nT] at e) (sD _ _ (s0C _ _ e)))) eF no lU tb
inductive um (K:Frag)(C:AG)(vs:θ)(H:Hp)(Q:VK)(E_:XK):Prop
|mk (a:AG)(pX:ν)(ip:ρ)(b:aD)(_:vs=[.ref a,.str b.nm])(_:qN K H C a pX ip)(_:bM pX ip)(_:b∈ip)(_:aa8 pX ip b.nm "looser" "less" H Q)
def zQ:aE ["F","name","bars","rows","told","forces"] ["F","name"] (ae Lr):=sq
def aa9 (D:Def K mg "would_take" Lr ["F","name"])(aX:mg "len"=none)(MB:bn P w K mg iN 1 C "bars" K8 (js K C))
  (xm:am P w K mg iN 38 "draw_rows" KY (fw K C)) (WX:am P w K mg iN 38 "stretch_of" Vb (kR K C)) (WY:am P w K mg iN 1 "signs_turned" Rt (sk K)) (ET:am P w K mg iN 2 "motion_from" NX (jb K C)) (EU:am P w K mg iN 3 "pulls_and_pushes" NX (L9 K C)):
  am P w K mg iN 39 "would_take" ["F","name"] (um K C):=by
 refine D.oo zQ fun H hr h=>?_;obtain ⟨a,pX,ip,b,rfl,R,g,hb,q1,q2⟩:=h;let gl:=g.lp;let gb:=g.lb;let wl:ar pX<=2*pX.length:=fe pX g.lw;let ql:(bw pX ip).length=ar pX+ip.length:=eG pX ip
 show ⟨_,(aa (aG 2 zQ.nd (cM (k:=1) (pv 0) hr.mo (Oq P w))) (aa (bI (v_ mZ (pv 1) (pv 2) rfl) (ah (dR)) a_) (aa (aG 3 zQ.nd (aZ xm hr (aV (pv 0)))) (aa (aG 4 zQ.nd (aZ WX hr (bR (pv 0) (pv 3) (aF cD (aF dB (aK av rfl aX bJ (aV (pv 3))) (aK av rfl aX bJ (aV (pv 2)))) (lH Ov PySem.F.slot_list_index PySem.F.type_list_index ae' (pv 2) (aV (pv 1))))))) (aa (bI (bW eR (aL (pv 4)) cU) (ah (aJ (aR (aT cU (aZ ET hr (aT (pv 0) (aL (pv 4)))))))) a_) (aa (aG 5 zQ.nd (aZ EU hr (aT (pv 0) (aZ WY hr (aV (aL (pv 4))))))) (ah (aJ (aR (bR cU (aL (pv 5)) (aL (pv 5)))))))))))),?_⟩;sleep 6
 obtain ⟨dx,pP,pW,pB,kP,kW,kB,F1,W1⟩:=R.ex;show ⟨_,rfl,a,C,dx,_,_,_,rfl,F1.obj,rfl,MB,a,dx,pP,pW,pB,_,_,kP,kW,kB,rfl,F1,fun lb H1 s1 nlb EN=>?_⟩;rw [ju] at EN;show ⟨_,rfl,_,rfl,lb,_,rfl,.inl (aU.of EN),rfl,vC _,_,rfl,?_⟩;refine bU (fun c=>?_) (fun c=>?_)
 ·let c':(!XQ (.str b.nm) ((ip.map (·.nm)).map V.str))=true:=c
  erw [tJ,Kk (CZ.mpr ⟨b,hb,rfl⟩)] at c'
 obtain ⟨j,eb⟩:=D_ hb;let hj:=(be.mp eb).1;let ej:(ip.map (·.nm))[j]?=some b.nm:=by rw [Wp,eb];rfl
 let first:∀i,i<j->(ip.map (·.nm))[i]? ≠some b.nm:=fun i hi e=>by
  have:=cT g.nb e ej;omega
 show ⟨_,rfl,a,pX,ip,rfl,R.ji s1,g,fun r ls cy H2 s2 nr RR=>?_⟩;let Ma:ls.length=(bw pX ip).length:=by rw [RR.iW.2.1,RR.num.1]
 let WZ:=s2 _ _ EN
 let et:((ls.map V.ref).length:Int)-(((ip.map (·.nm)).map V.str).length:Int)+(j:Int)=((ar pX+j:Nat):Int):=by
  rw [ir,ir,ir];omega
 show ⟨_,rfl,_,rfl,_,rfl,r,_,rfl,.inl (aU.of RR.iW.1),_,rfl,lb,_,rfl,.inl (aU.of WZ),_,_,rfl,rfl,_,rfl,.inl ⟨rfl,_,aU.of WZ⟩,_,rfl,lb,_,b.nm,j,rfl,rfl,WZ,(by rw [ir];omega),ej,first,_,_,rfl,rfl,?_⟩;rw [et];let jF:=s1.trans s2;show ⟨a,r,pX,ip,ip,ls,cy,j,b,rfl,R.ji jF,g,RR,eb,?_,?_⟩
 ·intro M p y us HA sA ep ex lx tk
  show ⟨_,rfl,p,_,_,_,rfl,rfl,bK.of ep,rfl,rfl,_,rfl,bU (fun _=>?_) (fun c=>DL (by simp [lV]) c)⟩;let OZ:=jF.trans sA;show ⟨_,rfl,_,rfl,p,_,_,_,rfl,rfl,bK.of ep,rfl,a,y,pX,ip,us,rfl,R.ji OZ,g,ex,lx,fun dM HB sB=>⟨qp,?_⟩⟩;intros pt nC HC sC eC;exact q1 M pt _ HC (OZ.trans (sB.trans sC)) eC tk
 ·intro T U p y us ys HA sA ep ey ny ly no lU tb
  show ⟨_,rfl,p,_,_,_,rfl,rfl,bK.of ep,rfl,rfl,_,rfl,bU (fun c=>DL c (by simp [lV];decide+kernel)) (fun _=>?_)⟩;let OZ:=jF.trans sA;let lus:us.length=ys.length:=EO ny;show ⟨_,rfl,_,rfl,p,_,_,_,rfl,rfl,bK.of ep,rfl,y,us,ys,rfl,ey,ny,ga,fun l9 Uj HB sB eB pB=>?_⟩;let Qc:=OZ.trans sB;show ⟨a,l9,pX,ip,Uj,_,rfl,R.ji Qc,g,eB,pB,by rw [ir,ly],fun T' U' Lx pf dT dU kT kU HC sC er Qd PR=>?_⟩;show ⟨_,rfl,pf,_,_,_,rfl,rfl,bK.of Qd,rfl,_,rfl,pf,_,_,_,rfl,rfl,bK.of Qd,rfl,z3L,?_⟩;intros pt nD HD sD eD;exact q2 T U pt _ _ HD (Qc.trans (sC.trans sD)) eD no lU tb
def uq {Z β:Type}{nm:Z->Str}(b0:β){l:List Z}(nd:(l.map nm).Nodup)(f:Nat->β):∃T:Str->β,∀(i:Nat)(x:Z),l[i]?=some x->T (nm x)=f i:=by
 classical
 show ⟨fun s=>if h:∃i,(l.map nm)[i]?=some s then f h.choose else b0,fun i x e=>?_⟩;let e':(l.map nm)[i]?=some (nm x):=by rw [Wp,e];rfl
 let h:∃i,(l.map nm)[i]?=some (nm x):=⟨i,e'⟩;show (if h:∃i,(l.map nm)[i]?=some (nm x) then f h.choose else b0)=f i;rw [dif_pos h];exact oP f (cT nd h.choose_spec e')
def ke (a b:Rat×Rat):Rat:=a.1*b.2-a.2*b.1
def cJ (a b:Rat×Rat):Rat×Rat:=(a.1-b.1,a.2-b.2)
def u3 (u v:Rat×Rat)(r s:Rat):Rat×Rat:=((r*v.2-s*u.2) / ke u v,(u.1*s-v.1*r) / ke u v)
def xF (h:ke u v≠0)(r s:Rat):dt u (u3 u v r s)=r/\dt v (u3 u v r s)=s:=by
 unfold dt u3;constructor
 ·have:u.1*((r*v.2-s*u.2) / ke u v)+u.2*((u.1*s-v.1*r) / ke u v)=r*(ke u v / ke u v):=by
   unfold ke;grind
  rw [this,xG,aij _ h,xE]
 ·have:v.1*((r*v.2-s*u.2) / ke u v)+v.2*((u.1*s-v.1*r) / ke u v)=s*(ke u v / ke u v):=by
   unfold ke;grind
  rw [this,xG,aij _ h,xE]
def Mi (sp:Nat->Rat×Rat)(f g:Nat->Rat):Nat->(Rat×Rat)×(Rat×Rat)
 | 0=>((0,0),u3 (cJ (sp 1) (sp 0)) (cJ (sp 2) (sp 0)) (f 0) 0)
 | k+1=>((Mi sp f g k).2,u3 (cJ (sp (k+2)) (sp (k+1))) (cJ (sp (k+2)) (sp k)) (f (k+1)+dt (cJ (sp (k+2)) (sp (k+1))) (Mi sp f g k).2) (g k+dt (cJ (sp (k+2)) (sp k)) (Mi sp f g k).1))
def Pd (sp:Nat->Rat×Rat)(n:Nat):Prop:=3<=n/\∀k,k+2<n->ke (cJ (sp (k+1)) (sp k)) (cJ (sp (k+2)) (sp k))≠0
def Pe (u a b:Rat×Rat):dt u (cJ a b)=dt u a-dt u b:=by
 unfold dt cJ;grind
def afi (sp:Nat->Rat×Rat)(f g:Nat->Rat)(k:Nat):(Mi sp f g (k+1)).1=(Mi sp f g k).2:=rfl
def ag_ (st:Pd sp n)(f g:Nat->Rat):(∀k,k+1<n->dt (cJ (sp (k+1)) (sp k)) (cJ (Mi sp f g (k+1)).1 (Mi sp f g k).1)=f k)/\∀k,k+2<n->dt (cJ (sp (k+2)) (sp k)) (cJ (Mi sp f g (k+2)).1 (Mi sp f g k).1)=g k:=by
 let c2:∀k,k+2<n->ke (cJ (sp (k+2)) (sp (k+1))) (cJ (sp (k+2)) (sp k))≠0:=fun k hk z=>st.2 k hk (by
  unfold ke cJ at z ⊢
  grind)
 constructor
 ·intro k hk
  rw [Pe,afi];cases k with
  | zero=>
   show dt _ (u3 (cJ (sp 1) (sp 0)) (cJ (sp 2) (sp 0)) (f 0) 0)-dt _ (0,0)=_;rw [(xF (st.2 0 (by have:=st.1;omega)) _ _).1];unfold dt;grind
  | succ k=>
   show dt _ (u3 (cJ (sp (k+2)) (sp (k+1))) (cJ (sp (k+2)) (sp k)) _ _)-dt _ (Mi sp f g k).2=_;rw [(xF (c2 k hk) _ _).1];grind
 ·intro k hk
  rw [Pe];show dt _ (u3 (cJ (sp (k+2)) (sp (k+1))) (cJ (sp (k+2)) (sp k)) _ _)-dt _ (Mi sp f g k).1=_;rw [(xF (c2 k hk) _ _).2];grind
def FH (sp m:Nat->Rat×Rat)(o:Rat)(k:Nat):Rat×Rat:=((m k).1-o*((sp k).2-(sp 0).2),(m k).2+o*((sp k).1-(sp 0).1))
def JR (sp m:Nat->Rat×Rat)(o:Rat)(i j:Nat):dt (cJ (sp j) (sp i)) (cJ (FH sp m o j) (FH sp m o i))=dt (cJ (sp j) (sp i)) (cJ (m j) (m i)):=by
 unfold dt cJ FH;grind
def ahj (st:Pd sp n)(hW:ke W (cJ (sp (n-1)) (sp 0))≠0)(f g:Nat->Rat):∃m:Nat->Rat×Rat,m 0=(0,0)/\dt W (m (n-1))=0/\(∀k,k+1<n->dt (cJ (sp (k+1)) (sp k)) (cJ (m (k+1)) (m k))=f k)/\∀k,k+2<n->dt (cJ (sp (k+2)) (sp k)) (cJ (m (k+2)) (m k))=g k:=by
 obtain ⟨h1,h2⟩:=ag_ st f g;obtain ⟨m0,hm⟩:∃m:Nat->Rat×Rat,∀k,m k=(Mi sp f g k).1:=⟨fun k=>(Mi sp f g k).1,fun _=>rfl⟩;let z0:m0 0=(0,0):=by rw [hm];rfl
 let e:∀o,dt W (FH sp m0 o (n-1))=dt W (m0 (n-1))+o*ke (cJ (sp (n-1)) (sp 0)) W:=fun o=>by
  unfold dt FH ke cJ;grind
 let hW':ke (cJ (sp (n-1)) (sp 0)) W≠0:=fun z=>hW (by
  unfold ke at z ⊢
  grind)
 show ⟨FH sp m0 (-(dt W (m0 (n-1))) / ke (cJ (sp (n-1)) (sp 0)) W),?_,?_,fun k hk=>?_,fun k hk=>?_⟩
 ·unfold FH
  rw [z0];ext<;>grind
 ·rw [e,Rat.div_mul_cancel hW']
  grind
 ·rw [JR,hm,hm]
  exact h1 k hk
 ·rw [JR,hm,hm]
  exact h2 k hk
structure fC (pX:ν)(W:Rat×Rat):Prop where
 n3:3<=pX.length
 st:∀k p q r,pX[k]?=some p->pX[k+1]?=some q->pX[k+2]?=some r->ke (cJ q.sp p.sp) (cJ r.sp p.sp)≠0
 w0:∀p,pX[0]?=some p->p.ws=[(1,0),(0,1)]
 wl:∀p,pX[pX.length-1]?=some p->p.ws=[W]
 wm:∀k p,0<k->k+1<pX.length->pX[k]?=some p->p.ws=[]
 cr:∀p q,pX[0]?=some p->pX[pX.length-1]?=some q->ke W (cJ q.sp p.sp)≠0
def kg (pX:ν)(b:aD)(k d:Nat):Prop:=(d=1\/d=2)/\((pX[k]?=some b.one/\pX[k+d]?=some b.jK)\/(pX[k]?=some b.jK/\pX[k+d]?=some b.one))
def a9 (b c:aD):Bool:=decide ((b.one.nm=c.one.nm/\b.jK.nm=c.jK.nm)\/(b.jK.nm=c.one.nm/\b.one.nm=c.jK.nm))
def dC {pX:ν}(nd:(pX.map (·.nm)).Nodup){i j:Nat}(hi:pX[i]?=some p)(hj:pX[j]?=some q)(e:p.nm=q.nm):i=j:=by
 let h1:(pX.map (·.nm))[i]?=some p.nm:=by rw [Wp,hi];rfl
 let h2:(pX.map (·.nm))[j]?=some p.nm:=by rw [Wp,hj,e];rfl
 exact cT nd h1 h2
def zV (nd:(pX.map (·.nm)).Nodup)(hb:kg pX b k d)(hc:kg pX c k' d'):a9 b c=decide (k=k'/\d=d'):=by
 unfold a9;refine decide_eq_decide.mpr ⟨fun h=>?_,fun h=>?_⟩
 ·obtain ⟨d1,hb⟩:=hb
  obtain ⟨d2,hc⟩:=hc
  rcases hb with ⟨b1,b2⟩|⟨b1,b2⟩<;>rcases hc with ⟨c1,c2⟩|⟨c1,c2⟩<;>rcases h with ⟨h1,h2⟩|⟨h1,h2⟩
  ·have:=dC nd b1 c1 h1
   have:=dC nd b2 c2 h2;omega
  ·have:=dC nd b2 c1 h1
   have:=dC nd b1 c2 h2;omega
  ·have:=dC nd b1 c2 h1
   have:=dC nd b2 c1 h2;omega
  ·have:=dC nd b2 c2 h1
   have:=dC nd b1 c1 h2;omega
  ·have:=dC nd b2 c1 h1
   have:=dC nd b1 c2 h2;omega
  ·have:=dC nd b1 c1 h1
   have:=dC nd b2 c2 h2;omega
  ·have:=dC nd b2 c2 h1
   have:=dC nd b1 c1 h2;omega
  ·have:=dC nd b1 c2 h1
   have:=dC nd b2 c1 h2;omega
 ·obtain ⟨rfl,rfl⟩:=h
  rcases hb.2 with ⟨b1,b2⟩|⟨b1,b2⟩<;>rcases hc.2 with ⟨c1,c2⟩|⟨c1,c2⟩<;>rw [b1] at c1<;>rw [b2] at c2<;>have e1:=oP aA.nm (FA c1)<;>have e2:=oP aA.nm (FA c2)
  ·exact .inl ⟨e1,e2⟩
  ·exact .inr ⟨e2,e1⟩
  ·exact .inr ⟨e1,e2⟩
  ·exact .inl ⟨e2,e1⟩
def spF (pX:ν)(k:Nat):Rat×Rat:=(pX[k]?.map (·.sp)).getD (0,0)
def mq (h:pX[k]?=some p):spF pX k=p.sp:=by
 unfold spF;rw [h];rfl
def fC.strip (ch:fC pX W):Pd (spF pX) pX.length:=⟨ch.n3,fun k hk=>by
 let e0:=gE (show k<pX.length by omega);let e1:=gE (show k+1<pX.length by omega);let e2:=gE hk;rw [mq e0,mq e1,mq e2]
 exact ch.st k _ _ _ e0 e1 e2⟩
def ab2 {ip:ρ}(nd:(pX.map (·.nm)).Nodup)(ch:fC pX W)(oc:∀c∈ip,∃k d,kg pX c k d)(hb:b∈ip):∃M:Str->Rat×Rat,(∀p∈pX,∀w∈p.ws,dt w (M p.nm)=0)/\∀c∈ip,nY M c=if a9 b c=true then 1 else 0:=by
 obtain ⟨k0,d0,sb⟩:=oc b hb;let n3:=ch.n3;let ef:=gE (show 0<pX.length by omega);let el:=gE (show pX.length-1<pX.length by omega);obtain ⟨m,m0,mW,h1,h2⟩:=ahj ch.strip (W:=W) (by rw [mq ef,mq el];exact ch.cr _ _ ef el) (fun k=>if k=k0/\d0=1 then 1 else 0) (fun k=>if k=k0/\d0=2 then 1 else 0);obtain ⟨M,hM⟩:=uq (nm:=aA.nm) ((0:Rat),(0:Rat)) nd m;show ⟨M,fun p hp w hw=>?_,fun c hc=>?_⟩
 ·obtain ⟨i,ei⟩:=D_ hp
  let li:=(be.mp ei).1;rw [hM i p ei]
  rcases ail i with rfl|hi
  ·rw [m0]
   unfold dt;grind
  ·by_cases c:i+1<pX.length
   ·rw [ch.wm i p hi c ei] at hw
    cases hw
   ·obtain rfl:i=pX.length-1:=ga
    rw [ch.wl p ei] at hw;rwa [K3.mp hw]
 ·obtain ⟨k,d,sc⟩:=oc c hc
  rw [zV nd sb sc]
  let key:∀(p q:aA),pX[k]?=some p->pX[k+d]?=some q->dt (cJ q.sp p.sp) (cJ (M q.nm) (M p.nm))=if k=k0/\d0=d then 1 else 0:=fun p q hp hq=>by
   let lq:=(be.mp hq).1;rw [hM _ p hp,hM _ q hq,<-mq hp,<-mq hq]
   rcases sc.1 with rfl|rfl
   ·exact h1 k lq
   ·exact h2 k lq
  let fin:nY M c=if k=k0/\d0=d then 1 else 0:=by
   rcases sc.2 with ⟨c1,c2⟩|⟨c1,c2⟩
   ·rw [<-key _ _ c1 c2]
    rfl
   ·rw [<-key _ _ c1 c2]
    unfold nY dt cJ jt;grind
  rw [fin];by_cases z:k=k0/\d0=d
  ·rw [mK z,mK (Kk ⟨z.1.symm,z.2⟩)]
  ·rw [mJ z,mJ (fun y=>z (by have:=Km y;show ⟨this.1.symm,this.2⟩))]
theorem Pf {Z:Type}(t:Z->Rat)(p:Z->Bool):∀l:List Z,(l.map fun c=>t c*(if p c=true then 1 else 0)).sum=((l.filter p).map t).sum
 | []=>rfl
 | c::l=>by
  rw [DG,KR,Pf t p l,Pg];split
  ·rw [DG,KR]
   grind
  ·grind
def FJ (g:bM pX ip)(ch:fC pX W)(oc:∀c∈ip,∃k d,kg pX c k d)(h:gH pX ip T U L)(h':gH pX ip T' U' L)(hb:b∈ip):((ip.filter (a9 b)).map fun c=>T c.nm).sum=((ip.filter (a9 b)).map fun c=>T' c.nm).sum:=by
 obtain ⟨M,hw,hl⟩:=ab2 g.np ch oc hb
 let f:∀T:Str->Rat,(ip.map fun c=>T c.nm*nY M c).sum=((ip.filter (a9 b)).map fun c=>T c.nm).sum:=fun T=>by
  rw [<-Pf];exact oP List.sum (Ml fun c hc=>by rw [hl c hc])
 rw [<-f,<-f,<-WI g h hw,<-WI g h' hw]
def fD (b:aD):a9 b b=true:=Kk (.inl ⟨rfl,rfl⟩)
def ie (h:a9 b c=true):a9 c b=true:=by
 rcases Km h with ⟨h1,h2⟩|⟨h1,h2⟩
 ·exact Kk (.inl ⟨h1.symm,h2.symm⟩)
 ·exact Kk (.inr ⟨h2.symm,h1.symm⟩)
def iJ (h:a9 b c=true)(h':a9 c d=true):a9 b d=true:=by
 rcases Km h with ⟨h1,h2⟩|⟨h1,h2⟩<;>rcases Km h' with ⟨h3,h4⟩|⟨h3,h4⟩
 ·exact Kk (.inl ⟨h1.trans h3,h2.trans h4⟩)
 ·exact Kk (.inr ⟨h2.trans h3,h1.trans h4⟩)
 ·exact Kk (.inr ⟨h1.trans h3,h2.trans h4⟩)
 ·exact Kk (.inl ⟨h2.trans h3,h1.trans h4⟩)
theorem kh {Z:Type}(f g:Z->Rat):∀l:List Z,(l.map fun b=>f b+g b).sum=(l.map f).sum+(l.map g).sum
 | []=>by
  simp only [MV,Oe];grind
 | b::l=>by
  rw [DG,KR,kh f g l,DG,KR,DG,KR];grind
theorem JS {t f:aD->Rat}:∀(n:Nat) {l:ρ},l.length<=n->(∀b∈l,∀c∈l,a9 b c=true->f c=f b)->(∀b∈l,((l.filter (a9 b)).map t).sum=0)->(l.map fun b=>t b*f b).sum=0
 | _,[],_,_,_=>rfl
 | n+1,b::l,hl,hf,h=>by
  let split:∀(p:aD->Bool)(u:aD->Rat)(l:ρ),(l.map u).sum=((l.filter p).map u).sum+((l.filter fun x=> !p x).map u).sum:=fun p u l=>by
   induction l with
   | nil=>
    simp only [List.filter_nil,MV,Oe];grind
   | cons x l ih=>
    rw [DG,KR,ih,Pg,Pg];cases p x<;>simp only [Bool.not_true,Bool.not_false,if_true,if_false,DG,KR,Vv]<;>grind
  rw [split (a9 b)];let h0:=h b EJ
  let e1:(((b::l).filter (a9 b)).map fun c=>t c*f c).sum=0:=by
   have:(((b::l).filter (a9 b)).map fun c=>t c*f c)=((b::l).filter (a9 b)).map fun c=>f b*t c:=Ml fun c hc=>by
    obtain ⟨m,a⟩:=KN.mp hc;rw [hf b EJ c m a];grind
   rw [this,sj,h0];grind
  let e2:=JS (t:=t) (f:=f) n (l:=(b::l).filter fun x=> !a9 b x) (by
   rw [Pg,mJ (by rw [fD];exact KQ)]
   exact DC (Wi _ _) (Nat.le_of_succ_le_succ hl)) (fun x hx y hy=>hf x (KN.mp hx).1 y (KN.mp hy).1) (fun x hx=>by
   obtain ⟨mx,ax⟩:=KN.mp hx;rw [List.filter_filter]
   have:((b::l).filter fun y=>a9 x y && !a9 b y)=(b::l).filter (a9 x):=List.filter_congr fun y _=>by
    cases z:a9 x y with
    | false=>rfl
    | true=>
     have:a9 b y=false:=by
      cases w:a9 b y with
      | false=>rfl
      | true=>
       erw [iJ w (ie z)] at ax
     rw [this];rfl
   rw [this]
   exact h x mx)
  rw [e1,e2];grind
def JT (g:bM pX ip)(ch:fC pX W)(oc:∀c∈ip,∃k d,kg pX c k d)(h:gH pX ip T U L)(h':gH pX ip T' U' L)(lU:∀p∈pX,(U p.nm).length=p.ws.length)(lU':∀p∈pX,(U' p.nm).length=p.ws.length)(hp:p∈pX):U p.nm=U' p.nm:=by
 let bs:∀c:Rat×Rat->Rat,(ip.map fun b=>T b.nm*c (mv (cF b) p.nm)).sum=(ip.map fun b=>T' b.nm*c (mv (cF b) p.nm)).sum:=fun c=>by
  let z:=JS (t:=fun b=>T b.nm+ -(T' b.nm)) (f:=fun b=>c (mv (cF b) p.nm)) ip.length (DU _) (fun b hb d hd a=>?_) fun b hb=>?_
  ·have:(ip.map fun b=>(T b.nm+ -(T' b.nm))*c (mv (cF b) p.nm))=ip.map fun b=>T b.nm*c (mv (cF b) p.nm)+ -(T' b.nm*c (mv (cF b) p.nm)):=Ml fun b _=>by grind
   rw [this,kh,sum_neg] at z;grind
  ·obtain ⟨k,e,sb⟩:=oc b hb
   obtain ⟨k',e',sd⟩:=oc d hd;rw [zV g.np sb sd] at a;obtain ⟨rfl,rfl⟩:=Km a
   have:mv (cF d) p.nm=mv (cF b) p.nm:=by
    let ne:=(g.ends b hb).2.2
    rcases sb.2 with ⟨b1,b2⟩|⟨b1,b2⟩<;>rcases sd.2 with ⟨c1,c2⟩|⟨c1,c2⟩<;>rw [b1] at c1<;>rw [b2] at c2<;>have e1:=FA c1<;>have e2:=FA c2<;>unfold mv cF<;>rw [<-e1,<-e2]
    ·by_cases c1:p.nm=b.one.nm
     ·rw [mK c1,mJ (fun z=>ne (c1.symm.trans z)),mK c1]
     ·rw [mJ c1,mJ c1]
    ·by_cases c1:p.nm=b.one.nm
     ·rw [mK c1,mJ (fun z=>ne (c1.symm.trans z)),mK c1]
     ·rw [mJ c1,mJ c1]
   show c (mv (cF d) p.nm)=c (mv (cF b) p.nm);rw [this]
  ·let e:=FJ g ch oc h h' hb
   show ((ip.filter (a9 b)).map fun b=>T b.nm+ -(T' b.nm)).sum=0;rw [kh,sum_neg,e];grind
 obtain ⟨r1,r2⟩:=h p hp;obtain ⟨q1,q2⟩:=h' p hp;unfold dq at r1 r2 q1 q2
 let k1:sP (U p.nm) (p.ws.map (·.1))=sP (U' p.nm) (p.ws.map (·.1)):=by
  have:=bs (·.1);grind
 let k2:sP (U p.nm) (p.ws.map (·.2))=sP (U' p.nm) (p.ws.map (·.2)):=by
  have:=bs (·.2);grind
 let l1:=lU p hp;let l2:=lU' p hp;let n3:=ch.n3;obtain ⟨i,ei⟩:=D_ hp;let li:=(be.mp ei).1;generalize U p.nm=us at k1 k2 l1;generalize U' p.nm=vs at k1 k2 l2
 rcases ail i with rfl|hi
 ·rw [ch.w0 p ei] at k1 k2 l1 l2
  match us,vs,l1,l2 with
  | [a,b],[c,d],_,_=>
   simp [sP] at k1 k2;rw [show a=c by grind,show b=d by grind]
 ·by_cases c:i+1<pX.length
  ·rw [ch.wm i p hi c ei] at l1 l2
   rw [R7.mp l1,R7.mp l2]
  ·obtain rfl:i=pX.length-1:=ga
   rw [ch.wl p ei] at k1 k2 l1 l2;let ef:=gE (show 0<pX.length by omega);let cr:=ch.cr _ p ef ei;obtain ⟨a,rfl⟩:=Wy.mp l1;obtain ⟨b,rfl⟩:=Wy.mp l2
   ·let z1:sP [a] [W.1]=a*W.1:=by simp [sP];grind
    let z2:sP [a] [W.2]=a*W.2:=by simp [sP];grind
    let z3:sP [b] [W.1]=b*W.1:=by simp [sP];grind
    let z4:sP [b] [W.2]=b*W.2:=by simp [sP];grind
    let k1:a*W.1=b*W.1:=by rwa [<-z1,<-z3]
    let k2:a*W.2=b*W.2:=by rwa [<-z2,<-z4]
    generalize cJ p.sp pX[0].sp=v at cr
    have:(a-b)*ke W v=0:=by
     let e:(a-b)*ke W v=(a*W.1-b*W.1)*v.2-(a*W.2-b*W.2)*v.1:=by
      unfold ke;grind
     rw [e,k1,k2];grind
    rcases Rat.mul_eq_zero.mp this with z|z
    ·rw [show a=b by grind]
    ·exact DL z cr
def cell (ns:π)(k:Int):Int:=if k<(ns.length:Int) then (ns[k.toNat]?).getD 0 else ((((k+5)*(k+5)*48271).fmod 2147483647)*(((k+5)*(k+5)*48271).fmod 2147483647)).fmod 2147483629
def jx {x m:Int}(h:0<m):0<=x.fmod m/\x.fmod m<m:=⟨Zc x h,zg x h⟩
inductive mw (K:Frag)(vs:θ)(H:Hp)(Q:VK)(E_:XK):Prop
|mk (a:AG)(ns:π)(k:Int)(_:vs=[.ref a,.int k])(_:aU K H a (ns.map V.int))(_:0<=k)(_:k<=1000)(_:Q (.int (cell ns k)) H)
def cell_in {ns:π}(h0:0<=k)(h:k<(ns.length:Int)):gS (ns.map V.int) k=some (.int (cell ns k)):=by
 let hk:k.toNat<ns.length:=ga
 let ek:k=((k.toNat:Nat):Int):=ga
 let q:gS (ns.map V.int) ((k.toNat:Nat):Int)=some (.int (cell ns k)):=bE (by
  unfold cell;rw [mK h,Wp,gE hk]
  rfl)
 rwa [<-ek] at q
def jy (h:i.natAbs<2^k):intBits i<=k:=intBits_le_iff.mpr h
def zab (hb:∀i∈ns,intBits i<=1048576)(k:Int):intBits (cell ns k)<=1048576:=by
 unfold cell;split
 ·cases e:ns[k.toNat]? with
  | none=>exact intBits_le_iff.mpr (by show 0<2^1048576;exact zo _)
  | some v=>exact hb v (DE e)
 ·have:=jx (x:=((((k+5)*(k+5)*48271).fmod 2147483647)*(((k+5)*(k+5)*48271).fmod 2147483647))) (m:=2147483629) gt
  exact DC (jy (k:=40) (by show _<1099511627776;omega)) gt
def Ux:aE ["_law_script","_law_k","_law_part"] QD (ae Lv):=sq
def aa' (D:Def K mg "_law_cell_at" Lv QD)(aX:mg "len"=none):Fn P w K mg iN CX 1 "_law_cell_at" QD (mw K):=by
 refine D.oo Ux fun H hr h=>?_;obtain ⟨a,ns,k,rfl,hS,h0,h1,q⟩:=h
 show ⟨_,(aa (bI (bW Nf (pv 1) (aK av rfl aX bJ (aV (pv 0)))) (ah (aJ (bD aS (pv 0) (pv 1)))) a_) (aa (aG 2 Ux.nd (aF gP (aF bY (aF bY (aF cD (pv 1) ag) (aF cD (pv 1) ag)) ag) ag)) (ah (aJ (aF gP (aF bY (pv 2) (pv 2)) ag))))),?_⟩
 let hl:(ns.map V.int).length=ns.length:=ir _;show ⟨_,rfl,_,rfl,a,_,rfl,.inl hS,_,_,rfl,rfl,_,rfl,?_⟩;refine bU (fun c=>?_) (fun c=>?_)
 ·let c':k<(((ns.map V.int).length:Nat):Int):=Km c
  rw [hl] at c';show ⟨_,rfl,_,rfl,a,_,k,_,rfl,rfl,hS,cell_in h0 c',q⟩
 ·let c':¬ k<(((ns.map V.int).length:Nat):Int):=of_decide_eq_false (QS.mpr c)
  rw [hl] at c';let b5:intBits (k+5)<=11:=jy (by show _<2048;omega);let e1:=jx (x:=(k+5)*(k+5)*48271) (m:=2147483647) gt;let bp:intBits (((k+5)*(k+5)*48271).fmod 2147483647)<=31:=jy (by show _<2147483648;omega);show ⟨_,rfl,_,_,rfl,rfl,_,rfl,_,_,rfl,rfl,_,_,rfl,rfl,⟨DC b5 gt,DC b5 gt⟩,_,_,rfl,rfl,⟨DC (Q8 b5 b5) gt,by decide+kernel⟩,_,_,rfl,rfl,nz gt,_,rfl,_,rfl,_,_,rfl,rfl,⟨DC bp gt,DC bp gt⟩,_,_,rfl,rfl,nz gt,?_⟩
  let e:cell ns k=((((k+5)*(k+5)*48271).fmod 2147483647)*(((k+5)*(k+5)*48271).fmod 2147483647)).fmod 2147483629:=by
   unfold cell;rw [mJ c']
  rwa [e] at q
def field (c p m:Int):Int:=(((c.fmod p+11)*48271).fmod p).fmod m
def bX (h:0<m):0<=field c p m/\field c p m<m:=jx h
inductive gR (vs:θ)(H:Hp)(Q:VK)(E_:XK):Prop
|mk (c p m:Int)(_:vs=[.int c,.int p,.int m])(_:0<p)(_:p<=2000000)(_:0<m)(_:Q (.int (field c p m)) H)
def aba:aE OP OP (ae Lw):=sq
def abb (D:Def K mg "_law_field" Lw OP):Fn P w K mg iN CX 1 "_law_field" OP gR:=by
 refine D.oo aba fun H hr h=>?_;obtain ⟨c,p,m,rfl,hp,σ8,hm,q⟩:=h;show ⟨_,(ah (aJ (aF gP (aF gP (aF bY (aF cD (aF gP (pv 0) (pv 1)) ag) ag) (pv 1)) (pv 2)))),?_⟩;let e1:=jx (x:=c) hp;show ⟨_,rfl,_,rfl,_,_,rfl,rfl,nz ga,_,_,rfl,rfl,_,_,rfl,rfl,⟨DC (jy (k:=22) (by show _<4194304;omega)) gt,by decide+kernel⟩,_,rfl,_,_,rfl,rfl,nz ga,_,rfl,_,_,rfl,rfl,nz ga,q⟩
inductive gx (vs:θ)(H:Hp)(Q:VK)(E_:XK):Prop
|mk (t b:Int)(_:vs=[.int t,.int b])(_:0<b)(_:gives H Q (low t b))
def JU:aE ["_law_top","_law_bottom","_law_one","_law_other"] VQ (ae Ly):=sq
def abc (ht:P.given.tree=none)(D:Def K mg "_law_lowest" Ly VQ)(vE:mg "abs"=none):am P w K mg iN 33 "_law_lowest" VQ gx:=by
 refine D.oo JU fun H hr h=>?_;obtain ⟨t,b,rfl,hb,q⟩:=h
 show ⟨_,(aa (aG 2 JU.nd (aK yC rfl vE TY (aV (pv 0)))) (aa (aG 3 JU.nd (pv 1)) (aa (yA K6 (bW qB (pv 3) ag) (ah (agw (i:=2) (j:=3) rfl JU.nd rfl rfl gt rfl rfl (aT (pv 3) (aF gP (pv 2) (pv 3))) rfl))) (ah (aJ (aR (aT (aF (g7 ht (Ty.cK.py hr gt) rfl rfl rfl rfl rfl) (pv 0) (pv 2)) (aF (g7 ht (Ty.cK.py hr gt) rfl rfl rfl rfl rfl) (pv 1) (pv 2))))))))),?_⟩
 show ⟨_,rfl,t,rfl,_,rfl,?_⟩;refine yB (fun Y H'=>∃x y:Int,Y=[some (.int t),some (.int b),some (.int x),some (.int y)]/\H'=H/\0<=x/\0<=y/\KP x y=KP t b) (fun Y _=>match Y with|[_,_,_,some (.int y)]=>y.natAbs|_=>0) ⟨_,b,rfl,rfl,?_,ga,?_⟩ ?_ ?_
 ·split<;>omega
 ·split
  ·exact Int.neg_gcd
  ·rfl
 ·rintro Y H' ⟨x,y,rfl,rfl,hx,hy,g⟩
  show ⟨_,rfl,rfl,_,rfl,?_⟩;refine bU (fun c=>?_) (fun c=>?_)
  ·let ED:y≠0:=by
    intro z;subst z;simp at c
   show ⟨_,rfl,_,rfl,_,rfl,_,_,rfl,rfl,ED,_,_,rfl,⟨_,_,rfl,rfl,hy,Zc _ ga,by rwa [yL]⟩,vn ED⟩
  ·let ED:y=0:=by
    have:=QS.mpr c;simp at this;exact this
   subst ED
   let e:x=sg t b:=by
    rw [ah'] at g;unfold sg;rw [mJ ga];unfold gz;rw [<-g];omega
   subst e;let hbn:b≠0:=ga
   let c:=sX (t:=t) hbn;show ⟨_,rfl,_,rfl,_,_,rfl,rfl,c,_,rfl,_,rfl,_,_,rfl,rfl,c,qp,fun p hp=>?_⟩;exact q p _ (aH hp _) aj
 ·rintro Y H' Q1 Q2 h ⟨v,e1,e2,k,ek,z⟩
  show ⟨v,e1,e2,k,ek,h _ _ z⟩
structure Ns (n:Nat)(q:Int×Int):Prop where
 top:q.1.natAbs<=2^n
 bot:q.2.natAbs<=2^n
def Ns.up (h:Ns m q)(l:m<=n):Ns n q:=⟨DC h.top (L8 gt l),DC h.bot (L8 gt l)⟩
def oA (K:Frag)(H:Hp)(v:V)(n:Nat)(r:Rat):Prop:=∃q:Int×Int,oY K H v q/\0<q.2/\vl q=r/\Ns n q
theorem oA.ji (h:oA K H v n r)(s:aq H H'):oA K H' v n r:=by
 obtain ⟨q,h1,h2⟩:=h;show ⟨q,h1.ji s,h2⟩
theorem oA.bq (h:oA K H v n r)(s:bF H H'):oA K H' v n r:=by
 obtain ⟨q,h1,h2⟩:=h;show ⟨q,h1.bq s,h2⟩
theorem oA.up (h:oA K H v m r)(l:m<=n):oA K H v n r:=by
 obtain ⟨q,h1,h2,h3,h4⟩:=h;show ⟨q,h1,h2,h3,h4.up l⟩
def gj (h:g_ K H v r)(z:Zb n r):oA K H v n r:=⟨qr r,h,dF r,g9 r,⟨z.top,z.bot⟩⟩
def jH (h:Sz k r)(l:k<=n):Zb n r:=⟨O0 (Kq (intBits_le_iff.mp h.top) (L8 gt l)),O0 (Kq (intBits_le_iff.mp h.bot) (L8 gt l))⟩
def Zb.up (h:Zb m r)(l:m<=n):Zb n r:=⟨DC h.top (L8 gt l),DC h.bot (L8 gt l)⟩
def jO (x y:Int×Int):Int×Int:=(x.1*y.2+y.1*x.2,x.2*y.2)
def qi (x y:Int×Int):Int×Int:=(x.1*y.1,x.2*y.2)
def gC {a b:Int}(h1:a.natAbs<=2^m)(h2:b.natAbs<=2^n):(a*b).natAbs<=2^(m+n):=by
 rw [NL,Rz];exact Mc h1 h2
def afh (hx:0<x.2)(hy:0<y.2)(zx:Ns m x)(zy:Ns n y):0<(jO x y).2/\vl (jO x y)=vl x+vl y/\Ns (m+n+1) (jO x y):=by
 show ⟨Og hx hy,?_,?_,?_⟩
 ·unfold vl jO
  let z1:((x.2:Int):Rat)≠0:=cO (NA hx);let z2:((y.2:Int):Rat)≠0:=cO (NA hy);push_cast;grind
 ·let h1:=gC zx.top zy.bot
  let h2:=gC zy.top zx.bot;rw [WO n m] at h2;let h3:=Sk (x.1*y.2) (y.1*x.2);show (x.1*y.2+y.1*x.2).natAbs<=2^(m+n+1);rw [Se];omega
 ·exact DC (gC zx.bot zy.bot) (L8 gt ga)
def afF (hx:0<x.2)(hy:0<y.2)(zx:Ns m x)(zy:Ns n y):0<(qi x y).2/\vl (qi x y)=vl x*vl y/\Ns (m+n) (qi x y):=by
 show ⟨Og hx hy,?_,gC zx.top zy.top,gC zx.bot zy.bot⟩;unfold vl qi;let z1:((x.2:Int):Rat)≠0:=cO (NA hx);let z2:((y.2:Int):Rat)≠0:=cO (NA hy);push_cast;grind
inductive c_ (K:Frag)(f:Int×Int->Int×Int->Int×Int)(vs:θ)(H:Hp)(Q:VK)(E_:XK):Prop
|mk (u v:V)(x y:Int×Int)(m n:Nat)(_:vs=[u,v])(_:oY K H u x)(_:oY K H v y)(_:Ns m x)(_:Ns n y)(_:m+n<=130000000)(_:gives H Q (f x y))
def kX (h1:oA K H u m x)(h2:oA K H v n y)(l:m+n<=130000000)(k:∀(p:AG)(H':Hp),aq H H' ->oA K H' (.ref p) (m+n+1) (x+y)->Q (.ref p) H'):c_ K jO [u,v] H Q E:=by
 obtain ⟨q1,a1,a2,a3,a4⟩:=h1;obtain ⟨q2,b1,b2,b3,b4⟩:=h2;obtain ⟨c1,c2,c3⟩:=afh a2 b2 a4 b4;show ⟨u,v,q1,q2,m,n,rfl,a1,b1,a4,b4,l,fun p H' s e=>k p H' s ⟨jO q1 q2,⟨p,rfl,bK.of e⟩,c1,by rw [c2,a3,b3],c3⟩⟩
def so (h1:oA K H u m x)(h2:oA K H v n y)(l:m+n<=130000000)(k:∀(p:AG)(H':Hp),aq H H' ->oA K H' (.ref p) (m+n) (x*y)->Q (.ref p) H'):c_ K qi [u,v] H Q E:=by
 obtain ⟨q1,a1,a2,a3,a4⟩:=h1;obtain ⟨q2,b1,b2,b3,b4⟩:=h2;obtain ⟨c1,c2,c3⟩:=afF a2 b2 a4 b4;show ⟨u,v,q1,q2,m,n,rfl,a1,b1,a4,b4,l,fun p H' s e=>k p H' s ⟨qi q1 q2,⟨p,rfl,bK.of e⟩,c1,by rw [c2,a3,b3],c3⟩⟩
inductive fq (K:Frag)(vs:θ)(H:Hp)(Q:VK)(E_:XK):Prop
|mk (u:V)(x:Int×Int)(_:vs=[u])(_:oY K H u x)(_:gives H Q (0-x.1,x.2))
def ki (h1:oA K H u m x)(k:∀(p:AG)(H':Hp),aq H H' ->oA K H' (.ref p) m (-x)->Q (.ref p) H'):fq K [u] H Q E:=by
 obtain ⟨q1,a1,a2,a3,a4⟩:=h1;show ⟨u,q1,rfl,a1,fun p H' s e=>k p H' s ⟨(0-q1.1,q1.2),⟨p,rfl,bK.of e⟩,a2,?_,?_,a4.bot⟩⟩
 ·rw [<-a3]
  unfold vl;push_cast;grind
 ·have:=a4.top
  show (0-q1.1).natAbs<=2^m;omega
def abd:aE Mj Mj (ae Lz):=sq
def abe (D:Def K mg "_law_sum" Lz Mj):am P w K mg iN 1 "_law_sum" Mj (c_ K jO):=by
 refine D.oo abd fun H hr h=>?_;obtain ⟨u,v,x,y,m,n,rfl,⟨p1,rfl,h1⟩,⟨p2,rfl,h2⟩,zx,zy,l,q⟩:=h;show ⟨_,(ah (aJ (aR (aT (aF cD (aF iC (aL (pv 0)) (aL (pv 1))) (aF iC (aL (pv 1)) (aL (pv 0)))) (aF iC (aL (pv 0)) (aL (pv 1))))))),_,rfl,p1,_,_,_,rfl,rfl,h1,j6,_,rfl,p2,_,_,_,rfl,rfl,h2,jN,_,_,rfl,rfl,gA zx.top zy.bot ga,_,rfl,p2,_,_,_,rfl,rfl,h2,j6,_,rfl,p1,_,_,_,rfl,rfl,h1,jN,_,_,rfl,rfl,gA zy.top zx.bot ga,_,_,rfl,rfl,_,rfl,p1,_,_,_,rfl,rfl,h1,jN,_,rfl,p2,_,_,_,rfl,rfl,h2,jN,_,_,rfl,rfl,gA zx.bot zy.bot ga,qp,?_⟩;intros p3 n3 H3 s3 e3;exact q p3 H3 s3 e3
def abf:aE Mj Mj (ae LA):=sq
def abg (D:Def K mg "_law_times" LA Mj):am P w K mg iN 1 "_law_times" Mj (c_ K qi):=by
 refine D.oo abf fun H hr h=>?_;obtain ⟨u,v,x,y,m,n,rfl,⟨p1,rfl,h1⟩,⟨p2,rfl,h2⟩,zx,zy,l,q⟩:=h;show ⟨_,(ah (aJ (aR (aT (aF iC (aL (pv 0)) (aL (pv 1))) (aF iC (aL (pv 0)) (aL (pv 1))))))),_,rfl,p1,_,_,_,rfl,rfl,h1,j6,_,rfl,p2,_,_,_,rfl,rfl,h2,j6,_,_,rfl,rfl,gA zx.top zy.top ga,_,rfl,p1,_,_,_,rfl,rfl,h1,jN,_,rfl,p2,_,_,_,rfl,rfl,h2,jN,_,_,rfl,rfl,gA zx.bot zy.bot ga,qp,?_⟩;intros p3 n3 H3 s3 e3;exact q p3 H3 s3 e3
def abh:aE QJ QJ (ae LB):=sq
def abi (D:Def K mg "_law_turned" LB QJ):am P w K mg iN 1 "_law_turned" QJ (fq K):=by
 refine D.oo abh fun H hr h=>?_;obtain ⟨u,x,rfl,⟨p1,rfl,h1⟩,q⟩:=h;show ⟨_,(ah (aJ (aR (aT (aF dB ag (aL (pv 0))) (aL (pv 0)))))),_,rfl,p1,_,_,_,rfl,rfl,h1,j6,_,_,rfl,rfl,_,rfl,p1,_,_,_,rfl,rfl,h1,jN,qp,?_⟩;intros p3 n3 H3 s3 e3;exact q p3 H3 s3 e3
def nameOf (st a k:Int):Str:=if st=0 then Txt.mul "p" (k+1) else if st=3 then Txt.mul "p" (30-k) else if st=1 then Txt.mul "p" a++Na (toString k)++Txt.mul "b" (5-a) else Txt.slice "12345" none (some a)++Na (toString k)
def afc:∀st:Fin 4,∀a:Fin 6,∀k:Fin 27,∀j:Fin 27,k≠j->nameOf (st.val:Int) (a.val:Int) (k.val:Int)≠nameOf (st.val:Int) (a.val:Int) (j.val:Int):=by decide+kernel
def ae0:∀n:Fin 32,MulOk "p" (n.val:Int)/\MulOk "b" (n.val:Int):=by
 intro n;unfold MulOk
 revert n
 decide+kernel
def aez:∀a:Fin 6,∀k:Fin 27,(Txt.mul "p" (a.val:Int)).length+(Na (toString (k.val:Int))).length<=1000/\
  (Txt.mul "p" (a.val:Int)++Na (toString (k.val:Int))).length+(Txt.mul "b" (5-(a.val:Int))).length<=1000/\(Txt.slice "12345" none (some (a.val:Int))).length+(Na (toString (k.val:Int))).length<=1000:=by decide+kernel
inductive FK (vs:θ)(H:Hp)(Q:VK)(E_:XK):Prop
|mk (st a k:Int)(_:vs=[.int st,.int a,.int k])(_:0<=a)(_:a<6)(_:0<=k)(_:k<27)(_:Q (.str (nameOf st a k)) H)
def abj:aE VR VR (ae LC):=sq
def abk (D:Def K mg "_law_name" LC VR)(JV:mg "str"=none):am P w K mg iN 1 "_law_name" VR FK:=by
 refine D.oo abj fun H hr h=>?_;obtain ⟨st,a,k,rfl,a0,a6,h0,h12,q⟩:=h
 show ⟨_,(aa (bI (bW eR (pv 0) ag) (ah (aJ (aF rQ cU (aF cD (pv 2) ag)))) a_) (aa (bI (bW eR (pv 0) ag) (ah (aJ (aF rQ cU (aF dB ag (pv 2))))) a_) (aa (bI (bW eR (pv 0) ag) (ah (aJ (aF lR (aF lR (aF rQ cU (pv 1)) (cQ mX rfl JV TZ (aV (pv 2)))) (aF rQ cU (aF dB ag (pv 1)))))) a_) (ah (aJ (aF lR (cV ac8 cU dP (dy (pv 1))) (cQ mX rfl JV TZ (aV (pv 2))))))))),?_⟩
 obtain ⟨kn,rfl⟩:∃n:Nat,k=(n:Int):=⟨k.toNat,ga⟩;obtain ⟨an,rfl⟩:∃n:Nat,a=(n:Int):=⟨a.toNat,ga⟩
 let mk:∀i:Int,0<=i->i<32->MulOk "p" i/\MulOk "b" i:=fun i a b=>by
  have:=ae0 ⟨i.toNat,ga⟩
  rwa [show ((⟨i.toNat,ga⟩:Fin 32).val:Int)=i by show ((i.toNat:Nat):Int)=i;omega] at this
 show ⟨_,rfl,rfl,_,rfl,?_⟩;refine bU (fun z=>?_) (fun z=>?_)
 ·let z':st=0:=by simpa [lV] using z
  subst z';show ⟨_,rfl,_,_,rfl,rfl,_,_,rfl,rfl,(mk _ ga ga).1,q⟩
 let z':¬ st=0:=by simpa [lV] using z
 show ⟨_,rfl,rfl,_,rfl,?_⟩;refine bU (fun z2=>?_) (fun z2=>?_)
 ·let z2':st=3:=by simpa [lV] using z2
  subst z2';show ⟨_,rfl,_,_,rfl,rfl,_,_,rfl,rfl,(mk _ ga ga).1,q⟩
 let z2':¬ st=3:=by simpa [lV] using z2
 let nl:=aez ⟨an,ga⟩ ⟨kn,ga⟩;let lg:(kn:Int).natAbs.log2<1920:=FU (Nat.log2_le_self _) (by show kn<1920;omega);show ⟨_,rfl,rfl,_,rfl,?_⟩;refine bU (fun z3=>?_) (fun z3=>?_)
 ·let z3':st=1:=by simpa [lV] using z3
  subst z3';show ⟨_,rfl,_,_,rfl,rfl,(mk _ ga ga).1,_,rfl,_,rfl,lg,_,_,rfl,rfl,DC nl.1 gt,_,rfl,_,_,rfl,rfl,_,_,rfl,rfl,(mk _ ga ga).2,_,_,rfl,rfl,DC nl.2.1 gt,q⟩
 ·let z3':¬ st=1:=by simpa [lV] using z3
  show ⟨_,rfl,_,rfl,_,rfl,(by decide+kernel),_,rfl,_,rfl,lg,_,_,rfl,rfl,DC nl.2.2 gt,?_⟩
  let e:nameOf st (an:Int) (kn:Int)=Txt.slice "12345" none (some (an:Int))++Na (toString (kn:Int)):=by
   unfold nameOf;rw [mJ z',mJ z2',mJ z3']
  rwa [e] at q
def namesOf (c:Int)(n:Nat):List Str:=(KC n).map fun (k:Nat)=>nameOf (field c 3001 4) (field c 4001 6) (k:Int)
def names_nodup (c:Int)(h:n<=27):(namesOf c n).Nodup:=by
 unfold namesOf;refine Vo _ (fun i j (z:i<n/\j<n/\i≠j) e=>?_) ((agB.mpr fun i j hi hj hij=>?_:(KC n).Pairwise fun i j=>i<n/\j<n/\i≠j))
 ·let i3:=bX (c:=c) (p:=3001) (m:=4) gt
  let i4:=bX (c:=c) (p:=4001) (m:=6) gt;have:=afc ⟨(field c 3001 4).toNat,ga⟩ ⟨(field c 4001 6).toNat,ga⟩ ⟨i,ga⟩ ⟨j,ga⟩ (fun y=>z.2.2 (oP Fin.val y));dsimp only at this;rw [RW i3.1,RW i4.1] at this;exact this e
 ·rw [Mf] at hi hj
  rw [zR,zR];show ⟨hi,hj,KJ hij⟩
inductive sr (K:Frag)(vs:θ)(H:Hp)(Q:VK)(E_:XK):Prop
|mk (c:Int)(n:Nat)(_:vs=[.int c,.int (n:Int)])(_:n<=27)(_:∀(l:AG)(H':Hp),aq H H' ->H l=none->H' l=some (.lst ((namesOf c n).map V.str))->Q (.ref l) H')
def jz:aE ["_law_cell","_law_many","_law_style","_law_at"] VN (ae fJ):=sq
def anT (D:Def K mg "_law_names" fJ VN)(bg:mg "range"=none)(gL:am P w K mg iN 1 "_law_field" OP gR)(ahN:am P w K mg iN 1 "_law_name" VR FK):am P w K mg iN 2 "_law_names" VN (sr K):=by
 refine D.oo jz fun H hr h=>?_;obtain ⟨c,n,rfl,ln,q⟩:=h
 show ⟨_,(aa (aG 2 jz.nd (aZ gL hr (bR (pv 0) ag ag))) (aa (aG 3 jz.nd (aZ gL hr (bR (pv 0) ag ag))) (ah (aJ (df (tn:=VU) (fr:=["_law_style","_law_at"]) (mL:=[2,3]) (bS rfl bg (aV (pv 1))) (qP ahN hr (bR (pv 1) (pv 2) (pv 0)))))))),?_⟩
 let i1:=bX (c:=c) (p:=3001) (m:=4) gt;let i2:=bX (c:=c) (p:=4001) (m:=6) gt;show ⟨_,rfl,_,_,_,rfl,gt,gt,gt,_,rfl,_,_,_,rfl,gt,gt,gt,?_⟩;let en:((n:Nat):Int).toNat=n:=ga
 show ⟨_,rfl,(n:Int),rfl,ga,ga,fun D1 nD=>?_⟩;rw [en];refine jo (lo:=0) (n:=n) (oe:=[some (.int (field c 3001 4)),some (.int (field c 4001 6))]) (fun i v _=>v=.str (nameOf (field c 3001 4) (field c 4001 6) (i:Int))) nD (FU ln gt) (fun _ _ _ _ _ _ _ h=>h) ?_ ?_
 ·intro i H6 Rq hi s6 k
  rw [Kp];show ⟨_,rfl,_,rfl,_,rfl,_,_,_,rfl,i2.1,i2.2,ga,ga,k _ _ (aq.refl _) rfl⟩
 intro ys H4 hy h_ s4 hD;refine q D1 H4 s4 nD ?_
 have:ys=(namesOf c n).map V.str:=by
  refine Mt fun i=>?_;unfold namesOf;rw [K4,Wp];by_cases ci:i<n
  ·let hi:i<ys.length:=ga
   rw [gE hi,h_ i _ (gE hi),Oh ci];rfl
  ·rw [EZ ga,EZ (by rw [Mf];omega)]
   rfl
 rwa [<-this]
def JW (h:H p=some (.tup [.int (qr r).1,.int (qr r).2])):g_ K H (.ref p) r:=⟨p,rfl,bK.of h⟩
structure lM where
 a:Int
 b:Int
 c:Int
 d:Int
 w:Int
 h:Int
 bo:Int
structure lM.Ok (s:lM):Prop where
 dt:s.a*s.d-s.b*s.c≠0
 w:1<=s.w/\s.w<=9
 h:1<=s.h/\s.h<=9
 bo:1<=s.bo/\s.bo<=4
 a:s.a.natAbs<=1000003
 b:s.b.natAbs<=7
 c:s.c.natAbs<=7
 d:s.d.natAbs<=7
def lM.x (s:lM)(k:Nat):Int:=s.a*((k:Int)*s.w)+s.b*((k:Int).fmod 2*s.h)
def lM.y (s:lM)(k:Nat):Int:=s.c*((k:Int)*s.w)+s.d*((k:Int).fmod 2*s.h)
def lM.at (s:lM)(k:Nat):Rat×Rat:=((s.x k:Rat) / (s.bo:Rat),(s.y k:Rat) / (s.bo:Rat))
inductive xH (K:Frag)(vs:θ)(H:Hp)(Q:VK)(E_:XK):Prop
|mk (sA:AG)(ns:π)(n:Nat)(_:vs=[.ref sA,.int (n:Int)])(_:aU K H sA (ns.map V.int))(_:n<=8)(_:∀(l:AG)(us:θ)(s:lM)(H':Hp),aq H H' ->H l=none->H' l=some (.lst us)->s.Ok->us.length=n->(∀k u,us[k]?=some u->kG K H' u (s.at k))->Q (.ref l) H')
def bH:aE ["_law_script","_law_many","_law_cell","_law_wide","_law_high","_law_some","_law_a","_law_b","_law_c","_law_d","_law_bottom","_law_found","_law_k","_law_x","_law_y"] QE (ae fK):=sq
def anG (D:Def K mg "_law_spots" fK QE)(bg:mg "range"=none)(kZ:am P w K mg iN 1 "_law_cell_at" QD (mw K))(gL:am P w K mg iN 1 "_law_field" OP gR)(Ph:am P w K mg iN 33 "_law_lowest" VQ gx):am P w K mg iN 34 "_law_spots" QE (xH K):=by
 refine D.op bH fun f cL A lj s H vs Q E hr h=>?_;obtain ⟨sA,ns,n,rfl,hS,ln,q⟩:=h;let L4:4<=C_:=gt
 show ⟨_,(aa (aG 2 bH.nd (aZ kZ hr (aT (pv 0) ag))) (aa (aG 3 bH.nd (aF cD ag (aZ gL hr (bR (pv 2) ag ag)))) (aa (aG 4 bH.nd (aF cD ag (aZ gL hr (bR (pv 2) ag ag)))) (aa (aG 5 bH.nd (bQ (iu (aR (iu ag (bR ag ag ag))) (iu (aR (iu ag (bR ag ag ag))) (iu (aR (iu ag (bR (iA fO ag) ag ag))) (bR (aR (iu ag (bR (iA fO ag) ag ag))) (aR (iu (iA fO ag) (bR ag ag ag))) (aR (iu ag (bR ag ag ag))))))))) (aa (iO (bD aS (pv 5) (aZ gL hr (bR (pv 2) ag ag))) (ft rfl (aY (b9 6 bH.nd) (aY (b9 7 bH.nd) (aY (b9 8 bH.nd) (aY (b9 9 bH.nd) cZ)))))) (aa (aG 10 bH.nd (aF cD ag (aZ gL hr (bR (pv 2) ag ag)))) (aa (aG 11 bH.nd (bQ gF)) (aa (bG K6 rfl (bS rfl bg (aV (pv 1))) (b9 12 bH.nd) (aa (aG 13 bH.nd (aF bY (pv 12) (pv 3))) (aa (aG 14 bH.nd (aF bY (aF gP (pv 12) ag) (pv 4))) (ah (cu (lH Ov Ri Rh fE (pv 11) (aV (aR (aT (aZ Ph hr (aT (aF cD (aF bY (pv 6) (pv 13)) (aF bY (pv 7) (pv 14))) (pv 10))) (aZ Ph hr (aT (aF cD (aF bY (pv 8) (pv 13)) (aF bY (pv 9) (pv 14))) (pv 10)))))))))))) (ah (aJ (pv 11))))))))))),?_⟩;sleep 8
 show ⟨_,rfl,sA,ns,1,rfl,hS,gt,gt,?_⟩;generalize cell ns 1=c;let i1:=bX (c:=c) (p:=1009) (m:=9) gt;let i2:=bX (c:=c) (p:=2003) (m:=9) gt;let i3:=bX (c:=c) (p:=3001) (m:=6) gt;let i4:=bX (c:=c) (p:=4001) (m:=4) gt;show ⟨_,rfl,_,_,_,rfl,gt,gt,gt,_,_,rfl,rfl,_,rfl,_,_,_,rfl,gt,gt,gt,_,_,rfl,rfl,L4,?_⟩;intros t1 n1 H1 s1 e1;show ⟨L4,?_⟩;intros t2 n2 H2 s2 e2;show ⟨_,rfl,L4,?_⟩;intros t3 n3 H3 s3 e3;show ⟨_,rfl,L4,?_⟩;intros t4 n4 H4 s4 e4;show ⟨_,rfl,L4,?_⟩;intros t5 n5 H5 s5 e5;show ⟨L4,?_⟩;intros t6 n6 H6 s6 e6;show ⟨z6L,?_⟩;intros l7 n7 H7 s7 e7;let Uy:=s3.trans (s4.trans (s5.trans (s6.trans s7)))
 let pick:∃(t:AG)(a b c' d:Int),gS [V.ref t1,V.ref t2,V.ref t3,V.ref t4,V.ref t5,V.ref t6] (field c 3001 6)=some (.ref t)/\H7 t=some (.tup [.int a,.int b,.int c',.int d])/\a*d-b*c'≠0/\a.natAbs<=1000003/\b.natAbs<=7/\c'.natAbs<=7/\d.natAbs<=7:=by
  generalize field c 3001 6=f at i3
  rcases (by omega:f=0\/f=1\/f=2\/f=3\/f=4\/f=5) with rfl|rfl|rfl|rfl|rfl|rfl
  ·show ⟨t1,_,_,_,_,rfl,(s2.trans Uy) _ _ e1,gt,gt,gt,gt,gt⟩
  ·show ⟨t2,_,_,_,_,rfl,Uy _ _ e2,gt,gt,gt,gt,gt⟩
  ·show ⟨t3,_,_,_,_,rfl,(s4.trans (s5.trans (s6.trans s7))) _ _ e3,gt,gt,gt,gt,gt⟩
  ·show ⟨t4,_,_,_,_,rfl,(s5.trans (s6.trans s7)) _ _ e4,gt,gt,gt,gt,gt⟩
  ·show ⟨t5,_,_,_,_,rfl,(s6.trans s7) _ _ e5,gt,gt,gt,gt,gt⟩
  ·show ⟨t6,_,_,_,_,rfl,s7 _ _ e6,gt,gt,gt,gt,gt⟩
 obtain ⟨t,a,b,c',d,at',et,hd,za,zb,zc,zd⟩:=pick;show ⟨_,rfl,_,rfl,_,_,_,rfl,gt,gt,gt,l7,_,_,_,rfl,rfl,aU.of e7,at',t,_,rfl,bK.of et,rfl,_,_,rfl,_,_,rfl,_,_,rfl,_,_,rfl,rfl,_,rfl,_,_,_,rfl,gt,gt,gt,_,_,rfl,rfl,z0L,?_⟩;intros l8 n8 H8 s8 e8;let s07:=s1.trans (s2.trans Uy);let nl0:=s07.free n8;obtain ⟨S,MR,Ud,hS3,hS4,RO,hS6,hS7⟩:∃S:lM,S.a=a/\S.b=b/\S.c=c'/\S.d=d/\S.w=1+field c 1009 9/\S.h=1+field c 2003 9/\S.bo=1+field c 4001 4:=⟨⟨_,_,_,_,_,_,_⟩,rfl,rfl,rfl,rfl,rfl,rfl,rfl⟩;let ok:S.Ok:=⟨by rwa [MR,Ud,hS3,hS4],ga,ga,ga,ga,ga,ga,ga⟩;generalize 1+field c 1009 9=wd at RO;generalize 1+field c 2003 9=hg at hS6;generalize 1+field c 4001 4=bo at hS7;let ow:=ok.w;let oh:=ok.h;let ob:=ok.bo;let cm:∀{i j:Int},i.natAbs<1000000000000->j.natAbs<1000000000000->qG i j:=fun h1 h2=>⟨DC (Rm ga ga) gt,DC (Rm ga ga) gt⟩;let en:((n:Nat):Int).toNat=n:=ga
 show ⟨_,rfl,(n:Int),rfl,ga,ga,let I:dL:=fun i Y H'=>P8 fun (o12 o13 o14:Α) (us:θ)=>Y=[ce sA,some (.int (n:Int)),some (.int c),some (.int wd),some (.int hg),ce l7,some (.int a),some (.int b),some (.int c'),some (.int d),some (.int bo),ce l8,o12,o13,o14]/\aq H7 H'/\H' l8=some (.lst us)/\us.length=i/\∀k u,us[k]?=some u->kG K H' u (S.at k);cP (lo:=0) (n:=((n:Nat):Int).toNat) I ⟨none,none,none,[],rfl,s8,e8,rfl,fun k u h=>(by simp at h)⟩ ?_ ?_⟩
 ·rintro i Y H9 hi ⟨o12,o13,o14,us,rfl,s9,e9,lu,pu⟩
  let ek:(0:Int)+(i:Int)=(i:Int):=Kp _;rw [ek];let hf:=jx (x:=(i:Int)) (m:=2) gt
  let zx:((i:Int)*wd).natAbs<=63:=by
   rw [NL];exact DC (Mc (show (i:Int).natAbs<=7 by omega) (show wd.natAbs<=9 by omega)) gt
  let zy:((i:Int).fmod 2*hg).natAbs<=9:=by
   rw [NL];exact DC (Mc (show ((i:Int).fmod 2).natAbs<=1 by omega) (show hg.natAbs<=9 by omega)) gt
  show ⟨_,rfl,_,rfl,_,_,rfl,rfl,cm ga ga,_,rfl,_,_,rfl,rfl,nz gt,_,rfl,_,_,rfl,rfl,cm ga ga,_,rfl,.inl ⟨rfl,_,aU.of e9⟩,_,rfl,_,rfl,_,_,rfl,rfl,cm ga ga,_,rfl,_,rfl,_,_,rfl,rfl,cm ga ga,_,_,rfl,rfl,_,rfl,_,_,rfl,ga,fun p1 HA sa ea=>?_⟩;show ⟨_,rfl,_,rfl,_,_,rfl,rfl,cm ga ga,_,rfl,_,rfl,_,_,rfl,rfl,cm ga ga,_,_,rfl,rfl,_,rfl,_,_,rfl,ga,fun p2 HB sb eb=>?_⟩;show ⟨qp,?_⟩;intros p3 n10 HC sc ec;let R9:=sa.trans (sb.trans sc);show ⟨l8,_,_,rfl,rfl,R9 _ _ e9,FU (show us.length<=1000 by omega) gt,?_⟩;rw [pZ ga] at ea eb;let t9:bF HC (upd HC l8 (.lst (us++[.ref p3]))):=.list (R9 _ _ e9)
  let xe:S.at i=(((a*((i:Int)*wd)+b*((i:Int).fmod 2*hg):Int):Rat) / (bo:Rat),((c'*((i:Int)*wd)+d*((i:Int).fmod 2*hg):Int):Rat) / (bo:Rat)):=by
   unfold lM.at lM.x lM.y;rw [MR,Ud,hS3,hS4,RO,hS6,hS7]
  show ⟨_,_,_,us++[.ref p3],rfl,fun b' o z=>?_,aj,by rw [ER,lu];rfl,fun k u h=>?_⟩
  ·rw [ao (ak z n8)]
   exact R9 _ _ (s9 _ _ z)
  ·by_cases ck:k<us.length
   ·rw [K_ ck] at h
    exact ((pu k u h).ji R9).bq t9
   ·let hk:k=i:=by
     have:=(be.mp h).1;rw [ER] at this;simp at this;omega
    erw [Kx ga,hk,lu,xN] at h;rw [hk,xe];exact kG.bq ⟨p3,_,_,rfl,bK.of ec,JW (sc _ _ (sb _ _ ea)),JW (sc _ _ eb)⟩ t9
 ·rintro Y H9 ⟨o12,o13,o14,us,rfl,s9,e9,lu,pu⟩
  rw [en] at lu;show ⟨_,rfl,q l8 us S H9 (s07.trans s9) nl0 e9 ok lu pu⟩
def abl (k:Nat):((k:Int).fmod 2=0/\((k+1:Nat):Int).fmod 2=1)\/((k:Int).fmod 2=1/\((k+1:Nat):Int).fmod 2=0):=by
 rw [pF _ gt,pF _ gt];omega
def oB {a b c:Int}:(a:Rat) / (c:Rat)-(b:Rat) / (c:Rat)=((a-b:Int):Rat) / (c:Rat):=by
 push_cast;grind
def afB {a b c d e:Int}(he:e≠0)(z:(a:Rat) / (e:Rat)*((d:Rat) / (e:Rat))-(b:Rat) / (e:Rat)*((c:Rat) / (e:Rat))=0):a*d-b*c=0:=by
 let ne:((e:Int):Rat)≠0:=cO he
 have:((a*d-b*c:Int):Rat)=0:=by
  push_cast;grind
 exact Pc.mp this
theorem lM.Ok.ke {s:lM}(h:s.Ok)(k:Nat):ke (cJ (s.at (k+1)) (s.at k)) (cJ (s.at (k+2)) (s.at k))≠0:=fun z=>by
 let hb:=h.bo;unfold T_k95.ke cJ lM.at at z;dsimp only at z;rw [oB,oB,oB,oB] at z;let z:=afB ga z;let hw:=h.w;let hh:=h.h
 let e2:((k+2:Nat):Int).fmod 2=(k:Int).fmod 2:=by
  rw [pF _ gt,pF _ gt];omega
 let key:(s.x (k+1)-s.x k)*(s.y (k+2)-s.y k)-(s.y (k+1)-s.y k)*(s.x (k+2)-s.x k)= -((s.a*s.d-s.b*s.c)*(2*s.w*s.h*(((k+1:Nat):Int).fmod 2-(k:Int).fmod 2))):=by
  unfold lM.x lM.y;rw [e2];push_cast;grind
 rw [key] at z;let z:=Int.neg_eq_zero.mp z
 rcases QP.mp z with z|z
 ·exact h.dt z
 ·rcases QP.mp z with z|z
  ·rcases QP.mp z with z|z
   ·omega
   ·omega
  ·rcases abl k with ⟨f1,f2⟩|⟨f1,f2⟩<;>rw [f1,f2] at z<;>omega
def lM.Ok.inj {s:lM}(h:s.Ok)(e:s.at i=s.at j):i=j:=by
 let hb:=h.bo;let hw:=h.w;let ne:((s.bo:Int):Rat)≠0:=cO ga
 let e1:s.x i=s.x j:=by
  have:(s.x i:Rat) / (s.bo:Rat)=(s.x j:Rat) / (s.bo:Rat):=oP xA e;exact Pc.mp (by grind)
 let e2:s.y i=s.y j:=by
  have:(s.y i:Rat) / (s.bo:Rat)=(s.y j:Rat) / (s.bo:Rat):=oP wu e;exact Pc.mp (by grind)
 unfold lM.x at e1;unfold lM.y at e2;have:(s.a*s.d-s.b*s.c)*(((i:Int)-(j:Int))*s.w)=0:=by grind
 rcases QP.mp this with z|z
 ·exact DL z h.dt
 ·rcases QP.mp z with z|z<;>omega
def lM.Ok.sz {s:lM}(h:s.Ok)(hk:k<8):Sz 27 (s.at k).1/\Sz 27 (s.at k).2:=by
 let hb:=h.bo;let hw:=h.w;let hh:=h.h;let hf:=jx (x:=(k:Int)) (m:=2) gt
 let zx:((k:Int)*s.w).natAbs<=63:=by
  rw [NL];exact DC (Mc (show (k:Int).natAbs<=7 by omega) (show s.w.natAbs<=9 by omega)) gt
 let zy:((k:Int).fmod 2*s.h).natAbs<=9:=by
  rw [NL];exact DC (Mc (show ((k:Int).fmod 2).natAbs<=1 by omega) (show s.h.natAbs<=9 by omega)) gt
 let CC:∀{u v:Int},u.natAbs<=1000003->v.natAbs<=7->(u*((k:Int)*s.w)+v*((k:Int).fmod 2*s.h)).natAbs<134217728:=fun {u v} hu hv=>by
  let h1:=Sk (u*((k:Int)*s.w)) (v*((k:Int).fmod 2*s.h));rw [NL u,NL v] at h1;let h2:=Mc hu zx;let h3:=Mc hv zy;omega
 let zb:intBits s.bo<=27:=intBits_le_iff.mpr (by show _<134217728;omega);show ⟨DS ga (intBits_le_iff.mpr (CC h.a h.b)) zb,DS ga (intBits_le_iff.mpr (CC (DC h.c gt) h.d)) zb⟩
def oC {i:Int}(h:i.natAbs<1048576)(hk:20<=k):Sz k (i:Rat):=wQ (Kq h (show 2^20<=2^k from L8 gt hk)) ga
def qj (ws:Κ):Prop:=ws=[]\/(∃x y:Rat,ws=[(x,y)]/\¬ (x=0/\y=0)/\Sz 22 x/\Sz 22 y)\/ws=[(1,0),(0,1)]
def iX (i:Int)(h:H p=some (.tup [.int i,.int 1])):g_ K H (.ref p) (i:Rat):=⟨p,rfl,by rw [tK];exact bK.of h⟩
def abm (h:H p=some (.tup [u,v]))(h1:g_ K H u r)(h2:g_ K H v s):kG K H (.ref p) (r,s):=⟨p,u,v,rfl,bK.of h,h1,h2⟩
inductive mB (K:Frag)(H:Hp)(d:AG)(v:V)(p:aA):Prop
|mk (a l:AG)(s:V)(us:θ)(_:v=.ref a)(_:bK K H a [.str p.nm,s,.ref l])(_:kG K H s p.sp)(_:H l=some (.lst us))(_:rq K H us p.ws)(_:l≠d)
inductive k_ (K:Frag)(H:Hp)(v:V)(p:aA):Prop
|mk (a l:AG)(s:V)(us:θ)(_:v=.ref a)(_:bK K H a [.str p.nm,s,.ref l])(_:kG K H s p.sp)(_:H l=some (.lst us))(_:rq K H us p.ws)
inductive km (K:Frag)(H:Hp)(pX:ν)(v:V)(b:aD):Prop
|mk (a:AG)(i j:Nat)(_:v=.ref a)(_:bK K H a [.str b.nm,.int (i:Int),.int (j:Int)])(_:pX[i]?=some b.one)(_:pX[j]?=some b.jK)
section
variable {K:Frag}{H H':Hp}{v:V}{p:aA}{d:AG}
theorem mB.ji (h:mB K H d v p)(s:aq H H'):mB K H' d v p:=by
 obtain ⟨a,l,sv,us,e,h1,h2,h3,h4,h5⟩:=h;show ⟨a,l,sv,us,e,Ty.aq.cp s h1,h2.ji s,s _ _ h3,h4.ji s,h5⟩
theorem mB.upd (h:mB K H d v p)(e:H d=some (.lst xs)):mB K (L2.upd H d o) d v p:=by
 obtain ⟨a,l,sv,us,ev,h1,h2,h3,h4,h5⟩:=h;let t:bF H (L2.upd H d o):=.list e;show ⟨a,l,sv,us,ev,t.cp h1,h2.bq t,by rwa [ao h5],h4.bq t,h5⟩
def mB.r (h:mB K H d v p):k_ K H v p:=by
 obtain ⟨a,l,sv,us,e,h1,h2,h3,h4,_⟩:=h;show ⟨a,l,sv,us,e,h1,h2,h3,h4⟩
theorem k_.ji (h:k_ K H v p)(s:aq H H'):k_ K H' v p:=by
 obtain ⟨a,l,sv,us,e,h1,h2,h3,h4⟩:=h;show ⟨a,l,sv,us,e,Ty.aq.cp s h1,h2.ji s,s _ _ h3,h4.ji s⟩
def km.ji (h:km K H pX v b)(s:aq H H'):km K H' pX v b:=by
 obtain ⟨a,i,j,e,h1,h2,h3⟩:=h;show ⟨a,i,j,e,Ty.aq.cp s h1,h2,h3⟩
end
structure vS (pX:ν):Prop where
 np:(pX.map (·.nm)).Nodup
 ns:(pX.map (·.sp)).Nodup
 sz:∀p∈pX,Sz 27 p.sp.1/\Sz 27 p.sp.2
 ws:∀p∈pX,qj p.ws
def qj.sz (h:qj ws):∀w∈ws,Sz 22 w.1/\Sz 22 w.2:=fun w hw=>by
 rcases h with rfl|⟨x,y,rfl,_,h1,h2⟩|rfl
 ·cases hw
 ·have:w=(x,y):=by simpa using hw
  rw [this];show ⟨h1,h2⟩
 ·let e1:Sz 22 (1:Rat):=oC (k:=22) (i:=1) gt gt
  let e0:Sz 22 (0:Rat):=gv gt;have:w=(1,0)\/w=(0,1):=by simpa using hw
  rcases this with rfl|rfl
  ·show ⟨e1,e0⟩
  ·show ⟨e0,e1⟩
def qj.len (h:qj ws):ws.length<=2:=by
 rcases h with rfl|⟨x,y,rfl,_⟩|rfl<;>simp
structure zW (pX:ν)(ip:ρ):Prop where
 nb:(ip.map (·.nm)).Nodup
 ends:∀b∈ip,b.one∈pX/\b.jK∈pX/\b.one.nm≠b.jK.nm
def jf (inv:L2.St->Hp->Prop)(h1:∀N:L2.St->Hp->Prop,(∀Y' H',inv Y' H' ->N Y' H')->t {D with nx:=N} Y H)(h2:∀Y' H',inv Y' H' ->u D Y' H'):Yo t u D Y H:=h1 _ h2
def Pj (g:vS pX)(b:zW pX ip)(lp:pX.length<=9)(lb:ip.length<=27):bM pX ip:=
 ⟨g.np,b.nb,b.ends,fun p hp=>⟨(g.sz p hp).1,(g.sz p hp).2,(g.ws p hp).sz⟩,lp,lb,fun p hp=>(g.ws p hp).len⟩
def cnt (pX:ν)(x:Rat):Nat:=(pX.filter fun p=>decide (x<=p.sp.1)).length
inductive xJ (K:Frag)(vs:θ)(H:Hp)(Q:VK)(E_:XK):Prop
|mk (u v:V)(m n:Nat)(r r':Rat)(_:vs=[u,v])(_:oA K H u m r)(_:oA K H v n r')(_:m+n<=130000000)(_:Q (.bl (decide (r=r'))) H)
def ahh:aE Mj Mj (ae f9):=sq
def ahe (D:Def K mg "_law_same" f9 Mj):am P w K mg iN 1 "_law_same" Mj (xJ K):=by
 refine D.oo ahh fun H hr h=>?_;obtain ⟨u,v,m,n,r,r',rfl,⟨x,⟨p1,rfl,h1⟩,x2,x3,zx⟩,⟨y,⟨p2,rfl,h2⟩,y2,y3,zy⟩,l,q⟩:=h;show ⟨_,(ah (aJ (fk eR (aF iC (aL (pv 0)) (aL (pv 1))) (aF iC (aL (pv 1)) (aL (pv 0))) (fY _)))),_,rfl,p1,_,_,_,rfl,rfl,h1,j6,_,rfl,p2,_,_,_,rfl,rfl,h2,jN,_,_,rfl,rfl,gA zx.top zy.bot ga,_,rfl,p2,_,_,_,rfl,rfl,h2,j6,_,rfl,p1,_,_,_,rfl,rfl,h1,jN,_,_,rfl,rfl,gA zy.top zx.bot ga,rfl,?_⟩
 let e':decide (V.int (x.1*y.2)=V.int (y.1*x.2))=decide (r=r'):=by
  let z1:((x.2:Int):Rat)≠0:=cO (NA x2);let z2:((y.2:Int):Rat)≠0:=cO (NA y2);rw [<-x3,<-y3];refine decide_eq_decide.mpr ⟨fun z=>?_,fun z=>?_⟩
  ·let z:((x.1*y.2:Int):Rat)=((y.1*x.2:Int):Rat):=by injection z with z;rw [z]
   push_cast at z;unfold vl;grind
  ·unfold vl at z
   have:((x.1*y.2:Int):Rat)=((y.1*x.2:Int):Rat):=by
    push_cast;grind
   rw [Pc.mp this]
 rwa [<-e'] at q
def abn (h:j<n):wo n (j:Int)=some j:=by
 unfold wo;rw [mK ga,mK ga];simp
def JX {u:Z}(h:us[us.length-1]?=some u):gS us (-1)=some u:=by
 let l:=(be.mp h).1;unfold gS wo;rw [mJ gt,mK ga];show us[(-1+(us.length:Int)).toNat]?=some u;rwa [show (-1+(us.length:Int)).toNat=us.length-1 by omega]
def oF (c:Int)(S:lM)(n:Nat)(W:Rat×Rat)(k:Nat):aA:=⟨nameOf (field c 3001 4) (field c 4001 6) (k:Int),S.at k,if k=0 then [(1,0),(0,1)] else if k+1=n then [W] else []⟩
structure W9 (c:Int)(S:lM)(n:Nat)(W:Rat×Rat):Prop where
 ok:S.Ok
 n3:3<=n
 n8:n<=8
 cr:ke W (cJ (S.at (n-1)) (S.at 0))≠0
 z1:Sz 22 W.1
 z2:Sz 22 W.2
inductive xK (K:Frag)(vs:θ)(H:Hp)(Q:VK)(E_:XK):Prop
|mk (sA:AG)(ns:π)(n:Nat)(_:vs=[.ref sA,.int (n:Int)])(_:aU K H sA (ns.map V.int))(_:3<=n)(_:n<=8)(_:∀(l:AG)(us:θ)(c:Int)(S:lM)(W:Rat×Rat)(H':Hp),aq H H' ->H l=none->H' l=some (.lst us)->W9 c S n W->Paired (k_ K H') us ((KC n).map (oF c S n W))->Q (.ref l) H')
def qW:aE ["_law_script","_law_many","_law_names_here","_law_spots_here","_law_way","_law_far","_law_up","_law_pins_here"] QE (ae LD):=sq
def abo (D:Def K mg "_law_pins" LD QE)(bg:mg "range"=none)(kZ:am P w K mg iN 1 "_law_cell_at" QD (mw K))(gL:am P w K mg iN 1 "_law_field" OP gR)(kq:am P w K mg iN 2 "_law_names" VN (sr K))(zZ:am P w K mg iN 34 "_law_spots" QE (xH K))(va:am P w K mg iN 1 "_law_sum" Mj (c_ K jO))(Pk:am P w K mg iN 1 "_law_times" Mj (c_ K qi))(z5:am P w K mg iN 1 "_law_turned" QJ (fq K))(FL:am P w K mg iN 1 "_law_same" Mj (xJ K)):am P w K mg iN 35 "_law_pins" QE (xK K):=by
 refine D.oo qW fun H hr h=>?_;obtain ⟨sA,ns,n,rfl,hS,n3,n8,q⟩:=h;let L2:2<=C_:=gt
 let L3:3<=C_:=gt
 let L0:0<=C_:=gt
 show ⟨_,(aa (aG 2 qW.nd (aZ kq hr (aT (aZ kZ hr (aT (pv 0) ag)) (pv 1)))) (aa (aG 3 qW.nd (aZ zZ hr (aT (pv 0) (pv 1)))) (aa (aG 4 qW.nd (aR (aT (aR (aT (aF dB (aZ gL hr (bR (aZ kZ hr (aT (pv 0) ag)) ag ag)) ag) ag)) (aR (aT (aF cD ag (aZ gL hr (bR (aZ kZ hr (aT (pv 0) ag)) ag ag))) ag))))) (aa (aG 5 qW.nd (aZ va hr (aT (aL (bD aS (pv 3) (iA fO ag))) (aZ z5 hr (aV (aL (j5 (pv 3)))))))) (aa (aG 6 qW.nd (aZ va hr (aT (aL (bD aS (pv 3) (iA fO ag))) (aZ z5 hr (aV (aL (j5 (pv 3)))))))) (aa (bI (gD (aZ FL hr (aT (aZ Pk hr (aT (aL (pv 4)) (pv 6))) (aZ Pk hr (aT (aL (pv 4)) (pv 5)))))) (ah (aG 4 qW.nd (aR (aT (aZ va hr (aT (aL (pv 4)) (aR (aT ag ag)))) (aL (pv 4)))))) a_) (aa (tN (i:=7) (tn:=VU) (fr:=["_law_spots_here","_law_names_here"]) (mL:=[3,2]) qW.nd (bS rfl bg (aV (pv 1))) (aR (bR (bD (gy (K:=K) rfl) (pv 2) (pv 0)) (bD (gy (K:=K) rfl) (pv 1) (pv 0)) (bQ gF)))) (aa (iO (aR (bR (j5 (pv 2)) (j5 (pv 3)) (bQ (aT (aR (aT (aR (aT ag ag)) (aR (aT ag ag)))) (aR (aT (aR (aT ag ag)) (aR (aT ag ag)))))))) (lO (pv 7) ag set_list)) (aa (iO (aR (bR (bD aS (pv 2) (iA fO ag)) (bD aS (pv 3) (iA fO ag)) (bQ (aV (pv 4))))) (lO (pv 7) (iA fO ag) set_list)) (ah (aJ (pv 7)))))))))))),?_⟩;try dsimp only [rf,pC,Cx.yq,Cx.uS]
 show ⟨_,rfl,sA,ns,0,rfl,hS,gt,gt,_,rfl,?_⟩;generalize cell ns 0=c;show ⟨c,n,rfl,ga,fun lN H1 s1 nN eN=>?_⟩;show ⟨_,rfl,_,rfl,sA,ns,n,rfl,s1.seq hS,n8,fun lS us S H2 s2 nS eS ok lu pu=>?_⟩;let jF:=s1.trans s2;show ⟨_,rfl,sA,ns,1,rfl,jF.seq hS,gt,gt,?_⟩;obtain ⟨c1,hc1⟩:∃c1,cell ns 1=c1:=⟨_,rfl⟩;rw [hc1];let i1:=bX (c:=c1) (p:=5003) (m:=5) gt;let i2:=bX (c:=c1) (p:=6007) (m:=3) gt;show ⟨_,_,_,rfl,gt,gt,gt,_,_,rfl,rfl,L2,?_⟩;generalize field c1 5003 5=f1 at i1 ⊢;intros t1 m1 H3 s3 e3;show ⟨_,rfl,sA,ns,1,rfl,(jF.trans s3).seq hS,gt,gt,?_⟩;rw [hc1];show ⟨_,_,_,rfl,gt,gt,gt,_,_,rfl,rfl,L2,?_⟩;generalize field c1 6007 3=f2 at i2 ⊢;intros t2 m2 H4 s4 e4;show ⟨L2,?_⟩;intros t3 m3 H5 s5 e5;let CH:=s3.trans (s4.trans s5);let JG:=jF.trans CH;let eS5:=CH _ _ eS;obtain ⟨ul,eul⟩:∃u,us[us.length-1]?=some u:=⟨_,gE ga⟩;obtain ⟨u0,eu0⟩:∃u,us[0]?=some u:=⟨_,gE ga⟩;let al:=JX eul;let a0:gS us 0=some u0:=bE (j:=0) eu0;obtain ⟨pl,x1,y1,rfl,hl,nx1,ny1⟩:=(pu _ _ eul).ji CH;obtain ⟨p0,x0,y0,rfl,h0,nx0,ny0⟩:=(pu _ _ eu0).ji CH;rw [show us.length-1=n-1 by omega] at nx1 ny1;let zl:=ok.sz (show n-1<8 by omega);let z0:=ok.sz (show 0<8 by decide);let nz1:=gj nx1 (jH zl.1 (DU _));let nz2:=gj ny1 (jH zl.2 (DU _));let nz3:=gj nx0 (jH z0.1 (DU _));let nz4:=gj ny0 (jH z0.2 (DU _));show ⟨_,rfl,_,rfl,lS,_,_,_,rfl,rfl,aU.of eS5,al,pl,_,_,_,rfl,rfl,hl,j6,_,rfl,lS,_,_,_,rfl,rfl,aU.of eS5,a0,p0,_,_,_,rfl,rfl,h0,j6,?_⟩;dsimp only [iP];show fq K [_] _ _ E0;refine ki nz3 fun pT HT sT nT=>?_;show c_ K jO [_,_] _ _ E0;refine kX (nz1.ji sT) nT gt fun p6 H6 s6 far=>?_;let Qi:=sT.trans s6;show ⟨_,rfl,_,rfl,lS,_,_,_,rfl,rfl,aU.of (Qi _ _ eS5),al,pl,_,_,_,rfl,rfl,Ty.aq.cp Qi hl,jN,_,rfl,lS,_,_,_,rfl,rfl,aU.of (Qi _ _ eS5),a0,p0,_,_,_,rfl,rfl,Ty.aq.cp Qi h0,jN,?_⟩;dsimp only [iP];show fq K [_] _ _ E0;refine ki (nz4.ji Qi) fun pV HV sV nV=>?_;show c_ K jO [_,_] _ _ E0;refine kX ((nz2.ji Qi).ji sV) nV gt fun p7 H7 s7 up=>?_;let s67:=sV.trans s7;let Qh:=Qi.trans s67;let abq:=far.ji s67;let e57:=Qh _ _ e5;let w1n:g_ K H7 (.ref t1) ((f1-2:Int):Rat):=iX _ ((s4.trans (s5.trans Qh)) _ _ e3);let w2n:g_ K H7 (.ref t2) ((1+f2:Int):Rat):=iX _ ((s5.trans Qh) _ _ e4);let zw1:Sz 22 ((f1-2:Int):Rat):=oC ga gt;let zw2:Sz 22 ((1+f2:Int):Rat):=oC ga gt;generalize abt:(S.at (n-1)).1+ -(S.at 0).1=fr at abq;generalize hup:(S.at (n-1)).2+ -(S.at 0).2=ur at up;dsimp only [b_];refine jf (fun Y' H'=>P7 fun (t:AG) (W:Rat×Rat)=>Y' =[some (.ref sA),some (.int (n:Int)),some (.ref lN),some (.ref lS),some (.ref t),some (.ref p6),some (.ref p7),none]/\aq H7 H'/\kG K H' (.ref t) W/\W.1*ur≠W.2*fr/\Sz 22 W.1/\Sz 22 W.2) (fun N hN=>?_) ?_
 ·show ⟨_,rfl,t3,_,_,_,rfl,rfl,bK.of e57,j6,_,rfl,?_⟩
  dsimp only [iP];show c_ K qi [_,_] _ _ E0;refine so (gj w1n (jH zw1 (DU _))) up gt fun p8 H8 s8 m8=>?_;show ⟨_,rfl,t3,_,_,_,rfl,rfl,bK.of (s8 _ _ e57),jN,_,rfl,?_⟩;dsimp only [iP];show c_ K qi [_,_] _ _ E0;refine so ((gj w2n (jH zw2 (DU _))).ji s8) (abq.ji s8) gt fun p9 H9 s9 m9=>?_;show ⟨_,_,_,_,_,_,rfl,m8.ji s9,m9,gt,?_⟩;let uP:=s8.trans s9;show ⟨_,rfl,bU (fun cc=>?_) (fun cc=>hN _ _ ⟨t3,(_,_),rfl,uP,⟨t3,_,_,rfl,bK.of (uP _ _ e57),w1n.ji uP,w2n.ji uP⟩,fun z=>cc (Kk z),zw1,zw2⟩)⟩;let cc':((f1-2:Int):Rat)*ur=((1+f2:Int):Rat)*fr:=Km cc;show ⟨_,rfl,t3,_,_,_,rfl,rfl,bK.of (uP _ _ e57),j6,L2,?_⟩;intros tO mO Ho sO eO;dsimp only [iP];show c_ K jO [_,_] _ _ E0;let w1k:oY K Ho (.ref t1) (f1-2,1):=⟨t1,rfl,bK.of (((s4.trans (s5.trans Qh)).trans (uP.trans sO)) _ _ e3)⟩;show ⟨.ref t1,.ref tO,(f1-2,1),(1,1),22,1,rfl,w1k,⟨tO,rfl,bK.of eO⟩,⟨by show _<=4194304;omega,by show 1<=4194304;decide⟩,⟨gt,gt⟩,gt,fun pA HA sA eA=>?_⟩;let sOA:=sO.trans sA;show ⟨_,rfl,t3,_,_,_,rfl,rfl,bK.of (sOA _ _ (uP _ _ e57)),jN,L2,?_⟩;intros tW mW HW sW eW;let s7W:=uP.trans (sOA.trans sW)
  let hpA:g_ K HW (.ref pA) ((f1-1:Int):Rat):=iX _ (by
   rw [sW _ _ eA];show some (HO.tup [.int ((f1-2)*1+1*1),.int (1*1)])=_;rw [show (f1-2)*1+1*1=f1-1 by omega]
   rfl)
  refine hN _ _ ⟨tW,(_,_),rfl,s7W,⟨tW,_,_,rfl,bK.of eW,hpA,w2n.ji s7W⟩,fun z=>?_,oC ga gt,zw2⟩;let z:((f1-1:Int):Rat)*ur=((1+f2:Int):Rat)*fr:=z
  let u0:ur=0:=by
   push_cast at z cc';grind
  let f0:fr=0:=by
   let p2:((1+f2:Int):Rat)≠0:=cO ga;rw [u0] at cc';grind
  let eq:S.at (n-1)=S.at 0:=by
   rw [<-abt] at f0;rw [<-hup] at u0;exact Vj (by grind) (by grind)
  have:=ok.inj eq;omega
 rintro Y H8 ⟨t,W,rfl,s8,hW,neW,zW1,zW2⟩;let eN8:=((s2.trans (CH.trans Qh)).trans s8) _ _ eN;let eS8:=(Qh.trans s8) _ _ eS5;let pu8:∀k u,us[k]?=some u->kG K H8 u (S.at k):=fun k u h=>(pu k u h).ji (CH.trans (Qh.trans s8));let Qb:=JG.trans (Qh.trans s8);let en:((n:Nat):Int).toNat=n:=ga
 let abu:∀k,k<n->gS ((namesOf c n).map V.str) (k:Int)=some (.str (nameOf (field c 3001 4) (field c 4001 6) (k:Int))):=fun k hk=>bE (by
  unfold namesOf;rw [K4,Wp,Oh hk]
  rfl)
 show ⟨_,rfl,(n:Int),rfl,ga,ga,fun D1 nD=>?_⟩;rw [en];refine ahP (n:=n) (oe:=[some (.ref lS),some (.ref lN)]) (fun ys H=>∀(i:Nat)(v:V),ys[i]?=some v->mB K H D1 v ⟨nameOf (field c 3001 4) (field c 4001 6) (i:Int),S.at i,[]⟩) nD (FU n8 gt) (fun i v h=>by simp at h) ?_ ?_
 ·intro i ys H9 Rq hi ly py s9 eD k
  rw [Kp];obtain ⟨u,eu⟩:∃u,us[i]?=some u:=⟨_,gE ga⟩;show ⟨_,rfl,_,rfl,lN,_,_,_,rfl,rfl,aU.of (s9 _ _ eN8),abu i hi,_,rfl,_,rfl,lS,_,_,_,rfl,rfl,aU.of (s9 _ _ eS8),bE eu,L0,?_⟩;intros lE mE HE sE eE;show ⟨L3,?_⟩;intros pP mP HP sp eP;let sEp:=sE.trans sp;let new:mB K HP D1 (.ref pP) ⟨nameOf (field c 3001 4) (field c 4001 6) (i:Int),S.at i,[]⟩:=⟨pP,lE,u,[],rfl,bK.of eP,(pu8 i u eu).ji (s9.trans sEp),sp _ _ eE,.nil,fun z=>by erw [z,eD] at mE⟩;refine k _ _ sEp fun j v h=>?_;by_cases cj:j<ys.length
  ·rw [K_ cj] at h
   exact ((py j v h).ji sEp).upd (sEp _ _ eD)
  ·let hj:j=i:=by
    have:=(be.mp h).1;rw [ER] at this;simp at this;omega
   erw [Kx ga,hj,ly,xN] at h;rw [hj];exact new.upd (sEp _ _ eD)
 intro ys H9 ly py s9 eD;let eN9:=s9 _ _ eN8;let eS9:=s9 _ _ eS8;let nD0:=Qb.free nD;show ⟨_,rfl,lN,_,_,_,rfl,rfl,aU.of eN9,abu 0 ga,_,rfl,lS,_,_,_,rfl,rfl,aU.of eS9,a0,L2,?_⟩;intros a1 b1 HA1 sa1 ea1;show ⟨L2,?_⟩;intros a2 b2 HA2 sa2 ea2;show ⟨L2,?_⟩;intros a3 b3 HA3 sa3 ea3;show ⟨L2,?_⟩;intros a4 b4 HA4 sa4 ea4;show ⟨L2,?_⟩;intros a5 b5 HA5 X_ ea5;show ⟨L2,?_⟩;intros a6 b6 HA6 sa6 ea6;show ⟨L2,?_⟩;intros a7 b7 HA7 sa7 ea7;show ⟨L3,?_⟩;intros a8 b8 Uz sa8 ea8;let Mm:=sa6.trans (sa7.trans sa8);let s9A:=sa1.trans (sa2.trans (sa3.trans (sa4.trans (X_.trans Mm))));show ⟨_,rfl,D1,_,_,0,rfl,rfl,s9A _ _ eD,abn (j:=0) (show 0<ys.length by omega),?_⟩;let p0:mB K Uz D1 (.ref a8) ⟨nameOf (field c 3001 4) (field c 4001 6) ((0:Nat):Int),S.at 0,[(1,0),(0,1)]⟩:=⟨a8,a7,_,_,rfl,bK.of ea8,(pu8 0 _ eu0).ji (s9.trans s9A),sa8 _ _ ea7,.cons ⟨a3,_,_,rfl,bK.of ((sa4.trans (X_.trans Mm)) _ _ ea3),iX 1 ((sa2.trans (sa3.trans (sa4.trans (X_.trans Mm)))) _ _ ea1),iX 0 ((sa3.trans (sa4.trans (X_.trans Mm))) _ _ ea2)⟩ (.cons ⟨a6,_,_,rfl,bK.of ((sa7.trans sa8) _ _ ea6),iX 0 ((X_.trans Mm) _ _ ea4),iX 1 (Mm _ _ ea5)⟩ .nil),fun z=>by erw [z,(sa1.trans (sa2.trans (sa3.trans (sa4.trans (X_.trans sa6))))) _ _ eD] at b7⟩;let eD8:=s9A _ _ eD;let tA:bF Uz (upd Uz D1 (.lst (ys.set 0 (.ref a8)))):=.list eD8;let q0:mB K (upd Uz D1 (.lst (ys.set 0 (.ref a8)))) D1 (.ref a8) _:=p0.upd eD8;let qy:∀(i:Nat)(v:V),ys[i]?=some v->mB K (upd Uz D1 (.lst (ys.set 0 (.ref a8)))) D1 v ⟨nameOf (field c 3001 4) (field c 4001 6) (i:Int),S.at i,[]⟩:=fun i v h=>((py i v h).ji s9A).upd eD8
 let kp:∀b o,H8 b=some o->(upd Uz D1 (.lst (ys.set 0 (.ref a8)))) b=some o:=fun b o z=>by
  rw [ao (ak z nD)];exact s9A _ _ (s9 _ _ z)
 let eDb:(upd Uz D1 (.lst (ys.set 0 (.ref a8)))) D1=some (.lst (ys.set 0 (.ref a8))):=aj;generalize upd Uz D1 (.lst (ys.set 0 (.ref a8)))=HB at q0 qy kp eDb ⊢
 let nl:gS ((namesOf c n).map V.str) (-1)=some (.str (nameOf (field c 3001 4) (field c 4001 6) ((n-1:Nat):Int))):=JX (by
  unfold namesOf;rw [K4,ir,Mf,Wp,Oh ga]
  rfl)
 show ⟨_,rfl,_,rfl,lN,_,_,_,rfl,rfl,aU.of (kp _ _ eN8),nl,_,rfl,_,rfl,lS,_,_,_,rfl,rfl,aU.of (kp _ _ eS8),al,_,rfl,rh,?_⟩;intros g1 k1 HG1 sg1 eg1;show ⟨L3,?_⟩;intros g2 k2 HG2 sg2 eg2;let sg:=sg1.trans sg2
 let hix:wo (ys.set 0 (.ref a8)).length (-1)=some (n-1):=by
  rw [RQ,ly];unfold wo;rw [mJ gt,mK ga];congr 1;omega
 show ⟨_,rfl,_,rfl,D1,_,_,n-1,rfl,rfl,sg _ _ eDb,hix,?_⟩;let kpS:aq H8 HB:=kp;let pl':mB K HG2 D1 (.ref g2) ⟨nameOf (field c 3001 4) (field c 4001 6) ((n-1:Nat):Int),S.at (n-1),[W]⟩:=⟨g2,g1,_,_,rfl,bK.of eg2,(show kG K H8 _ (S.at (n-1)) from by have:=pu8 _ _ eul;rwa [show us.length-1=n-1 by omega] at this).ji (kpS.trans sg),sg2 _ _ eg1,.cons (hW.ji (kpS.trans sg)) .nil,fun z=>by erw [z,eDb] at k1⟩;let eDg:=sg _ _ eDb
 let crW:ke W (cJ (S.at (n-1)) (S.at 0))≠0:=fun z=>neW (by
  rw [<-hup,<-abt];unfold ke cJ at z
  grind)
 show ⟨_,rfl,q D1 ((ys.set 0 (.ref a8)).set (n-1) (.ref g2)) c S W _ (fun b o z=>?_) nD0 aj ⟨ok,n3,n8,crW,zW1,zW2⟩ (gi (by rw [RQ,RQ,ir,Mf,ly]) fun i v h=>?_)⟩
 ·rw [ao (ak z nD0)]
  exact sg _ _ (kp _ _ (Qb _ _ z))
 ·let hi:i<n:=by
   have:=(be.mp h).1;rwa [RQ,RQ,ly] at this
  show ⟨oF c S n W i,by rw [Wp,Oh hi];rfl,?_⟩;unfold oF;rw [Mr] at h;split at h
  ·rename_i c2
   rw [mK (by rw [RQ,ly];omega)] at h;cases h;rw [<-c2,mJ ga,mK ga];exact (pl'.upd eDg).r
  ·rename_i c2
   rw [Mr] at h;split at h
   ·rename_i c3
    erw [mK ga] at h;rw [<-c3,mK rfl];exact ((q0.ji sg).upd eDg).r
   ·rename_i c3
    rw [mJ (fun z=>c3 z.symm),mJ ga];exact (((qy i v h).ji sg).upd eDg).r
abbrev jI (c:Int)(S:lM)(n:Nat)(W:Rat×Rat):List aA:=(KC n).map (oF c S n W)
def fh (e:(jI c S n W)[k]?=some p):k<n/\p=oF c S n W k:=by
 rw [Wp] at e;obtain ⟨j,ej,rfl⟩:=K9.mp e;obtain ⟨h1,h2⟩:=be.mp ej;rw [Mf] at h1;rw [zR] at h2;show ⟨h1,by rw [h2]⟩
def W9.good (h:W9 c S n W):vS (jI c S n W):=by
 let n8:=h.n8;show ⟨?_,?_,fun p hp=>?_,fun p hp=>?_⟩
 ·have:(jI c S n W).map (·.nm)=namesOf c n:=by
   unfold jI namesOf;rw [K4];rfl
  rw [this];exact names_nodup c ga
 ·unfold jI
  rw [K4];exact Vo _ (fun i j (z:i≠j) e=>z (h.ok.inj e)) Ry
 ·obtain ⟨i,ei⟩:=D_ hp
  obtain ⟨hi,rfl⟩:=fh ei;exact h.ok.sz ga
 ·obtain ⟨i,ei⟩:=D_ hp
  obtain ⟨hi,rfl⟩:=fh ei;unfold oF;dsimp only;split
  ·exact .inr (.inr rfl)
  ·split
   ·refine .inr (.inl ⟨W.1,W.2,rfl,fun z=>h.cr ?_,h.z1,h.z2⟩)
    unfold ke;rw [z.1,z.2];grind
   ·exact .inl rfl
def W9.chain (h:W9 c S n W):fC (jI c S n W) W:=by
 let n3:=h.n3;let ln:(jI c S n W).length=n:=by rw [ir,Mf]
 show ⟨ga,fun k p q r hp hq hr=>?_,fun p hp=>?_,fun p hp=>?_,fun k p h0 h1 hp=>?_,fun p q hp hq=>?_⟩
 ·obtain ⟨_,rfl⟩:=fh hp
  obtain ⟨_,rfl⟩:=fh hq;obtain ⟨_,rfl⟩:=fh hr;exact h.ok.ke k
 ·obtain ⟨_,rfl⟩:=fh hp
  rfl
 ·rw [ln] at hp
  obtain ⟨_,rfl⟩:=fh hp;show (if n-1=0 then _ else if n-1+1=n then _ else _)=_;rw [mJ ga,mK ga]
 ·obtain ⟨_,rfl⟩:=fh hp
  show (if k=0 then _ else if k+1=n then _ else _)=_;rw [mJ ga,mJ ga]
 ·rw [ln] at hq
  obtain ⟨_,rfl⟩:=fh hp;obtain ⟨_,rfl⟩:=fh hq;exact h.cr
def W9.RK (h:W9 c S n W):ar (jI c S n W)=3:=by
 have:∀k,k<n->ar ((KC (k+1)).map (oF c S n W))=if k+1=n then 3 else 2:=fun k hk=>by
  induction k with
  | zero=>
   have:=h.n3;rw [mJ ga];rfl
  | succ k ih=>
   let ih:=ih ga;rw [mJ ga] at ih;rw [oN,K7]
   let e:ar ((KC (k+1)).map (oF c S n W)++[oF c S n W (k+1)])=ar ((KC (k+1)).map (oF c S n W))+(oF c S n W (k+1)).ws.length:=by
    unfold ar;simp
   show ar ((KC (k+1)).map (oF c S n W)++[oF c S n W (k+1)])=_;rw [e];unfold oF;dsimp only;rw [mJ ga];by_cases cn:k+1+1=n
   ·rw [mK cn,mK cn]
    exact oP (·+1) ih
   ·rw [mJ cn,mJ cn]
    exact ih
 let n3:=h.n3;have:=this (n-1) ga;rwa [show n-1+1=n by omega,mK rfl] at this
def rD (K:Frag)(H:Hp)(v:V)(e:Nat×Nat):Prop:=∃a,v=.ref a/\bK K H a [.int (e.1:Int),.int (e.2:Int)]
def rD.ji (h:rD K H v e)(s:aq H H'):rD K H' v e:=by
 obtain ⟨a,rfl,h⟩:=h;show ⟨a,rfl,Ty.aq.cp s h⟩
def gk (n:Nat):List (Nat×Nat):=(KC (n-1)).map (fun k=>(k,k+1))++(KC (n-2)).map (fun k=>(k,k+2))
theorem uu :∀{us vs:List Z} {l m:List β},Paired R us l->Paired R vs m->Paired R (us++vs) (l++m)
 | _,_,_,_,.nil,h=>h
 | _,_,_,_,.cons h t,h'=>.cons h (uu t h')
inductive xM (K:Frag)(vs:θ)(H:Hp)(Q:VK)(E_:XK):Prop
|mk (n:Nat)(_:vs=[.int (n:Int)])(_:3<=n)(_:n<=8)(_:∀(l:AG)(us:θ)(H':Hp),aq H H' ->H l=none->H' l=some (.lst us)->Paired (rD K H') us (gk n)->Q (.ref l) H')
def JY {ys:θ}(ly:ys.length=m)(h:∀i v,ys[i]?=some v->rD K H v (i,i+d)):Paired (rD K H) ys ((KC m).map fun k=>(k,k+d)):=gi (by rw [ir,Mf,ly]) fun i v e=>by
 let hi:=(be.mp e).1;show ⟨(i,i+d),by rw [Wp,Oh ga];rfl,h i v e⟩
def oG:aE ["_law_many","_law_found"] Yk (ae fL):=sq
def anE (D:Def K mg "_law_chain" fL Yk)(bg:mg "range"=none):am P w K mg iN 1 "_law_chain" Yk (xM K):=by
 refine D.oo oG fun H hr h=>?_;obtain ⟨n,rfl,n3,n8,q⟩:=h;let L2:2<=C_:=gt
 show ⟨_,(aa (tN (i:=1) (tn:=VU) (fr:=[]) (mL:=[]) oG.nd (bS rfl bg (aV (aF dB (pv 0) ag))) (aR (aT (pv 0) (aF cD (pv 0) ag)))) (ah (aJ (aF gZ (pv 1) (df (tn:=VU) (fr:=[]) (mL:=[]) (bS rfl bg (aV (aF dB (pv 0) ag))) (aR (aT (pv 0) (aF cD (pv 0) ag)))))))),?_⟩
 let sd:∀{Ha Hb:Hp} {D:AG} {ys:θ} {v:V} {e:Nat×Nat},Ha D=some (.lst ys)->bh D Ha Hb->rD K Ha v e->rD K Hb v e:=fun e0 k ⟨a,ea,h⟩=>⟨a,ea,(bF.ks e0 k).cp h⟩;show ⟨_,rfl,_,_,rfl,rfl,((n:Int)-1),rfl,ga,ga,fun D1 nD=>?_⟩;refine jo (lo:=0) (n:=((n:Int)-1).toNat) (oe:=[]) (fun i v H=>rD K H v (i,i+1)) nD (FU (show ((n:Int)-1).toNat<=8 by omega) gt) (fun i v Ha Hb ys e k z=>sd e k z) ?_ ?_
 ·intro i H6 Rq hi s6 k
  rw [Kp];show ⟨_,rfl,_,rfl,_,_,rfl,rfl,L2,?_⟩;intros p1 m1 H1 s1 e1;exact k _ _ s1 ⟨p1,rfl,bK.of e1⟩
 intro ys H1 ly py s1 e1;show ⟨_,rfl,_,rfl,_,_,rfl,rfl,((n:Int)-2),rfl,ga,ga,fun D2 nD2=>?_⟩;refine jo (lo:=0) (n:=((n:Int)-2).toNat) (oe:=[]) (fun i v H=>rD K H v (i,i+2)) nD2 (FU (show ((n:Int)-2).toNat<=8 by omega) gt) (fun i v Ha Hb ys e k z=>sd e k z) ?_ ?_
 ·intro i H6 Rq hi s6 k
  rw [Kp];show ⟨_,rfl,_,rfl,_,_,rfl,rfl,L2,?_⟩;intros p1 m1 H3 s3 e3;exact k _ _ s3 ⟨p1,rfl,bK.of e3⟩
 intro zs H2 lz pz s2 e2;show ⟨D1,D2,_,_,rfl,rfl,s2 _ _ e1,e2,DC (show ys.length+zs.length<=100 by omega) gt,?_⟩;intros l3 n4 H4 s4 e4;let Mb:=s2.trans s4;refine q l3 _ H4 (s1.trans Mb) ((s1.trans s2).free n4) e4 ?_;unfold gk;exact uu (Paired.cg (JY ga py) fun _ _ z=>z.ji Mb) (Paired.cg (JY ga pz) fun _ _ z=>z.ji s4)
def agX (v:V):OS ("ways":Str) [(("way":Str),v)]=none:=by
 let h:(("ways":Str)=="way")=false:=by decide+kernel
 simp [OS,h]
inductive uv (K:Frag)(C:AG)(vs:θ)(H:Hp)(Q:VK)(E_:XK):Prop
|mk (pA bA:AG)(us mT :θ)(pX:ν)(ip:ρ)(_:vs=[.ref pA,.ref bA])(_:H pA=some (.lst us))(_:Paired (k_ K H) us pX)(_:H bA=some (.lst mT))(_:Paired (km K H pX) mT ip)(_:vS pX)(_:zW pX ip)(_:pX.length<=9)(_:ip.length<=26)(_:∀(a:AG)(H':Hp),aq H H' ->qN K H' C a pX ip->Q (.ref a) H')
def qX:aE ["_law_pins_here","_law_bars_here","_law_frame_here","_law_name_here","_law_spot","_law_ways","_law_one","_law_other"] σ9 (ae LF):=sq
def abA {C CR CF fI fR:AG}(D:Def K mg "_law_frame" LF σ9)(aX:mg "len"=none)(W_:Mk K C fI)(Xa:mg "Frame"=some (.ref C))(ah1:ap P w K mg iN 1 fI fdI K8 (xg K C))(Xb:Binds K fdI K8 [])
  (Xc:mg "Roller"=some (.ref CR)) (Xd:mg "Fixed"=some (.ref CF)) (Xe:YZ K CF) (Xf:Mk K CR fR) (ah2:ap P w K mg iN 1 fR fdR VY (xi K CR)) (Xg:Binds K fdR VY [])
  (wR:bn P w K mg iN 2 CR "ways" K8 (nJ K CR)) (wF:bn P w K mg iN 2 CF "ways" K8 (nK K))
  (MPb:bn P w K mg iN 3 C "put_bar" PQ (nM K C)) (MPp:bn P w K mg iN 3 C "put_pin" σ7 (gd P w K mg iN C)) (MPd:DO P w K mg iN (ba P w) 3 C "put_pin" σ7 [.none] (gd P w K mg iN C)):
  am P w K mg iN 4 "_law_frame" σ9 (uv K C):=by
 refine D.op qX fun f cL A lj s H vs Q E hr h=>?_;obtain ⟨pA,bA,us,mT,pX,ip,rfl,hp,pp,hb,pb,gp,gb,lp6,lb8,q⟩:=h;let lu:us.length=pX.length:=EO pp
 show ⟨_,(aa (aG 2 qX.nd (acG W_ ah1 hr.mo rfl Xa Xb .nil (pY P w))) (aa (bG K6 rfl (bu (pv 0)) (ft rfl (aY (b9 3 qX.nd) (aY (b9 4 qX.nd) (aY (b9 5 qX.nd) cZ)))) (aa (bI (bW eR (aK av rfl aX bJ (aV (pv 5))) ag) (ah (cu (acs (k:=3) (pv 2) hr.mo (pY P w) (bR (pv 3) (aL (pv 4)) (aL (pv 4)))))) a_) (aa (bI (bW eR (aK av rfl aX bJ (aV (pv 5))) ag) (ah (cu (fu (k:=3) (pv 2) hr.mo (pY P w) (iu (pv 3) (bR (aL (pv 4)) (aL (pv 4)) (afd Xf ah2 hr.mo rfl Xc Xg .nil (pY P w) (aT (aL (j5 (pv 5))) (aL (j5 (pv 5)))))))))) a_) (ah (bI (bW eR (aK av rfl aX bJ (aV (pv 5))) ag) (ah (cu (fu (k:=3) (pv 2) hr.mo (pY P w) (iu (pv 3) (bR (aL (pv 4)) (aL (pv 4)) (acI Xe rfl Xd)))))) a_))))) (aa (bG K6 rfl (bu (pv 1)) (ft rfl (aY (b9 3 qX.nd) (aY (b9 6 qX.nd) (aY (b9 7 qX.nd) cZ)))) (ah (cu (fu (k:=3) (pv 2) hr.mo (pY P w) (bR (pv 3) (aL (bD aS (pv 0) (pv 6))) (aL (bD aS (pv 0) (pv 7)))))))) (ah (aJ (pv 2)))))),?_⟩;sleep 3
 intro a dx na ndx nad;let sF:aq H (upd (upd H dx (.own a)) a (.ins C dx [])):=fun b o e=>by rwa [ao (ak e na),ao (ak e ndx)]
 show ⟨a,dx,rfl,aj,fun pP pW pB H1 k1 nP nW nB R1=>⟨rfl,?_⟩⟩;let s1:aq H H1:=fun b o e=>k1 b o (ak e na) (sF _ _ e);let nP:=p_ sF nP;let nW:=p_ sF nW;let nB:=p_ sF nB
 show ⟨_,rfl,pA,rfl,⟨_,aU.of (s1 _ _ hp)⟩,let I:dL:=fun i Y H'=>Ex5 fun (o4 o5 o6:Α) (kP kW:δ)=>Y=[ce pA,ce bA,ce a,o4,o5,o6,none,none]/\aq H H'/\iy K H' C a dx pP pW pB ((pX.take i).map fun p=>(p.nm,MK p.sp)) [] kP kW []/\CB K H' ((pX.take i).map fun p=>(p.nm,p.ws)) kW;cC (K:=K) (a:=pA) (xs:=us) I ⟨none,none,none,[],[],rfl,s1,R1,.nil⟩ (fun i Y H' _ h=>by
   obtain ⟨_,_,_,_,_,_,s,_⟩:=h
   exact aU.of (s _ _ hp)) ?_ ?_⟩
 ·rintro i u Y H2 hu ⟨o4,o5,o6,kP,kW,rfl,s2,R2,W2⟩
  obtain ⟨p,ep,Sb⟩:=aI pp hu;let mp:p∈pX:=DE ep;obtain ⟨ta,l,sv,ws,rfl,h1,h2,h3,h4⟩:=Sb.ji s2;obtain ⟨sa,x1,y1,rfl,X',hn1,hn2⟩:=h2;show ⟨ta,_,rfl,h1,rfl,_,_,rfl,_,_,rfl,_,_,rfl,rfl,?_⟩;let tk:=take_snoc ep;let il:i<pX.length:=(be.mp ep).1;let nlP:l≠pP:=fun z=>by erw [z,R2.pl] at h3
  let nlW:l≠pW:=fun z=>by erw [z,R2.wy] at h3
  let fin:∀(hv:V)(H5:Hp)(Q5:VK)(E5:XK),aq H2 H5->Ul P w K mg iN H5 hv p.ws->
    (∀H' OI zh,aq H H' ->H' l=some (.lst ws)->iy K H' C a dx pP pW pB ((pX.take (i+1)).map fun p=>(p.nm,MK p.sp)) [] OI zh []->CB K H' ((pX.take (i+1)).map fun p=>(p.nm,p.ws)) zh ->Q5 .dw H')->gd P w K mg iN C [.ref a,.str p.nm,x1,y1,hv] H5 Q5 E5:=fun hv H5 Q5 E5 s5 hY fin=>by
   show ⟨a,dx,pP,pW,pB,_,_,kP,kW,_,_,p.nm,x1,y1,hv,MK p.sp,p.ws,rfl,R2.ji s5,W2.ji s5,by rw [K4,K4];rfl,hn1.ji s5,hn2.ji s5,fun z=>?_,fun z hz e=>?_,?_,hY,fun H' OI zh k' R' W'=>?_⟩
   ·rw [K4] at z
    obtain ⟨p',uO,e'⟩:=CZ.mp z;exact j4 (nm:=aA.nm) gp.np ep uO e'
   ·obtain ⟨p',uO,e'⟩:=CZ.mp hz
    rw [<-e'] at e;let e1:=oP xA e;let e2:=oP wu e;let e3:p'.sp=p.sp:=Vj (DP e1) (DP e2);obtain ⟨j,hj,ej⟩:=Xn.mp uO;rw [anC] at ej;rw [KI] at hj;let q1:(pX.map (·.sp))[j]?=some p.sp:=by rw [Wp,gE ga,ej,<-e3];rfl
    let q2:(pX.map (·.sp))[i]?=some p.sp:=by rw [Wp,ep];rfl
    have:=(Zu (by rw [ir];omega) gp.ns).mp (q1.trans q2.symm);omega
   ·rw [ir,KI]
    omega
   ·refine fin H' OI zh (fun b o z=>k' b o (ak z nP) (ak z nW) (s5 _ _ (s2 _ _ z))) (k' _ _ nlP nlW (s5 _ _ h3)) ?_ ?_
    ·rw [tk,K7]
     exact R'
    ·rw [tk,K7]
     exact W'
  let l2:=aU.of (K:=K) h3;let lw:ws.length=p.ws.length:=EO h4;show ⟨_,rfl,l,_,rfl,.inl l2,rfl,_,rfl,?_⟩
  rcases gp.ws p mp with hw|⟨wx,wy,hw,wn,_,_⟩|hw
  ·rw [hw] at lw
   refine bU (fun _=>?_) (fun c=>by rw [lw] at c;simp at c);show ⟨_,rfl,a,C,dx,_,_,_,rfl,R2.obj,rfl,MPd,_,rfl,_,rfl,sa,_,_,_,rfl,rfl,X',j6,_,rfl,sa,_,_,_,rfl,rfl,X',jN,?_⟩;dsimp only [iP];refine fin .dw H2 _ _ (aq.refl _) (.inl ⟨rfl,hw⟩) fun H' OI zh s' l' R' W'=>?_;let l':=aU.of (K:=K) l';show ⟨_,rfl,l,_,rfl,.inl l',rfl,_,rfl,bU (fun c=>by rw [lw] at c;simp at c) (fun _=>?_)⟩;show ⟨_,rfl,l,_,rfl,.inl l',rfl,_,rfl,bU (fun c=>by rw [lw] at c;simp at c) (fun _=>?_)⟩;show ⟨_,_,_,OI,zh,rfl,s',R',W'⟩
  ·rw [hw] at lw h4
   obtain ⟨w0,rfl⟩:=Wy.mp lw
   let hw0:kG K H2 w0 (wx,wy):=by
    cases h4 with
    | cons h _=>exact h
   obtain ⟨wa,y2,y3,rfl,MI,XU,hm2⟩:=hw0;refine bU (fun c=>by simp at c) (fun _=>?_);show ⟨_,rfl,l,_,rfl,.inl l2,rfl,_,rfl,bU (fun _=>?_) (fun c=>DL rfl c)⟩;show ⟨_,rfl,a,C,dx,_,_,_,rfl,R2.obj,rfl,MPp,_,rfl,_,rfl,sa,_,_,_,rfl,rfl,X',j6,_,rfl,sa,_,_,_,rfl,rfl,X',jN,_,rfl,l,_,_,_,rfl,rfl,l2,rfl,wa,_,_,_,rfl,rfl,MI,j6,_,rfl,l,_,_,_,rfl,rfl,l2,rfl,wa,_,_,_,rfl,rfl,MI,jN,?_⟩;intro jX d1 nh1 nd1 ne1;let s4:aq H2 (upd (upd H2 d1 (.own jX)) jX (.ins CR d1 [])):=fun b o e=>by rwa [ao (ak e nh1),ao (ak e nd1)]
   let e4:(upd (upd H2 d1 (.own jX)) jX (.ins CR d1 [])) jX =some (.ins CR d1 []):=aj;generalize upd (upd H2 d1 (.own jX)) jX (.ins CR d1 [])=H4 at s4 e4 ⊢;show ⟨jX,d1,y2,y3,wx,wy,rfl,e4,XU.ji s4,hm2.ji s4,wn,fun p5 n5=>⟨rfl,?_⟩⟩;let NR:p5≠jX :=fun z=>by erw [z,e4] at n5
   let s5:aq H2 (upd (upd H4 p5 (.tup [y2,y3])) jX (.ins CR d1 [("way",.ref p5)])):=fun b o e=>by
    let z:b≠jX :=fun z=>by erw [z,nh1] at e
    rw [ao z];exact aH n5 _ _ _ (s4 _ _ e)
   let e5:(upd (upd H4 p5 (.tup [y2,y3])) jX (.ins CR d1 [("way",.ref p5)])) jX =some (.ins CR d1 [("way",.ref p5)]):=aj;let t5:(upd (upd H4 p5 (.tup [y2,y3])) jX (.ins CR d1 [("way",.ref p5)])) p5=some (.tup [y2,y3]):=by rw [ao NR,aj]
   generalize upd (upd H4 p5 (.tup [y2,y3])) jX (.ins CR d1 [("way",.ref p5)])=H5 at s5 e5 t5 ⊢;let ah6:kG K H5 (.ref p5) (wx,wy):=abm t5 (XU.ji s5) (hm2.ji s5);dsimp only [iP];refine fin (.ref jX) H5 _ _ s5 (.inr ⟨jX,CR,d1,_,K8,nJ K CR,rfl,e5,agX _,wR,fun H6 e6 t6 Q' an=>⟨jX,d1,p5,(wx,wy),rfl,e6,ah6.bq t6,by rwa [hw] at an⟩⟩) fun H' OI zh s' l' R' W'=>?_;show ⟨_,rfl,l,_,rfl,.inl (aU.of (K:=K) l'),rfl,_,rfl,bU (fun c=>by simp at c) (fun _=>?_)⟩;show ⟨_,_,_,OI,zh,rfl,s',R',W'⟩
  ·rw [hw] at lw
   refine bU (fun c=>by rw [lw] at c;simp at c) (fun _=>?_);show ⟨_,rfl,l,_,rfl,.inl l2,rfl,_,rfl,bU (fun c=>by rw [lw] at c;simp at c) (fun _=>?_)⟩;show ⟨_,rfl,l,_,rfl,.inl l2,rfl,_,rfl,bU (fun _=>?_) (fun c=>by rw [lw] at c;simp at c)⟩;show ⟨_,rfl,a,C,dx,_,_,_,rfl,R2.obj,rfl,MPp,_,rfl,_,rfl,sa,_,_,_,rfl,rfl,X',j6,_,rfl,sa,_,_,_,rfl,rfl,X',jN,?_⟩;intro jX d1 nh1 nd1 ne1;let s4:aq H2 (upd (upd H2 d1 (.own jX)) jX (.ins CF d1 [])):=fun b o e=>by rwa [ao (ak e nh1),ao (ak e nd1)]
   let e4:(upd (upd H2 d1 (.own jX)) jX (.ins CF d1 [])) jX =some (.ins CF d1 []):=aj;generalize upd (upd H2 d1 (.own jX)) jX (.ins CF d1 [])=H4 at s4 e4 ⊢;dsimp only [iP];refine fin (.ref jX) H4 _ _ s4 (.inr ⟨jX,CF,d1,_,K8,nK K,rfl,e4,rfl,wF,fun H6 _ _ Q' an=>⟨jX,rfl,by rwa [hw] at an⟩⟩) fun H' OI zh s' l' R' W'=>?_;show ⟨_,_,_,OI,zh,rfl,s',R',W'⟩
 ·rintro Y H2 ⟨o4,o5,o6,kP,kW,rfl,s2,R2,W2⟩
  rw [lu,Mo] at R2 W2;let lv:mT.length=ip.length:=EO pb
  show ⟨_,rfl,bA,rfl,⟨_,aU.of (s2 _ _ hb)⟩,let I:dL:=fun i Y H'=>P8 fun (o3 o7 o8:Α) (kB:δ)=>Y=[ce pA,ce bA,ce a,o3,o5,o6,o7,o8]/\aq H H'/\iy K H' C a dx pP pW pB (pX.map fun p=>(p.nm,MK p.sp)) ((ip.take i).map fun b=>(b.nm,b.one.nm,b.jK.nm)) kP kW kB/\CB K H' (pX.map fun p=>(p.nm,p.ws)) kW;cC (K:=K) (a:=bA) (xs:=mT) I ⟨_,none,none,[],rfl,s2,R2,W2⟩ (fun i Y H' _ h=>by
    obtain ⟨_,_,_,_,_,s,_⟩:=h
    exact aU.of (s _ _ hb)) ?_ ?_⟩
  ·rintro i u Y H3 hu ⟨o3,o7,o8,kB,rfl,s3,R3,W3⟩
   obtain ⟨b,ebr,Pl⟩:=aI pb hu;let mb:b∈ip:=DE ebr;obtain ⟨ta,i1,j1,rfl,h1,g1,g2⟩:=Pl.ji s3;obtain ⟨m1,m2,m3⟩:=gb.ends b mb;let tk:=take_snoc ebr;let il:i<ip.length:=(be.mp ebr).1
   have abB :∀(k:Nat)(p:aA),pX[k]?=some p->∃(c la:AG)(sv:V),gS us (k:Int)=some (.ref c)/\bK K H3 c [.str p.nm,sv,.ref la]:=fun k p ek=>by
    obtain ⟨u',eu',hu'⟩:=aI (dD pp) ek;obtain ⟨c,la,sv,ws,rfl,q1,_⟩:=k_.ji hu' s3;show ⟨c,la,sv,bE eu',q1⟩
   obtain ⟨c1,la1,sv1,ea1,q1⟩:=abB _ _ g1;obtain ⟨c2,la2,sv2,ea2,q2⟩:=abB _ _ g2;show ⟨ta,_,rfl,h1,rfl,_,_,rfl,_,_,rfl,_,_,rfl,rfl,?_⟩;let lp3:=aU.of (K:=K) (s3 _ _ hp);show ⟨_,rfl,a,C,dx,_,_,_,rfl,R3.obj,rfl,MPb,_,rfl,_,rfl,_,rfl,pA,_,_,_,rfl,rfl,lp3,ea1,c1,_,_,_,rfl,rfl,q1,rfl,_,rfl,_,rfl,pA,_,_,_,rfl,rfl,lp3,ea2,c2,_,_,_,rfl,rfl,q2,rfl,?_⟩;show ⟨a,dx,pP,pW,pB,_,_,kP,kW,kB,b.nm,b.one.nm,b.jK.nm,rfl,R3,fun z=>?_,?_,?_,m3,?_,fun H' kB' k' R'=>?_⟩
   ·rw [K4] at z
    obtain ⟨b',jZ,e'⟩:=CZ.mp z;exact j4 (nm:=aD.nm) gb.nb ebr jZ e'
   ·rw [K4]
    exact CZ.mpr ⟨_,m1,rfl⟩
   ·rw [K4]
    exact CZ.mpr ⟨_,m2,rfl⟩
   ·rw [ir,KI]
    omega
   ·show ⟨_,_,_,kB',rfl,fun c o z=>k' c o (ak z nB) (s3 _ _ z),?_,?_⟩
    ·rw [tk,K7]
     exact R'
    ·refine Paired.cg W3 fun p' kv z=>⟨z.1,?_⟩
     obtain ⟨l',mS,z1,z2,z3⟩:=z.2;show ⟨l',mS,z1,k' _ _ (fun z=>by erw [z,R3.br] at z2) z2,z3.bq fun c xs r=>?_⟩
     rcases r with r|⟨o',r⟩
     ·exact .inl (k' _ _ (fun e=>by erw [e,R3.br] at r) r)
     ·exact .inr ⟨o',k' _ _ (fun e=>by erw [e,R3.br] at r) r⟩
  ·rintro Y H3 ⟨o3,o7,o8,kB,rfl,s3,R3,W3⟩
   rw [lv,Mo] at R3;show ⟨_,rfl,q a H3 s3 ⟨dx,pP,pW,pB,kP,kW,kB,R3,W3⟩⟩
theorem JZ {Z β:Type}:∀{vs:List Z} {R:Nat->Z->β->Prop},(∀k v,vs[k]?=some v->∃b,R k v b)->∃bs:List β,bs.length=vs.length/\∀k v,vs[k]?=some v->∃b,bs[k]?=some b/\R k v b
 | [],_,_=>⟨[],rfl,fun k v h=>by simp at h⟩
 | v::vs,R,h=>by
  obtain ⟨b,hb⟩:=h 0 v rfl;obtain ⟨bs,l,OC⟩:=JZ (vs:=vs) (R:=fun k=>R (k+1)) fun k v e=>h (k+1) v (by simpa using e);show ⟨b::bs,by rw [Me,Me,l],fun k v' e=>?_⟩;cases k with
  | zero=>
   cases e;show ⟨b,rfl,hb⟩
  | succ k=>
   obtain ⟨b',h1,h2⟩:=OC k v' (by simpa using e);show ⟨b',by simpa using h1,h2⟩
def Ya (n:Nat)(e:Nat×Nat):Prop:=e.1<n/\e.2<n/\(e.2=e.1+1\/e.2=e.1+2\/e.1=e.2+1\/e.1=e.2+2)
def z6 (e:Nat×Nat):Nat×Nat:=(min e.1 e.2,max e.1 e.2)
def rD.bq (h:rD K H v e)(t:bF H H'):rD K H' v e:=by
 obtain ⟨a,rfl,h⟩:=h;show ⟨a,rfl,t.cp h⟩
def FN :z6 e=z6 d ↔ (e.1=d.1/\e.2=d.2)\/(e.2=d.1/\e.1=d.2):=by
 unfold z6;rw [aod];omega
def z7 (h:e∈gk n):e.2<n/\(e.2=e.1+1\/e.2=e.1+2):=by
 rcases K2.mp h with h|h
 ·obtain ⟨k,hk,rfl⟩:=CZ.mp h
  have:=Md.mp hk;show ⟨by show k+1<n;omega,.inl rfl⟩
 ·obtain ⟨k,hk,rfl⟩:=CZ.mp h
  have:=Md.mp hk;show ⟨by show k+2<n;omega,.inr rfl⟩
def kY (h:e∈gk n):z6 e=e:=by
 have:=z7 h;unfold z6;rw [RY ga,Nat.max_eq_right ga]
def uw (h:z6 e∈gk n):Ya n e:=by
 have:max e.1 e.2<n/\(max e.1 e.2=min e.1 e.2+1\/max e.1 e.2=min e.1 e.2+2):=z7 h;show ⟨?_,?_,?_⟩<;>omega
def aht:∀n:Fin 9,(gk n.val).Nodup:=gt
def acT:∀st:Fin 4,∀a:Fin 6,∀k:Fin 27,nameOf (st.val:Int) (a.val:Int) (k.val:Int)≠ "new":=by decide+kernel
theorem z9 :∀{bs:ρ} {es:List (Nat×Nat)},Paired (fun b e=>p b=decide (z6 e=x)) bs es->(bs.filter p).length=(es.map z6).count x
 | _,_,.nil=>rfl
 | b::_,e::_,.cons h t=>by
  rw [DG,List.count_cons,Pg,h,<-z9 t];by_cases c:z6 e=x
  ·rw [mK (Kk c),c,mK (beq_self_eq_true _)]
   rfl
  ·rw [mJ (by simpa using c),mJ (by simpa using c)]
   rfl
theorem kr :∀{as cs:List Z} {bs ds:List β},Paired R as bs->Paired R cs ds->Paired R (as++cs) (bs++ds)
 | _,_,_,_,.nil,h=>h
 | _,_,_,_,.cons a t,h=>.cons a (kr t h)
def Ya.side (h:Ya n e)(h1:pX[e.1]?=some b.one)(h2:pX[e.2]?=some b.jK):∃k d,kg pX b k d:=by
 rcases h.2.2 with z|z|z|z
 ·show ⟨e.1,1,.inl rfl,.inl ⟨h1,by rwa [<-z]⟩⟩
 ·show ⟨e.1,2,.inr rfl,.inl ⟨h1,by rwa [<-z]⟩⟩
 ·show ⟨e.2,1,.inl rfl,.inr ⟨h2,by rwa [<-z]⟩⟩
 ·show ⟨e.2,2,.inr rfl,.inr ⟨h2,by rwa [<-z]⟩⟩
inductive xO (K:Frag)(vs:θ)(H:Hp)(Q:VK)(E_:XK):Prop
|mk (sA lS:AG)(ns:π)(us:θ)(n:Nat)(pX:ν)(_:vs=[.ref sA,.ref lS])(_:aU K H sA (ns.map V.int))(_:H lS=some (.lst us))(_:Paired (rD K H) us (gk n))(_:n<=8)(_:pX.length=n)(_:(pX.map (·.nm)).Nodup)(_:∀(l:AG)(mT :θ)(ip:ρ)(H':Hp),aq H H' ->H l=none->H' l=some (.lst mT)->Paired (km K H' pX) mT ip->zW pX ip->ip.length<=26->(∀b∈ip,∃k d,kg pX b k d)->(∀b∈ip,(ip.filter (a9 b)).length<=2)->("new":Str)∉ip.map (·.nm)->Q (.ref l) H')
def jJ:aE ["_law_script","_law_sides","_law_found","_law_twins","_law_whole","_law_k","_law_cell","_law_both","_law_turn","_law_names_here"] Yu (ae LJ):=sq
def abC (D:Def K mg "_law_bars" LJ Yu)(bg:mg "range"=none)(aX:mg "len"=none)(kZ:am P w K mg iN 1 "_law_cell_at" QD (mw K))(gL:am P w K mg iN 1 "_law_field" OP gR)(kq:am P w K mg iN 2 "_law_names" VN (sr K)):am P w K mg iN 3 "_law_bars" Yu (xO K):=by
 refine D.op jJ fun f cL A lj s H vs Q E hr h=>?_;obtain ⟨sA,lS,ns,us,n,pX,rfl,hS,eS,pS,n8,ln,nd,q⟩:=h;let L0:0<=C_:=gt
 let L2:2<=C_:=gt
 let L3:3<=C_:=gt
 let lus:us.length<=13:=by
  rw [EO pS];unfold gk;rw [ER,ir,ir,Mf,Mf];omega
 show ⟨_,(aa (aG 2 jJ.nd (bQ gF)) (aa (aG 3 jJ.nd (bQ gF)) (aa (aG 4 jJ.nd (fk eR (aZ gL hr (bR (aZ kZ hr (aT (pv 0) ag)) ag ag)) ag (fY _))) (aa (bG K6 rfl (bS rfl bg (aV (aK av rfl aX bJ (aV (pv 1))))) (b9 5 jJ.nd) (aa (aG 6 jJ.nd (aZ kZ hr (aT (pv 0) (aF cD ag (pv 5))))) (aa (aG 7 jJ.nd (bD aS (pv 1) (pv 5))) (aa (bI (bW eR (aZ gL hr (bR (pv 6) ag ag)) ag) (ah (aG 7 jJ.nd (aR (aT (aL (bD aS (pv 1) (pv 5))) (aL (bD aS (pv 1) (pv 5))))))) a_) (aa (bI (PW.pt (yx (gD (pv 4)) (CS (bW Ng (aZ gL hr (bR (pv 6) ag ag)) ag)))) (ah (cu (lH Ov Ri Rh fE (pv 2) (aV (pv 7))))) a_) (ah (bI (bW eR (aZ gL hr (bR (pv 6) ag ag)) ag) (ah (cu (lH Ov Ri Rh fE (pv 3) (aV (bD aS (pv 1) (pv 5)))))) a_))))))) (aa (aG 2 jJ.nd (aF gZ (pv 2) (pv 3))) (aa (aG 8 jJ.nd (aZ gL hr (bR (aZ kZ hr (aT (pv 0) ag)) ag (aF cD (aK av rfl aX bJ (aV (pv 2))) ag)))) (aa (aG 2 jJ.nd (aF gZ (cV fQ (pv 2) (dy (pv 8)) dP) (cV fQ (pv 2) dP (dy (pv 8))))) (aa (aG 9 jJ.nd (aZ kq hr (aT (aZ kZ hr (aT (pv 0) ag)) (aK av rfl aX bJ (aV (pv 2)))))) (ah (aJ (df (tn:=VU) (fr:=["_law_names_here","_law_found"]) (mL:=[9,2]) (bS rfl bg (aV (aK av rfl aX bJ (aV (pv 2))))) (aR (bR (bD (gy (K:=K) rfl) (pv 1) (pv 0)) (bD (dz (K:=K) rfl) (bD (gy (K:=K) rfl) (pv 2) (pv 0)) ag) (bD (dz (K:=K) rfl) (bD (gy (K:=K) rfl) (pv 2) (pv 0)) ag)))))))))))))),?_⟩;try dsimp only [rf,pC,Cx.yq,Cx.uS]
 show ⟨L0,?_⟩;intros l2 n2 H2 s2 e2;show ⟨L0,?_⟩;intros l3 n3 H3 s3 e3;let oZ:=s2.trans s3;let l23:l2≠l3:=fun z=>by erw [<-z,e2] at n3
 show ⟨_,rfl,sA,ns,2,rfl,oZ.seq hS,gt,gt,_,_,_,rfl,gt,gt,gt,rfl,?_⟩;generalize decide (V.int (field (cell ns 2) 1009 2)=V.int 0)=wh;let en:((us.length:Nat):Int).toNat=us.length:=ga
 show ⟨_,rfl,lS,_,rfl,.inl (aU.of (oZ _ _ eS)),((us.length:Nat):Int),rfl,ga,ga,let I:dL:=fun i Y H'=>Ex5 fun (o5 o6 o7:Α) (fs ts:θ)=>Y=[ce sA,ce lS,ce l2,ce l3,some (.bl wh),o5,o6,o7,none,none]/\aq H H'/\H' l2=some (.lst fs)/\H' l3=some (.lst ts)/\∃es ds,Paired (rD K H') fs es/\Paired (rD K H') ts ds/\(es.map z6).Sublist ((gk n).take i)/\ds.Sublist ((gk n).take i);cP (lo:=0) (n:=((us.length:Nat):Int).toNat) I ⟨none,none,none,[],[],rfl,oZ,s3 _ _ e2,e3,[],[],.nil,.nil,anS _,anS _⟩ ?_ ?_⟩
 ·rintro i Y H4 hi ⟨o5,o6,o7,fs,ts,rfl,s4,e4,f4,es,ds,pf,pt,sf,st⟩
  let lf:fs.length<=i:=by
   have:=sf.length_le;rw [ir,KI] at this;rw [EO pf];omega
  let lt:ts.length<=i:=by
   have:=st.length_le;rw [KI] at this;rw [EO pt];omega
  let ek:(0:Int)+(i:Int)=(i:Int):=Kp _;rw [ek];show ⟨_,rfl,_,rfl,_,_,rfl,rfl,sA,ns,_,rfl,s4.seq hS,ga,ga,?_⟩;generalize cell ns (3+(i:Int))=c;obtain ⟨e,ee,a,eu,ha⟩:=aI pS (gE (show i<us.length by omega));let ai:gS us (i:Int)=some (.ref a):=bE (by rw [gE (show i<us.length by omega),eu]);let en:=kY (DE ee);let tk:=take_snoc ee;let ha4:=Ty.aq.cp s4 ha;show ⟨_,rfl,_,rfl,lS,_,_,_,rfl,rfl,aU.of (s4 _ _ eS),ai,?_⟩;dsimp only [b_];refine jf (fun Y' H'=>∃v7:V,Y' =[some (.ref sA),some (.ref lS),some (.ref l2),some (.ref l3),some (.bl wh),some (.int (i:Int)),some (.int c),some v7,none,none]/\aq H4 H'/\∃e',rD K H' v7 e'/\z6 e'=e) (fun N hN=>?_) ?_
  ·show ⟨_,rfl,_,_,_,rfl,gt,gt,gt,rfl,_,rfl,bU (fun _=>?_) (fun _=>hN _ _ ⟨_,rfl,aq.refl _,e,⟨a,rfl,ha4⟩,en⟩)⟩
   show ⟨_,rfl,_,rfl,lS,_,_,_,rfl,rfl,aU.of (s4 _ _ eS),ai,a,_,_,_,rfl,rfl,ha4,jN,_,rfl,_,rfl,lS,_,_,_,rfl,rfl,aU.of (s4 _ _ eS),ai,a,_,_,_,rfl,rfl,ha4,j6,L2,?_⟩;intros p5 m5 H5 s5 e5;exact hN _ _ ⟨_,rfl,s5,(e.2,e.1),⟨p5,rfl,bK.of e5⟩,(FN.mpr (.inr ⟨rfl,rfl⟩)).trans en⟩
  rintro Y H5 ⟨v7,rfl,s5,e',ev,nev⟩;let Qj:=s5 _ _ e4;let n2':H l2=none:=n2;let n3':H l3=none:=s2.free n3;refine jf (fun Y' H'=>∃fs:List V,Y' =[some (.ref sA),some (.ref lS),some (.ref l2),some (.ref l3),some (.bl wh),some (.int (i:Int)),some (.int c),some v7,none,none]/\aq H H'/\H' l2=some (.lst fs)/\H' l3=some (.lst ts)/\∃es,Paired (rD K H') fs es/\Paired (rD K H') ts ds/\(es.map z6).Sublist ((gk n).take (i+1))) (fun N hN=>?_) ?_
  ·let add:N [some (.ref sA),some (.ref lS),some (.ref l2),some (.ref l3),some (.bl wh),some (.int (i:Int)),some (.int c),some v7,none,none] (upd H5 l2 (.lst (fs++[v7]))):=by
    let t:bF H5 (upd H5 l2 (.lst (fs++[v7]))):=.list Qj;refine hN _ _ ⟨fs++[v7],rfl,fun b o z=>?_,aj,?_,es++[e'],dj (Paired.cg pf fun _ _ z=>(z.ji s5).bq t) (ev.bq t),Paired.cg pt fun _ _ z=>(z.ji s5).bq t,?_⟩
    ·rw [ao (ak z n2')]
     exact s5 _ _ (s4 _ _ z)
    ·rw [ao (FG l23)]
     exact s5 _ _ f4
    ·rw [tk,K7,zN,nev]
     exact sf.append (anF _)
   let no:N [some (.ref sA),some (.ref lS),some (.ref l2),some (.ref l3),some (.bl wh),some (.int (i:Int)),some (.int c),some v7,none,none] H5:=hN _ _ ⟨fs,rfl,s4.trans s5,Qj,s5 _ _ f4,es,Paired.cg pf fun _ _ z=>z.ji s5,Paired.cg pt fun _ _ z=>z.ji s5,by rw [tk];exact sf.trans (agH _ _)⟩;let sz5:fs.length<C_:=FU (show fs.length<=1000 by omega) gt;show ⟨_,rfl,_,rfl,bU (fun _=>⟨_,rfl,.inl ⟨rfl,_,aU.of Qj⟩,_,rfl,l2,_,_,rfl,rfl,Qj,sz5,add⟩) (fun _=>?_)⟩;show ⟨_,rfl,_,_,_,rfl,gt,gt,gt,_,_,rfl,rfl,_,rfl,bU (fun _=>⟨_,rfl,.inl ⟨rfl,_,aU.of Qj⟩,_,rfl,l2,_,_,rfl,rfl,Qj,sz5,add⟩) (fun _=>no)⟩
  rintro Y H6 ⟨fs',rfl,s6,e6,f6,XI,pf6,pt6,sf6⟩;show ⟨_,rfl,_,_,_,rfl,gt,gt,gt,rfl,_,rfl,bU (fun _=>?_) (fun _=>⟨_,_,_,fs',ts,rfl,s6,e6,f6,XI,ds,pf6,pt6,sf6,by rw [tk];exact st.trans (agH _ _)⟩)⟩;let t:bF H6 (upd H6 l3 (.lst (ts++[.ref a]))):=.list f6;show ⟨_,rfl,.inl ⟨rfl,_,aU.of f6⟩,_,rfl,_,rfl,lS,_,_,_,rfl,rfl,aU.of (s6 _ _ eS),ai,l3,_,_,rfl,rfl,f6,FU (show ts.length<=1000 by omega) gt,?_⟩;show ⟨_,_,_,fs',ts++[.ref a],rfl,fun b o z=>?_,?_,aj,XI,ds++[e],Paired.cg pf6 fun _ _ z=>z.bq t,dj (Paired.cg pt6 fun _ _ z=>z.bq t) ⟨a,rfl,t.cp (Ty.aq.cp s6 ha)⟩,sf6,?_⟩
  ·rw [ao (ak z n3')]
   exact s6 _ _ z
  ·rw [ao l23]
   exact e6
  ·rw [tk]
   exact st.append (anF _)
 rintro Y H4 ⟨o5,o6,o7,fs,ts,rfl,s4,e4,f4,es,ds,pf,pt,sf,st⟩;rw [en,EO pS,Mo] at sf st;let lS:=EO pS
 let lf:fs.length<=us.length:=by
  have:=sf.length_le;rw [ir] at this;rw [EO pf];omega
 let lt:ts.length<=us.length:=by
  have:=st.length_le;rw [EO pt];omega
 let nS:=aht ⟨n,ga⟩;let Wq:ds.map z6=ds:=(Ml (f:=z6) (g:=id) fun e he=>kY (st.subset he)).trans (List.map_id _);let pE:Paired (rD K H4) (fs++ts) (es++ds):=kr pf pt
 let cE:∀x,((es++ds).map z6).count x<=2:=fun x=>by
  let h1:=ah4.mp (sf.nodup nS) x;let h2:=ah4.mp (st.nodup nS) x;rw [K7,yX,Wq];omega
 let oE:∀e∈es++ds,Ya n e:=fun e he=>by
  rcases K2.mp he with h|h
  ·exact uw (sf.subset (CZ.mpr ⟨e,h,rfl⟩))
  ·exact uw (by rw [kY (st.subset h)];exact st.subset h)
 generalize es++ds=E1 at pE cE oE;show ⟨_,rfl,_,rfl,l2,l3,_,_,rfl,rfl,e4,f4,DC (show fs.length+ts.length<=100 by omega) gt,?_⟩;intros l5 n5 H5 s5 e5;let JG:=s4.trans s5;let pE:=Paired.cg pE fun _ _ z=>rD.ji z s5;have ZN :(fs++ts).length<=26:=by rw [ER];omega
 generalize fs++ts=gs at e5 pE ZN;let pos:(0:Int)<((gs.length:Nat):Int)+1:=ga
 show ⟨_,rfl,sA,ns,2,rfl,JG.seq hS,gt,gt,_,rfl,l5,_,rfl,.inl (aU.of e5),_,_,rfl,rfl,_,2003,_,rfl,gt,gt,pos,?_⟩;let f1:=bX (c:=cell ns 2) (p:=2003) (m:=((gs.length:Nat):Int)+1) pos;obtain ⟨k1,ek1⟩:∃k:Nat,field (cell ns 2) 2003 (((gs.length:Nat):Int)+1)=(k:Int):=⟨_,(RW f1.1).symm⟩;rw [ek1] at f1 ⊢;let hk1:k1<=gs.length:=ga
 show ⟨_,rfl,_,rfl,_,rfl,l5,_,rfl,aU.of e5,?_⟩;rw [qd hk1];intros l6 n6 H6 s6 e6;show ⟨_,rfl,_,rfl,_,rfl,l5,_,rfl,aU.of (s6 _ _ e5),?_⟩;rw [kJ hk1];intros l7 n7 H7 s7 e7;show ⟨l6,l7,_,_,rfl,rfl,s7 _ _ e6,e7,DC (show (gs.drop k1).length+(gs.take k1).length<=100 by rw [QR,KI];omega) gt,?_⟩;intros l8 m8 H8 s8 e8;let Qb:=JG.trans (s6.trans (s7.trans s8));let pE:=Paired.cg pE fun _ _ z=>rD.ji z (s6.trans (s7.trans s8));let p8:=kr (gQ k1 pE) (eI k1 pE)
 let c8:∀x,((E1.drop k1++E1.take k1).map z6).count x<=2:=fun x=>by
  rw [K7,yX,WO,<-yX,<-K7,Rb];exact cE x
 let o8:∀e∈E1.drop k1++E1.take k1,Ya n e:=fun e he=>by
  rcases K2.mp he with h|h
  ·exact oE e (List.mem_of_mem_drop h)
  ·exact oE e (ZW h)
 let l8':(gs.drop k1++gs.take k1).length<=26:=by rw [ER,QR,KI];omega
 generalize gs.drop k1++gs.take k1=hs at e8 p8 l8';generalize E1.drop k1++E1.take k1=es at p8 c8 o8;let le8:=EO p8;show ⟨_,rfl,sA,ns,2,rfl,Qb.seq hS,gt,gt,_,rfl,l8,_,rfl,.inl (aU.of e8),?_⟩;generalize cell ns 2=c;show ⟨c,hs.length,rfl,ga,fun lN H9 s9 nN eN=>?_⟩;let e9:=s9 _ _ e8;let Uw:=Qb.trans s9;let enh:((hs.length:Nat):Int).toNat=hs.length:=ga
 show ⟨_,rfl,l8,_,rfl,.inl (aU.of e9),((hs.length:Nat):Int),rfl,ga,ga,fun D1 nD=>?_⟩;rw [enh]
 let at3:∀k,k<hs.length->gS ((namesOf c hs.length).map V.str) (k:Int)=some (.str (nameOf (field c 3001 4) (field c 4001 6) (k:Int))):=fun k hk=>bE (by
  unfold namesOf;rw [K4,Wp,Oh hk]
  rfl)
 refine jo (lo:=0) (n:=hs.length) (oe:=[some (.ref lN),some (.ref l8)]) (fun i v H=>∃(a:AG)(e:Nat×Nat),v=.ref a/\bK K H a [.str (nameOf (field c 3001 4) (field c 4001 6) (i:Int)),.int (e.1:Int),.int (e.2:Int)]/\es[i]?=some e) nD (FU (show hs.length<=1000 by omega) gt) (fun i v Ha Hb ys e0 k ⟨a,e,ea,h,o⟩=>⟨a,e,ea,(bF.ks e0 k).cp h,o⟩) ?_ ?_
 ·intro i Ha Rq hi sa k
  rw [Kp];let ei:=gE hi;obtain ⟨e,on,EV⟩:=aI p8 ei;obtain ⟨a,ea,ha⟩:=(rD.ji EV s9).ji sa;let ai:gS hs (i:Int)=some (.ref a):=bE (by rw [ei,ea]);show ⟨_,rfl,_,rfl,lN,_,_,_,rfl,rfl,aU.of (sa _ _ eN),at3 i hi,_,rfl,_,rfl,l8,_,_,_,rfl,rfl,aU.of (sa _ _ e9),ai,a,_,_,_,rfl,rfl,ha,j6,_,rfl,_,rfl,l8,_,_,_,rfl,rfl,aU.of (sa _ _ e9),ai,a,_,_,_,rfl,rfl,ha,jN,L3,?_⟩;intros p1 m1 Hb sb eb;exact k _ _ sb ⟨p1,e,rfl,bK.of eb,on⟩
 intro ys Ha ly py sa ea
 obtain ⟨ip,lbs,OC⟩:=JZ (vs:=ys) (R:=fun k v (b:aD)=>km K Ha pX v b/\b.nm=nameOf (field c 3001 4) (field c 4001 6) (k:Int)/\∃e,es[k]?=some e/\pX[e.1]?=some b.one/\pX[e.2]?=some b.jK) fun k v h=>by
  obtain ⟨a,e,rfl,h,ee⟩:=py k v h;let on:=o8 e (DE ee);let e1:=gE (show e.1<pX.length by rw [ln];exact on.1);let e2:=gE (show e.2<pX.length by rw [ln];exact on.2.1);show ⟨⟨_,pX[e.1]'(by rw [ln];exact on.1),pX[e.2]'(by rw [ln];exact on.2.1)⟩,⟨a,e.1,e.2,rfl,h,e1,e2⟩,rfl,e,ee,e1,e2⟩
 let at9:∀k b,ip[k]?=some b->k<hs.length/\b.nm=nameOf (field c 3001 4) (field c 4001 6) (k:Int)/\∃e,es[k]?=some e/\pX[e.1]?=some b.one/\pX[e.2]?=some b.jK:=fun k b ek=>by
  let lk:=(be.mp ek).1;obtain ⟨b',e',_,h2⟩:=OC k _ (gE (show k<ys.length by omega));erw [ek] at e';show ⟨ga,h2⟩
 let all:∀b∈ip,∃e,e∈es/\pX[e.1]?=some b.one/\pX[e.2]?=some b.jK:=fun b hb=>by
  obtain ⟨k,ek⟩:=D_ hb;obtain ⟨_,_,e,ee,h⟩:=at9 k b ek;show ⟨e,DE ee,h⟩
 refine q D1 ys ip Ha (Uw.trans sa) (Uw.free nD) ea (gi ga fun k v h=>?_) ⟨?_,fun b hb=>?_⟩ ga (fun b hb=>?_) (fun b hb=>?_) fun hb=>?_
 ·obtain ⟨b,h1,h2,_⟩:=OC k v h
  show ⟨b,h1,h2⟩
 ·have:ip.map (·.nm)=namesOf c hs.length:=by
   refine Mt fun k=>?_;unfold namesOf;rw [Wp,Wp];by_cases ck:k<hs.length
   ·obtain ⟨b,h1,_,h2,_⟩:=OC k _ (gE (show k<ys.length by omega))
    rw [h1,Oh ck];exact oP some h2
   ·rw [EZ ga,EZ (by rw [Mf];omega)]
    rfl
  rw [this];exact names_nodup c ga
 ·obtain ⟨e,he,h1,h2⟩:=all b hb
  show ⟨DE h1,DE h2,fun z=>?_⟩;have:=dC nd h1 h2 z;have:=(o8 e he).2.2;omega
 ·obtain ⟨e,he,h1,h2⟩:=all b hb
  exact (o8 e he).side h1 h2
 ·obtain ⟨e,he,h1,h2⟩:=all b hb
  refine DC (WV (z9 (x:=z6 e) (es:=es) (pK ga fun k d f ek ef=>?_))) (c8 _);obtain ⟨_,_,f',ef',g1,g2⟩:=at9 k d ek;erw [ef] at ef';refine decide_eq_decide.mpr ⟨fun h=>FN.mpr ?_,fun h=>?_⟩
  ·rcases h with ⟨u,v⟩|⟨u,v⟩
   ·exact .inl ⟨(dC nd h1 g1 u).symm,(dC nd h2 g2 v).symm⟩
   ·exact .inr ⟨(dC nd h1 g2 v).symm,(dC nd h2 g1 u).symm⟩
  ·rcases FN.mp h with ⟨u,v⟩|⟨u,v⟩
   ·rw [u,h1] at g1
    rw [v,h2] at g2;rw [FA g1,FA g2];exact .inl ⟨rfl,rfl⟩
   ·rw [v,h2] at g1
    rw [u,h1] at g2;rw [FA g1,FA g2];exact .inr ⟨rfl,rfl⟩
 ·obtain ⟨b,mb,eb⟩:=CZ.mp hb
  obtain ⟨k,ek⟩:=D_ mb;obtain ⟨hk,hn,_⟩:=at9 k b ek;let i3:=bX (c:=c) (p:=3001) (m:=4) gt;let i4:=bX (c:=c) (p:=4001) (m:=6) gt;have:=acT ⟨(field c 3001 4).toNat,ga⟩ ⟨(field c 4001 6).toNat,ga⟩ ⟨k,ga⟩;dsimp only at this;rw [RW i3.1,RW i4.1] at this;exact this (hn.symm.trans eb)
def ax (k:Int)(p:Rat×Rat):Rat:=if k=0 then p.1 else p.2
def Pm (hk:k=0\/k=1)(h:kG K H v p):∃(a:AG)(xs:θ)(u:V),v=.ref a/\bK K H a xs/\gS xs k=some u/\g_ K H u (ax k p):=by
 obtain ⟨a,u1,u2,rfl,hq,h1,h2⟩:=h
 rcases hk with rfl|rfl
 ·show ⟨a,_,u1,rfl,hq,rfl,h1⟩
 ·show ⟨a,_,u2,rfl,hq,rfl,h2⟩
def Pn (h:Sz n p.1/\Sz n p.2):Sz n (ax k p):=by
 unfold ax;split
 ·exact h.1
 ·exact h.2
def Po {us:θ}{pX:ν}{k:Nat}(pp:Paired (k_ K H) us pX)(e:pX[k]?=some p):∃(c la:AG)(sv:V),gS us (k:Int)=some (.ref c)/\bK K H c [.str p.nm,sv,.ref la]/\kG K H sv p.sp:=by
 obtain ⟨u',eu',hu'⟩:=aI (dD pp) e;obtain ⟨c,la,sv,ws,rfl,q1,q2,_⟩:k_ K H u' p:=hu';show ⟨c,la,sv,bE eu',q1,q2⟩
inductive FO (K:Frag)(vs:θ)(H:Hp)(Q:VK)(E_:XK):Prop
|mk (pA:AG)(us:θ)(pX:ν)(u:V)(b:aD)(k:Int)(_:vs=[.ref pA,u,.int k])(_:H pA=some (.lst us))(_:Paired (k_ K H) us pX)(_:vS pX)(_:km K H pX u b)(_:(k=0\/k=1))(_:∀(v:V)(H':Hp),aq H H' ->oA K H' v 55 (ax k b.jK.sp-ax k b.one.sp)->Q v H')
def abD:aE VS VS (ae LG):=sq
def abE (D:Def K mg "_law_arm" LG VS)(va:am P w K mg iN 1 "_law_sum" Mj (c_ K jO))(z5:am P w K mg iN 1 "_law_turned" QJ (fq K)):
  am P w K mg iN 2 "_law_arm" VS (FO K):=by
 refine D.oo abD fun H hr h=>?_;obtain ⟨pA,us,pX,u,b,k,rfl,hp,pp,gp,⟨ta,i,j,rfl,hb,e1,e2⟩,hk,q⟩:=h;show ⟨_,(ah (aJ (aZ va hr (aT (bD sQ (aL (bD aS (pv 0) (aL (pv 1)))) (pv 2)) (aZ z5 hr (aV (bD sQ (aL (bD aS (pv 0) (aL (pv 1)))) (pv 2)))))))),?_⟩;obtain ⟨c1,l1,sv1,ea1,q1,r1⟩:=Po pp e1;obtain ⟨c2,l2,sv2,ea2,q2,r2⟩:=Po pp e2;obtain ⟨a1,xs1,u1,rfl,t1,v1,n1⟩:=Pm hk r1;obtain ⟨a2,xs2,u2,rfl,t2,v2,n2⟩:=Pm hk r2;let z1:=Pn (k:=k) (gp.sz _ (DE e1));let z2:=Pn (k:=k) (gp.sz _ (DE e2));let lp:=aU.of (K:=K) hp;show ⟨_,rfl,_,rfl,ta,_,_,_,rfl,rfl,hb,rfl,pA,_,_,_,rfl,rfl,lp,ea2,c2,_,_,_,rfl,rfl,q2,rfl,_,rfl,a2,_,_,_,rfl,rfl,t2,v2,_,rfl,_,rfl,ta,_,_,_,rfl,rfl,hb,rfl,pA,_,_,_,rfl,rfl,lp,ea1,c1,_,_,_,rfl,rfl,q1,rfl,_,rfl,a1,_,_,_,rfl,rfl,t1,v1,?_⟩;dsimp only [iP];show fq K [_] _ _ E0;refine ki (gj n1 (jH z1 (DU _))) fun p3 H3 s3 n3=>?_;show c_ K jO [_,_] _ _ E0;refine kX ((gj n2 (jH z2 (DU _))).ji s3) n3 gt fun p4 H4 s4 n4=>?_;refine q (.ref p4) H4 (s3.trans s4) ?_;rwa [Rat.sub_eq_add_neg]
structure Found (K:Frag)(H:Hp)(fA:AG)(ls:ω)(F:Nat->Rat×Rat)(B:Nat):Prop where
 hf:H fA=some (.lst (ls.map V.ref))
 nd:ls.Nodup
 nf:fA∉ls
 row:∀(i:Nat)(l:AG),ls[i]?=some l->∃v1 v2,H l=some (.lst [v1,v2])/\oA K H v1 B (F i).1/\oA K H v2 B (F i).2
def KL (ls:ω)(H H':Hp):Prop:=∀b o,b∉ls->H b=some o->H' b=some o
theorem Found.ji (h:Found K H fA ls F B)(s:aq H H'):Found K H' fA ls F B:=⟨s _ _ h.hf,h.nd,h.nf,fun i l e=>by
 obtain ⟨v1,v2,a,b,c⟩:=h.row i l e
 show ⟨v1,v2,s _ _ a,b.ji s,c.ji s⟩⟩
theorem Found.up (h:Found K H fA ls F B)(l:B<=B'):Found K H fA ls F B':=⟨h.hf,h.nd,h.nf,fun i x e=>by
 obtain ⟨v1,v2,a,b,c⟩:=h.row i x e
 show ⟨v1,v2,a,b.up l,c.up l⟩⟩
def Found.bq (h:Found K H fA ls F B)(k:KL ls H H'):bF H H':=fun b xs r=>by
 let key:∀o,H b=some o->(∀ys,o≠.lst ys)->H' b=some o:=fun o e n=>k b o (fun m=>by
  obtain ⟨i,ei⟩:=D_ m;obtain ⟨v1,v2,a,_⟩:=h.row i b ei;rw [a] at e
  exact n _ (FA e).symm) e
 rcases r with r|⟨o',r⟩
 ·exact .inl (key _ r fun ys z=>nomatch z)
 ·exact .inr ⟨o',key _ r fun ys z=>nomatch z⟩
def fP (F:Nat->Rat×Rat)(k:Nat)(a:Int)(d:Rat):Nat->Rat×Rat:=fun i=>if i=k then (if a=0 then ((F i).1+d,(F i).2) else ((F i).1,(F i).2+d)) else F i
def xP (ha:a=0\/a=1)(hc:c=0\/c=1)(i:Nat):ax c (fP F k a d i)=ax c (F i)+if i=k/\c=a then d else 0:=by
 unfold fP ax;by_cases hi:i=k
 ·subst hi
  rcases ha with rfl|rfl<;>rcases hc with rfl|rfl<;>simp<;>grind
 ·simp [hi]
  grind
inductive FP (K:Frag)(vs:θ)(H:Hp)(Q:VK)(E_:XK):Prop
|mk (fA:AG)(ls:ω)(F:Nat->Rat×Rat)(B:Nat)(k:Nat)(a:Int)(v:V)(m:Nat)(d:Rat)(_:vs=[.ref fA,.int (k:Int),.int a,v])(_:Found K H fA ls F B)(_:k<ls.length)(_:(a=0\/a=1))(_:oA K H v m d)(_:B+m<=130000000)(_:∀(H':Hp),KL ls H H' ->Found K H' fA ls (fP F k a d) (B+m+1)->Q .dw H')
def abF:aE VT VT (ae LH):=sq
def abG (D:Def K mg "_law_add" LH VT)(va:am P w K mg iN 1 "_law_sum" Mj (c_ K jO)):
  am P w K mg iN 2 "_law_add" VT (FP K):=by
 refine D.oo abF fun H hr h=>?_;obtain ⟨fA,ls,F,B,k,a,v,m,d,rfl,hF,hk,ha,nv,le,q⟩:=h;show ⟨_,(ah (iO (aZ va hr (aT (bD aS (bD aS (pv 0) (pv 1)) (pv 2)) (pv 3))) (lO (bD aS (pv 0) (pv 1)) (pv 2) set_list))),?_⟩;obtain ⟨l,el⟩:∃l,ls[k]?=some l:=⟨_,gE hk⟩;obtain ⟨v1,v2,hl,n1,n2⟩:=hF.row k l el;let ek:gS (ls.map V.ref) (k:Int)=some (.ref l):=bE (by rw [Wp,el];rfl);let lm:l∈ls:=DE el;let lf:l≠fA:=fun z=>hF.nf (z▸lm)
 obtain ⟨u,ea,nu⟩:∃u,gS [v1,v2] a=some u/\oA K H u B (ax a (F k)):=by
  rcases ha with rfl|rfl
  ·show ⟨v1,rfl,n1⟩
  ·show ⟨v2,rfl,n2⟩
 show ⟨_,rfl,_,rfl,fA,_,_,_,rfl,rfl,aU.of hF.hf,ek,_,rfl,l,_,_,_,rfl,rfl,aU.of hl,ea,_,rfl,?_⟩;dsimp only [iP];show c_ K jO [_,_] _ _ E0;refine kX nu nv le fun p3 H3 s3 n3=>?_
 obtain ⟨j,ej,hj⟩:∃j,wo [v1,v2].length a=some j/\((a=0/\j=0)\/(a=1/\j=1)):=by
  rcases ha with rfl|rfl
  ·show ⟨0,rfl,.inl ⟨rfl,rfl⟩⟩
  ·show ⟨1,rfl,.inr ⟨rfl,rfl⟩⟩
 show ⟨_,rfl,_,rfl,fA,_,_,_,rfl,rfl,aU.of (s3 _ _ hF.hf),ek,_,rfl,l,_,_,j,rfl,rfl,s3 _ _ hl,ej,?_⟩;let F3:=hF.ji s3
 let kl:KL ls H (upd H3 l (.lst ([v1,v2].set j (.ref p3)))):=fun b o nb e=>by
  rw [ao (fun z=>nb (by rwa [z]))];exact s3 _ _ e
 let k3:KL ls H3 (upd H3 l (.lst ([v1,v2].set j (.ref p3)))):=fun b o nb e=>by
  rw [ao (fun z=>nb (by rwa [z]))];exact e
 let st:=F3.bq k3;refine q _ kl ⟨?_,hF.nd,hF.nf,fun i l' e=>?_⟩
 ·rw [ao (FG lf)]
  exact F3.hf
 ·by_cases c:i=k
  ·subst c
   erw [el] at e;show ⟨([v1,v2].set j (.ref p3))[0]?.getD .dw,([v1,v2].set j (.ref p3))[1]?.getD .dw,?_,?_,?_⟩
   ·rw [aj]
    rcases hj with ⟨_,rfl⟩|⟨_,rfl⟩<;>rfl
   ·unfold fP
    rw [mK rfl]
    rcases hj with ⟨rfl,rfl⟩|⟨rfl,rfl⟩
    ·exact n3.bq st
    ·exact ((n1.ji s3).bq st).up ga
   ·unfold fP
    rw [mK rfl]
    rcases hj with ⟨rfl,rfl⟩|⟨rfl,rfl⟩
    ·exact ((n2.ji s3).bq st).up ga
    ·exact n3.bq st
  ·obtain ⟨w1,w2,g1,g2,g3⟩:=F3.row i l' e
   let nl:l'≠l:=fun z=>c (cT hF.nd e (z▸el));show ⟨w1,w2,?_,?_,?_⟩
   ·rw [ao nl]
    exact g1
   ·unfold fP
    rw [mJ c];exact (g2.bq st).up ga
   ·unfold fP
    rw [mJ c];exact (g3.bq st).up ga
def bV {ys:θ}:gS (x::ys) 0=some x:=bE (xs:=x::ys) (j:=0) rfl
structure Sd (K:Frag)(H:Hp)(pA bA:AG)(us vs:θ)(pX:ν)(ip:ρ):Prop where
 hp:H pA=some (.lst us)
 pp:Paired (k_ K H) us pX
 gp:vS pX
 hb:H bA=some (.lst vs)
 pb:Paired (km K H pX) vs ip
 en:∀b∈ip,b.one.nm≠b.jK.nm
 lp:pX.length<=9
 lb:ip.length<=26
theorem Sd.ji (h:Sd K H pA bA us vs pX ip)(s:aq H H'):Sd K H' pA bA us vs pX ip:=⟨s _ _ h.hp,Paired.cg h.pp fun _ _ z=>z.ji s,h.gp,s _ _ h.hb,Paired.cg h.pb fun _ _ z=>z.ji s,h.en,h.lp,h.lb⟩
structure LFo (K:Frag)(H:Hp)(tA uA:AG)(kT kU:δ)(pX:ν)(ip:ρ)(T:Δ)(U:χ)(N:Nat):Prop where
 ht:H tA=some (.dK kT)
 pt:∀b∈ip,∃v,cI kT (.inr b.nm)=some v/\oA K H v N (T b.nm)
 hu:H uA=some (.dK kU)
 pu:∀p∈pX,∃la ys,cI kU (.inr p.nm)=some (.ref la)/\H la=some (.lst ys)/\Paired (fun v r=>oA K H v N r) ys (U p.nm)
 lU:∀p∈pX,(U p.nm).length=p.ws.length
 hN:N<=1000
def KL.ji (hn:∀l∈ls,H l=none)(s:aq H H6)(k:KL ls H6 H7):aq H H7:=fun b o e=>k b o (fun m=>by erw [hn b m] at e) (s b o e)
def oH (T:Δ)(bs:ρ)(a:Int)(p:aA):Rat:=(bs.map fun b=>T b.nm*ax a (mv (cF b) p.nm)).sum
def ab7 :oH T (bs++[b]) a p=oH T bs a p+T b.nm*ax a (mv (cF b) p.nm):=by
 unfold oH;rw [K7,zv,DG,MV,KR,Oe];grind
def Pp {pX:ν}(nd:(pX.map (·.nm)).Nodup){i j:Nat}(hi:pX[i]?=some p)(hj:pX[j]?=some q)(e:p.nm=q.nm):i=j:=cT nd (x:=q.nm) (by rw [Wp,hi,<-e];rfl) (by rw [Wp,hj];rfl)
def afb {pX:ν}(nd:(pX.map (·.nm)).Nodup)(hb:b.one.nm≠b.jK.nm){i i1 i2:Nat}(hi:pX[i]?=some p)(h1:pX[i1]?=some b.one)(h2:pX[i2]?=some b.jK)(t:Rat)(k:Int):
  (if i=i1 then t*(ax k b.jK.sp-ax k b.one.sp) else 0)+(if i=i2 then -(t*(ax k b.jK.sp-ax k b.one.sp)) else 0)=t*ax k (mv (cF b) p.nm):=by
 let n12:i1≠i2:=fun z=>by rw [z,h2] at h1;exact hb (by rw [FA h1])
 unfold mv cF;by_cases c1:i=i1
 ·subst c1
  erw [h1] at hi;rw [mK rfl,mJ n12,mK rfl];show _=t*ax k (jt b.one b.jK);unfold ax jt;split<;>grind
 ·rw [mJ c1,mJ (fun z=>c1 (Pp nd hi h1 z))]
  by_cases c2:i=i2
  ·subst c2
   erw [h2] at hi;rw [mK rfl,mK rfl];show _=t*ax k (jt b.jK b.one);unfold ax jt;split<;>grind
  ·rw [mJ c2,mJ (fun z=>c2 (Pp nd hi h2 z))]
   show (0:Rat)+0=t*ax k (0,0);unfold ax;split<;>grind
inductive uB (K:Frag)(vs:θ)(H:Hp)(Q:VK)(E_:XK):Prop
|mk (pA bA tA uA:AG)(us ws:θ)(kT kU:δ)(pX:ν)(ip:ρ)(T:Δ)(U:χ)(N:Nat)(_:vs=[.ref pA,.ref bA,.ref tA,.ref uA])(_:Sd K H pA bA us ws pX ip)(_:LFo K H tA uA kT kU pX ip T U N)(_:∀(fA:AG)(ls:ω)(F:Nat->Rat×Rat)(H':Hp),aq H H' ->ls.length=pX.length->Found K H' fA ls F (1+140*(N+57))->(∀(i:Nat)(p:aA),pX[i]?=some p->(F i).1=dq ip T U p (·.1)/\(F i).2=dq ip T U p (·.2))->Q (.ref fA) H')
def qY:aE ["_law_pins_here","_law_bars_here","_law_pulls","_law_pushes","_law_found","_law_bar","_law_axis","_law_draw","_law_k","_law_j"] QI (ae LI):=sq
def abH (D:Def K mg "_law_forces" LI QI)(aX:mg "len"=none)(bg:mg "range"=none)(Pk:am P w K mg iN 1 "_law_times" Mj (c_ K qi))(z5:am P w K mg iN 1 "_law_turned" QJ (fq K))(aib:am P w K mg iN 2 "_law_arm" VS (FO K))(Xh:am P w K mg iN 2 "_law_add" VT (FP K)):
  am P w K mg iN 3 "_law_forces" QI (uB K):=by
 refine D.oo qY fun H hr h=>?_;obtain ⟨pA,bA,tA,uA,us,ws,kT,kU,pX,ip,T,U,N,rfl,fr,fo,q⟩:=h;let L2:2<=C_:=gt
 let hN:=fo.hN;let lp:=fr.lp;let lb:=fr.lb;let lu:us.length=pX.length:=EO fr.pp;let lw:ws.length=ip.length:=EO fr.pb
 show ⟨_,(aa (tN (i:=4) (tn:=["_law_pin"]) (fr:=[]) (mL:=[]) qY.nd (bu (pv 0)) (bQ (aT (aR (aT ag ag)) (aR (aT ag ag))))) (aa (bG K6 rfl (bu (pv 1)) (b9 5 qY.nd) (ah (bG K6 rfl (bS rfl bg (aV ag)) (b9 6 qY.nd) (aa (aG 7 qY.nd (aZ Pk hr (aT (fS (cW hr) (pv 2) (aL (pv 5)) (fun _ _=>rfl)) (aZ aib hr (bR (pv 0) (pv 5) (pv 6)))))) (aa (cu (aZ Xh hr (iu (pv 4) (bR (aL (pv 5)) (pv 6) (pv 7))))) (ah (cu (aZ Xh hr (iu (pv 4) (bR (aL (pv 5)) (pv 6) (aZ z5 hr (aV (pv 7))))))))))))) (aa (bG K6 rfl (bS rfl bg (aV (aK av rfl aX bJ (aV (pv 0))))) (b9 8 qY.nd) (ah (bG K6 rfl (bS rfl bg (aV (aK av rfl aX bJ (aV (aL (bD aS (pv 0) (pv 8))))))) (b9 9 qY.nd) (ah (bG K6 rfl (bS rfl bg (aV ag)) (b9 6 qY.nd) (ah (cu (aZ Xh hr (iu (pv 4) (bR (pv 8) (pv 6) (aZ Pk hr (aT (bD aS (fS (cW hr) (pv 3) (aL (bD aS (pv 0) (pv 8))) (fun _ _=>rfl)) (pv 9)) (bD sQ (bD aS (aL (bD aS (pv 0) (pv 8))) (pv 9)) (pv 6)))))))))))))) (ah (aJ (pv 4)))))),?_⟩;sleep 3
 show ⟨_,rfl,pA,rfl,⟨_,aU.of fr.hp⟩,fun fA n1=>?_⟩;refine acf (oe:=[]) (K:=K) (a:=pA) (xs:=us) (fun ys H'=>∃ls:List AG,ys=ls.map V.ref/\ls.Nodup/\fA∉ls/\∀l∈ls,H l=none/\∃p q:AG,H' l=some (.lst [.ref p,.ref q])/\H' p=some (.tup [.int 0,.int 1])/\H' q=some (.tup [.int 0,.int 1])) n1 (by rw [lu];exact FU (show pX.length<=100 by omega) gt) (fun H2 s2=>aU.of (s2 _ _ fr.hp)) ⟨[],rfl,ZF,by simp,fun l h=>by cases h⟩ ?_ ?_
 ·intro i x ys H2 R hx ly hJ s2 hD k
  obtain ⟨ls,rfl,nd,nf,hl⟩:=hJ;show ⟨L2,?_⟩;intros p3 n3 H3 s3 e3;show ⟨L2,?_⟩;intros p4 n4 H4 s4 e4;show ⟨L2,?_⟩;intros l5 n5 H5 s5 e5;let CH:=s3.trans (s4.trans s5);let D5:=CH _ _ hD;let D4:=s4 _ _ (s3 _ _ hD);refine k _ _ CH ⟨ls++[l5],by simp,?_,?_,fun l hm=>?_⟩
  ·rw [Vp]
   show ⟨nd,by simp,fun a ha b hb z=>?_⟩;have jZ :b=l5:=by simpa using hb
   obtain ⟨_,p,q,h1,_⟩:=hl a ha;rw [z,jZ] at h1;erw [s4 _ _ (s3 _ _ h1)] at n5
  ·intro z
   rcases K2.mp z with z|z
   ·exact nf z
   ·rw [<-K3.mp z,D4] at n5
    cases n5
  ·rcases K2.mp hm with z|z
   ·obtain ⟨h0,p,q,h1,h2,h3⟩:=hl l z
    show ⟨h0,p,q,?_,?_,?_⟩
    ·rw [ao (fun e:l=fA=>nf (by rwa [<-e]))]
     exact CH _ _ h1
    ·rw [ao (fun e=>by erw [e,hD] at h2)]
     exact CH _ _ h2
    ·rw [ao (fun e=>by erw [e,hD] at h3)]
     exact CH _ _ h3
   ·let z:=K3.mp z
    subst z;show ⟨(s2.trans (s3.trans s4)).free n5,p3,p4,?_,?_,?_⟩
    ·rw [ao (fun e=>by erw [e,D4] at n5)]
     exact e5
    ·rw [ao (fun e=>by erw [e,hD] at n3)]
     exact s5 _ _ (s4 _ _ e3)
    ·rw [ao (fun e=>by erw [e,s3 _ _ hD] at n4)]
     exact s5 _ _ e4
 intro ys H2 ly hJ s2 hD;obtain ⟨ls,rfl,nd,nf,hl⟩:=hJ;let hn:∀l∈ls,H l=none:=fun l m=>(hl l m).1;let ll:ls.length=pX.length:=by rw [<-lu,<-ly,ir]
 let z0:∀(p:AG)(H':Hp),H' p=some (.tup [.int 0,.int 1])->oA K H' (.ref p) 1 0:=fun p H' e=>⟨(0,1),⟨p,rfl,bK.of e⟩,gt,by decide+kernel,gt,gt⟩
 let F0:Found K H2 fA ls (fun _=>(0,0)) (1+0*(4*(N+57))):=⟨hD,nd,nf,fun i l e=>by
  obtain ⟨_,p,q,h1,h2,h3⟩:=hl l (DE e);rw [Wh]
  show ⟨_,_,h1,z0 p _ h2,z0 q _ h3⟩⟩
 show ⟨_,rfl,bA,rfl,⟨_,aU.of (s2 _ _ fr.hb)⟩,let I:dL:=fun t Y H'=>P8 fun (F:Nat->Rat×Rat) (o5 o6 o7:Α)=>Y=[ce pA,ce bA,ce tA,ce uA,ce fA,o5,o6,o7,none,none]/\aq H H'/\Found K H' fA ls F (1+t*(4*(N+57)))/\∀(i:Nat)(p:aA),pX[i]?=some p->∀a:Int,(a=0\/a=1)->ax a (F i)=oH T (ip.take t) a p;cC (K:=K) (a:=bA) (xs:=ws) I ⟨_,none,none,none,rfl,s2,F0,fun i p _ a _=>?_⟩ (fun t Y H' _ h=>by
   obtain ⟨_,_,_,_,_,s',_⟩:=h
   exact aU.of (s' _ _ fr.hb)) ?_ ?_⟩
 ·show ax a (0,0)=0
  unfold ax;split<;>rfl
 ·rintro t bv Y H3 hbv ⟨F,o5,o6,o7,rfl,s3,F3,hF⟩
  let htw:t<ws.length:=(be.mp hbv).1;obtain ⟨b,eb,Pl⟩:=aI fr.pb hbv;let mb:b∈ip:=DE eb;obtain ⟨tv,etv,htv⟩:=fo.pt b mb;let bt:t*(4*(N+57))<=25*(4*(N+57)):=N2 _ ga;generalize hB:1+t*(4*(N+57))=B at F3;show ⟨(2:Int),rfl,gt,gt,let I:dL:=fun k Y H'=>I_ fun (F:Nat->Rat×Rat) (o6 o7:Α)=>Y=[ce pA,ce bA,ce tA,ce uA,ce fA,some bv,o6,o7,none,none]/\aq H H'/\Found K H' fA ls F (B+k*(2*(N+57)))/\∀(i:Nat)(p:aA),pX[i]?=some p->∀a:Int,(a=0\/a=1)->ax a (F i)=oH T (ip.take t) a p+if a<(k:Int) then T b.nm*ax a (mv (cF b) p.nm) else 0;cP (lo:=0) (n:=2) I ⟨F,o6,o7,rfl,s3,by rwa [Wh],fun i p e a ha=>?_⟩ ?_ ?_⟩
  ·rw [hF i p e a ha,mJ (by rcases ha with rfl|rfl<;>decide)]
   grind
  ·rintro k Y H4 hk ⟨F,o6,o7,rfl,s4,F4,hF⟩
   let ek:(0:Int)+(k:Int)=(k:Int):=Kp _;rw [ek];let X1:(k:Int)=0\/(k:Int)=1:=ga
   let vV:=fr.ji s4;let bk:k*(2*(N+57))<=1*(2*(N+57)):=N2 _ ga;obtain ⟨ta,i1,i2,eta,Xi,e1,e2⟩:=Pl.ji s4;let NP:i1<ls.length:=by rw [ll];exact (be.mp e1).1
   let σ4:i2<ls.length:=by rw [ll];exact (be.mp e2).1
   let dgt:eZ H4 tA (.str b.nm) (some tv):=by
    have:=eZ.k (k:=.inr b.nm) (s4 _ _ fo.ht);rwa [etv] at this
   subst eta;show ⟨_,rfl,_,rfl,ta,_,_,_,rfl,rfl,Xi,bV,tA,tv,rfl,dgt,_,rfl,_,rfl,_,rfl,pA,us,pX,_,b,(k:Int),rfl,vV.hp,vV.pp,fr.gp,Pl.ji s4,X1,fun v5 H5 s5 n5=>?_⟩;dsimp only [iP];show c_ K qi [_,_] _ _ E0;refine so ((htv.ji s4).ji s5) n5 ga fun p6 H6 s6 n6=>?_;let s06:=s4.trans (s5.trans s6);let F6:=F4.ji (s5.trans s6);show ⟨_,rfl,_,rfl,ta,_,_,_,rfl,rfl,Ty.aq.cp (s5.trans s6) Xi,rfl,_,rfl,_,rfl,fA,ls,F,_,i1,(k:Int),_,_,_,rfl,F6,NP,X1,n6,ga,fun H7 k7 F7=>?_⟩;let s07:=KL.ji hn s06 k7;let n7:=n6.bq (F6.bq k7);show ⟨_,rfl,_,rfl,ta,_,_,_,rfl,rfl,(F6.bq k7).cp (Ty.aq.cp (s5.trans s6) Xi),rfl,_,rfl,_,rfl,?_⟩;dsimp only [iP];show fq K [_] _ _ E0;refine ki n7 fun p8 H8 s8 n8=>?_;let F8:=F7.ji s8;show ⟨fA,ls,_,_,i2,(k:Int),_,_,_,rfl,F8,σ4,X1,n8,ga,fun H9 k9 F9=>?_⟩;let Uw:=KL.ji hn (s07.trans s8) k9;show ⟨_,_,_,rfl,Uw,F9.up (by rw [O4];omega),fun i p e a ha=>?_⟩;rw [xP X1 ha,xP X1 ha,hF i p e a ha];let bp:=afb fr.gp.np (fr.en b mb) e e1 e2 (T b.nm) (k:Int);by_cases ca:a=(k:Int)
   ·subst ca
    rw [mJ (c:=(k:Int)<(k:Int)) ga,mK (c:=(k:Int)<((k+1:Nat):Int)) ga,<-bp];simp only [and_true];grind
   ·let c1:¬ (i=i1/\a=(k:Int)):=fun z=>ca z.2
    let c2:¬ (i=i2/\a=(k:Int)):=fun z=>ca z.2;rw [mJ c1,mJ c2];by_cases cl:a<(k:Int)
    ·rw [mK cl,mK (c:=a<((k+1:Nat):Int)) ga]
     grind
    ·rw [mJ cl,mJ (c:=a<((k+1:Nat):Int)) ga]
     grind
  ·rintro Y H4 ⟨F,o6,o7,rfl,s4,F4,hF⟩
   show ⟨F,_,_,_,rfl,s4,F4.up (by rw [O4,<-hB];omega),fun i p e a ha=>?_⟩;rw [take_snoc eb,ab7,hF i p e a ha,mK (by rcases ha with rfl|rfl<;>decide)]
 ·rintro Y H3 ⟨F,o5,o6,o7,rfl,s3,F3,hF⟩
  rw [lw] at F3;rw [lw,Mo] at hF;let bl:ip.length*(4*(N+57))<=26*(4*(N+57)):=N2 _ ga;generalize hB:1+ip.length*(4*(N+57))=B at F3;let en2:((us.length:Nat):Int).toNat=us.length:=ga
  show ⟨_,rfl,pA,_,rfl,.inl (aU.of (s3 _ _ fr.hp)),((us.length:Nat):Int),rfl,ga,ga,let I:dL:=fun k Y H'=>Ex6 fun (F:Nat->Rat×Rat) (o5 o6 o7 o8 o9:Α)=>Y=[ce pA,ce bA,ce tA,ce uA,ce fA,o5,o6,o7,o8,o9]/\aq H H'/\Found K H' fA ls F (B+k*(4*(N+57)))/\∀(i:Nat)(p:aA),pX[i]?=some p->∀a:Int,(a=0\/a=1)->ax a (F i)=oH T ip a p+if i<k then sP (U p.nm) (p.ws.map (ax a)) else 0;cP (lo:=0) (n:=((us.length:Nat):Int).toNat) I ⟨F,o5,o6,o7,none,none,rfl,s3,by rwa [Wh],fun i p e a ha=>?_⟩ ?_ ?_⟩
  ·rw [hF i p e a ha,mJ ga]
   grind
  ·rintro k Y H4 hk ⟨F,o5,o6,o7,o8,o9,rfl,s4,F4,hF⟩
   let ek:(0:Int)+(k:Int)=(k:Int):=Kp _;rw [ek];let hku:k<us.length:=ga
   obtain ⟨p,ep,Sb⟩:=aI fr.pp (gE hku);let mp:p∈pX:=DE ep;obtain ⟨la,ys,exv,hla,py⟩:=fo.pu p mp;let lup:=fo.lU p mp;let lwp:=(fr.gp.ws p mp).len;let ly:ys.length=(U p.nm).length:=EO py;let aku:gS us (k:Int)=some us[k]:=bE (gE hku);obtain ⟨pa,l,sv,mT,epa,h1,h2,h3,h4⟩:=Sb;rw [epa] at aku;let lv:mT.length=p.ws.length:=EO h4;let kp:k<pX.length:=ga
   let bk:k*(4*(N+57))<=8*(4*(N+57)):=N2 _ ga;generalize hB2:B+k*(4*(N+57))=B2 at F4;let en3:((mT.length:Nat):Int).toNat=mT.length:=ga
   show ⟨_,rfl,_,rfl,pA,_,_,_,rfl,rfl,aU.of (s4 _ _ fr.hp),aku,pa,_,_,_,rfl,rfl,Ty.aq.cp s4 h1,rfl,l,_,rfl,.inl (aU.of (s4 _ _ h3)),((mT.length:Nat):Int),rfl,ga,ga,let I:dL:=fun j Y H'=>I_ fun (F:Nat->Rat×Rat) (o6 o9:Α)=>Y=[ce pA,ce bA,ce tA,ce uA,ce fA,o5,o6,o7,some (.int (k:Int)),o9]/\aq H H'/\Found K H' fA ls F (B2+j*(2*(N+57)))/\∀(i:Nat)(p:aA),pX[i]?=some p->∀a:Int,(a=0\/a=1)->ax a (F i)=oH T ip a p+if i<k then sP (U p.nm) (p.ws.map (ax a)) else if i=k then sP ((U p.nm).take j) ((p.ws.take j).map (ax a)) else 0;cP (lo:=0) (n:=((mT.length:Nat):Int).toNat) I ⟨F,o6,o9,rfl,s4,by rwa [Wh],fun i p e a ha=>?_⟩ ?_ ?_⟩
   ·rw [hF i p e a ha,List.take_zero,gh]
    split<;>simp
   ·rintro j Y H5 hj ⟨F,o6,o9,rfl,s5,F5,hF⟩
    let ek:(0:Int)+(j:Int)=(j:Int):=Kp _;rw [ek];let hj1:j<mT.length:=ga
    let hj2:j<ys.length:=ga
    obtain ⟨x,ex,hx⟩:=aI py (gE hj2);obtain ⟨wq,ewq,hwq⟩:=aI h4 (gE hj1);let zw:=(fr.gp.ws p mp).sz wq (DE ewq);let axj:gS ys (j:Int)=some ys[j]:=bE (gE hj2);let awj:gS mT (j:Int)=some mT[j]:=bE (gE hj1);let bj:j*(2*(N+57))<=1*(2*(N+57)):=N2 _ ga;generalize hB3:B2+j*(2*(N+57))=B3 at F5;show ⟨(2:Int),rfl,gt,gt,let I:dL:=fun c Y H'=>P7 fun (F:Nat->Rat×Rat) (o6:Α)=>Y=[ce pA,ce bA,ce tA,ce uA,ce fA,o5,o6,o7,some (.int (k:Int)),some (.int (j:Int))]/\aq H H'/\Found K H' fA ls F (B3+c*(N+57))/\∀(i:Nat)(p:aA),pX[i]?=some p->∀a:Int,(a=0\/a=1)->ax a (F i)=(oH T ip a p+if i<k then sP (U p.nm) (p.ws.map (ax a)) else if i=k then sP ((U p.nm).take j) ((p.ws.take j).map (ax a)) else 0)+if i=k/\a<(c:Int) then x*ax a wq else 0;cP (lo:=0) (n:=2) I ⟨F,o6,rfl,s5,by rwa [Wh],fun i p e a ha=>?_⟩ ?_ ?_⟩
    ·rw [hF i p e a ha,mJ (c:=i=k/\a<((0:Nat):Int)) (fun z=>by rcases ha with rfl|rfl<;>exact DL z.2 gt)]
     grind
    ·rintro c Y H6 hc ⟨F,o6,rfl,s6,F6,hF⟩
     let ek:(0:Int)+(c:Int)=(c:Int):=Kp _;rw [ek];let hc2:(c:Int)=0\/(c:Int)=1:=ga
     let bc:c*(N+57)<=1*(N+57):=N2 _ ga;obtain ⟨wa,zs,u,ewa,MI,awc,nwc⟩:=Pm hc2 (hwq.ji s6);rw [ewa] at awj
     let dgu:eZ H6 uA (.str p.nm) (some (.ref la)):=by
      have:=eZ.k (k:=.inr p.nm) (s6 _ _ fo.hu);rwa [exv] at this
     show ⟨_,rfl,_,rfl,_,rfl,_,rfl,_,rfl,_,rfl,pA,_,_,_,rfl,rfl,aU.of (s6 _ _ fr.hp),aku,pa,_,_,_,rfl,rfl,Ty.aq.cp s6 h1,bV,uA,_,rfl,dgu,_,rfl,la,_,_,_,rfl,rfl,aU.of (s6 _ _ hla),axj,_,rfl,_,rfl,pA,_,_,_,rfl,rfl,aU.of (s6 _ _ fr.hp),aku,pa,_,_,_,rfl,rfl,Ty.aq.cp s6 h1,rfl,_,rfl,l,_,_,_,rfl,rfl,aU.of (s6 _ _ h3),awj,_,rfl,wa,_,_,_,rfl,rfl,MI,awc,?_⟩;dsimp only [iP];show c_ K qi [_,_] _ _ E0;refine so (hx.ji s6) (gj nwc (jH (Pn zw) (DU _))) ga fun p7 H7 s7 n7=>?_;show ⟨fA,ls,F,_,k,(c:Int),_,_,_,rfl,F6.ji s7,ga,hc2,n7,ga,fun H8 k8 F8=>?_⟩;show ⟨_,_,rfl,KL.ji hn (s6.trans s7) k8,F8.up (by rw [O4];omega),fun i p' e a ha=>?_⟩;rw [xP hc2 ha,hF i p' e a ha];by_cases ci:i=k
     ·by_cases ca:a=(c:Int)
      ·subst ca
       rw [mJ (c:=i=k/\(c:Int)<(c:Int)) (fun z=>ga),mK (c:=i=k/\(c:Int)=(c:Int)) ⟨ci,rfl⟩,mK (c:=i=k/\(c:Int)<((c+1:Nat):Int)) ⟨ci,ga⟩];grind
      ·rw [mJ (c:=i=k/\a=(c:Int)) (fun z=>ca z.2)]
       by_cases cl:a<(c:Int)
       ·rw [mK (c:=i=k/\a<(c:Int)) ⟨ci,cl⟩,mK (c:=i=k/\a<((c+1:Nat):Int)) ⟨ci,ga⟩]
        grind
       ·rw [mJ (c:=i=k/\a<(c:Int)) (fun z=>cl z.2),mJ (c:=i=k/\a<((c+1:Nat):Int)) (fun z=>by have:=z.2;omega)]
        grind
     ·rw [mJ (c:=i=k/\a<(c:Int)) (fun z=>ci z.1),mJ (c:=i=k/\a=(c:Int)) (fun z=>ci z.1),mJ (c:=i=k/\a<((c+1:Nat):Int)) (fun z=>ci z.1)]
      grind
    ·rintro Y H6 ⟨F,o6,rfl,s6,F6,hF⟩
     show ⟨F,_,_,rfl,s6,F6.up (by rw [O4,<-hB3];omega),fun i p' e a ha=>?_⟩;rw [hF i p' e a ha];by_cases ci:i=k
     ·subst ci
      erw [ep] at e;rw [mJ (O6 _),mK rfl,mJ (O6 _),mK rfl,mK (c:=i=i/\a<((2:Nat):Int)) ⟨rfl,by rcases ha with rfl|rfl<;>decide⟩];rw [take_snoc ex,take_snoc ewq,K7,j9 _ _ (by rw [ir,KI,KI];omega),DG,MV,cv,gh];grind
     ·rw [mJ (c:=i=k/\a<((2:Nat):Int)) (fun z=>ci z.1),mJ ci,mJ ci]
      grind
   ·rintro Y H5 ⟨F,o6,o9,rfl,s5,F5,hF⟩
    rw [en3] at F5 hF
    show ⟨F,_,_,_,_,_,rfl,s5,F5.up (by
     have:mT.length*(2*(N+57))<=2*(2*(N+57)):=N2 _ ga;rw [O4,<-hB2]
     omega),fun i p' e a ha=>?_⟩
    rw [hF i p' e a ha];by_cases ci:i=k
    ·subst ci
     erw [ep] at e;rw [mJ (O6 _),mK rfl,mK (NM _),Si ga,Si ga]
    ·rw [mJ ci]
     by_cases cl:i<k
     ·rw [mK cl,mK ga]
     ·rw [mJ cl,mJ ga]
  ·rintro Y H4 ⟨F,o5,o6,o7,o8,o9,rfl,s4,F4,hF⟩
   rw [en2,lu] at F4 hF;let bp:pX.length*(4*(N+57))<=9*(4*(N+57)):=N2 _ ga;show ⟨_,rfl,q fA ls F H4 s4 ll (F4.up ga) fun i p e=>?_⟩;let hi:=(be.mp e).1;let a0:=hF i p e 0 (.inl rfl);let a1:=hF i p e 1 (.inr rfl);rw [mK hi] at a0 a1;unfold dq;unfold oH at a0 a1;let e0:ax 0=fun p:Rat×Rat=>p.1:=rfl;let e1:ax 1=fun p:Rat×Rat=>p.2:=rfl;rw [e0] at a0;rw [e1] at a1;show ⟨a0.trans (Rat.add_comm _ _),a1.trans (Rat.add_comm _ _)⟩
structure LdG (K:Frag)(H:Hp)(d:AG)(AD:δ)(pX:ν)(L:ς):Prop where
 hd:H d=some (.dK AD)
 pt:Rj K H AD L
 nk:(AD.map (·.1)).Nodup
 ks:∀kv∈AD,∃x∈pX.map (·.nm),kv.1=.inr x
 sz:mvL L
 ll:AD.length<=100
def mC (hd:H d=some (.dK k)):bF H (upd H d (.dK k')):=fun a zs r=>by
 rcases r with r|⟨o',r⟩
 ·exact .inl (by rw [ao (fun e=>by erw [e,hd] at r)];exact r)
 ·exact .inr ⟨o',by rw [ao (fun e=>by erw [e,hd] at r)];exact r⟩
structure xQ {Z:Type}(H:Hp)(d:AG)(kT:δ)(nm:Z->Str)(l:List Z)(R:Hp->V->Z->Prop):Prop where
 hd:H d=some (.dK kT)
 ky:kT.map (·.1)=l.map (fun x=>(KA (nm x):Key))
 tv:∀x∈l,∃v,cI kT (.inr (nm x))=some v/\R H v x
def xQ.ji {R:Hp->V->Z->Prop}(h:xQ H d kT nm l R)(m:∀v x,R H v x->R H' v x)(s:aq H H'):xQ H' d kT nm l R:=⟨s _ _ h.hd,h.ky,fun x hx=>by
 obtain ⟨v,a,b⟩:=h.tv x hx
 show ⟨v,a,m v x b⟩⟩
def xQ.len {R:Hp->V->Z->Prop}(h:xQ H d kT nm l R):kT.length=l.length:=by
 have:=oP NO h.ky;rwa [ir,ir] at this
def xQ.get {R:Hp->V->Z->Prop}(h:xQ H d kT nm l R)(hx:x∈l):∃v,eZ H d (.str (nm x)) (some v)/\R H v x:=by
 obtain ⟨v,a,c⟩:=h.tv x hx;show ⟨v,?_,c⟩;have:=eZ.k (k:=.inr (nm x)) h.hd;rwa [a] at this
def xQ.put {l:List Z}(nd:(l.map nm).Nodup)(e:l[i]?=some x)(h:xQ H d kT nm (l.take i) R)(m:∀v' y,R H v' y->R (upd H d (.dK (putK kT (.inr (nm x)) v))) v' y)(hv:R H v x):xQ (upd H d (.dK (putK kT (.inr (nm x)) v))) d (putK kT (.inr (nm x)) v) nm (l.take (i+1)) R:=by
 show ⟨aj,?_,fun y hy=>?_⟩
 ·rw [dJ _ (cR (by
   rw [h.ky];intro z;obtain ⟨p',uO,e'⟩:=CZ.mp z
   exact j4 (nm:=nm) nd e uO (by injection e'))),K7,h.ky,take_snoc e,K7]
  rfl
 ·rw [yW]
  by_cases c:nm y=nm x
  ·let ey:y=x:=by
    obtain ⟨j,ej⟩:=D_ (ZW hy);have:=cT nd (x:=nm x) (i:=j) (j:=i) (by rw [Wp,ej,<-c];rfl) (by rw [Wp,e];rfl);rw [this,e] at ej;exact (FA ej).symm
   subst ey;rw [mK rfl];show ⟨v,rfl,m _ _ hv⟩
  ·rw [mJ (fun z=>c (by injection z))]
   rw [take_snoc e] at hy
   rcases K2.mp hy with z|z
   ·obtain ⟨v',a,b⟩:=h.tv y z
    show ⟨v',a,m _ _ b⟩
   ·exact DL (oP nm (K3.mp z)) c
theorem Pu {Z:Type}{f:Z->Rat}:∀{l:List Z},(∀x∈l,Sz k (f x))->Sz (l.length*(k+1)+1) (l.map f).sum
 | [],_=>by
  rw [MV,Oe];exact gv gV
 | x::l,h=>by
  rw [DG,KR,Me];refine ((h x EJ).add (Pu fun y hy=>h y (FF _ hy))).up ?_;rw [O4];omega
theorem UA :∀{us ws:Λ},(∀u∈us,Sz k u)->(∀w∈ws,Sz m w)->Sz (us.length*(k+m+1)+1) (sP us ws)
 | [],ws,_,_=>by
  rw [gh];exact gv gV
 | u::us,[],_,_=>by
  have:sP (u::us) []=0:=by simp [sP]
  rw [this];exact gv gV
 | u::us,w::ws,h1,h2=>by
  rw [cv,Me];refine (((h1 u EJ).mul (h2 w EJ)).add (UA (us:=us) (ws:=ws) (fun y hy=>h1 y (FF _ hy)) fun y hy=>h2 y (FF _ hy))).up ?_;rw [O4];omega
def z_ (g:bM pX ip)(zT:∀b∈ip,Sz 11 (T b.nm))(zU:∀p∈pX,∀u∈U p.nm,Sz 11 u)(lU:∀p∈pX,(U p.nm).length=p.ws.length)(hp:p∈pX)(hc:∀{n:Nat} {w:Rat×Rat},Sz n w.1/\Sz n w.2->Sz n (c w)):Sz 2000 (dq ip T U p c):=by
 unfold dq
 let z1:Sz ((U p.nm).length*(11+22+1)+1) (sP (U p.nm) (p.ws.map c)):=UA (zU p hp) fun w hw=>by
  obtain ⟨w',OD,rfl⟩:=CZ.mp hw;exact hc ((g.sz p hp).2.2 w' OD)
 let z2:Sz (ip.length*(69+1)+1) (ip.map fun b=>T b.nm*c (mv (cF b) p.nm)).sum:=Pu fun b hb=>((zT b hb).mul (hc (OR g hb p.nm))).up gt;let l1:=g.lw p hp;let l2:=g.lb;let l3:=lU p hp;let m1:(U p.nm).length*(11+22+1)<=2*34:=N2 34 ga;let m2:ip.length*(69+1)<=27*70:=N2 70 l2;exact (z1.add z2).up ga
def AA (ip:ρ)(T:Δ)(U:χ)(p:aA):Rat×Rat:=(-(dq ip T U p (·.1)), -(dq ip T U p (·.2)))
def J_ (h:0<q.2)(e:vl q=r):low (0-q.1) q.2=qr (-r):=by
 rw [pZ (NA h),<-e];congr 1;unfold vl;push_cast;grind
inductive xR (K:Frag)(vs:θ)(H:Hp)(Q:VK)(E_:XK):Prop
|mk (pA bA tA uA:AG)(us ws:θ)(kT kU:δ)(pX:ν)(ip:ρ)(T:Δ)(U:χ)(N:Nat)(_:vs=[.ref pA,.ref bA,.ref tA,.ref uA])(_:Sd K H pA bA us ws pX ip)(_:LFo K H tA uA kT kU pX ip T U N)(_:bM pX ip)(_:(∀b∈ip,Sz 11 (T b.nm)))(_:(∀p∈pX,∀u∈U p.nm,Sz 11 u))(_:∀(d:AG)(AD:δ)(L:ς)(H':Hp),aq H H' ->LdG K H' d AD pX L->AD.length<=9->gH pX ip T U L->Q (.ref d) H')
def AB:aE ["_law_pins_here","_law_bars_here","_law_pulls","_law_pushes","_law_found","_law_load_here","_law_k","_law_x"] QI (ae s_by):=sq
def abI (D:Def K mg "_law_load" s_by QI)(aX:mg "len"=none)(bg:mg "range"=none)(aic:am P w K mg iN 3 "_law_forces" QI (uB K))(Ph:am P w K mg iN 33 "_law_lowest" VQ gx):
  am P w K mg iN 34 "_law_load" QI (xR K):=by
 refine D.oo AB fun H hr h=>?_;obtain ⟨pA,bA,tA,uA,us,ws,kT,kU,pX,ip,T,U,N,rfl,fr,fo,g,zT,zU,q⟩:=h;let L2:2<=C_:=gt
 let lp:=fr.lp;let lu:us.length=pX.length:=EO fr.pp
 show ⟨_,(aa (aG 4 AB.nd (aZ aic hr (iu (pv 0) (bR (pv 1) (pv 2) (pv 3))))) (aa (aG 5 AB.nd dX) (aa (bG K6 rfl (bS rfl bg (aV (aK av rfl aX bJ (aV (pv 0))))) (b9 6 AB.nd) (aa (aG 7 AB.nd (aZ Ph hr (aT (aF dB ag (aL (j5 (bD aS (pv 4) (pv 6))))) (aL (j5 (bD aS (pv 4) (pv 6))))))) (ah (dQ (cW hr) (pv 5) (aL (bD aS (pv 0) (pv 6))) (aR (aT (pv 7) (aZ Ph hr (aT (aF dB ag (aL (j5 (bD aS (pv 4) (pv 6))))) (aL (j5 (bD aS (pv 4) (pv 6)))))))) rfl)))) (ah (aJ (pv 5)))))),?_⟩;sleep 3
 show ⟨_,rfl,_,rfl,_,rfl,_,rfl,pA,bA,tA,uA,us,ws,kT,kU,pX,ip,T,U,N,rfl,fr,fo,fun fA ls F H1 s1 ll hF eF=>?_⟩;intros d nd H2 s2 e2;let jF:=s1.trans s2;let enb:((us.length:Nat):Int).toNat=pX.length:=ga
 show ⟨_,rfl,pA,_,rfl,.inl (aU.of (jF _ _ fr.hp)),((us.length:Nat):Int),rfl,ga,ga,let I:dL:=fun i Y H'=>I_ fun (o6 o7:Α) (AD:δ)=>Y=[ce pA,ce bA,ce tA,ce uA,ce fA,ce d,o6,o7]/\aq H1 H'/\xQ H' d AD (·.nm) (pX.take i) (fun H v p=>kG K H v (AA ip T U p));cP (lo:=0) (n:=((us.length:Nat):Int).toNat) I ⟨none,none,[],rfl,s2,e2,by simp,fun x hx=>by simp at hx⟩ ?_ ?_⟩
 ·rintro i Y H3 hi ⟨o6,o7,AD,rfl,s3,di⟩
  let ek:(0:Int)+(i:Int)=(i:Int):=Kp _;rw [ek];let oZ:=s1.trans s3;let hiu:i<us.length:=ga
  obtain ⟨p,ep,Sb⟩:=aI fr.pp (gE hiu);obtain ⟨ta,lw,sv,mT,eu,h1,_,_,_⟩:=Sb.ji oZ;let ai:gS us (i:Int)=some (.ref ta):=bE (by rw [gE hiu,eu]);let F3:=hF.ji s3;obtain ⟨lr,elr⟩:∃lr,ls[i]?=some lr:=⟨_,gE ga⟩;obtain ⟨w1,w2,hlr,⟨q1,⟨a1,rfl,m1⟩,b1,c1,_⟩,⟨q2,⟨a2,rfl,m2⟩,b2,c2,_⟩⟩:=F3.row i lr elr;obtain ⟨f1,f2⟩:=eF i p ep;let etl:gS (ls.map V.ref) (i:Int)=some (.ref lr):=bE (by rw [Wp,elr];rfl);let lf:=aU.of (K:=K) F3.hf;let lrq:=aU.of (K:=K) hlr;show ⟨_,rfl,_,rfl,fA,_,_,_,rfl,rfl,lf,etl,lr,_,_,_,rfl,rfl,lrq,rfl,a1,_,_,_,rfl,rfl,m1,j6,_,_,rfl,rfl,_,rfl,_,rfl,fA,_,_,_,rfl,rfl,lf,etl,lr,_,_,_,rfl,rfl,lrq,rfl,a1,_,_,_,rfl,rfl,m1,jN,_,_,rfl,b1,fun p4 H4 s4 e4=>?_⟩;rw [J_ b1 (c1.trans f1)] at e4;let lf4:=aU.of (K:=K) (s4 _ _ F3.hf);let lr4:=aU.of (K:=K) (s4 _ _ hlr);let m24:=Ty.aq.cp s4 m2;show ⟨_,rfl,_,rfl,_,rfl,fA,_,_,_,rfl,rfl,lf4,etl,lr,_,_,_,rfl,rfl,lr4,rfl,a2,_,_,_,rfl,rfl,m24,j6,_,_,rfl,rfl,_,rfl,_,rfl,fA,_,_,_,rfl,rfl,lf4,etl,lr,_,_,_,rfl,rfl,lr4,rfl,a2,_,_,_,rfl,rfl,m24,jN,_,_,rfl,b2,fun p5 H5 s5 e5=>?_⟩;rw [J_ b2 (c2.trans f2)] at e5;show ⟨L2,?_⟩;intros p6 n6 H6 s6 e6;let s36:=s4.trans (s5.trans s6);let di6:=di.ji (fun _ _ z=>z.ji s36) s36;let lk:=di6.len;rw [KI] at lk;show ⟨_,rfl,_,rfl,_,rfl,pA,_,_,_,rfl,rfl,aU.of ((oZ.trans s36) _ _ fr.hp),ai,ta,_,_,_,rfl,rfl,Ty.aq.cp s36 h1,bV,d,_,rfl,iS.k (k:=.inr p.nm) di6.hd (FU (show AD.length<=100 by omega) gt),_,_,_,rfl,fun b o z=>(by rw [ao (ak z nd)];exact s36 _ _ (s3 _ _ z)),di6.put fr.gp.np ep (fun _ _ z=>z.bq (mC di6.hd)) ⟨p6,_,_,rfl,bK.of e6,JW (s6 _ _ (s5 _ _ e4)),JW (s6 _ _ e5)⟩⟩
 ·rintro Y H3 ⟨o6,o7,AD,rfl,s3,di⟩
  rw [enb,Mo] at di;let lk:=di.len;let ky:=di.ky
  let nk:(AD.map (·.1)).Nodup:=by
   rw [ky];have:(pX.map fun p=>(KA p.nm:Key))=(pX.map (·.nm)).map KA:=by rw [K4];rfl
   rw [this];exact Vo _ (fun a b n z=>n (by injection z)) fr.gp.np
  obtain ⟨L,hL⟩:=uq (nm:=aA.nm) ((0,0):Rat×Rat) fr.gp.np fun i=>(pX[i]?.map (AA ip T U)).getD (0,0)
  let eL:∀p∈pX,L p.nm=AA ip T U p:=fun p hp=>by
   obtain ⟨i,e⟩:=D_ hp;rw [hL i p e,e];rfl
  let mvp:∀p∈pX,mv (fun x=>if x∈pX.map (·.nm) then some (L x) else none) p.nm=AA ip T U p:=fun p hp=>by
   show (if p.nm∈pX.map (·.nm) then some (L p.nm) else none).getD (0,0)=_;rw [mK (CZ.mpr ⟨p,hp,rfl⟩)];exact eL p hp
  show ⟨_,rfl,q d AD (fun x=>if x∈pX.map (·.nm) then some (L x) else none) H3 (s1.trans s3) ⟨di.hd,fun x=>?_,nk,fun kv VZ=>?_,fun x=>?_,ga⟩ ga fun p hp=>?_⟩
  ·by_cases c:x∈pX.map (·.nm)
   ·obtain ⟨p,mp,rfl⟩:=CZ.mp c
    obtain ⟨v,a,b⟩:=di.tv p mp;exact .inr ⟨v,L p.nm,a,mK c,by rwa [eL p mp]⟩
   ·refine .inl ⟨cR (fun z=>c ?_),mJ c⟩
    rw [ky] at z;obtain ⟨p,mp,e⟩:=CZ.mp z;exact CZ.mpr ⟨p,mp,by injection e⟩
  ·have:kv.1∈AD.map (·.1):=CZ.mpr ⟨kv,VZ,rfl⟩
   rw [ky] at this;obtain ⟨p',mp,e⟩:=CZ.mp this;show ⟨p'.nm,CZ.mpr ⟨p',mp,rfl⟩,e.symm⟩
  ·by_cases c:x∈pX.map (·.nm)
   ·obtain ⟨p,mp,rfl⟩:=CZ.mp c
    rw [mvp p mp];show ⟨(z_ g zT zU fo.lU mp (fun h=>h.1)).neg,(z_ g zT zU fo.lU mp (fun h=>h.2)).neg⟩
   ·show Sz 2000 ((if x∈pX.map (·.nm) then some (L x) else none).getD (0,0)).1/\Sz 2000 ((if x∈pX.map (·.nm) then some (L x) else none).getD (0,0)).2
    rw [mJ c];show ⟨gv gt,gv gt⟩
  ·rw [mvp p hp]
   unfold AA;constructor<;>grind
def Xj :gO [a,b,c] (some 1) none=[b,c]:=rfl
def xS {i j:Nat}(h:bK K H p [.int (i:Int),.int (j:Int)]):Is K H (.t [.v (.int i),.v (.int j)]) (.ref p):=by
 unfold Is;show ⟨p,_,rfl,h,⟨rfl,rfl⟩,⟨rfl,rfl⟩,trivial⟩
def Pw {i j k l:Nat}:c7 [.v (.int i),.v (.int j)] [.v (.int k),.v (.int l)]=decide (i=k/\j=l):=by
 simp only [c7,iQ,lV,ZU];rw [RS];simp;omega
inductive ku (K:Frag)(vs:θ)(H:Hp)(Q:VK)(E_:XK):Prop
|mk (u v:V)(pX:ν)(b c:aD)(_:vs=[u,v])(_:(pX.map (·.nm)).Nodup)(_:km K H pX u b)(_:km K H pX v c)(_:∀H',aq H H' ->Q (.bl (a9 b c)) H')
def abK:aE RJ RJ (ae LK):=sq
def abL (D:Def K mg "_law_alike" LK RJ):am P w K mg iN 1 "_law_alike" RJ (ku K):=by
 refine D.oo abK fun H hr h=>?_;obtain ⟨u,v,pX,b,c,rfl,nd,⟨a1,i1,j1,rfl,h1,x1,y1⟩,⟨a2,i2,j2,rfl,h2,x2,y2⟩,q⟩:=h;let e1:decide (i1=i2/\j1=j2)=decide (b.one.nm=c.one.nm/\b.jK.nm=c.jK.nm):=decide_eq_decide.mpr ⟨fun ⟨u,v⟩=>by subst u;subst v;rw [x1] at x2;rw [y1] at y2;rw [FA x2,FA y2];show ⟨rfl,rfl⟩,fun ⟨u,v⟩=>⟨dC nd x1 x2 u,dC nd y1 y2 v⟩⟩;let e2:decide (j1=i2/\i1=j2)=decide (b.jK.nm=c.one.nm/\b.one.nm=c.jK.nm):=decide_eq_decide.mpr ⟨fun ⟨u,v⟩=>by subst u;subst v;rw [x1] at y2;rw [y1] at x2;rw [FA x2,FA y2];show ⟨rfl,rfl⟩,fun ⟨u,v⟩=>⟨dC nd y1 x2 u,dC nd x1 y2 v⟩⟩;let al:a9 b c=(decide (b.one.nm=c.one.nm/\b.jK.nm=c.jK.nm) || decide (b.jK.nm=c.one.nm/\b.one.nm=c.jK.nm)):=Bool.decide_or ..;rw [al,<-e1,<-e2] at q;let L2:2<=C_:=gt
 let nw3:∀{a b c:V},¬ (HT.fW [a,b,c].length 0 (some 1)=0/\HT.fW [a,b,c].length [a,b,c].length none=[a,b,c].length):=fun z=>nomatch z.1;show ⟨_,(ah (aJ (zaN (fk (jm hr.units) (cV DF (pv 0) (dy ag) dP) (cV DF (pv 1) (dy ag) dP) (fY _)) (CT (fk (jm hr.units) (aR (aT (aL (pv 0)) (aL (pv 0)))) (cV DF (pv 1) (dy ag) dP) (fY _)))))),_,rfl,_,rfl,a1,_,rfl,h1,nw3,?_⟩;rw [Xj];intros p3 n3 H3 s3 e3;show ⟨_,rfl,_,rfl,a2,_,rfl,Ty.aq.cp s3 h2,nw3,?_⟩;rw [Xj];intros p4 n4 H4 s4 e4;let jP:=s3.trans s4;show ⟨_,_,.inl ⟨xS (bK.of (s4 _ _ e3)),xS (bK.of e4)⟩,rfl,by simp [jk,dep],?_⟩;rw [Pw];show ⟨_,rfl,bU (fun z=>?_) fun z=>?_⟩
 ·rw [z] at q
  exact q _ jP
 rw [QS.mpr z,aoc] at q;show ⟨_,rfl,a1,_,_,_,rfl,rfl,Ty.aq.cp jP h1,rfl,_,rfl,a1,_,_,_,rfl,rfl,Ty.aq.cp jP h1,rfl,L2,?_⟩;intros p5 n5 H5 s5 e5;show ⟨_,rfl,_,rfl,a2,_,rfl,Ty.aq.cp (jP.trans s5) h2,nw3,?_⟩;rw [Xj];intros p6 n6 H6 s6 e6;show ⟨_,_,.inl ⟨xS (bK.of (s6 _ _ e5)),xS (bK.of e6)⟩,rfl,by simp [jk,dep],?_⟩;rw [Pw];exact q _ ((jP.trans s5).trans s6)
theorem qZ :∀(n:Nat) {us:θ} {zs:List Z},Paired R us zs->Paired R (us.take n) (zs.take n)
 | 0,_,_,_=>by simpa using Paired.nil
 | n+1,_,_,.nil=>by simpa using Paired.nil
 | n+1,_,_,.cons h t=>by
  rw [ah5,ah5];exact .cons h (qZ n t)
def Xk (K:Frag)(U:χ)(H:Hp)(v:V)(p:aA):Prop:=∃la ys,v=.ref la/\H la=some (.lst ys)/\Paired (g_ K H) ys (U p.nm)
theorem Xk.ji (h:Xk K U H v p)(s:aq H H'):Xk K U H' v p:=by
 obtain ⟨la,ys,a,b,c⟩:=h;show ⟨la,ys,a,s _ _ b,Paired.cg c fun _ _ z=>z.ji s⟩
def p18:Vr 10 18:=⟨gt,gt,gt⟩
def p12:Vr 10 12:=⟨gt,gt,gt⟩
def uC (m c k:Int):Int:=if 0<=c/\c<(10:Int)^(18:Int).toNat then c*69621+7*k else c.fdiv ((10:Int)^m.toNat)
def afQ (h:0<=c):gS [V.int (c*69621+7*k),.int (c.fdiv ((10:Int)^m.toNat))] (if (!decide (c<(10:Int)^(18:Int).toNat))=true then 1 else 0)=some (.int (uC m c k)):=by
 unfold uC;by_cases h':c<(10:Int)^(18:Int).toNat
 ·rw [Kk h',mK (show 0<=c/\c<(10:Int)^(18:Int).toNat from ⟨h,h'⟩)]
  rfl
 ·rw [O7 h',mJ (show ¬ (0<=c/\c<(10:Int)^(18:Int).toNat) from fun z=>h' z.2)]
  rfl
def adX (h:¬ 0<=c):gS [V.int (c*69621+7*k),.int (c.fdiv ((10:Int)^m.toNat))] (if (!false)=true then 1 else 0)=some (.int (uC m c k)):=by
 unfold uC;rw [mJ (show ¬ (0<=c/\c<(10:Int)^(18:Int).toNat) from fun z=>h z.1)];rfl
def Pz (ns:π)(i:Nat):Int:=if 19<i then uC 12 (cell ns (24+((i:Int).fmod 20))) i else cell ns (24+((i:Int).fmod 20))
inductive uD (K:Frag)(vs:θ)(H:Hp)(Q:VK)(E_:XK):Prop
|mk (sA pA bA:AG)(ns:π)(us ws:θ)(pX:ν)(ip:ρ)(_:vs=[.ref sA,.ref pA,.ref bA])(_:aU K H sA (ns.map V.int))(_:(∀i∈ns,intBits i<=1048576))(_:H pA=some (.lst us))(_:Paired (k_ K H) us pX)(_:vS pX)(_:pX.length<=8)(_:H bA=some (.lst ws))(_:Paired (km K H pX) ws ip)(_:ip.length<=26)(_:(ip.map (·.nm)).Nodup)(_:∀(a dT dU:AG)(kT kU:δ)(T:Δ)(U:χ)(H':Hp),aq H H' ->H' a=some (.tup [.ref dT,.ref dU])->xQ H' dT kT (·.nm) ip (fun H v b=>g_ K H v (T b.nm))->xQ H' dU kU (·.nm) pX (Xk K U)->(∀p∈pX,(U p.nm).length=p.ws.length)->(∀b∈ip,Sz 11 (T b.nm))->(∀p∈pX,∀u∈U p.nm,Sz 11 u)->Q (.ref a) H')
def oI:aE ["_law_script","_law_pins_here","_law_bars_here","_law_pulls","_law_k","_law_cell","_law_pushes","_law_some"] YH (ae LL):=sq
def abM (D:Def K mg "_law_drawn" LL YH)(aX:mg "len"=none)(bg:mg "range"=none)(uE:mg "int"=none)(kZ:am P w K mg iN 1 "_law_cell_at" QD (mw K))(gL:am P w K mg iN 1 "_law_field" OP gR):
  am P w K mg iN 2 "_law_drawn" YH (uD K):=by
 refine D.oo oI fun H hr h=>?_;obtain ⟨sA,pA,bA,ns,us,ws,pX,ip,rfl,hS,Xi,hp,pp,gp,lp,hb,pb,lb,nb,q⟩:=h;let L2:2<=C_:=gt
 let lw:ws.length=ip.length:=EO pb;let lu:us.length=pX.length:=EO pp;obtain ⟨T,hT⟩:=uq (nm:=aD.nm) (0:Rat) nb fun i=>((field (Pz ns i) 4001 19-9:Int):Rat);obtain ⟨U,hU⟩:=uq (nm:=aA.nm) ([]:List Rat) gp.np fun i=>([((field (cell ns (44+(i:Int))) 6007 19-9:Int):Rat),((field (cell ns (44+(i:Int))) 7001 19-9:Int):Rat)]).take ((pX[i]?.map fun p=>p.ws.length).getD 0)
 show ⟨_,(aa (aG 3 oI.nd dX) (aa (bG K6 rfl (bS rfl bg (aV (aK av rfl aX bJ (aV (pv 2))))) (b9 4 oI.nd) (aa (aG 5 oI.nd (aZ kZ hr (aT (pv 0) (aF cD ag (aF gP (pv 4) ag))))) (aa (bI (bW Ng (pv 4) ag) (ah (aG 5 oI.nd (bD aS (bQ (aT (aF cD (aF bY (pv 5) ag) (aF bY ag (pv 4))) (aF s_ (pv 5) (aF Nc ag ag)))) (cQ pd rfl uE NH (aV (ah8 (aco aix Nf ag (pv 5) (aF Nc ag ag)))))))) a_) (ah (dQ (cW hr) (pv 3) (aL (bD aS (pv 2) (pv 4))) (aR (aT (aF dB (aZ gL hr (bR (pv 5) ag ag)) ag) ag)) rfl))))) (aa (aG 6 oI.nd dX) (aa (bG K6 rfl (bS rfl bg (aV (aK av rfl aX bJ (aV (pv 1))))) (b9 4 oI.nd) (aa (aG 5 oI.nd (aZ kZ hr (aT (pv 0) (aF cD ag (pv 4))))) (aa (aG 7 oI.nd (bQ (aT (aR (aT (aF dB (aZ gL hr (bR (pv 5) ag ag)) ag) ag)) (aR (aT (aF dB (aZ gL hr (bR (pv 5) ag ag)) ag) ag))))) (ah (dQ (cW hr) (pv 6) (aL (bD aS (pv 1) (pv 4))) (cV fQ (pv 7) dP (dy (aK av rfl aX bJ (aV (aL (bD aS (pv 1) (pv 4))))))) rfl))))) (ah (aJ (aR (aT (pv 3) (pv 6))))))))),?_⟩;try dsimp only [rf,pC,Cx.yq,Cx.uS]
 intros d n1 H1 s1 e1;let en:((ws.length:Nat):Int).toNat=ip.length:=ga
 show ⟨_,rfl,bA,_,rfl,.inl (aU.of (s1 _ _ hb)),((ws.length:Nat):Int),rfl,ga,ga,let I:dL:=fun i Y H'=>I_ fun (o4 o5:Α) (kT:δ)=>Y=[ce sA,ce pA,ce bA,ce d,o4,o5,none,none]/\aq H H'/\xQ H' d kT (·.nm) (ip.take i) (fun H v b=>g_ K H v (T b.nm));cP (lo:=0) (n:=((ws.length:Nat):Int).toNat) I ⟨none,none,[],rfl,s1,e1,by simp,fun x hx=>by simp at hx⟩ ?_ ?_⟩
 ·rintro i Y H2 hi ⟨o4,o5,kT,rfl,s2,di⟩
  let ek:(0:Int)+(i:Int)=(i:Int):=Kp _;rw [ek];let NP:i<ws.length:=ga
  obtain ⟨b,eb,Pl⟩:=aI pb (gE NP);obtain ⟨ta,j1,j2,eu,h1,_⟩:=Pl;let ai:gS ws (i:Int)=some (.ref ta):=bE (by rw [gE NP,eu]);let tb:=hT i b eb;let fm:=jx (x:=(i:Int)) (m:=20) gt;show ⟨_,rfl,_,rfl,_,_,rfl,rfl,nz gt,_,_,rfl,rfl,sA,ns,_,rfl,s2.seq hS,ga,ga,?_⟩;let cb:=zab Xi (24+(i:Int).fmod 20);unfold Pz at tb;generalize cell ns (24+(i:Int).fmod 20)=c at tb cb ⊢;dsimp only [b_];refine jf (fun Y' H'=>Y' =[some (.ref sA),some (.ref pA),some (.ref bA),some (.ref d),some (.int (i:Int)),some (.int (if 19<i then uC 12 c i else c)),none,none]/\aq H2 H') (fun Nx hNx=>?_) ?_
  ·show ⟨_,rfl,_,_,rfl,rfl,_,rfl,bU (fun z=>?_) fun z=>?_⟩
   ·let z':19<i:=by have:=Km z;omega
    rw [mK z'] at hNx;show ⟨_,rfl,_,_,rfl,rfl,⟨DC cb gt,by decide+kernel⟩,_,rfl,_,_,rfl,rfl,⟨by decide+kernel,DC (Rm ga ga) gt⟩,_,_,rfl,rfl,_,rfl,_,_,rfl,rfl,p12,_,_,rfl,rfl,⟨gt,by decide+kernel⟩,L2,?_⟩;intros t4 n4 H4 s4 e4;show ⟨_,rfl,_,_,rfl,rfl,_,rfl,?_⟩;refine bU (fun z=>?_) (fun z=>?_)
    ·show ⟨_,_,rfl,rfl,p18,_,_,rfl,rfl,_,rfl,.inr ⟨_,rfl,?_⟩⟩
     show ⟨t4,_,_,_,rfl,rfl,aU.of e4,afQ (Km z),hNx _ _ ⟨rfl,s4⟩⟩
    ·show ⟨_,rfl,.inr ⟨_,rfl,?_⟩⟩
     show ⟨t4,_,_,_,rfl,rfl,aU.of e4,adX (of_decide_eq_false (QS.mpr z)),hNx _ _ ⟨rfl,s4⟩⟩
   ·let z':¬ 19<i:=by have:=of_decide_eq_false (QS.mpr z);omega
    rw [mJ z'] at hNx;exact hNx _ _ ⟨rfl,aq.refl _⟩
  rintro Y' H3 ⟨rfl,s3⟩;generalize (if 19<i then uC 12 c i else c)=c at tb ⊢;let i1:=bX (c:=c) (p:=4001) (m:=19) gt;show ⟨_,rfl,_,_,_,rfl,gt,gt,gt,_,_,rfl,rfl,L2,?_⟩;intros p4 n4 H4 s4 e4;let Mb:=s3.trans s4;let di4:=di.ji (fun _ _ z=>z.ji Mb) Mb;let lk:=di4.len;rw [KI] at lk;show ⟨_,rfl,_,rfl,_,rfl,bA,_,_,_,rfl,rfl,aU.of (Mb _ _ (s2 _ _ hb)),ai,ta,_,_,_,rfl,rfl,Ty.aq.cp (s2.trans Mb) h1,bV,d,_,rfl,iS.k (k:=.inr b.nm) di4.hd (FU (show kT.length<=1000 by omega) gt),_,_,_,rfl,fun b o z=>(by rw [ao (ak z n1)];exact Mb _ _ (s2 _ _ z)),di4.put nb eb (fun _ _ z=>z.bq (mC di4.hd)) (by rw [tb];exact iX _ e4)⟩
 rintro Y H2 ⟨o4,o5,kT,rfl,s2,dT⟩;rw [en,Mo] at dT;intros dU n3 H3 s3 e3;let oZ:=s2.trans s3;let en':((us.length:Nat):Int).toNat=pX.length:=ga
 show ⟨_,rfl,pA,_,rfl,.inl (aU.of (oZ _ _ hp)),((us.length:Nat):Int),rfl,ga,ga,let I:dL:=fun i Y H'=>P8 fun (o4 o5 o6:Α) (kU:δ)=>Y=[ce sA,ce pA,ce bA,ce d,o4,o5,ce dU,o6]/\aq H2 H'/\xQ H' dU kU (·.nm) (pX.take i) (Xk K U);cP (lo:=0) (n:=((us.length:Nat):Int).toNat) I ⟨_,_,_,[],rfl,s3,e3,by simp,fun x hx=>by simp at hx⟩ ?_ ?_⟩
 ·rintro i Y H4 hi ⟨o4,o5,o6,kU,rfl,s4,di⟩
  let ek:(0:Int)+(i:Int)=(i:Int):=Kp _;rw [ek];let NP:i<us.length:=ga
  obtain ⟨p,ep,Sb⟩:=aI pp (gE NP);let mp:=DE ep;let jP:=s2.trans s4;obtain ⟨ta,l,sv,mT,eu,h1,h2,h3,h4⟩:=Sb.ji jP;let ai:gS us (i:Int)=some (.ref ta):=bE (by rw [gE NP,eu]);let lv:mT.length=p.ws.length:=EO h4;let lwp:=(gp.ws p mp).len;let tb:=hU i p ep;rw [ep] at tb;show ⟨_,rfl,_,rfl,_,_,rfl,rfl,sA,ns,_,rfl,jP.seq hS,ga,ga,?_⟩;generalize cell ns (44+(i:Int))=c0 at tb ⊢;show ⟨_,rfl,_,_,_,rfl,gt,gt,gt,_,_,rfl,rfl,L2,?_⟩;intros p5 n5 H5 s5 e5;show ⟨_,rfl,_,_,_,rfl,gt,gt,gt,_,_,rfl,rfl,L2,?_⟩;intros p6 n6 H6 s6 e6;show ⟨L2,?_⟩;intros l7 n7 H7 s7 e7;let Uy:=s5.trans (s6.trans s7);show ⟨_,rfl,_,rfl,_,rfl,pA,_,_,_,rfl,rfl,aU.of (Uy _ _ (jP _ _ hp)),ai,ta,_,_,_,rfl,rfl,Ty.aq.cp Uy h1,rfl,l,_,rfl,.inl (aU.of (Uy _ _ h3)),_,rfl,l7,_,rfl,aU.of e7,?_⟩;rw [kJ (show mT.length<=[V.ref p5,V.ref p6].length by show mT.length<=2;omega)];intros la n8 H8 s8 e8;let Ur:=Uy.trans s8;let di8:=di.ji (fun _ _ z=>z.ji Ur) Ur;let lk:=di8.len;rw [KI] at lk;show ⟨_,rfl,_,rfl,_,rfl,pA,_,_,_,rfl,rfl,aU.of (Ur _ _ (jP _ _ hp)),ai,ta,_,_,_,rfl,rfl,Ty.aq.cp Ur h1,bV,dU,_,rfl,iS.k (k:=.inr p.nm) di8.hd (FU (show kU.length<=1000 by omega) gt),?_⟩;let two:Paired (g_ K H8) [V.ref p5,V.ref p6] [((field c0 6007 19-9:Int):Rat),((field c0 7001 19-9:Int):Rat)]:=.cons (iX _ (s8 _ _ (s7 _ _ (s6 _ _ e5)))) (.cons (iX _ (s8 _ _ (s7 _ _ e6))) .nil);show ⟨_,_,_,_,rfl,fun b o z=>(by rw [ao (ak z n3)];exact Ur _ _ (s4 _ _ z)),di8.put gp.np ep (fun _ _ ⟨a,ys,z1,z2,z3⟩=>⟨a,ys,z1,by rw [ao (fun e=>by erw [e,di8.hd] at z2)];exact z2,Paired.cg z3 fun _ _ z=>z.bq (mC di8.hd)⟩) ⟨la,_,rfl,e8,?_⟩⟩;rw [tb,lv];exact qZ _ two
 rintro Y H4 ⟨o4,o5,o6,kU,rfl,s4,di⟩;rw [en',Mo] at di;show ⟨_,rfl,_,rfl,L2,?_⟩;intros t5 n5 H5 s5 e5;let CH:=s4.trans s5;refine q t5 d dU kT kU T U H5 (s2.trans CH) e5 (dT.ji (fun _ _ z=>z.ji CH) CH) (di.ji (fun _ _ z=>z.ji s5) s5) (fun p hp=>?_) (fun b hb=>?_) fun p hp u hu=>?_
 ·obtain ⟨i,ei⟩:=D_ hp
  let lwp:=(gp.ws p hp).len;rw [hU i p ei,ei,KI];show min p.ws.length 2=p.ws.length;omega
 ·obtain ⟨i,ei⟩:=D_ hb
  rw [hT i b ei];generalize Pz ns i=c;let i1:=bX (c:=c) (p:=4001) (m:=19) gt;exact wQ (k:=11) (show _<2048 by omega) gt
 ·obtain ⟨i,ei⟩:=D_ hp
  rw [hU i p ei] at hu;generalize cell ns (44+(i:Int))=c at hu;let i1:=bX (c:=c) (p:=6007) (m:=19) gt;let i2:=bX (c:=c) (p:=7001) (m:=19) gt;let sm:∀i:Int,i.natAbs<2048->Sz 11 (i:Rat):=fun i h=>wQ h gt
  rcases KD.mp (ZW hu) with z|z
  ·rw [z]
   exact sm _ ga
  ·rw [K3.mp z]
   exact sm _ ga
def iK {pX:ν}(nd:(pX.map (·.nm)).Nodup)(hp:p∈pX)(hq:q∈pX)(e:p.nm=q.nm):p=q:=by
 obtain ⟨i,ei⟩:=D_ hp;obtain ⟨j,ej⟩:=D_ hq;have:=dC nd ei ej e;rw [this,ej] at ei;exact (FA ei).symm
def aeM (g:bM pX ip)(M:Μ)(hb:b∈ip)(hc:c∈ip)(h:a9 b c=true):nY M c=nY M b:=by
 obtain ⟨b1,b2,_⟩:=g.ends b hb;obtain ⟨c1,c2,_⟩:=g.ends c hc;unfold nY
 rcases Km h with ⟨u,v⟩|⟨u,v⟩
 ·rw [iK g.np b1 c1 u,iK g.np b2 c2 v]
 ·rw [iK g.np b1 c2 v,iK g.np b2 c1 u]
  unfold dt jt;grind
def acO (g:bM pX ip)(hb:b∈ip)(hc:c∈ip)(h:a9 b c=true)(x:Str):mv (cF c) x=mv (cF b) x:=by
 obtain ⟨b1,b2,b3⟩:=g.ends b hb;obtain ⟨c1,c2,_⟩:=g.ends c hc;unfold mv cF
 rcases Km h with ⟨u,v⟩|⟨u,v⟩
 ·rw [iK g.np b1 c1 u,iK g.np b2 c2 v]
 ·rw [<-iK g.np b1 c2 v,<-iK g.np b2 c1 u]
  by_cases y:x=b.jK.nm
  ·rw [mK y,mJ (fun z=>b3 (z.symm.trans y)),mK y]
  ·rw [mJ y,mJ y]
theorem Mp {Z:Type}{f:Z->Rat}:∀{l:List Z},(∀c∈l,f c=0)->(l.map f).sum=0
 | [],_=>rfl
 | c::l,h=>by
  rw [DG,KR,h c EJ,Mp fun d hd=>h d (FF _ hd)];grind
theorem oJ {f:aD->Rat}:∀{l:ρ},(l.map (·.nm)).Nodup->x∈l->(∀c∈l,c.nm≠x.nm->f c=0)->(l.map f).sum=f x
 | c::l,nd,hx,h=>by
  rw [DG,Kr] at nd;rw [DG,KR]
  rcases KD.mp hx with e|hx
  ·rw [<-e] at nd ⊢
   rw [Mp fun d hd=>h d (FF _ hd) fun z=>nd.1 (by rw [<-z];exact CZ.mpr ⟨d,hd,rfl⟩)];grind
  ·rw [h c EJ fun z=>nd.1 (by rw [z];exact CZ.mpr ⟨x,hx,rfl⟩),oJ nd.2 hx fun d hd=>h d (FF _ hd)]
   grind
def qk {ip:ρ}(nb:(ip.map (·.nm)).Nodup)(p:aD->Bool):((ip.filter p).map (·.nm)).Nodup:=nb.sublist (List.filter_sublist.map _)
def oi (no:gI pX ip T U):gH pX ip T U fun _=>none:=fun p hp=>by
 obtain ⟨a,b⟩:=no p hp;rw [a,b];show ⟨ZJ _,ZJ _⟩
theorem mD:∀(n:Nat)(l:Λ),sP (EI n 0) l=0
 | 0,_=>by simp [sP]
 | _+1,[]=>by simp [sP]
 | n+1,a::l=>by
  rw [Q_,cv,mD n l];grind
section
variable {pX:ν}{ip:ρ}{W:Rat×Rat}
def vW (np:(pX.map (·.nm)).Nodup):∃α:Str->List Rat,(∀p∈pX,α p.nm=EI p.ws.length 0)/\gH pX ip (fun _=>0) α fun _=>none:=by
 obtain ⟨α,hZ⟩:=uq (nm:=aA.nm) ([]:List Rat) np fun i=>EI ((pX[i]?.map (·.ws.length)).getD 0) 0
 let e:∀p∈pX,α p.nm=EI p.ws.length 0:=fun p hp=>by
  obtain ⟨i,ei⟩:=D_ hp;rw [hZ i p ei,ei];rfl
 show ⟨α,e,oi fun p hp=>?_⟩;unfold dq;rw [e p hp,mD,mD,Mp fun b _=>xI _,Mp fun b _=>xI _];show ⟨ZJ _,ZJ _⟩
def mF (g:bM pX ip)(ch:fC pX W)(oc:∀c∈ip,∃k d,kg pX c k d)(no:gI pX ip T U)(hb:b∈ip):((ip.filter (a9 b)).map fun c=>T c.nm).sum=0:=by
 obtain ⟨α,_,hZ⟩:=vW (ip:=ip) g.np;rw [FJ g ch oc (oi no) hZ hb];exact Mp fun _ _=>rfl
def kvs (g:bM pX ip)(ch:fC pX W)(oc:∀c∈ip,∃k d,kg pX c k d)(no:gI pX ip T U)(lU:∀p∈pX,(U p.nm).length=p.ws.length)(hp:p∈pX):U p.nm=EI p.ws.length 0:=by
 obtain ⟨α,hz,hZ⟩:=vW (ip:=ip) g.np;rw [JT g ch oc (oi no) hZ lU (fun q hq=>by rw [hz q hq,OT]) hp,hz p hp]
def AE (g:bM pX ip)(hb:b∈ip)(tk:xC pX ip b.nm M):(ip.filter (a9 b)).length=1:=by
 let h:∀c∈ip.filter (a9 b),c.nm=b.nm:=fun c hc=>by
  obtain ⟨mc,ac⟩:=KN.mp hc;apply O5;intro n;let e:=aeM g M hb mc ac;erw [tk.ip c mc,tk.ip b hb,mJ n,mK rfl] at e
 let m:=KN.mpr ⟨hb,fD b⟩;let nd:=qk g.nb (a9 b);generalize ip.filter (a9 b)=l at h m nd
 match l,h,m,nd with
 | [_],_,_,_=>rfl
 | c::d::l,h,_,nd=>
  rw [DG,Kr] at nd;exact DL (CZ.mpr ⟨d,EJ,(h d gV).trans (h c gV).symm⟩) nd.1
def AF (g:bM pX ip)(ch:fC pX W)(oc:∀c∈ip,∃k d,kg pX c k d)(no:gI pX ip T U)(hb:b∈ip)(tb:T b.nm=1):(ip.filter (a9 b)).length≠1:=fun l1=>by
 let e:=mF g ch oc no hb;let m:=KN.mpr ⟨hb,fD b⟩;obtain ⟨c,ec⟩:=Wy.mp l1;rw [ec] at e m;erw [<-K3.mp m,zN,List.sum_singleton,tb] at e
def dO (ip:ρ)(k:Nat)(b:aD):Option aD:=((ip.take k).filter fun c=>a9 c b).head?
def jg (ip:ρ):Nat->List (Nat×aD×aD)
 | 0=>[]
 | k+1=>jg ip k++(((ip[k]?).bind fun b=>(dO ip k b).map fun f=>(k,b,f)).toList)
theorem iL :∀{n:Nat},x∈jg ip n ↔ x.1<n/\ip[x.1]?=some x.2.1/\dO ip x.1 x.2.1=some x.2.2
 | 0=>⟨(fun h=>nomatch h),fun h=>DL h.1 (Oi _)⟩
 | n+1=>by
  unfold jg;rw [K2,iL (n:=n),anH,ahD];constructor
  ·rintro (h|⟨b,eb,h⟩)
   ·show ⟨ga,h.2⟩
   ·obtain ⟨f,ef,rfl⟩:=K9.mp h
    show ⟨NM _,eb,ef⟩
  ·rintro ⟨h1,h2,h3⟩
   by_cases c:x.1<n
   ·exact .inl ⟨c,h2,h3⟩
   ·obtain rfl:n=x.1:=ga
    exact .inr ⟨x.2.1,h2,by rw [h3];rfl⟩
theorem sy:∀n:Nat,((jg ip n).map (·.1)).Pairwise (· < ·)
 | 0=>z8
 | n+1=>by
  unfold jg;rw [K7,ah3];show ⟨sy n,?_,fun a ha b hb=>?_⟩
  ·generalize ((ip[n]?).bind fun b=>(dO ip n b).map fun f=>(n,b,f))=o
   cases o with
   | none=>exact z8
   | some y=>exact List.pairwise_singleton _ _
  ·obtain ⟨x,hx,rfl⟩:=CZ.mp ha
   obtain ⟨y,hy,rfl⟩:=CZ.mp hb;rw [anH,ahD] at hy;obtain ⟨c,_,hy⟩:=hy;obtain ⟨f,_,rfl⟩:=K9.mp hy;exact (iL.mp hx).1
def kz (nb:(ip.map (·.nm)).Nodup){i j:Nat}(hi:ip[i]?=some b)(hj:ip[j]?=some c)(e:b.nm=c.nm):i=j:=cT nb (x:=b.nm) (by rw [Wp,hi];rfl) (by rw [Wp,hj,e];rfl)
def ig (h:dO ip k b=some f):∃i,i<k/\ip[i]?=some f/\a9 f b=true:=by
 obtain ⟨h1,h2⟩:=KN.mp (List.mem_of_mem_head? h);obtain ⟨i,ei⟩:=D_ h1;let hi:=(be.mp ei).1;rw [KI] at hi;rw [QV ga] at ei;show ⟨i,ga,ei,h2⟩
def ik (h:dO ip k b=none)(hi:i<k)(ec:ip[i]?=some c):a9 c b=false:=by
 unfold dO at h;rw [List.head?_eq_none_iff,List.filter_eq_nil_iff] at h;exact QS.mpr (h c (DE (i:=i) (by rwa [QV hi])))
def abR (h:dO ip k b=some f)(nb:(ip.map (·.nm)).Nodup)(ef:ip[i]?=some f):dO ip i f=none:=by
 cases e:dO ip i f with
 | none=>rfl
 | some y=>
  exfalso;obtain ⟨j,hj,ey,ay⟩:=ig e;obtain ⟨i',CA,ef',af⟩:=ig h;obtain rfl:=kz nb ef ef' rfl;unfold dO at h
  let key:ip.take k=ip.take i++(ip.take k).drop i:=by
   have:=(Rb i (ip.take k)).symm
   rwa [List.take_take,RY (O0 CA)] at this
  rw [key,Sh] at h;let my:y∈(ip.take i).filter fun c=>a9 c b:=KN.mpr ⟨DE (i:=j) (by rwa [QV hj]),iJ ay af⟩;generalize hl:(ip.take i).filter (fun c=>a9 c b)=l at h my;cases l with
  | nil=>cases my
  | cons z l=>
   rw [Sj,List.head?_cons] at h;obtain rfl:=FA h;let mz:z∈ip.take i:=(KN.mp (by rw [hl];exact EJ)).1;obtain ⟨j',ej'⟩:=D_ mz;let hj':=(be.mp ej').1;rw [KI] at hj';rw [QV ga] at ej';have:=kz nb ef ej' rfl;omega
def AH (f:Nat->Rat)(h:a<m):Ty.sumTo m (fun i=>f i*(if i=a then 1 else 0))=f a:=by
 rw [fB,ot _ a _ Ry (Md.mpr h) fun i _ n=>by rw [mJ n];exact Rat.mul_zero _,mK rfl];exact xE _
def J' (g:bM pX ip)(eb:ip[k]?=some b)(ef:ip[i]?=some f)(hi:i<k)(al:a9 f b=true):JQ (ar pX+ip.length) (gB pX ip) (ar pX+k):=by
 let hk:=(be.mp eb).1;show ⟨fun j=>(if j=ar pX+k then 1 else 0)+(-1)*(if j=ar pX+i then 1 else 0),?_,fun j hj=>?_,fun qs hq=>?_⟩
 ·show (if ar pX+k=ar pX+k then (1:Rat) else 0)+(-1)*(if ar pX+k=ar pX+i then 1 else 0)≠0
  rw [mK rfl,mJ ga];grind
 ·show (if j=ar pX+k then (1:Rat) else 0)+(-1)*(if j=ar pX+i then 1 else 0)=0
  rw [mJ ga,mJ ga];grind
 ·obtain ⟨j,hj,rfl⟩:=CZ.mp hq
  let at':∀{n:Nat} {c:aD},ip[n]?=some c->vl ((fN (bw pX ip) j).getD (ar pX+n) (0,1))=vl ((dm (cF c) pX).getD j (0,1)):=fun {n c} e=>by
   unfold fN;rw [KU,Wp,vR pX ip e];rfl
  let er:dm (cF b) pX=dm (cF f) pX:=by
   unfold dm;congr 1;funext p;rw [acO g (DE ef) (DE eb) al]
  let e:(fun n=>vl ((fN (bw pX ip) j).getD n (0,1))*((if n=ar pX+k then 1 else 0)+(-1)*(if n=ar pX+i then 1 else 0)))=fun n=>vl ((fN (bw pX ip) j).getD n (0,1))*(if n=ar pX+k then 1 else 0)+(-1)*(vl ((fN (bw pX ip) j).getD n (0,1))*(if n=ar pX+i then 1 else 0)):=by
   funext n;grind
  rw [e,fB,oy,jd,<-fB,<-fB,AH _ ga,AH _ ga,at' eb,at' ef,er];grind
def PH (g:bM pX ip)(ch:fC pX W)(oc:∀c∈ip,∃k d,kg pX c k d){os:List u6}(h:RT pX ip os fc):fc=(jg ip ip.length).map fun x=>ar pX+x.1:=by
 obtain ⟨po,as,mem⟩:=h;refine xr as ?_ fun c=>⟨fun hc=>?_,fun hc=>?_⟩
 ·have:=sy (ip:=ip) ip.length
  rw [Vs] at this ⊢;exact this.imp fun h=>Nat.add_lt_add_left h _
 ·obtain ⟨i,ei⟩:=D_ hc
  obtain ⟨o,eo,ow⟩:=aI (dD po) ei;let wc:=ow.wc;have v9 :=((mem c).mp hc).1;let eb:=gE (show c-ar pX<ip.length by omega);generalize ip[c-ar pX]'ga=b at eb;let nmo:=ow.nm;rw [Wp,eb] at nmo;let nmb:b.nm=o.1:=FA nmo;refine CZ.mpr ?_;cases e:dO ip (c-ar pX) b with
  | some f=>show ⟨(c-ar pX,b,f),iL.mpr ⟨by show c-ar pX<_;omega,eb,e⟩,by show ar pX+(c-ar pX)=c;omega⟩
  | none=>
   exfalso;let mb:=DE eb;let z:=mF g ch oc ow.no mb;rw [oJ (f:=fun c=>o.2.1 c.nm) (x:=b) (qk g.nb _) (KN.mpr ⟨mb,fD b⟩) fun d hd n=>?_,nmb,ow.one] at z
   ·cases z
   ·obtain ⟨md,ad⟩:=KN.mp hd
    obtain ⟨j,ej⟩:=D_ md
    rcases Zr j (c-ar pX) with l|l|l
    ·have:=ik e l ej
     erw [ie ad] at this
    ·rw [l,eb] at ej
     exact DL (oP aD.nm (FA ej)).symm n
    ·exact ow.beh j d.nm (by rw [Wp,ej];rfl) ga
 ·obtain ⟨x,hx,rfl⟩:=CZ.mp hc
  obtain ⟨h1,h2,h3⟩:=iL.mp hx;obtain ⟨i,hi,ef,al⟩:=ig h3;exact (mem _).mpr ⟨ga,J' g h2 ef hi al⟩
def afZ (g:bM pX ip)(ch:fC pX W)(oc:∀c∈ip,∃k d,kg pX c k d)(ow:O8 pX ip o (ar pX+k))(eb:ip[k]?=some b)(ef:dO ip k b=some f):o.1=b.nm/\∀x∈ip,o.2.1 x.nm=(if x.nm=b.nm then 1 else 0)-(if x.nm=f.nm then 1 else 0):=by
 let nb:o.1=b.nm:=by
  have:=ow.nm;rw [agK,Wp,eb] at this;exact (FA this).symm
 obtain ⟨i,hi,Qk,al⟩:=ig ef;let ff:=abR ef g.nb Qk;let mb:=DE eb;let t1:o.2.1 b.nm=1:=by rw [<-nb];exact ow.one
 let bf:b.nm≠f.nm:=fun z=>by
  have:=kz g.nb eb Qk z;omega
 let later:∀x∈ip,∀j,ip[j]?=some x->∀y,dO ip j x=some y->x.nm≠b.nm->o.2.1 x.nm=0:=fun x hx j ej y ey n=>by
  obtain ⟨i',CA,ei',ai'⟩:=ig ey
  exact ow.oth j x.nm (by rw [Wp,ej];rfl) (fun z=>n (by
   rw [show j=k by omega,eb] at ej
   rw [FA ej])) (J' g ej ei' CA ai')
 show ⟨nb,fun x hx=>?_⟩;obtain ⟨j,ej⟩:=D_ hx;cases e:dO ip j x with
 | some y=>
  let xf:x.nm≠f.nm:=fun z=>by
   obtain rfl:=kz g.nb ej Qk z;rw [ej] at Qk;erw [FA Qk,ff] at e
  rw [mJ xf];by_cases c:x.nm=b.nm
  ·rw [c,t1,mK rfl]
   grind
  ·rw [later x hx j ej y e c,mJ c]
   grind
 | none=>
  let xb:x.nm≠b.nm:=fun z=>by
   obtain rfl:=kz g.nb ej eb z;rw [ej] at eb;erw [FA eb,ef] at e
  let z:=mF g ch oc ow.no hx;let nd:=qk g.nb (a9 x);let mx:=KN.mpr ⟨hx,fD x⟩
  let s1:=oJ (f:=fun c=>o.2.1 c.nm+ -(if c.nm=b.nm then 1 else 0)) nd mx fun c hc n=>by
   obtain ⟨mc,ac⟩:=KN.mp hc;by_cases cb:c.nm=b.nm
   ·rw [mK cb,cb,t1]
    grind
   ·obtain ⟨jc,Xm⟩:=D_ mc
    rw [mJ cb];cases ec:dO ip jc c with
    | some y=>
     rw [later c mc jc Xm y ec cb];grind
    | none=>
     exfalso
     rcases Zr j jc with l|l|l
     ·have:=ik ec l ej
      erw [ac] at this
     ·rw [<-l,ej] at Xm
      exact n (by rw [FA Xm])
     ·have:=ik e l Xm
      erw [ie ac] at this
  rw [kh,sum_neg,z,mJ xb] at s1;rw [mJ xb];by_cases xf:x.nm=f.nm
  ·obtain rfl:=kz g.nb ej Qk xf
   rw [ej] at Qk;obtain rfl:=FA Qk;rw [mK rfl];rw [oJ (f:=fun c=>if c.nm=b.nm then 1 else 0) (x:=b) nd (KN.mpr ⟨mb,al⟩) fun c _ n=>mJ n,mK rfl] at s1;grind
  ·rw [mJ xf]
   rw [Mp fun c hc=>mJ fun y=>xf ?_] at s1
   ·grind
   ·obtain ⟨mc,ac⟩:=KN.mp hc
    obtain ⟨jc,Xm⟩:=D_ mc;obtain rfl:=kz g.nb Xm eb y;rw [Xm] at eb;obtain rfl:=FA eb
    rcases Zr j i with l|l|l
    ·have:=ik ff l ej
     erw [iJ ac (ie al)] at this
    ·rw [l,Qk] at ej
     rw [FA ej]
    ·have:=ik e l Qk
     erw [iJ al (ie ac)] at this
end
def aif:VM K (.type "tuple") (.type "tuple")=some true:=by unfold VM;rw [mK gt]
def aih:VM K (.type "dict") (.type "dict")=some true:=by unfold VM;rw [mK gt]
theorem jh :∀ws:List Str,iY K H (ws.map fun w=>Da.v (.str w)) (ws.map V.str)
 | []=>by unfold iY;trivial
 | w::ws=>by
  rw [DG,DG];unfold iY;show ⟨?_,jh ws⟩;unfold Is;show ⟨rfl,rfl⟩
theorem xT:∀ws:List Str,c7 (ws.map fun w=>Da.v (.str w)) (ws.map fun w=>Da.v (.str w))=true
 | []=>by simp [c7]
 | w::ws=>by
  rw [DG];unfold c7;rw [xT ws];simp [iQ,lV]
theorem xU:∀ws:List Str,dS (ws.map fun w=>Da.v (.str w)) (ws.map fun w=>Da.v (.str w))=true
 | []=>by simp [dS]
 | w::ws=>by
  rw [DG];unfold dS;rw [xU ws];simp [alike]
theorem oK:∀ws:List Str,jk (ws.map fun w=>Da.v (.str w))<=60
 | []=>by simp [jk]
 | w::ws=>by
  rw [DG];unfold jk;have:=oK ws;simp only [dep];omega
def agR {ws:ψ}(e1:H p=some (.lst (ws.map V.str)))(e2:H p2=some (.lst (ws.map V.str)))(q:Q (.bl false) H):IE K (.ref p) (.ref p2) H Q:=by
 show ⟨ws.map fun w=>Da.v (.str w),ws.map fun w=>Da.v (.str w),.inr ⟨?_,?_⟩,xU ws,oK ws,by rwa [xT]⟩
 ·unfold Is
  show ⟨p,_,rfl,aU.of e1,jh ws⟩
 ·unfold Is
  show ⟨p2,_,rfl,aU.of e2,jh ws⟩
def sG {ws:ψ}(e1:H p=some (.lst (ws.map V.str)))(e2:H p2=some (.lst (ws.map V.str)))(q:Q (.bl true) H):NG K (.ref p) (.ref p2) H Q:=by
 show ⟨ws.map fun w=>Da.v (.str w),ws.map fun w=>Da.v (.str w),.inr ⟨?_,?_⟩,xU ws,oK ws,by rwa [xT]⟩
 ·unfold Is
  show ⟨p,_,rfl,aU.of e1,jh ws⟩
 ·unfold Is
  show ⟨p2,_,rfl,aU.of e2,jh ws⟩
def oM {us:θ}{nm:Z->Str}{oe:L2.St}(n1:H D1=none)(ha:H a=some (.lst us))(pr:Paired (fun u z=>∃c ys,u=.ref c/\bK K H c (.str (nm z)::ys)) us zs)(l:zs.length<=1000)(k:∀H',aq H H' ->H' D1=some (.lst ((zs.map nm).map V.str))->R (.ref D1) H'):
  lW D1 (b_ 0) jn (QL (Nu K) (MY 0) (tC (V.int 0))) (M8 K a) (none::oe) H R:=by
 let lu:us.length=zs.length:=EO pr;refine dN (K:=K) (a:=a) (xs:=us) (fun i v _=>∃z,zs[i]?=some z/\v=.str (nm z)) n1 (by rw [lu];exact FU l gt) (fun H2 s2=>aU.of (s2 _ _ ha)) (fun _ _ _ _ _ _ _ h=>h) ?_ ?_
 ·intro i u H2 R hu s2 k
  obtain ⟨z,ez,c,ys,rfl,h1⟩:=aI pr hu;show ⟨_,rfl,c,_,_,_,rfl,rfl,Ty.aq.cp s2 h1,bV,k _ _ (aq.refl _) ⟨z,ez,rfl⟩⟩
 ·intro ys H2 hy h_ s2 hD
  refine k H2 s2 ?_;rw [hD];congr 2;refine Mt fun i=>?_;rw [K4,Wp];by_cases c:i<ys.length
  ·obtain ⟨p,e1,e2⟩:=h_ i ys[i] (gE c)
   rw [gE c,e1,e2];rfl
  ·rw [EZ ga,EZ ga]
   rfl
def qM {Z:Type}{nm:Z->Str}{kM:δ}{zs:List Z}(h:kM.map (·.1)=zs.map (fun p=>(KA (nm p):Key))):(kM.map fun kv=>kV kv.1)=(zs.map nm).map V.str:=by
 have:(kM.map fun kv=>kV kv.1)=(kM.map (·.1)).map kV:=by rw [K4];rfl
 rw [this,h,K4,K4];rfl
def uF {us:θ}{pX:ν}(h:Paired (k_ K H) us pX):Paired (fun u (z:aA)=>∃c ys,u=.ref c/\bK K H c (.str z.nm::ys)) us pX:=Paired.cg h fun _ _ ⟨a,l,s,us,e,h1,_,_,_⟩=>⟨a,_,e,h1⟩
def uG {us:θ}{ip:ρ}(h:Paired (km K H pX) us ip):Paired (fun u (z:aD)=>∃c ys,u=.ref c/\bK K H c (.str z.nm::ys)) us ip:=Paired.cg h fun _ _ ⟨a,i,j,e,h1,_,_⟩=>⟨a,_,e,h1⟩
def uH {oe:L2.St}{xs:θ}(p:Z->Bool)(hp:Paired Rl xs zs)(nD:H1 D=none)(hn:xs.length<C_)(hS:∀H,aq H1 H->aU K H a xs)
  (ht:∀x z H (R:Bool->Hp->Prop),Rl x z->aq H1 H->(∀H',aq H H' ->R (p z) H')->tt (some x::oe) H R)
  (he:∀x z H (R:VK),Rl x z->aq H1 H->(∀y,Ro y z->R y H)->te (some x::oe) H R)
  (hd:∀ys H,Paired Ro ys (zs.filter p)->aq H1 H->H D=some (.lst ys)->Q (.ref D) H):
  lW D (b_ 0) tt te (M8 K a) (none::oe) H1 Q:=by
 let lz:xs.length=zs.length:=EO hp;show ⟨fun i m Y ys H=>m=xs.length-i/\i<=xs.length/\(∃o,Y=o::oe)/\aq H1 H/\H D=some (.lst ys)/\Paired Ro ys ((zs.take i).filter p)/\ys.length<=i,⟨xs.length,by simp,KZ _,⟨none,rfl⟩,fun b o e=>by rwa [ao (ak e nD)],aj,by simpa using Paired.nil,DU _⟩,?_⟩;rintro i m Y ys H ⟨rfl,hi,⟨o,rfl⟩,s,hD,ey,ly⟩;by_cases lQ:i<xs.length
 ·refine .inr ⟨⟨xs,xs[i],hS H s,gE lQ⟩,fun v H' y=>?_⟩
  obtain ⟨rfl,y2⟩:=y;obtain ⟨z,ez,hz⟩:=aI hp (y2 xs (hS _ s))
  let er:(zs.take (i+1)).filter p=(zs.take i).filter p++(if p z=true then [z] else []):=by
   rw [take_snoc ez,Sh,Pg];rfl
  unfold b_;refine ht v z _ _ hz s fun H2 s2=>?_;let Oy:=s.trans s2;let X5:=s2 _ _ hD;by_cases c:p z=true
  ·rw [mK c]
   rw [mK c] at er;refine he v z _ _ hz Oy fun y hy=>⟨X5,ga,xs.length-(i+1),ga,rfl,ga,⟨_,rfl⟩,fun b o e=>by rw [ao (ak e nD)];exact Oy _ _ e,aj,by rw [er];exact dj ey hy,by simp;omega⟩
  ·rw [mJ c]
   rw [mJ c,Zl] at er;show ⟨xs.length-(i+1),ga,rfl,ga,⟨_,rfl⟩,Oy,X5,by rwa [er],ga⟩
 ·obtain rfl:i=xs.length:=ga
  rw [lz,Mo] at ey;exact .inl ⟨⟨xs,hS _ s,DU _⟩,hd ys H ey s hD⟩
def FR (K:Frag)(H:Hp)(v:V)(x:Nat×aD×aD):Prop:=∃a,v=.ref a/\bK K H a [.str x.2.1.nm,.str x.2.2.nm]
def FR.ji (h:FR K H v x)(s:aq H H'):FR K H' v x:=by
 obtain ⟨a,rfl,h⟩:=h;show ⟨a,rfl,Ty.aq.cp s h⟩
theorem Ka:∀{ys:θ} {zs:ρ},Paired (fun y (z:aD)=>y=V.str z.nm) ys zs->ys=(zs.map (·.nm)).map V.str
 | _,_,.nil=>rfl
 | _,_,.cons h t=>by rw [h,Ka t];rfl
inductive FT (K:Frag)(vs:θ)(H:Hp)(Q:VK)(E_:XK):Prop
|mk (bA:AG)(ws:θ)(pX:ν)(ip:ρ)(_:vs=[.ref bA])(_:H bA=some (.lst ws))(_:Paired (km K H pX) ws ip)(_:(pX.map (·.nm)).Nodup)(_:ip.length<=26)(_:∀(l:AG)(us:θ)(H':Hp),aq H H' ->H' l=some (.lst us)->Paired (FR K H') us (jg ip ip.length)->Q (.ref l) H')
def iM:aE ["_law_bars_here","_law_due","_law_k","_law_firsts"] Ym (ae f_):=sq
def its (D:Def K mg "_law_owns" f_ Ym)(bg:mg "range"=none)(aX:mg "len"=none)(Mq:am P w K mg iN 1 "_law_alike" RJ (ku K)):am P w K mg iN 2 "_law_owns" Ym (FT K):=by
 refine D.op iM fun f cL A lj s H vs Q E hr h=>?_;obtain ⟨bA,ws,pX,ip,rfl,hb,pb,np,lb,q⟩:=h;let L0:0<=C_:=gt
 let L2:2<=C_:=gt
 let lw:ws.length=ip.length:=EO pb
 show ⟨_,(aa (aG 1 iM.nd (bQ gF)) (aa (bG K6 rfl (bS rfl bg (aV (aK av rfl aX bJ (aV (pv 0))))) (b9 2 iM.nd) (aa (Ot (i:=3) (tn:=VX) (fr:=["_law_k","_law_bars_here"]) (mL:=[2,0]) iM.nd (bu (cV fQ (pv 0) dP (dy (pv 2)))) (fun _ _ _ _=>(fj (i:=0) (show (["_law_bar","_law_k","_law_bars_here"]:List Str).Nodup from by decide+kernel) rfl (NY rfl))) (fun _ _ _ _=>(NJ (gD (qP Mq hr (aT (pv 0) (bD (gy (K:=K) rfl) (pv 2) (pv 1))))))) (bD (dz (K:=K) rfl) (pv 0) ag)) (ah (bI (bW (ng hr.units) (pv 3) (bQ gF)) (ah (cu (lH Ov Ri Rh fE (pv 1) (aV (aR (aT (aL (bD aS (pv 0) (pv 2))) (j5 (pv 3)))))))) a_)))) (ah (aJ (pv 1))))),?_⟩;sleep 2
 show ⟨L0,?_⟩;intros l n1 H1 s1 e1;let en:((ws.length:Nat):Int).toNat=ws.length:=ga
 show ⟨_,rfl,bA,_,rfl,.inl (aU.of (s1 _ _ hb)),((ws.length:Nat):Int),rfl,ga,ga,let I:dL:=fun i Y H'=>I_ fun (o2 o3:Α) (us:θ)=>Y=[ce bA,ce l,o2,o3]/\aq H H'/\H' l=some (.lst us)/\us.length<=i/\Paired (FR K H') us (jg ip i);cP (lo:=0) (n:=((ws.length:Nat):Int).toNat) I ⟨none,none,[],rfl,s1,e1,DU _,.nil⟩ ?_ ?_⟩
 ·rintro i Y H2 hi ⟨o2,o3,us,rfl,s2,e2,lu,pu⟩
  have CA :i<ws.length:=ga
  let ek:(0:Int)+(i:Int)=(i:Int):=Kp _;rw [ek];obtain ⟨b,eb,Pl⟩:=aI pb (gE CA);obtain ⟨a,j1,j2,ea,ha,_⟩:=id Pl;let ai:gS ws (i:Int)=some (.ref a):=bE (by rw [gE CA,ea]);show ⟨_,rfl,_,rfl,_,rfl,bA,_,rfl,aU.of (s2 _ _ hb),?_⟩;rw [kJ (O0 CA)];intros l3 n3 H3 s3 e3;let oZ:=s2.trans s3;show ⟨l3,rfl,⟨_,aU.of e3⟩,fun D4 n4=>?_⟩;refine uH (K:=K) (a:=l3) (xs:=ws.take i) (zs:=ip.take i) (Rl:=km K H3 pX) (Ro:=fun y z=>y=.str z.nm) (oe:=[some (.int (i:Int)),some (.ref bA)]) (fun c=>a9 c b) (eI i (Paired.cg pb fun _ _ z=>z.ji oZ)) n4 (FU (show _<=1000 by rw [KI];omega) gt) (fun H' s'=>aU.of (s' _ _ e3)) ?_ ?_ ?_
  ·intro x z HC RC hz sC kC
   show ⟨_,rfl,_,rfl,_,rfl,bA,_,_,_,rfl,rfl,aU.of (sC _ _ (oZ _ _ hb)),ai,x,.ref a,pX,z,b,rfl,np,hz.ji sC,?_,fun H9 s9=>⟨_,rfl,kC H9 s9⟩⟩;rw [<-ea];exact Pl.ji (oZ.trans sC)
  ·intro x z HC RC hz sC k
   obtain ⟨a',_,_,rfl,h',_⟩:=hz.ji sC;show ⟨_,rfl,a',_,_,_,rfl,rfl,h',bV,k _ rfl⟩
  intro ys H4 py s4 e4;rw [Ka py] at e4;let jP:=oZ.trans s4;let Mb:=s3.trans s4;show ⟨_,rfl,L0,?_⟩;intros l5 n5 H5 s5 e5;let Qj:=s5 _ _ e4;let e25:=s5 _ _ (Mb _ _ e2);let JG:=jP.trans s5;let pu5:Paired (FR K H5) us (jg ip i):=Paired.cg pu fun _ _ z=>z.ji (Mb.trans s5)
  let e1:jg ip (i+1)=jg ip i++((dO ip i b).map fun f=>(i,b,f)).toList:=by
   show jg ip i++((ip[i]?).bind fun b=>(dO ip i b).map fun f=>(i,b,f)).toList=_;rw [eb];rfl
  let ef:dO ip i b=((ip.take i).filter fun c=>a9 c b).head? :=rfl;generalize (ip.take i).filter (fun c=>a9 c b)=fs at Qj ef;show ⟨fs.map fun z=>Da.v (.str z.nm),[],.inr ⟨?_,?_⟩,?_,?_,?_⟩
  ·unfold Is
   show ⟨D4,_,rfl,aU.of Qj,?_⟩;have:=jh (K:=K) (H:=H5) (fs.map (·.nm))
   rwa [K4] at this
  ·unfold Is
   show ⟨l5,_,rfl,aU.of e5,by unfold iY;trivial⟩
  ·cases fs<;>rfl
  ·have:=oK (fs.map (·.nm))
   rwa [K4] at this
  show ⟨_,rfl,?_⟩;cases fs with
  | nil=>
   refine bU (fun c=>nomatch c) (fun _=>?_);rw [ef] at e1;show ⟨_,_,us,rfl,JG,e25,ga,by rw [e1];simpa using pu5⟩
  | cons f fs=>
   refine bU (fun _=>?_) (fun c=>DL rfl c);rw [ef] at e1;show ⟨_,rfl,.inl ⟨rfl,_,aU.of e25⟩,_,rfl,_,rfl,bA,_,_,_,rfl,rfl,aU.of (JG _ _ hb),ai,a,_,_,_,rfl,rfl,Ty.aq.cp JG ha,bV,_,rfl,D4,_,_,_,rfl,rfl,aU.of Qj,bV,L2,?_⟩;intros p6 n6 H6 s6 e6;let e26:=s6 _ _ e25;let t:bF H6 (upd H6 l (.lst (us++[.ref p6]))):=.list e26;show ⟨l,_,_,rfl,rfl,e26,FU (show us.length<=1000 by omega) gt,?_⟩;show ⟨_,_,us++[.ref p6],rfl,fun b' o z=>?_,aj,by rw [ER];show us.length+1<=_;omega,?_⟩
   ·rw [ao (ak z n1)]
    exact s6 _ _ (JG _ _ z)
   ·rw [e1]
    refine dj (Paired.cg pu5 fun _ _ ⟨a',e',h'⟩=>⟨a',e',t.cp (Ty.aq.cp s6 h')⟩) ⟨p6,rfl,t.cp (bK.of e6)⟩
 ·rintro Y H2 ⟨o2,o3,us,rfl,s2,e2,lu,pu⟩
  rw [en,lw] at pu;show ⟨_,rfl,q l us H2 s2 e2 pu⟩
abbrev xV (r:Rat):Da:=.t [.v (.int (qr r).1),.v (.int (qr r).2)]
theorem Kb {R:V->Z->Prop}(h:∀u a,R u a->Is K H (f a) u):∀{us:θ} {l:List Z},Paired R us l->iY K H (l.map f) us
 | [],[],.nil=>by
  unfold iY;trivial
 | _::_,_::_,.cons z t=>by
  show iY K H (_::_) _;unfold iY;show ⟨h _ _ z,Kb h t⟩
def abP (h:g_ K H v r):Is K H (xV r) v:=by
 obtain ⟨p,rfl,sq⟩:=h;unfold Is;show ⟨p,_,rfl,sq,?_⟩;unfold iY;show ⟨by unfold Is;show ⟨rfl,rfl⟩,?_⟩;unfold iY;show ⟨by unfold Is;show ⟨rfl,rfl⟩,?_⟩;unfold iY;trivial
def xW {us:θ}{rs:Λ}(h:H l=some (.lst us))(p:Paired (g_ K H) us rs):Is K H (.l (rs.map xV)) (.ref l):=by
 unfold Is;show ⟨l,_,rfl,aU.of h,Kb (fun u a z=>abP z) p⟩
def UB (d:Da):Prop:=alike d d=true/\iQ d d=true/\dep d<=60
theorem uI:∀rs:List Rat,dS (rs.map xV) (rs.map xV)=true/\c7 (rs.map xV) (rs.map xV)=true/\jk (rs.map xV)<=1
 | []=>⟨rfl,rfl,KZ _⟩
 | r::rs=>by
  obtain ⟨a,b,c⟩:=uI rs;show ⟨?_,?_,?_⟩
  ·show (alike (xV r) (xV r) && dS (rs.map xV) (rs.map xV))=true
   rw [a];simp [alike,dS]
  ·show (iQ (xV r) (xV r) && c7 (rs.map xV) (rs.map xV))=true
   rw [b];simp [iQ,c7,lV]
  ·show max 1 (jk (rs.map xV))<=1
   omega
def zau (rs:Λ):UB (.l (rs.map xV)):=by
 obtain ⟨a,b,c⟩:=uI rs;show ⟨?_,?_,by show jk (rs.map xV)+1<=60;omega⟩
 ·unfold alike
  exact a
 ·unfold iQ
  exact b
def agQ {k1 k2:δ}{Z:Type}{xs:List Z}{nm:Z->Str}{f:Z->Da}(h1:H a=some (.dK k1))(h2:H b=some (.dK k2))(e1:k1.map (·.1)=xs.map fun x=>(KA (nm x):Key))(e2:k2.map (·.1)=xs.map fun x=>(KA (nm x):Key))(nd:(xs.map nm).Nodup)(v1:∀x∈xs,∃v,cI k1 (.inr (nm x))=some v/\Is K H (f x) v)(v2:∀x∈xs,∃v,cI k2 (.inr (nm x))=some v/\Is K H (f x) v)(hd:∀x∈xs,UB (f x))(q:Q (.bl false) H):Ue K (.ref a) (.ref b) H Q:=by
 let nk:(xs.map fun x=>(KA (nm x):Key)).Nodup:=by
  have:(xs.map fun x=>(KA (nm x):Key))=(xs.map nm).map KA:=by rw [K4];rfl
  rw [this];exact Vo _ (fun a b n z=>n (by injection z)) nd
 show ⟨a,b,k1,k2,rfl,rfl,h1,h2,e1.trans e2.symm,fun i u v hu hv=>?_,q⟩
 let hi:i<xs.length:=by
  have:=oP NO e1;rw [ir,ir] at this;have:=(be.mp hu).1;omega
 let ex:=gE hi;generalize xs[i]=x at ex;let mx:=DE ex
 let kx:∀{k:δ} {w:Key×V},k.map (·.1)=xs.map (fun x=>(KA (nm x):Key))->k[i]?=some w->cI k (.inr (nm x))=some w.2:=fun {k w} e hw=>by
  let a1:(k.map (·.1))[i]?=some w.1:=by rw [Wp,hw];rfl
  rw [e,Wp,ex] at a1;let a2:w.1=KA (nm x):=(FA a1).symm;have OD :k[i]?=some (KA (nm x),w.2):=by rw [hw,<-a2]
  exact kI (by rwa [e]) OD
 obtain ⟨w1,y1,z1⟩:=v1 x mx;obtain ⟨w2,y2,z2⟩:=v2 x mx;rw [kx e1 hu] at y1;rw [kx e2 hv] at y2;cases y1;cases y2;show ⟨f x,z1,z2,(hd x mx).1,(hd x mx).2.1,(hd x mx).2.2⟩
def PK (h:bK K H p [.int i,.int j]):Is K H (.t [.v (.int i),.v (.int j)]) (.ref p):=by
 unfold Is;show ⟨p,_,rfl,h,⟨rfl,rfl⟩,⟨rfl,rfl⟩,trivial⟩
def afU :c7 [.v (.int i),.v (.int j)] [.v (.int i),.v (.int j)]=true:=by simp [c7,iQ,lV]
def ad7 (p q:Prop)[Decidable p][Decidable q]:qr ((if p then 1 else 0)-(if q then 1 else 0):Rat)=((if p then 1 else 0)-(if q then 1 else 0),1):=by
 by_cases a:p<;>by_cases b:q<;>simp only [a,b,if_true,if_false]<;>decide+kernel
def aeJ {us:θ}{f g:Z->Str}{oe:L2.St}(nD:H D=none)(ha:H a=some (.lst us))(pr:Paired (fun u z=>∃c,u=.ref c/\bK K H c [.str (f z),.str (g z)]) us zs)(l:zs.length<=1000)(k:∀H',aq H H' ->H' D=some (.lst ((zs.map f).map V.str))->Q (.ref D) H'):lW D (Ko K 2 (sL (b_ 0) (sL (b_ 1) QK))) jn (MY 0) (M8 K a) (none::none::oe) H Q:=by
 let lz:us.length=zs.length:=EO pr;let ln:us.length<C_:=by rw [lz];exact FU l gt
 show ⟨fun i m Y ys H'=>m=us.length-i/\i<=us.length/\(∃o o',Y=o::o'::oe)/\aq H H'/\H' D=some (.lst ys)/\ys=((zs.take i).map f).map V.str,⟨us.length,by simp,KZ _,⟨none,none,rfl⟩,fun b o e=>by rwa [ao (ak e nD)],aj,rfl⟩,?_⟩;rintro i m Y ys H' ⟨rfl,hi,⟨o,o',rfl⟩,s,hD,rfl⟩;by_cases lQ:i<us.length
 ·refine .inr ⟨⟨us,us[i],aU.of (s _ _ ha),gE lQ⟩,fun v H2 y=>?_⟩
  obtain ⟨rfl,y2⟩:=y;obtain ⟨z,ez,c,rfl,hc⟩:=aI pr (y2 us (aU.of (s _ _ ha)));show ⟨c,_,rfl,Ty.aq.cp s hc,rfl,_,_,rfl,_,_,rfl,rfl,?_⟩;unfold jn;dsimp only;rw [mK rfl];show ⟨_,rfl,hD,by simp;omega,us.length-(i+1),ga,rfl,ga,⟨_,_,rfl⟩,fun b o e=>by rw [ao (ak e nD)];exact s _ _ e,aj,by rw [take_snoc ez];simp⟩
 ·obtain rfl:i=us.length:=ga
  rw [lz,Mo] at hD;exact .inl ⟨⟨us,aU.of (s _ _ ha),DU _⟩,k _ s hD⟩
inductive Xp (K:Frag)(H:Hp)(pX:ν)(ip:ρ)(kv:Key×V)(x:Nat×aD×aD):Prop
|mk (p dT dU:AG)(T:Δ)(U:χ)(_:kv=(.inr x.2.1.nm,.ref p))(_:bK K H p [.ref dT,.ref dU])(_:PPS K H pX ip dT dU T U)(_:(∀c∈ip,T c.nm=(if c.nm=x.2.1.nm then 1 else 0)-(if c.nm=x.2.2.nm then 1 else 0)))(_:∀q∈pX,U q.nm=EI q.ws.length 0)
theorem q5 {g:γ->Nat}:∀{as:List Z} {bs:List β} {cs:List γ},Paired R as bs->Paired S bs (cs.map g)->(∀a b c,c∈cs->R a b->S b (g c)->α a c)->Paired α as cs
 | _,_,[],.nil,.nil,_=>.nil
 | _,_,c::cs,.cons r t,.cons s u,h=>.cons (h _ _ c EJ r s) (q5 t u fun a b c hc=>h a b c (FF _ hc))
def abQ {AD:δ}{os:List u6}(g:bM pX ip)(ch:fC pX W)(oc:∀c∈ip,∃k d,kg pX c k d)(pr:Paired (ud K H pX ip d) AD os)(ol:RT pX ip os fc):Paired (Xp K H pX ip) AD (jg ip ip.length):=by
 let po:=ol.1;rw [PH g ch oc ol] at po;refine q5 pr po fun kv o x hx r ow=>?_;obtain ⟨p,dT,dU,e,hp,_,_,h⟩:=r;obtain ⟨_,h2,h3⟩:=iL.mp hx;obtain ⟨e1,e2⟩:=afZ g ch oc ow h2 h3;show ⟨p,dT,dU,_,_,by rwa [<-e1],hp,h,e2,fun q hq=>kvs g ch oc ow.no ow.lU hq⟩
inductive PM (K:Frag)(vs:θ)(H:Hp)(Q:VK)(E_:XK):Prop
|mk (dA pA bA uA:AG)(AD:δ)(us ws ds:θ)(pX:ν)(ip:ρ)(_:vs=[.ref dA,.ref pA,.ref bA,.ref uA])(_:H dA=some (.dK AD))(_:Paired (Xp K H pX ip) AD (jg ip ip.length))(_:Sd K H pA bA us ws pX ip)(_:(ip.map (·.nm)).Nodup)(_:H uA=some (.lst ds))(_:Paired (FR K H) ds (jg ip ip.length))(_:∀H',aq H H' ->Q (.bl true) H')
def bB:aE ["_law_told","_law_pins_here","_law_bars_here","_law_due","_law_one","_law_first","_law_pulls","_law_pushes","_law_bar","_law_name_here","_law_spot","_law_ways"] YR (ae cA):=sq
def agL (D:Def K mg "_law_spares_right" cA YR)(eQ:mg "isinstance"=none)(qg:mg "dict"=none)(c9:mg "list"=none)(uE:mg "int"=none):am P w K mg iN 1 "_law_spares_right" YR (PM K):=by
 refine D.op bB fun f cL A lj s H vs Q E hr h=>?_;obtain ⟨dA,pA,bA,uA,AD,us,ws,ds,pX,ip,rfl,hd,px0,fr,nb,hu,pu,q⟩:=h;let L2:2<=C_:=gt
 let lb:=fr.lb
 let ky:AD.map (·.1)=(jg ip ip.length).map fun x=>(KA x.2.1.nm:Key):=by
  refine Mt fun i=>?_;rw [Wp,Wp];by_cases c:i<AD.length
  ·obtain ⟨x,ex,p,dT,dU,T,U,e,_⟩:=aI px0 (gE c)
   rw [gE c,ex,e];rfl
  ·rw [EZ ga,EZ (by rw [<-EO px0];omega)]
   rfl
 let kn:(AD.map (·.1)).Nodup:=by
  rw [ky];have:=sy (ip:=ip) ip.length;rw [Vs] at this;refine Vo _ (fun x y (z:x∈jg ip ip.length/\y∈jg ip ip.length/\x.1<y.1) e=>?_) (agU.mpr fun {x y} hs=>⟨hs.subset EJ,hs.subset (FF _ EJ),agU.mp this hs⟩);have:=kz nb (iL.mp z.1).2.1 (iL.mp z.2.1).2.1 (NQ e);have:=z.2.2;omega
 show ⟨_,(aa (bI (PW.pt (yx (sJ (gD (aK yO rfl eQ nh (aT (pv 0) (T1 rfl qg acM))))) (CS (bW (ng hr.units) (cQ (fZ rfl) rfl c9 jY (aV (pv 0))) (wY (tn:=wU) (fr:=[]) (mL:=[]) (bu (pv 3)) (fun _ _ _ _=>(rS (K:=K) (n:=2) rfl rfl (aY (fj (i:=0) (show (wU:List Str).Nodup from by decide+kernel) rfl (NY rfl)) (aY (fj (i:=1) (show (wU:List Str).Nodup from by decide+kernel) rfl (NY rfl)) cZ)))) (fun _ _ _ _=>pH) (pv 0)))))) (ah (aJ jA)) a_) (aa (bG K6 rfl (bu (pv 3)) (ft rfl (aY (b9 4 bB.nd) (aY (b9 5 bB.nd) cZ))) (aa (iO (fS (cW hr) (pv 0) (pv 4) (fun _ _=>rfl)) (ft rfl (aY (b9 6 bB.nd) (aY (b9 7 bB.nd) cZ)))) (aa (bG K6 rfl (bu (pv 2)) (b9 8 bB.nd) (ah (bI (bW (ng hr.units) (fS (cW hr) (pv 6) (aL (pv 8)) (fun _ _=>rfl)) (aR (aT (aF dB (cQ pd rfl uE NH (aV (fk eR (aL (pv 8)) (pv 4) (fY _)))) (cQ pd rfl uE NH (aV (fk eR (aL (pv 8)) (pv 5) (fY _))))) ag))) (ah (aJ jA)) a_))) (ah (bG K6 rfl (bu (pv 1)) (ft rfl (aY (b9 9 bB.nd) (aY (b9 10 bB.nd) (aY (b9 11 bB.nd) cZ)))) (ah (bI (bW (ng hr.units) (fS (cW hr) (pv 7) (pv 9) (fun _ _=>rfl)) (df (tn:=["_law_way"]) (fr:=[]) (mL:=[]) (bu (pv 11)) (aR (aT ag ag)))) (ah (aJ jA)) a_))))))) (ah (aJ jA)))),?_⟩;sleep 2
 show ⟨_,rfl,_,_,_,true,rfl,rfl,.dK hd,aih,_,rfl,bU (fun c=>nomatch c) (fun _=>?_)⟩;show ⟨_,rfl,dA,_,rfl,.inl hd,?_⟩;intros l1 n1 H1 s1 e1;rw [qM (nm:=fun x:Nat×aD×aD=>x.2.1.nm) ky] at e1;show ⟨_,rfl,uA,rfl,⟨_,aU.of (s1 _ _ hu)⟩,fun D2 n2=>?_⟩
 let ll:(jg ip ip.length).length<=1000:=by
  have:=sy (ip:=ip) ip.length
  let h2:=qa (m:=KC ip.length) (this.imp fun h=>KJ h) fun x hx=>by
   obtain ⟨y,hy,rfl⟩:=CZ.mp hx;exact Md.mpr (iL.mp hy).1
  rw [ir,Mf] at h2;omega
 refine aeJ (f:=fun x:Nat×aD×aD=>x.2.1.nm) (g:=fun x=>x.2.2.nm) n2 (s1 _ _ hu) (Paired.cg pu fun _ _ z=>z.ji s1) ll fun H2 s2 e2=>?_;refine agR (s2 _ _ e1) e2 ?_;show ⟨_,rfl,bU (fun c=>nomatch c) (fun _=>?_)⟩;let jF:=s1.trans s2
 show ⟨_,rfl,uA,rfl,⟨_,aU.of (jF _ _ hu)⟩,let I:dL:=fun i Y H'=>Ex8 fun (o4 o5 o6 o7 o8 o9 UC UD:Α)=>Y=[ce dA,ce pA,ce bA,ce uA,o4,o5,o6,o7,o8,o9,UC,UD]/\aq H H';cC (K:=K) (a:=uA) (xs:=ds) I ⟨_,_,_,_,_,_,_,_,rfl,jF⟩ (fun i Y H' _ h=>by
   obtain ⟨_,_,_,_,_,_,_,_,_,s⟩:=h
   exact aU.of (s _ _ hu)) ?_ ?_⟩
 ·rintro i u Y H3 X2 ⟨o4,o5,o6,o7,o8,o9,UC,UD,rfl,s3⟩
  obtain ⟨x,ex,ta,rfl,ht⟩:=aI pu X2;obtain ⟨kv,vF,p,dT,dU,T,U,rfl,hp,⟨⟨kT,hT,tT⟩,kU,hU,tU⟩,vT,vU⟩:=aI (dD px0) ex;show ⟨ta,_,rfl,Ty.aq.cp s3 ht,rfl,_,_,rfl,_,_,rfl,rfl,?_⟩
  let dg:eZ H3 dA (.str x.2.1.nm) (some (.ref p)):=by
   have:=eZ.k (k:=.inr x.2.1.nm) (s3 _ _ hd);rwa [kI kn vF] at this
  show ⟨_,rfl,_,rfl,dA,.ref p,rfl,dg,p,_,rfl,Ty.aq.cp s3 hp,rfl,_,_,rfl,_,_,rfl,rfl,?_⟩;let MG:=fr.ji s3
  show ⟨_,rfl,bA,rfl,⟨_,aU.of MG.hb⟩,let I:dL:=fun i Y H'=>∃(o8:Α),Y=[ce dA,ce pA,ce bA,ce uA,some (.str x.2.1.nm),some (.str x.2.2.nm),ce dT,ce dU,o8,o9,UC,UD]/\aq H H';cC (K:=K) (a:=bA) (xs:=ws) I ⟨_,rfl,s3⟩ (fun i Y H' _ h=>by
    obtain ⟨_,_,s⟩:=h
    exact aU.of (s _ _ fr.hb)) ?_ ?_⟩
  ·rintro j v Y H4 hv ⟨o8,rfl,s4⟩
   obtain ⟨b,eb,tb,j1,j2,rfl,h1,_⟩:=aI fr.pb hv;let h1:=Ty.aq.cp s4 h1;let mb:=DE eb;obtain ⟨w',ew,nw'⟩:=tT b mb
   let dg4:eZ H4 dT (.str b.nm) (some w'):=by
    have:=eZ.k (k:=.inr b.nm) (s4 _ _ hT);rwa [ew] at this
   show ⟨_,rfl,_,rfl,tb,_,_,_,rfl,rfl,h1,bV,dT,w',rfl,dg4,_,rfl,tb,_,_,_,rfl,rfl,h1,bV,_,rfl,rfl,.inr ⟨_,rfl,_,rfl,tb,_,_,_,rfl,rfl,h1,bV,_,rfl,rfl,.inr ⟨_,rfl,_,_,rfl,rfl,L2,?_⟩⟩⟩;intros p5 n5 H5 s5 e5;let nT:=(nw'.ji s4).ji s5;rw [vT b mb] at nT
   let eq:qr ((if b.nm=x.2.1.nm then 1 else 0)-(if b.nm=x.2.2.nm then 1 else 0):Rat)=((if decide (V.str b.nm=V.str x.2.1.nm)=true then 1 else 0)-(if decide (V.str b.nm=V.str x.2.2.nm)=true then 1 else 0),1):=by
    simp only [decide_eq_true_eq,V.str.injEq];exact ad7 _ _
   obtain ⟨p6,rfl,sq⟩:=nT;rw [eq] at sq;show ⟨_,_,.inl ⟨PK sq,PK (bK.of e5)⟩,rfl,by simp [jk,dep],?_⟩;rw [show c7 _ _=true from afU];show ⟨_,rfl,bU (fun c=>nomatch c) (fun _=>⟨_,rfl,s4.trans s5⟩)⟩
  rintro Y H4 ⟨o8,rfl,s4⟩;let vV:=fr.ji s4
  show ⟨_,rfl,pA,rfl,⟨_,aU.of vV.hp⟩,let I:dL:=fun i Y H'=>I_ fun (o9 UC UD:Α)=>Y=[ce dA,ce pA,ce bA,ce uA,some (.str x.2.1.nm),some (.str x.2.2.nm),ce dT,ce dU,o8,o9,UC,UD]/\aq H H';cC (K:=K) (a:=pA) (xs:=us) I ⟨_,_,_,rfl,s4⟩ (fun i Y H' _ h=>by
    obtain ⟨_,_,_,_,s⟩:=h
    exact aU.of (s _ _ fr.hp)) ?_ ?_⟩
  ·rintro j v Y H5 hv ⟨o9,UC,UD,rfl,s5⟩
   obtain ⟨r,er,Sb⟩:=aI fr.pp hv;let mr:=DE er;obtain ⟨tb,lw,sv,mT,rfl,h1,_,h3,h4⟩:=Sb.ji s5;show ⟨tb,_,rfl,h1,rfl,_,_,rfl,_,_,rfl,_,_,rfl,rfl,?_⟩;obtain ⟨la,vs2,ev,el,pl⟩:=tU r mr;rw [vU r mr] at pl
   let dg5:eZ H5 dU (.str r.nm) (some (.ref la)):=by
    have:=eZ.k (k:=.inr r.nm) (s5 _ _ hU);rwa [ev] at this
   show ⟨_,rfl,_,rfl,dU,.ref la,rfl,dg5,?_⟩;let lv:mT.length=r.ws.length:=EO h4;let lw2:=fr.gp.ws r mr;show ⟨_,rfl,lw,rfl,⟨_,aU.of h3⟩,fun D6 n6=>?_⟩;refine dN (oe:=[]) (K:=K) (a:=lw) (xs:=mT) (fun _ v H=>∃p,v=.ref p/\bK K H p [.int 0,.int 1]) n6 (by rw [lv];exact FU (show _<=1000 by have:=lw2.len;omega) gt) (fun H' s'=>aU.of (s' _ _ h3)) (fun i v Ha Hb ys e0 k ⟨a,ea,h⟩=>⟨a,ea,(bF.ks e0 k).cp h⟩) ?_ ?_
   ·intro i u H6 R hu6 s6 k
    show ⟨L2,?_⟩;intros p7 n7 H7 s7 e7;exact k _ _ s7 ⟨p7,rfl,bK.of e7⟩
   intro ys H6 ly h_ s6 e6
   let p6:Paired (g_ K H6) ys (EI r.ws.length 0):=gi (by rw [OT];omega) fun i u hi=>by
    obtain ⟨p,rfl,h⟩:=h_ i u hi;have:=(be.mp hi).1;show ⟨0,by rw [OV,mK ga],p,rfl,by rwa [kO]⟩
   obtain ⟨a1,a2,a3⟩:=uI (EI r.ws.length 0);show ⟨_,_,.inr ⟨xW (s6 _ _ (s5 _ _ el)) (Paired.cg pl fun _ _ z=>(z.ji s5).ji s6),xW e6 p6⟩,a1,ga,?_⟩;rw [a2];show ⟨_,rfl,bU (fun c=>nomatch c) (fun _=>⟨_,_,_,rfl,s5.trans s6⟩)⟩
  ·rintro Y H5 ⟨o9,UC,UD,rfl,s5⟩
   show ⟨_,_,_,_,_,_,_,_,rfl,s5⟩
 ·rintro Y H3 ⟨o4,o5,o6,o7,o8,o9,UC,UD,rfl,s3⟩
  exact q _ s3
def Ms (ip:ρ)(b:aD)(f:aD->Rat):Rat:=((ip.filter (a9 b)).map f).sum
def aeL {ip:ρ}(e:ip[i]?=some c):Ms (ip.take (i+1)) b f=Ms (ip.take i) b f+(if a9 b c=true then f c else 0):=by
 unfold Ms;rw [take_snoc e,Sh,K7,zv];by_cases h:a9 b c=true
 ·rw [mK h,Pg,mK h]
  simp [Rat.add_zero]
 ·rw [mJ h,Pg,mJ h]
  simp
def aaZ (h:0<q.2)(e:vl q=0):q.1=0:=by
 let e2:vl q*((q.2:Int):Rat)=((q.1:Int):Rat):=by
  unfold vl;have:=cO (NA h);grind
 rw [e,xI] at e2;exact (Pc.mp e2).symm
inductive xX (K:Frag)(vs:θ)(H:Hp)(Q:VK)(E_:XK):Prop
|mk (p pA bA tA uA dT dU:AG)(us ws:θ)(kT kU kD kE:δ)(pX:ν)(ip:ρ)(T D:Δ)(U:χ)(_:vs=[.ref p,.ref pA,.ref bA,.ref tA,.ref uA])(_:H p=some (.tup [.str "rest",.ref dT,.ref dU]))(_:Sd K H pA bA us ws pX ip)(_:xQ H dT kT (·.nm) ip (fun H v b=>g_ K H v (T b.nm)))(_:(∀b∈ip,Zb 900000 (T b.nm)))(_:xQ H dU kU (·.nm) pX (Xk K U))(_:xQ H tA kD (·.nm) ip (fun H v b=>g_ K H v (D b.nm)))(_:(∀b∈ip,Sz 11 (D b.nm)))(_:xQ H uA kE (·.nm) pX (Xk K U))(_:(∀b∈ip,Ms ip b (fun c=>T c.nm+ -(D c.nm))=0))(_:∀H',aq H H' ->Q (.bl true) H')
def dk:aE ["_law_told","_law_pins_here","_law_bars_here","_law_pulls","_law_pushes","_law_bar","_law_left","_law_other"] YS (ae cS):=sq
def ag0 (D:Def K mg "_law_rest_right" cS YS)(eQ:mg "isinstance"=none)(xY:mg "tuple"=none)(aX:mg "len"=none)(c9:mg "list"=none)(Mq:am P w K mg iN 1 "_law_alike" RJ (ku K))(va:am P w K mg iN 1 "_law_sum" Mj (c_ K jO))(z5:am P w K mg iN 1 "_law_turned" QJ (fq K)):
  am P w K mg iN 2 "_law_rest_right" YS (xX K):=by
 refine D.op dk fun f cL A lj s H vs Q E hr h=>?_;obtain ⟨p,pA,bA,tA,uA,dT,dU,us,ws,kT,kU,kD,kE,pX,ip,T,D,U,rfl,ep,fr,iT,zT,iU,iD,zD,iE,cl,q⟩:=h;let L2:2<=C_:=gt
 let lb:=fr.lb;let lp:=fr.lp;let lw:ws.length=ip.length:=EO fr.pb;let Yb:=bK.of (K:=K) ep
 show ⟨_,(aa (bI (PW.pt (yx (sJ (gD (aK yO rfl eQ nh (aT (pv 0) (T1 rfl xY acn))))) (yx (bW qB (aK av rfl aX bJ (aV (pv 0))) ag) (yx (bW qB (aL (pv 0)) cU) (CS (bW (acK hr.units) (aL (pv 0)) (pv 4))))))) (ah (aJ jA)) a_) (aa (bG K6 rfl (bu (pv 2)) (b9 5 dk.nd) (aa (aG 6 dk.nd (aR (aT ag ag))) (aa (bG K6 rfl (bu (pv 2)) (b9 7 dk.nd) (ah (bI (gD (aZ Mq hr (aT (pv 5) (pv 7)))) (ah (aG 6 dk.nd (aZ va hr (aT (pv 6) (aZ va hr (aT (fS (cW hr) (aL (pv 0)) (aL (pv 7)) (fun _ _=>rfl)) (aZ z5 hr (aV (fS (cW hr) (pv 3) (aL (pv 7)) (fun _ _=>rfl)))))))))) a_))) (ah (bI (bW qB (aL (pv 6)) ag) (ah (aJ jA)) a_))))) (ah (aJ (M0 (fk (jm hr.units) (cQ (fZ rfl) rfl c9 jY (aV (aL (pv 0)))) (df (tn:=VX) (fr:=[]) (mL:=[]) (bu (pv 2)) (bD (dz (K:=K) rfl) (pv 0) ag)) (fY _)) (CT (fk (jm hr.units) (cQ (fZ rfl) rfl c9 jY (aV (aL (pv 0)))) (df (tn:=["_law_pin"]) (fr:=[]) (mL:=[]) (bu (pv 1)) (bD (dz (K:=K) rfl) (pv 0) ag)) (fY _)))))))),?_⟩;sleep 2
 show ⟨_,rfl,_,_,_,true,rfl,rfl,.tup ep,aif,_,rfl,bU (fun c=>nomatch c) (fun _=>?_)⟩;show ⟨_,rfl,p,_,rfl,.inr Yb,rfl,_,rfl,IC rfl ?_⟩;show ⟨_,rfl,p,_,_,_,rfl,rfl,Yb,bV,rfl,_,rfl,IC rfl ?_⟩;show ⟨_,rfl,p,_,_,_,rfl,rfl,Yb,rfl,_,rfl,?_⟩;refine agQ (nm:=aA.nm) (f:=fun p=>.l ((U p.nm).map xV)) iU.hd iE.hd iU.ky iE.ky fr.gp.np (fun p hp=>?_) (fun p hp=>?_) (fun p hp=>zau _) ?_
 ·obtain ⟨v,a,la,ys,rfl,b,c⟩:=iU.tv p hp
  show ⟨_,a,xW b c⟩
 ·obtain ⟨v,a,la,ys,rfl,b,c⟩:=iE.tv p hp
  show ⟨_,a,xW b c⟩
 show ⟨_,rfl,bU (fun c=>nomatch c) (fun _=>?_)⟩
 show ⟨_,rfl,bA,rfl,⟨_,aU.of fr.hb⟩,let I:dL:=fun i Y H'=>I_ fun (o5 o6 o7:Α)=>Y=[ce p,ce pA,ce bA,ce tA,ce uA,o5,o6,o7]/\aq H H';cC (K:=K) (a:=bA) (xs:=ws) I ⟨_,_,_,rfl,aq.refl _⟩ (fun i Y H' _ h=>by
   obtain ⟨_,_,_,_,s⟩:=h
   exact aU.of (s _ _ fr.hb)) ?_ ?_⟩
 ·rintro i u Y H1 hu ⟨o5,o6,o7,rfl,s1⟩
  obtain ⟨b,eb,Pl⟩:=aI fr.pb hu;let mb:=DE eb;show ⟨L2,?_⟩;intros t2 n2 H2 s2 e2;let jF:=s1.trans s2
  show ⟨_,rfl,bA,rfl,⟨_,aU.of (jF _ _ fr.hb)⟩,let I:dL:=fun j Y H'=>P7 fun (tv:V) (o7:Α)=>Y=[ce p,ce pA,ce bA,ce tA,ce uA,some u,some tv,o7]/\aq H H'/\oA K H' tv (1+j*900020) (Ms (ip.take j) b fun c=>T c.nm+ -(D c.nm));cC (K:=K) (a:=bA) (xs:=ws) I ⟨_,_,rfl,jF,(0,1),⟨t2,rfl,bK.of e2⟩,gt,(show vl ((0,1):Int×Int)=0 by decide+kernel),gt,gt⟩ (fun i Y H' _ h=>by
    obtain ⟨_,_,_,s,_⟩:=h
    exact aU.of (s _ _ fr.hb)) ?_ ?_⟩
  ·rintro j uo Y H3 huo ⟨tv,o7,rfl,s3,nt⟩
   let hj:=(be.mp huo).1;obtain ⟨c,ec,hcr⟩:=aI fr.pb huo;let mc:=DE ec;obtain ⟨ta,j1,j2,euo,h1,_⟩:=id hcr;let sn:=aeL (b:=b) (f:=fun c=>T c.nm+ -(D c.nm)) ec;show ⟨_,rfl,_,rfl,u,uo,pX,b,c,rfl,fr.gp.np,Pl.ji s3,hcr.ji s3,fun H4 s4=>?_⟩;subst euo;let jP:=s3.trans s4;show ⟨_,rfl,bU (fun z=>?_) fun z=>?_⟩
   ·rw [mK z] at sn
    obtain ⟨pv,dg,npv⟩:=(iT.ji (fun _ _ z=>z.ji jP) jP).get mc;obtain ⟨dv,dg2,ndv⟩:=(iD.ji (fun _ _ z=>z.ji jP) jP).get mc;let h14:=Ty.aq.cp jP h1;show ⟨_,rfl,_,rfl,p,_,_,_,rfl,rfl,Ty.aq.cp jP Yb,rfl,_,rfl,ta,_,_,_,rfl,rfl,h14,bV,dT,pv,rfl,dg,_,rfl,_,rfl,ta,_,_,_,rfl,rfl,h14,bV,tA,dv,rfl,dg2,?_⟩;show fq K [_] _ _ E0;refine ki (gj ndv (jH (zD c mc) (DU _))) fun p5 H5 s5 n5=>?_;show c_ K jO [_,_] _ _ E0;refine kX (gj (npv.ji s5) (zT c mc)) n5 ga fun p6 H6 s6 n6=>?_;show c_ K jO [_,_] _ _ E0;refine kX (((nt.ji s4).ji s5).ji s6) n6 ga fun p7 H7 s7 n7=>?_;show ⟨_,_,rfl,jP.trans (s5.trans (s6.trans s7)),by rw [sn];exact n7.up ga⟩
   ·rw [mJ z,Rat.add_zero] at sn
    show ⟨_,_,rfl,jP,by rw [sn];exact (nt.ji s4).up ga⟩
  rintro Y H3 ⟨tv,o7,rfl,s3,nt⟩;rw [lw,Mo,cl b mb] at nt;obtain ⟨q',⟨ta,rfl,ht⟩,pos,v0,_⟩:=nt;rw [aaZ pos v0] at ht;show ⟨_,rfl,ta,_,_,_,rfl,rfl,ht,bV,rfl,_,rfl,IC rfl ?_⟩;show ⟨_,_,_,rfl,s3⟩
 rintro Y H1 ⟨o5,o6,o7,rfl,s1⟩;let sp1:=Ty.aq.cp s1 Yb;show ⟨_,rfl,p,_,_,_,rfl,rfl,sp1,rfl,dT,_,rfl,.inl (s1 _ _ iT.hd),?_⟩;intros l2 n2 H2 s2 e2;rw [qM (nm:=aD.nm) iT.ky] at e2;let Xq:=fr.ji (s1.trans s2);show ⟨_,rfl,bA,rfl,⟨_,aU.of Xq.hb⟩,fun D3 n3=>?_⟩;refine oM (nm:=aD.nm) n3 Xq.hb (uG Xq.pb) ga fun H3 s3 e3=>?_;refine sG (s3 _ _ e2) e3 ?_;show ⟨_,rfl,YQ ?_⟩;let oZ:=s1.trans (s2.trans s3);show ⟨_,rfl,p,_,_,_,rfl,rfl,Ty.aq.cp oZ Yb,rfl,dU,_,rfl,.inl (oZ _ _ iU.hd),?_⟩;intros l4 n4 H4 s4 e4;rw [qM (nm:=aA.nm) iU.ky] at e4;let vV:=fr.ji (oZ.trans s4);show ⟨_,rfl,pA,rfl,⟨_,aU.of vV.hp⟩,fun D5 n5=>?_⟩;refine oM (nm:=aA.nm) n5 vV.hp (uF vV.pp) ga fun H5 s5 e5=>?_;refine sG (s5 _ _ e4) e5 ?_;exact q _ (oZ.trans (s4.trans s5))
def agE (l:ρ):(l.map p).any id=decide ((l.filter p).length≠0):=by
 rw [List.any_map,RS,decide_eq_true_eq,Vm];constructor
 ·rintro ⟨x,hx,px⟩ z
  have:x∈l.filter p:=KN.mpr ⟨hx,px⟩;erw [R7.mp z] at this
 ·intro h
  obtain ⟨x,hx⟩:=List.exists_mem_of_ne_nil (l.filter p) (fun z=>h (by rw [z];rfl));show ⟨x,(KN.mp hx).1,(KN.mp hx).2⟩
def AJ {ip:ρ}:((ip++[b]).filter (a9 b)).length=(ip.filter (a9 b)).length+1:=by
 rw [Sh,ER,Pg,mK (fD b)];rfl
def vX (ip:ρ)(b:aD):Str:=if (ip.filter (a9 b)).length=0 then "stiffer" else "spare"
def AK (ip:ρ)(b:aD):Str:=if (ip.filter (a9 b)).length=1 then "looser" else "less"
def afs (R:qN K H C a pX ip)(g:bM pX (ip++[b]))(ch:fC pX W)(oc:∀d∈ip++[b],∃k e,kg pX d k e)(ex:b.nm=x)(q:∀(p:AG)(xs:θ)(H':Hp),aq H H' ->H' p=some (.tup (.str (vX ip b)::xs))->Q (.ref p) H'):uk K C [.ref a,.str x,.str b.one.nm,.str b.jK.nm] H Q E:=by
 let mb:b∈ip++[b]:=N8 _ EJ;subst ex;show ⟨a,pX,ip,b,rfl,R,g,fun M p v H' s e tk=>q p [v] H' s ?_,fun T U p v v' H' s e no lU tb=>q p [v,v'] H' s ?_⟩
 ·have:=AE g mb tk
  rw [AJ] at this;unfold vX;rwa [mK ga]
 ·have:=AF g ch oc no mb tb
  rw [AJ] at this;unfold vX;rwa [mJ ga]
def zah (R:qN K H C a pX ip)(g:bM pX ip)(ch:fC pX W)(oc:∀d∈ip,∃k e,kg pX d k e)(mb:b∈ip)(q:∀(p:AG)(xs:θ)(H':Hp),aq H H' ->H' p=some (.tup (.str (AK ip b)::xs))->Q (.ref p) H'):um K C [.ref a,.str b.nm] H Q E:=by
 show ⟨a,pX,ip,b,rfl,R,g,mb,fun M p v H' s e tk=>q p [v] H' s ?_,fun T U p v v' H' s e no lU tb=>q p [v,v'] H' s ?_⟩
 ·unfold AK
  rwa [mK (AE g mb tk)]
 ·unfold AK
  rwa [mJ (AF g ch oc no mb tb)]
inductive xZ (K:Frag)(C:AG)(vs:θ)(H:Hp)(Q:VK)(E_:XK):Prop
|mk (fA pA bA:AG)(v:V)(us ws:θ)(pX:ν)(ip:ρ)(W:Rat×Rat)(e:Nat×Nat)(c:Int)(_:vs=[.ref fA,.ref pA,.ref bA,v,.int c])(_:qN K H C fA pX ip)(_:Sd K H pA bA us ws pX ip)(_:zW pX ip)(_:fC pX W)(_:(∀b∈ip,∃k d,kg pX b k d))(_:(∀b∈ip,(ip.filter (a9 b)).length<=2))(_:("new":Str)∉ip.map (·.nm))(_:rD K H v e)(_:Ya pX.length e)(_:∀H',aq H H' ->Q (.bl true) H')
def cB:aE ["_law_frame_here","_law_pins_here","_law_bars_here","_law_side","_law_cell","_law_new","_law_due","_law_bar","_law_many"] Ye (ae cH):=sq
def agD (D:Def K mg "_law_words_right" cH Ye)(vG:mg "any"=none)(aX:mg "len"=none)(Mq:am P w K mg iN 1 "_law_alike" RJ (ku K))(gL:am P w K mg iN 1 "_law_field" OP gR)(AL:am P w K mg iN 39 "would_put" Yq (uk K C))(aik:am P w K mg iN 39 "would_take" ["F","name"] (um K C)):
  am P w K mg iN 40 "_law_words_right" Ye (xZ K C):=by
 refine D.oo cB fun H hr h=>?_;obtain ⟨fA,pA,bA,v,us,ws,pX,ip,W,e,c,rfl,R,fr,gb,ch,oc,two,nn,⟨eA,rfl,he⟩,on,q⟩:=h;let L2:2<=C_:=gt
 let L3:3<=C_:=gt
 let lb:=fr.lb;let lp:=fr.lp;let lw:ws.length=ip.length:=EO fr.pb;let e1:=gE on.1;let e2:=gE on.2.1;obtain ⟨b,hb⟩:∃b:aD,b=⟨"new",pX[e.1]'on.1,pX[e.2]'on.2.1⟩:=⟨_,rfl⟩;let b0:b.nm="new":=by rw [hb]
 let b1:pX[e.1]?=some b.one:=by rw [e1,hb]
 let b2:pX[e.2]?=some b.jK:=by rw [e2,hb]
 obtain ⟨k0,d0,sb⟩:=on.side b1 b2
 let gb':zW pX (ip++[b]):=⟨by
  rw [K7,Vp];show ⟨gb.nb,by simp,fun x hx y hy z=>nn ?_⟩;rw [zN,K3] at hy;rwa [<-b0,<-hy,<-z],fun d hd=>by
  rcases K2.mp hd with h|h
  ·exact gb.ends d h
  ·rw [K3.mp h]
   show ⟨DE b1,DE b2,fun z=>?_⟩;have:=dC fr.gp.np b1 b2 z;have:=on.2.2
   omega⟩
 let g:=Pj fr.gp gb ga ga;let g':=Pj fr.gp gb' ga (by rw [ER,Wx];omega)
 let oc':∀d∈ip++[b],∃k e,kg pX d k e:=fun d hd=>by
  rcases K2.mp hd with h|h
  ·exact oc d h
  ·rw [K3.mp h]
   show ⟨k0,d0,sb⟩
 let mb:b∈ip++[b]:=N8 _ EJ
 show ⟨_,(aa (aG 5 cB.nd (aR (bR cU (aL (pv 3)) (aL (pv 3))))) (aa (aG 6 cB.nd cU) (aa (bI (gD (aK (vA rfl) rfl vG Ub (aV (df (tn:=VX) (fr:=["_law_new"]) (mL:=[5]) (bu (pv 2)) (qP Mq hr (aT (pv 1) (pv 0))))))) (ah (aG 6 cB.nd cU)) a_) (aa (bI (bW qB (aL (aZ AL hr (iu (pv 0) (bR cU (aL (bD aS (pv 1) (aL (pv 3)))) (aL (bD aS (pv 1) (aL (pv 3)))))))) (pv 6)) (ah (aJ jA)) a_) (aa (bI (bW eR (aK av rfl aX bJ (aV (pv 2))) ag) (ah (aJ jA)) a_) (aa (aG 7 cB.nd (bD aS (pv 2) (aZ gL hr (bR (pv 4) ag (aK av rfl aX bJ (aV (pv 2))))))) (aa (aG 8 cB.nd (aK av rfl aX bJ (aV (wY (tn:=["_law_other"]) (fr:=VX) (mL:=[7]) (bu (pv 2)) (fun _ _ _ _=>(fj (i:=0) (show (["_law_other","_law_bar"]:List Str).Nodup from by decide+kernel) rfl (NY rfl))) (fun _ _ _ _=>(NJ (gD (qP Mq hr (aT (pv 1) (pv 0)))))) (pv 0))))) (ah (aJ (fk eR (aL (aZ aik hr (aT (pv 0) (aL (pv 7))))) (bD aS (bQ (aT cU cU)) (aF dB (pv 8) ag)) (fY _))))))))))),?_⟩;try dsimp only [rf,pC,Cx.yq,Cx.uS]
 show ⟨_,rfl,eA,_,_,_,rfl,rfl,he,j6,_,rfl,eA,_,_,_,rfl,rfl,he,jN,L3,?_⟩;intros nA n1 H1 s1 h1;let nb1:km K H1 pX (.ref nA) b:=⟨nA,e.1,e.2,rfl,bK.of (by rwa [b0]),b1,b2⟩;let fr1:=fr.ji s1;dsimp only [b_];refine jf (fun Y' H'=>H'=H1/\Y' =[some (.ref fA),some (.ref pA),some (.ref bA),some (.ref eA),some (.int c),some (.ref nA),some (.str "stiffer"),none,none]) (fun N hN=>hN _ _ ⟨rfl,rfl⟩) ?_;rintro Y H0 ⟨eh,rfl⟩;rw [eh];refine jf (fun Y' H'=>aq H1 H'/\Y' =[some (.ref fA),some (.ref pA),some (.ref bA),some (.ref eA),some (.int c),some (.ref nA),some (.str (vX ip b)),none,none]) (fun N hN=>?_) ?_
 ·show ⟨_,rfl,bA,rfl,⟨_,aU.of fr1.hb⟩,fun D2 n2=>?_⟩
  refine dN (oe:=[some (.ref nA)]) (K:=K) (a:=bA) (xs:=ws) (fun i v _=>∃d,ip[i]?=some d/\v=.bl (a9 b d)) n2 (by rw [lw];exact FU (show ip.length<=1000 by omega) gt) (fun H2 s2=>aU.of (s2 _ _ fr1.hb)) (fun _ _ _ _ _ _ _ h=>h) ?_ ?_
  ·intro i u H2 RR hu s2 k
   obtain ⟨d,ed,hd⟩:=aI fr1.pb hu;show ⟨_,rfl,_,rfl,.ref nA,u,pX,b,d,rfl,fr.gp.np,nb1.ji s2,hd.ji s2,fun H3 s3=>k _ _ s3 ⟨d,ed,rfl⟩⟩
  intro ys H2 ly h_ s2 hD
  let ey:ys=(ip.map (a9 b)).map V.bl:=by
   refine Mt fun i=>?_;rw [Wp,Wp];by_cases hi:i<ys.length
   ·obtain ⟨d,ed,h⟩:=h_ i _ (gE hi)
    rw [gE hi,h,ed];rfl
   ·rw [EZ ga,EZ ga]
    rfl
  rw [ey] at hD;show ⟨D2,_,rfl,aU.of hD,?_⟩;rw [agE];show ⟨_,rfl,bU (fun z=>?_) fun z=>?_⟩
  ·let z:=Km z
   exact hN _ _ ⟨s2,by unfold vX;rw [mJ z];rfl⟩
  ·let z:(ip.filter (a9 b)).length=0:=by simpa using z
   exact hN _ _ ⟨s2,by unfold vX;rw [mK z]⟩
 rintro Y H2 ⟨s2,rfl⟩;let jF:=s1.trans s2;let Xq:=fr.ji jF;let he2:=Ty.aq.cp jF he
 let pin:∀{i:Nat} {r:aA},pX[i]?=some r->∃a ys,gS us (i:Int)=some (.ref a)/\bK K H2 a (.str r.nm::ys):=fun {i r} ei=>by
  obtain ⟨u,eu,a,l,sv,mS,rfl,h,_⟩:=aI (dD Xq.pp) ei;show ⟨a,_,bE eu,h⟩
 obtain ⟨a1,y1,x1,z1⟩:=pin b1;obtain ⟨a2,y2,x2,z2⟩:=pin b2;show ⟨_,rfl,_,rfl,_,rfl,eA,_,_,_,rfl,rfl,he2,j6,pA,_,_,_,rfl,rfl,aU.of Xq.hp,x1,a1,_,_,_,rfl,rfl,z1,bV,_,rfl,_,rfl,eA,_,_,_,rfl,rfl,he2,jN,pA,_,_,_,rfl,rfl,aU.of Xq.hp,x2,a2,_,_,_,rfl,rfl,z2,bV,?_⟩;dsimp only [iP];show uk K C [_,_,_,_] _ _ E0;refine afs (R.ji jF) g' ch oc' b0 fun p xs H3 s3 e3=>?_;show ⟨p,_,_,_,rfl,rfl,bK.of e3,bV,_,rfl,rfl,_,rfl,IC rfl ?_⟩;let oZ:=jF.trans s3;let MG:=fr.ji oZ;show ⟨_,rfl,bA,_,rfl,.inl (aU.of MG.hb),rfl,_,rfl,bU (fun _=>q _ oZ) (fun z=>?_)⟩
 let z:0<ws.length:=by
  have:¬ V.int ((ws.length:Nat):Int)=V.int 0:=fun y=>z (Kk y);have:¬ ((ws.length:Nat):Int)=0:=fun y=>this (by rw [y]);omega
 let fi:=bX (c:=c) (p:=4001) (m:=((ws.length:Nat):Int)) ga;obtain ⟨j,ej⟩:∃j:Nat,field c 4001 ((ws.length:Nat):Int)=(j:Int):=⟨_,(RW fi.1).symm⟩;show ⟨_,rfl,_,rfl,_,rfl,bA,_,rfl,.inl (aU.of MG.hb),c,4001,_,rfl,gt,gt,ga,?_⟩;rw [ej] at fi ⊢;let hj:j<ws.length:=ga
 obtain ⟨u,eu⟩:∃u,ws[j]?=some u:=⟨_,gE hj⟩;obtain ⟨d,ed,hd⟩:=aI MG.pb eu;let md:=DE ed;obtain ⟨ta,i1,i2,rfl,ht,_⟩:=id hd;show ⟨bA,_,_,_,rfl,rfl,aU.of MG.hb,bE eu,?_⟩;dsimp only [b_];show ⟨_,rfl,bA,rfl,⟨_,aU.of MG.hb⟩,fun D4 n4=>?_⟩;refine uH (K:=K) (a:=bA) (xs:=ws) (zs:=ip) (Rl:=km K H3 pX) (Ro:=fun _ _=>True) (oe:=[some (.ref ta)]) (fun o=>a9 d o) MG.pb n4 (by rw [lw];exact FU (show ip.length<=1000 by omega) gt) (fun H' s'=>aU.of (s' _ _ MG.hb)) ?_ ?_ ?_
 ·intro x z HC RC hz sC kC
  show ⟨_,rfl,_,rfl,_,x,pX,d,z,rfl,fr.gp.np,hd.ji sC,hz.ji sC,fun H9 s9=>⟨_,rfl,kC H9 s9⟩⟩
 ·intro x z HC RC hz sC k
  show ⟨_,rfl,k _ trivial⟩
 intro ys H4 py s4 e4;let ly:ys.length=(ip.filter (a9 d)).length:=EO py;show ⟨D4,_,rfl,.inl (aU.of e4),?_⟩;dsimp only [b_];let jP:=oZ.trans s4;show ⟨_,rfl,_,rfl,ta,_,_,_,rfl,rfl,Ty.aq.cp s4 ht,bV,?_⟩;dsimp only [iP];show um K C [_,_] _ _ E0;refine zah (R.ji jP) g ch oc md fun p' xs' H5 s5 e5=>?_;show ⟨p',_,_,_,rfl,rfl,bK.of e5,bV,L2,?_⟩;intros l6 n6 H6 s6 e6;let t2:=two d md;let t1:0<(ip.filter (a9 d)).length:=ahI (KN.mpr ⟨md,fD d⟩)
 let aw:gS [V.str "looser",V.str "less"] (((ys.length:Nat):Int)-1)=some (.str (AK ip d)):=by
  rw [ly];unfold AK;generalize (ip.filter (a9 d)).length=n at t1 t2;obtain rfl|rfl:n=1\/n=2:=ga
  ·rfl
  ·rfl
 show ⟨_,rfl,_,_,rfl,rfl,l6,_,_,_,rfl,rfl,aU.of e6,aw,rfl,?_⟩;rw [Kk rfl];exact q _ (jP.trans (s5.trans s6))
def aff (h:qj ws):EY ws:=fun us hl h1 h2 u hu=>by
 rcases h with rfl|⟨x,y,rfl,ne,_,_⟩|rfl
 ·rw [R7.mp hl] at hu
  cases hu
 ·obtain ⟨a,rfl⟩:=Wy.mp hl
  let e:u=a:=by simpa using hu
  let e1:a*x=0:=by
   have:=h1;rw [DG,MV,cv,gh] at this;grind
  let e2:a*y=0:=by
   have:=h2;rw [DG,MV,cv,gh] at this;grind
  rw [e];by_cases c:x=0
  ·have:y≠0:=fun z=>ne ⟨c,z⟩
   grind
  ·grind
 ·match us,hl with
  | [a,b],_=>
   rw [DG,DG,MV,cv,cv,gh] at h1 h2;let ea:a=0:=by grind
   let eb:b=0:=by grind
   rcases KD.mp hu with z|z
   ·rwa [z]
   ·rwa [K3.mp z]
def af_ (h:0<=f/\f<20):∃m:Nat,gS [V.int 1,.int 1,.int 1,.int 1,.int 2,.int 2,.int 2,.int 2,.int 2,.int 2,.int 3,.int 3,.int 3,.int 3,.int 3,.int 4,.int 4,.int 5,.int 5,.int 6] f=some (.int (m:Int))/\1<=m/\m<=6:=by
 obtain ⟨n,rfl⟩:=Int.eq_ofNat_of_zero_le h.1;let key:∀n:Fin 20,∃m:Fin 7,([1,1,1,1,2,2,2,2,2,2,3,3,3,3,3,4,4,5,5,6]:List Int)[n.1]?=some (m.1:Int)/\1<=m.1:=gt
 obtain ⟨m,e,l⟩:=key ⟨n,ga⟩;show ⟨m.1,bE (xs:=([1,1,1,1,2,2,2,2,2,2,3,3,3,3,3,4,4,5,5,6]:List Int).map V.int) ?_,l,ga⟩;rw [Wp,e];rfl
def afR (h1:H p=some (.tup [.int a,.int b,.int c,.int d,.int e]))(h2:H p2=some (.tup [.int a',.int b',.int c',.int d',.int e']))(x:a=a'/\b=b'/\c=c'/\d=d'/\e=e')(q:Q (.bl false) H):IE K (.ref p) (.ref p2) H Q:=by
 obtain ⟨rfl,rfl,rfl,rfl,rfl⟩:=x
 let is:∀{p:AG},H p=some (.tup [.int a,.int b,.int c,.int d,.int e])->Is K H (.t [.v (.int a),.v (.int b),.v (.int c),.v (.int d),.v (.int e)]) (.ref p):=fun {p} h=>by
  unfold Is;show ⟨p,_,rfl,bK.of h,⟨rfl,rfl⟩,⟨rfl,rfl⟩,⟨rfl,rfl⟩,⟨rfl,rfl⟩,⟨rfl,rfl⟩,trivial⟩
 show ⟨_,_,.inl ⟨is h1,is h2⟩,rfl,by simp [jk,dep],?_⟩;rw [show c7 [.v (.int a),.v (.int b),.v (.int c),.v (.int d),.v (.int e)] [.v (.int a),.v (.int b),.v (.int c),.v (.int d),.v (.int e)]=true by simp [c7,iQ,lV]];exact q
def gm:aE ["_law_script","_law_cell","_law_size","_law_pins_here","_law_sides","_law_bars_here","_law_frame_here","_law_due","_law_free","_law_pulls","_law_pushes","_law_told"] ["_law_script"] (ae nE):=sq
def acY (F:sU K "law" "law" nE f fd)(aX:mg "len"=none)(MP:bn P w K mg iN 1 C "pins" K8 (fU K C))(MB:bn P w K mg iN 1 C "bars" K8 (js K C))
  (kZ:am P w K mg iN 1 "_law_cell_at" QD (mw K)) (gL:am P w K mg iN 1 "_law_field" OP gR)
  (aim:am P w K mg iN 35 "_law_pins" QE (xK K)) (AM:am P w K mg iN 1 "_law_chain" Yk (xM K)) (ain:am P w K mg iN 3 "_law_bars" Yu (xO K)) (aio:am P w K mg iN 4 "_law_frame" σ9 (uv K C))
  (FV:am P w K mg iN 2 "_law_owns" Ym (FT K)) (AN:am P w K mg iN 40 "counts_of" KY (uf K C)) (kd:am P w K mg iN 39 "spares_of" KY (xw K C)) (mH:am P w K mg iN 1 "_law_spares_right" YR (PM K))
  (aip:am P w K mg iN 2 "_law_drawn" YH (uD K)) (aiq:am P w K mg iN 34 "_law_load" QI (xR K)) (air:am P w K mg iN 39 "rest_of" QO (ES K C)) (qm:am P w K mg iN 2 "_law_rest_right" YS (xX K))
  (oO:am P w K mg iN 40 "_law_words_right" Ye (xZ K C)):
  ap P w K mg iN 42 f fd ["_law_script"] (NI K):=by
 refine F.okG gm (fun vs H Q E h=>?_) (fun cL A lj s H vs Q E hr h=>?_)
 ·obtain ⟨a,ns,rfl,_⟩:=h
  rfl
 obtain ⟨sA,ns,rfl,hS,hn,Xi,q⟩:=h
 show ⟨_,(aa (aG 1 gm.nd (aZ kZ hr (aT (pv 0) ag))) (aa (aG 2 gm.nd (bD aS (bQ (iu ag (iu ag (iu ag (iu ag (iu ag (iu ag (iu ag (iu ag (iu ag (iu ag (iu ag (iu ag (iu ag (iu ag (iu ag (iu ag (iu ag (bR ag ag ag))))))))))))))))))) (aZ gL hr (bR (pv 1) ag ag)))) (aa (aG 3 gm.nd (aZ aim hr (aT (pv 0) (aF cD (pv 2) ag)))) (aa (aG 4 gm.nd (aZ AM hr (aV (aF cD (pv 2) ag)))) (aa (aG 5 gm.nd (aZ ain hr (aT (pv 0) (pv 4)))) (aa (aG 6 gm.nd (aZ aio hr (aT (pv 3) (pv 5)))) (aa (aG 7 gm.nd (aZ FV hr (aV (pv 5)))) (aa (aG 8 gm.nd (aF cD (aF dB (aK av rfl aX bJ (aV (pv 4))) (aK av rfl aX bJ (aV (pv 5)))) (aK av rfl aX bJ (aV (pv 7))))) (aa (bI (bW (ng hr.units) (aZ AN hr (aV (pv 6))) (aR (iu (aK av rfl aX bJ (aV (pv 3))) (iu ag (bR (aK av rfl aX bJ (aV (pv 5))) (aK av rfl aX bJ (aV (pv 7))) (pv 8)))))) (ah (aJ jA)) a_) (aa (bI (sJ (gD (aZ mH hr (iu (aZ kd hr (aV (pv 6))) (bR (pv 3) (pv 5) (pv 7)))))) (ah (aJ jA)) a_) (aa (iO (aZ aip hr (bR (pv 0) (pv 3) (pv 5))) (ft rfl (aY (b9 9 gm.nd) (aY (b9 10 gm.nd) cZ)))) (aa (aG 11 gm.nd (aZ air hr (aT (pv 6) (aZ aiq hr (iu (pv 3) (bR (pv 5) (pv 9) (pv 10))))))) (aa (bI (sJ (gD (aZ qm hr (iu (pv 11) (iu (pv 3) (bR (pv 5) (pv 9) (pv 10))))))) (ah (aJ jA)) a_) (aa (aG 1 gm.nd (aZ kZ hr (aT (pv 0) ag))) (aa (bI (sJ (gD (aZ oO hr (iu (pv 6) (iu (pv 3) (bR (pv 5) (bD aS (pv 4) (aZ gL hr (bR (pv 1) ag (aK av rfl aX bJ (aV (pv 4)))))) (pv 1))))))) (ah (aJ jA)) a_) (ah (aJ (M0 (fk (jm hr.units) (cM (k:=1) (pv 6) hr.mo (pY P w)) (df (tn:=VX) (fr:=[]) (mL:=[]) (bu (pv 5)) (bD (dz (K:=K) rfl) (pv 0) ag)) (fY _)) (CT (fk (jm hr.units) (cM (k:=1) (pv 6) hr.mo (pY P w)) (df (tn:=["_law_pin"]) (fr:=[]) (mL:=[]) (bu (pv 3)) (bD (dz (K:=K) rfl) (pv 0) ag)) (fY _))))))))))))))))))))),?_⟩;sleep 13
 show ⟨_,rfl,sA,ns,0,rfl,hS,gt,gt,?_⟩;generalize cell ns 0=c0;dsimp only [b_];show ⟨gt,?_⟩;intros l0 n0 H0 s0 e0;show ⟨_,rfl,_,_,_,rfl,gt,gt,gt,?_⟩;obtain ⟨m,em,m1,m6⟩:=af_ (bX (c:=c0) (p:=2003) (m:=20) gt);show ⟨l0,_,_,_,rfl,rfl,aU.of e0,em,?_⟩;let e2:(m:Int)+2=((m+2:Nat):Int):=ga
 show ⟨_,rfl,_,rfl,_,_,rfl,rfl,?_⟩;rw [e2];show ⟨sA,ns,m+2,rfl,s0.seq hS,ga,ga,fun lP us c S W H1 s1 nP eP ch pp=>?_⟩;let lp:(jI c S (m+2) W).length=m+2:=by simp [jI]
 let pp:Paired (k_ K H1) us (jI c S (m+2) W):=pp;let gp:=ch.good;let cf:=ch.chain;let wn:=ch.RK;generalize jI c S (m+2) W=pX at lp pp gp cf wn;clear ch;show ⟨_,rfl,_,_,rfl,rfl,?_⟩;rw [e2];show ⟨m+2,rfl,ga,ga,fun lC uc H2 s2 nC eC pc=>?_⟩;let jF:=s0.trans (s1.trans s2);show ⟨_,rfl,_,rfl,sA,lC,ns,uc,m+2,pX,rfl,jF.seq hS,eC,pc,ga,lp,gp.np,fun lB vs ip H3 s3 nB eB pb gb lb oc two nn=>?_⟩;let IU:=s2.trans s3;let eP3:=IU _ _ eP;let pp3:Paired (k_ K H3) us pX:=Paired.cg pp fun _ _ z=>z.ji IU;let lv:vs.length=ip.length:=EO pb;let lu:us.length=pX.length:=EO pp;show ⟨_,rfl,_,rfl,lP,lB,us,vs,pX,ip,rfl,eP3,pp3,eB,pb,gp,gb,ga,ga,fun fA H4 s4 R=>?_⟩;let g:=Pj gp gb ga ga;let wi:∀p∈pX,EY p.ws:=fun p hp=>aff (gp.ws p hp);let vV:Sd K H4 lP lB us vs pX ip:=⟨s4 _ _ eP3,Paired.cg pp3 fun _ _ z=>z.ji s4,gp,s4 _ _ eB,Paired.cg pb fun _ _ z=>z.ji s4,fun b hb=>(gb.ends b hb).2.2,ga,ga⟩;let jP:=jF.trans (s3.trans s4);let eC4:=(s3.trans s4) _ _ eC;let pc4:Paired (rD K H4) uc (gk (m+2)):=Paired.cg pc fun _ _ z=>z.ji (s3.trans s4)
 let lc:uc.length=2*m+1:=by
  rw [EO pc];unfold gk;rw [ER,ir,ir,Mf,Mf];omega
 show ⟨_,rfl,lB,vs,pX,ip,rfl,vV.hb,vV.pb,gp.np,lb,fun lD ds H5 s5 eD pD=>?_⟩;let ld:ds.length=(jg ip ip.length).length:=EO pD;show ⟨_,rfl,lC,_,rfl,.inl (aU.of (s5 _ _ eC4)),_,rfl,lB,_,rfl,.inl (aU.of (s5 _ _ vV.hb)),_,_,rfl,rfl,_,rfl,lD,_,rfl,.inl (aU.of eD),_,_,rfl,rfl,?_⟩;dsimp only [b_];show ⟨_,rfl,fA,pX,ip,rfl,R.ji s5,g,wi,fun t6 s m' H6 s6 e6 cn ⟨os,fc,ls,ol⟩=>?_⟩;let Yv:=vV.ji s5;let Qi:=s5.trans s6;let fr6:=vV.ji Qi;let eD6:=s6 _ _ eD;show ⟨_,rfl,lP,_,rfl,.inl (aU.of fr6.hp),_,rfl,lB,_,rfl,.inl (aU.of fr6.hb),_,rfl,lD,_,rfl,.inl (aU.of eD6),_,rfl,z5L,?_⟩;intros t7 n7 H7 s7 e7
 let es:s=ds.length:=by
  let h1:=EO ol.1;rw [PH g cf oc ol,ir] at h1;omega
 unfold Cnt at cn;refine afR (s7 _ _ e6) e7 ⟨by rw [lu],by rw [wn];rfl,by rw [lv],by rw [es],ga⟩ ?_;show ⟨_,rfl,bU (fun c=>nomatch c) (fun _=>?_)⟩;let WQ:=Qi.trans s7;show ⟨_,rfl,fA,pX,ip,rfl,R.ji WQ,g,wi,fun d8 kv8 os8 fc8 cs8 H8 s8 e8 pr8 ol8 rk8 l8=>?_⟩;let s48:=WQ.trans s8;let WD:=s6.trans (s7.trans s8);show ⟨_,rfl,_,rfl,_,rfl,d8,lP,lB,lD,kv8,us,vs,ds,pX,ip,rfl,e8,abQ g cf oc pr8 ol8,vV.ji s48,gb.nb,WD _ _ eD,Paired.cg pD fun _ _ z=>z.ji WD,fun H9 s9=>?_⟩;show ⟨_,rfl,bU (fun c=>nomatch c) (fun _=>?_)⟩;let s49:=s48.trans s9;let fr9:=vV.ji s49;show ⟨_,rfl,_,rfl,_,rfl,sA,lP,lB,ns,us,vs,pX,ip,rfl,(jP.trans s49).seq hS,Xi,fr9.hp,fr9.pp,gp,ga,fr9.hb,fr9.pb,lb,gb.nb,fun tA dA uA kD kU D U0 Ha sa eT di du lU zD zU=>?_⟩;show ⟨tA,_,rfl,bK.of eT,rfl,_,_,rfl,_,_,rfl,rfl,?_⟩;let s4a:=s49.trans sa;let fra:=vV.ji s4a
 let fo:LFo K Ha dA uA kD kU pX ip D U0 11:=⟨di.hd,fun b hb=>by
  obtain ⟨v,a,c⟩:=di.tv b hb;show ⟨v,a,gj c (jH (zD b hb) (DU _))⟩,du.hd,fun p hp=>by
  obtain ⟨v,a,la,ys,rfl,b,c⟩:=du.tv p hp
  show ⟨la,ys,a,b,gi (EO c) fun i u e=>by
   obtain ⟨r,er,h⟩:=aI c e
   show ⟨r,er,gj h (jH (zU p hp r (DE er)) (DU _))⟩⟩,lU,gt⟩
 show ⟨_,rfl,_,rfl,_,rfl,_,rfl,_,rfl,lP,lB,dA,uA,us,vs,kD,kU,pX,ip,D,U0,11,rfl,fra,fo,g,zD,zU,fun lA kL L Hb sb ldg ll oi=>?_⟩;let s4b:=s4a.trans sb;show ⟨fA,lA,pX,ip,kL,L,rfl,R.ji s4b,g,ga,ldg.hd,ldg.pt,ldg.sz,ldg.ks,⟨D,U0,oi⟩,fun T U Lx p dT dU kT kU' Hc sc ep PR rest zT zU'=>?_⟩;let R9:=sb.trans sc;let s4c:=s4b.trans sc;let pu:∀p∈pX,U p.nm=U0 p.nm:=fun p hp=>JT g cf oc rest oi PR.lU lU hp;show ⟨_,rfl,_,rfl,_,rfl,_,rfl,_,rfl,p,lP,lB,dA,uA,dT,dU,us,vs,kT,kU',kD,kU,pX,ip,T,D,U0,rfl,ep,vV.ji s4c,⟨PR.hT,PR.WA,PR.tT⟩,fun b hb=>(zT b hb).up (zL9 ga),⟨PR.hU,PR.aaL,fun p hp=>?_⟩,di.ji (fun _ _ z=>z.ji R9) R9,zD,du.ji (fun _ _ z=>z.ji R9) R9,fun b hb=>?_,fun Hd sd=>?_⟩
 ·obtain ⟨vs,a,_,b,c⟩:=PR.tU p hp
  show ⟨_,a,_,vs,rfl,b,by rwa [<-pu p hp]⟩
 ·unfold Ms
  rw [kh,sum_neg,FJ g cf oc rest oi hb];grind
 show ⟨_,rfl,bU (fun c=>nomatch c) (fun _=>?_)⟩;let Yc:=s4c.trans sd;show ⟨_,rfl,sA,ns,2,rfl,(jP.trans Yc).seq hS,gt,gt,?_⟩;generalize cell ns 2=c2;dsimp only [b_];let fi:=bX (c:=c2) (p:=5003) (m:=((uc.length:Nat):Int)) ga;obtain ⟨j,ej⟩:∃j:Nat,field c2 5003 ((uc.length:Nat):Int)=(j:Int):=⟨_,(RW fi.1).symm⟩;let eCd:=Yc _ _ eC4;show ⟨_,rfl,_,rfl,_,rfl,_,rfl,_,rfl,_,rfl,lC,_,rfl,.inl (aU.of eCd),c2,5003,_,rfl,gt,gt,ga,?_⟩;rw [ej] at fi ⊢;let hj:j<uc.length:=ga
 obtain ⟨u,eu⟩:∃u,uc[j]?=some u:=⟨_,gE hj⟩;obtain ⟨e,ee,sde⟩:=aI pc4 eu;let me:=DE ee;show ⟨lC,_,_,_,rfl,rfl,aU.of eCd,bE eu,_,rfl,fA,lP,lB,u,us,vs,pX,ip,W,e,c2,rfl,R.ji Yc,vV.ji Yc,gb,cf,oc,two,nn,sde.ji Yc,by rw [lp];exact uw (by rwa [kY me]),fun He se=>?_⟩;show ⟨_,rfl,bU (fun c=>nomatch c) (fun _=>?_)⟩;let s4e:=Yc.trans se;obtain ⟨dx,pP,pW,pB,kP,kW,kB,Fe,We⟩:=(R.ji s4e).ex;show ⟨_,rfl,fA,C,dx,_,_,_,rfl,Fe.obj,rfl,MB,fA,dx,pP,pW,pB,_,_,kP,kW,kB,rfl,Fe,fun l1 Hf sf n1 e1=>?_⟩;rw [ju] at e1;let s4f:=s4e.trans sf;let MF:=vV.ji s4f;show ⟨_,rfl,lB,rfl,⟨_,aU.of MF.hb⟩,fun D3 n3=>?_⟩;refine oM (nm:=aD.nm) n3 MF.hb (uG MF.pb) ga fun Hg sg eg=>?_;refine sG (sg _ _ e1) eg ?_;show ⟨_,rfl,YQ ?_⟩;let Fg:=Fe.ji (sf.trans sg);show ⟨_,rfl,fA,C,dx,_,_,_,rfl,Fg.obj,rfl,MP,fA,dx,pP,pW,pB,_,_,kP,kW,kB,rfl,Fg,fun l2 Hh sh n2 e2=>?_⟩;rw [dh] at e2;let frh:=MF.ji (sg.trans sh);show ⟨_,rfl,lP,rfl,⟨_,aU.of frh.hp⟩,fun D4 n4=>?_⟩;refine oM (nm:=aA.nm) n4 frh.hp (uF frh.pp) ga fun Hi si ei=>?_;refine sG (si _ _ e2) ei ?_;exact q _
end
def all_mk {l:PySem.W.OpenLaw}{w:World}{K:Frag}{h:Heap}{mg:ξ}{fa:AG}(X:K.In h)(G:h.Ns K0 mg)(hfa:mg "law"=some (.ref fa))
  (aiu:ox K "difference_of" EA) (aiy:ox K "lowest_terms" zA) (aiC:ox K "greatest_shared" K') (aiG:ox K "arm_between" La) (aiK:ox K "pair_difference" EB) (FW:ox K "pairs_of" f7) (aiO:ox K "pair_row" Lb) (aiS:ox K "load_row" Lc) (aiW:ox K "bar_row" Ld) (ai0:ox K "draw_rows" Le) (ai4:ox K "pulls_and_pushes" Lf) (ai8:ox K "motion_from" Lg) (ajc:ox K "signs_turned" Lh) (ajg:ox K "solve_rows" Li) (rE:ox K "spare_columns" dc) (x4:ox K "spare_list" d3) (ajk:ox K "turned" Lj) (ajo:ox K "whole_row" Lk) (ajs:ox K "solution_of" Ll) (ajw:ox K "reduced" Lm) (ajA:ox K "first_not_nought" Lo) (ajE:ox K "cleared" Lp) (ajI:ox K "divided" Lq) (AQ:ox K "spares_of" fF) (ya:ox K "motions_of" d_) (AV:ox K "counts_of" fG) (AZ:ox K "would_put" fH) (ajM:ox K "would_take" Lr) (ajQ:ox K "stretch_of" Ls) (ajU:ox K "rest_of" Lu) (ajY:ox K "_law_cell_at" Lv) (aj2:ox K "_law_field" Lw) (aj6:ox K "_law_lowest" Ly) (aj':ox K "_law_sum" Lz) (akd:ox K "_law_times" LA) (akh:ox K "_law_turned" LB) (F_:ox K "_law_same" f9) (akl:ox K "_law_name" LC) (BE:ox K "_law_names" fJ) (BI:ox K "_law_spots" fK) (akp:ox K "_law_pins" LD) (BM:ox K "_law_chain" fL) (akt:ox K "_law_frame" LF) (aky:ox K "_law_arm" LG) (akC:ox K "_law_add" LH) (akG:ox K "_law_forces" LI) (akK:ox K "_law_bars" LJ) (akO:ox K "_law_alike" LK) (GH:ox K "_law_owns" f_) (mI:ox K "_law_spares_right" cA) (qt:ox K "_law_rest_right" cS) (akS:ox K "_law_drawn" LL) (akW:ox K "_law_load" s_by) (oT:ox K "_law_words_right" cH) (ac9:nsIn K K0 "law"=some (some (.ref U5))) (ac':K.lookup U5=some ⟨ak0,ak1,.func (fnOf "law" "law" (aC nE) (au nE) (ae nE) .none Xs Xt Xu Xv PU Xw),ak2⟩) (ada:codeIn K PU "law"=true) (adb:keepIn K (.ref U5)=true) (ak3:nsIn K K0 "MOST_PINS"=some (some (.int 24 avc))) (ak4:nsIn K K0 "MOST_BARS"=some (some (.int 60 avd))) (ak5:nsIn K K0 "NOUGHT"=some (some (.ref Xx))) (ak6:K.lookup Xx=some ⟨.type "tuple",ave,.seq #[.int 0 ak7,.int 1 ak8] avf,avg⟩) (ak9:nsIn K K0 "ONE"=some (some (.ref Xy))) (ak':K.lookup Xy=some ⟨.type "tuple",avh,.seq #[.int 1 ala,.int 1 alb] avi,avj⟩) (alc:nsIn K K0 "NO_MOVE"=some (some (.ref Xz))) (ald:K.lookup Xz=some ⟨.type "tuple",avk,.seq #[.ref ade,.ref adf] avl,avm⟩) (ale:K.lookup ade=some ⟨.type "tuple",avn,.seq #[.int 0 alf,.int 1 alg] avo,avp⟩) (alh:K.lookup adf=some ⟨.type "tuple",avq,.seq #[.int 0 ali,.int 1 alj] avr,avs⟩) (yk:nsIn K K0 "ValueError"=some none) (adg:nsIn K K0 "abs"=some none) (adh:nsIn K K0 "any"=some none) (XA:nsIn K K0 "dict"=some none) (BR:nsIn K K0 "enumerate"=some none) (adi:nsIn K K0 "int"=some none) (ym:nsIn K K0 "isinstance"=some none) (adj:nsIn K K0 "len"=some none) (XB:nsIn K K0 "list"=some none) (Tf:nsIn K K0 "range"=some none) (adk:nsIn K K0 "str"=some none) (adl:nsIn K K0 "sum"=some none) (Tg:nsIn K K0 "tuple"=some none) (adm:nsIn K K0 "zip"=some none) (alk:nsIn K K0 "YardError"=some (some (.ref alm))) (aln:nsIn K K0 "NoWay"=some (some (.ref alo))) (alp:nsIn K K0 "PinThere"=some (some (.ref alq))) (alr:nsIn K K0 "SpotTaken"=some (some (.ref als))) (alu:nsIn K K0 "NoPin"=some (some (.ref alv))) (alw:nsIn K K0 "BarThere"=some (some (.ref alx))) (aly:nsIn K K0 "NoBar"=some (some (.ref alz))) (alA:nsIn K K0 "NoLength"=some (some (.ref alB))) (alC:nsIn K K0 "TooMany"=some (some (.ref alD))) (alE:nsIn K K0 "Frame"=some (some (.ref cG))) (alF:nsIn K K0 "Hold"=some (some (.ref rJ))) (alG:nsIn K K0 "Roller"=some (some (.ref lF))) (alH:nsIn K K0 "Fixed"=some (some (.ref qz))) (adn:RF K cG Str.empty=true) (ado:Rr K cG=true) (adp:VC K cG=true) (adq:Kl K (.ref cG) "__setattr__"=some (some (.builtin "object.__setattr__"))) (ads:RB K cG=true) (adt:keepIn K (.ref cG)=true) (adu:rg K cG "__init__" "Frame.__init__" LM) (alK:Kl K (.ref cG) "put_pin"=some (some (.ref Th))) (alL:Vl K (.ref Th)=true) (alM:K.lookup Th=some ⟨avB,avC,.func (fnOf "put_pin" "Frame.put_pin" (aC rB) (au rB) (ae rB) (.ref PX) U6 U7 U8 U9 PY U_),avD⟩) (ady:K.lookup PX=some ⟨avE,alN,.seq #[.none] avF,alO⟩) (alP:codeIn K PY "Frame.put_pin"=true) (adz:keepIn K (.ref Th)=true) (alQ:rg K cG "put_bar" "Frame.put_bar" LN) (alU:rg K cG "check_bar" "Frame.check_bar" LO) (alY:rg K cG "check_pin" "Frame.check_pin" LP) (al2:rg K cG "pins" "Frame.pins" LQ) (al6:rg K cG "bars" "Frame.bars" LR) (al':rg K cG "place" "Frame.place" LS) (amd:rg K cG "ways" "Frame.ways" LU) (amh:rg K cG "ends" "Frame.ends" LV) (adQ:RF K rJ Str.empty=true) (adR:Rr K rJ=true) (adS:VC K rJ=true) (adT:Kl K (.ref rJ) "__setattr__"=some (some (.builtin "object.__setattr__"))) (adU:RB K rJ=true) (adV:keepIn K (.ref rJ)=true) (adW:Kl K (.ref rJ) "__init__"=some (some (.builtin "object.__init__"))) (aml:rg K rJ "ways" "Hold.ways" Ru) (adZ:RF K lF Str.empty=true) (ad0:Rr K lF=true) (ad1:VC K lF=true) (ad2:Kl K (.ref lF) "__setattr__"=some (some (.builtin "object.__setattr__"))) (ad3:RB K lF=true) (ad4:keepIn K (.ref lF)=true) (ad5:rg K lF "__init__" "Roller.__init__" LW) (ams:rg K lF "ways" "Roller.ways" LX) (aea:RF K qz Str.empty=true) (aeb:Rr K qz=true) (aec:VC K qz=true) (aed:Kl K (.ref qz) "__setattr__"=some (some (.builtin "object.__setattr__"))) (aee:RB K qz=true) (aef:keepIn K (.ref qz)=true) (aeg:Kl K (.ref qz) "__init__"=some (some (.builtin "object.__init__"))) (amw:rg K qz "ways" "Fixed.ways" LY) (P0:Kl K (.ref cG) "pin_places"=some none) (XC:Kl K (.ref cG) "pin_ways"=some none) (XD:Kl K (.ref cG) "bar_ends"=some none) (Va:Kl K (.ref lF) "way"=some none) (ht:l.prog.given.tree=none):
  ∃fd:FuncData,(∀(s:D')(v:Value),BindsTo s fd ⟨[v],[]⟩ [("_law_script",v)])/\∀iN:Heap,K.In iN->iN.Ns K0 mg->dI l.prog w K mg iN (ba l.prog w) 42 fa fd ["_law_script"] (NI K):=by
 let e:=hfa.symm.trans (mg_of X G ac9);cases e;obtain ⟨adu,adv,alI,alJ,adx⟩:=adu;obtain ⟨alQ,alR,alS,alT,adB⟩:=alQ;obtain ⟨alU,alV,alW,alX,adD⟩:=alU;obtain ⟨alY,alZ,al0,al1,adF⟩:=alY;obtain ⟨al2,al3,al4,al5,adH⟩:=al2;obtain ⟨al6,al7,al8,al9,adJ⟩:=al6;obtain ⟨al',ama,amb,amc,adL⟩:=al';obtain ⟨amd,ame,amf,amg,adN⟩:=amd;obtain ⟨amh,ami,amj,amk,adP⟩:=amh;obtain ⟨aml,amm,amn,amo,adY⟩:=aml;obtain ⟨ad5,ad6,amq,amr,ad8⟩:=ad5;obtain ⟨ams,amt,amu,amv,ad'⟩:=ams;obtain ⟨amw,amx,amy,amz,aei⟩:=amw;let amA:Def K mg _ _ ["one","other"]:=gu X G aiu;let amB:Def K mg _ _ ["top","bottom"]:=gu X G aiy;let amC:Def K mg _ _ ["one","other"]:=gu X G aiC;let amD:Def K mg _ _ ["F","one","other"]:=gu X G aiG;let amE:Def K mg _ _ ["one","other"]:=gu X G aiK;let GZ:Def K mg _ _ ["F"]:=gu X G FW;let amF:Def K mg _ _ ["F","draws"]:=gu X G aiO;let amG:Def K mg _ _ ["F","load"]:=gu X G aiS;let amH:Def K mg _ _ ["F","one","other"]:=gu X G aiW;let amI:Def K mg _ _ ["F"]:=gu X G ai0;let amJ:Def K mg _ _ ["F","numbers"]:=gu X G ai4;let amK:Def K mg _ _ ["F","numbers"]:=gu X G ai8;let amL:Def K mg _ _ ["numbers"]:=gu X G ajc;let amM:Def K mg _ _ ["rows","due","many"]:=gu X G ajg;let rK:Def K mg _ _ ["rows","many"]:=gu X G rE;let yn:Def K mg _ _ ["needed","column","many"]:=gu X G x4;let amN:Def K mg _ _ ["rows","many"]:=gu X G ajk;let amO:Def K mg _ _ ["row"]:=gu X G ajo;let amP:Def K mg _ _ ["lines","many"]:=gu X G ajs;let amQ:Def K mg _ _ ["lines","many"]:=gu X G ajw;let amR:Def K mg _ _ ["lines","column"]:=gu X G ajA;let amS:Def K mg _ _ ["line","lead","column"]:=gu X G ajE;let amT:Def K mg _ _ ["line"]:=gu X G ajI;let BS:Def K mg _ _ ["F"]:=gu X G AQ;let yo:Def K mg _ _ ["F"]:=gu X G ya;let BU:Def K mg _ _ ["F"]:=gu X G AV;let BV:Def K mg _ _ ["F","name","one","other"]:=gu X G AZ;let amU:Def K mg _ _ ["F","name"]:=gu X G ajM;let amV:Def K mg _ _ ["F","rows","at"]:=gu X G ajQ;let amW:Def K mg _ _ ["F","load"]:=gu X G ajU;let amX:Def K mg _ _ ["_law_script","_law_k"]:=gu X G ajY;let amY:Def K mg _ _ ["_law_cell","_law_prime","_law_many"]:=gu X G aj2;let amZ:Def K mg _ _ ["_law_top","_law_bottom"]:=gu X G aj6;let am0:Def K mg _ _ ["_law_one","_law_other"]:=gu X G aj';let am1:Def K mg _ _ ["_law_one","_law_other"]:=gu X G akd;let am2:Def K mg _ _ ["_law_one"]:=gu X G akh;let G_:Def K mg _ _ ["_law_one","_law_other"]:=gu X G F_;let am3:Def K mg _ _ ["_law_style","_law_at","_law_k"]:=gu X G akl;let BW:Def K mg _ _ ["_law_cell","_law_many"]:=gu X G BE;let BX:Def K mg _ _ ["_law_script","_law_many"]:=gu X G BI;let am4:Def K mg _ _ ["_law_script","_law_many"]:=gu X G akp;let BY:Def K mg _ _ ["_law_many"]:=gu X G BM;let am5:Def K mg _ _ ["_law_pins_here","_law_bars_here"]:=gu X G akt;let am6:Def K mg _ _ ["_law_pins_here","_law_bar","_law_axis"]:=gu X G aky;let am7:Def K mg _ _ ["_law_found","_law_k","_law_axis","_law_draw"]:=gu X G akC;let am8:Def K mg _ _ ["_law_pins_here","_law_bars_here","_law_pulls","_law_pushes"]:=gu X G akG;let am9:Def K mg _ _ ["_law_script","_law_sides"]:=gu X G akK;let am':Def K mg _ _ ["_law_bar","_law_other"]:=gu X G akO;let G':Def K mg _ _ ["_law_bars_here"]:=gu X G GH;let mN:Def K mg _ _ ["_law_told","_law_pins_here","_law_bars_here","_law_due"]:=gu X G mI;let qA:Def K mg _ _ ["_law_told","_law_pins_here","_law_bars_here","_law_pulls","_law_pushes"]:=gu X G qt;let ana:Def K mg _ _ ["_law_script","_law_pins_here","_law_bars_here"]:=gu X G akS;let anb:Def K mg _ _ ["_law_pins_here","_law_bars_here","_law_pulls","_law_pushes"]:=gu X G akW;let oX:Def K mg _ _ ["_law_frame_here","_law_pins_here","_law_bars_here","_law_side","_law_cell"]:=gu X G oT;let iq:yE K cG:=⟨adn,ado,adp,adq⟩;let W_:Mk K cG _:=⟨ads,adu,adv,adt⟩;let aej:=eY (st:=LM) alI alJ adx;let Xb:=aej.CC (ps:=["self"]);let aBk:Meth K cG "__init__" _:=⟨adu,adv,adx⟩;let anc:=acu (st:=rB) alM alP adz;let ane:Binds K (fnOf "put_pin" "Frame.put_pin" (aC rB) (au rB) (ae rB) (.ref PX) U6 U7 U8 U9 PY U_) ["self","name","x","y","hold"] []:=fun s us X hl=>by obtain ⟨a,b,c,d,e,rfl⟩:=bl5 (P:=fun us=>∃a b c d e,us=[a,b,c,d,e]) (fun a b c d e=>⟨a,b,c,d,e,rfl⟩) us (by simpa using hl);exact BindsTo.of_defaults rfl (X _ _ ady) rfl rfl rfl
 let aek:Binds K (fnOf "put_pin" "Frame.put_pin" (aC rB) (au rB) (ae rB) (.ref PX) U6 U7 U8 U9 PY U_) ["self","name","x","y","hold"] [.none]:=fun s us X hl=>by obtain ⟨a,b,c,d,rfl⟩:=bl4 (P:=fun us=>∃a b c d,us=[a,b,c,d]) (fun a b c d=>⟨a,b,c,d,rfl⟩) us (by simpa using hl);exact BindsTo.of_defaults rfl (X _ _ ady) rfl rfl rfl
 let ael:Meth K cG "put_pin" Th:=⟨alK,alL,adz⟩;let aem:=eY (st:=LN) alS alT adB;let anf:=aem.CC (ps:=["self","name","one","other"]);let ang:Meth K cG "put_bar" _:=⟨alQ,alR,adB⟩;let aen:=eY (st:=LO) alW alX adD;let anh:=aen.CC (ps:=["self","name","one","other"]);let ani:Meth K cG "check_bar" _:=⟨alU,alV,adD⟩;let aeo:=eY (st:=LP) al0 al1 adF;let anj:=aeo.CC (ps:=["self","pin"]);let ank:Meth K cG "check_pin" _:=⟨alY,alZ,adF⟩;let aep:=eY (st:=LQ) al4 al5 adH;let anl:=aep.CC (ps:=["self"]);let anm:Meth K cG "pins" _:=⟨al2,al3,adH⟩;let aeq:=eY (st:=LR) al8 al9 adJ;let ano:=aeq.CC (ps:=["self"]);let anp:Meth K cG "bars" _:=⟨al6,al7,adJ⟩;let aer:=eY (st:=LS) amb amc adL;let anq:=aer.CC (ps:=["self","pin"]);let anr:Meth K cG "place" _:=⟨al',ama,adL⟩;let aes:=eY (st:=LU) amf amg adN;let ans:=aes.CC (ps:=["self","pin"]);let ant:Meth K cG "ways" _:=⟨amd,ame,adN⟩;let aet:=eY (st:=LV) amj amk adP;let anu:=aet.CC (ps:=["self","bar"]);let anv:Meth K cG "ends" _:=⟨amh,ami,adP⟩;let cls_cm:yE K rJ:=⟨adQ,adR,adS,adT⟩;let aBl:YZ K rJ:=⟨adU,adW,adV⟩;let anw:=eY (st:=Ru) amn amo adY;let aBm:=anw.CC (ps:=["self"]);let aBn:Meth K rJ "ways" _:=⟨aml,amm,adY⟩;let HG:yE K lF:=⟨adZ,ad0,ad1,ad2⟩;let Xf:Mk K lF _:=⟨ad3,ad5,ad6,ad4⟩;let aeu:=eY (st:=LW) amq amr ad8;let Xg:=aeu.CC (ps:=["self","x","y"]);let aBo:Meth K lF "__init__" _:=⟨ad5,ad6,ad8⟩;let aev:=eY (st:=LX) amu amv ad';let anx:=aev.CC (ps:=["self"]);let anz:Meth K lF "ways" _:=⟨ams,amt,ad'⟩;let XE:yE K qz:=⟨aea,aeb,aec,aed⟩;let Xe:YZ K qz:=⟨aee,aeg,aef⟩;let aew:=eY (st:=LY) amy amz aei;let anA:=aew.CC (ps:=["self"]);let anB:Meth K qz "ways" _:=⟨amw,amx,aei⟩;let Wt:=mg_of X G ak3;let Wv:=mg_of X G ak4;let rC:mg "NOUGHT"=some (.ref Xx):=mg_of X G ak5;let L_:mg "ONE"=some (.ref Xy):=mg_of X G ak9;let Ww:mg "NO_MOVE"=some (.ref Xz):=mg_of X G alc;let aBp:mg "YardError"=some (.ref alm):=mg_of X G alk;let aBq:mg "NoWay"=some (.ref alo):=mg_of X G aln;let aBr:mg "PinThere"=some (.ref alq):=mg_of X G alp;let aBs:mg "SpotTaken"=some (.ref als):=mg_of X G alr;let aBt:mg "NoPin"=some (.ref alv):=mg_of X G alu;let aBu:mg "BarThere"=some (.ref alx):=mg_of X G alw;let aBv:mg "NoBar"=some (.ref alz):=mg_of X G aly;let aBw:mg "NoLength"=some (.ref alB):=mg_of X G alA;let aBx:mg "TooMany"=some (.ref alD):=mg_of X G alC;let Xa:mg "Frame"=some (.ref cG):=mg_of X G alE;let aBy:mg "Hold"=some (.ref rJ):=mg_of X G alF;let Xc:mg "Roller"=some (.ref lF):=mg_of X G alG;let Xd:mg "Fixed"=some (.ref qz):=mg_of X G alH;let Tw:mg "ValueError"=none:=mg_none_of X G yk;let vE:mg "abs"=none:=mg_none_of X G adg;let vG:mg "any"=none:=mg_none_of X G adh;let qg:mg "dict"=none:=mg_none_of X G XA;let fM:mg "enumerate"=none:=mg_none_of X G BR;let uE:mg "int"=none:=mg_none_of X G adi;let eQ:mg "isinstance"=none:=mg_none_of X G ym;let aX:mg "len"=none:=mg_none_of X G adj;let c9:mg "list"=none:=mg_none_of X G XB;let bg:mg "range"=none:=mg_none_of X G Tf;let JV:mg "str"=none:=mg_none_of X G adk;let Pa:mg "sum"=none:=mg_none_of X G adl;let xY:mg "tuple"=none:=mg_none_of X G Tg;let lJ:mg "zip"=none:=mg_none_of X G adm;let F:=eY (st:=nE) ac' ada adb;show ⟨fnOf "law" "law" (aC nE) (au nE) (ae nE) .none Xs Xt Xu Xv PU Xw,fun s v=>.of_eq rfl,fun iN _ _=>?_⟩;let hM:DH (ba l.prog w):=ba.yR;let hN:∀H:Hp,bK K H Xx [.int 0,.int 1]:=fun H=>.inr ⟨_,_,_,ak6,rfl,rfl,qp,.cons ⟨_,rfl⟩ (.cons ⟨_,rfl⟩ .nil)⟩;let hO:∀H:Hp,bK K H Xy [.int 1,.int 1]:=fun H=>.inr ⟨_,_,_,ak',rfl,rfl,qp,.cons ⟨_,rfl⟩ (.cons ⟨_,rfl⟩ .nil)⟩;let nm:∀{c:AG} {o:Ι} {k0 k1:Tok} {n:Nat} {sl:Ο},K.lookup c=some ⟨.type "tuple",o,.seq #[.int 0 k0,.int 1 k1] n,sl⟩->∀H:Hp,g_ K H (.ref c) 0:=fun t H=>⟨_,rfl,by rw [kO];exact .inr ⟨_,_,_,t,rfl,rfl,qp,.cons ⟨_,rfl⟩ (.cons ⟨_,rfl⟩ .nil)⟩⟩;let hMo:∀H:Hp,kG K H (.ref Xz) (0,0):=fun H=>⟨_,.ref ade,.ref adf,rfl,.inr ⟨_,_,_,ald,rfl,rfl,qp,.cons rfl (.cons rfl .nil)⟩,nm ale H,nm alh H⟩;let fc:N_ K cG:=⟨iq,P0,XC,XD⟩;let G1:=aiB (P:=l.prog) (w:=w) (iN:=iN) (CX:=ba l.prog w) amC vE;let G2:=aiA ht amB G1;let GW:=ahf amO G1;let GDv:=ahc ht amT G1;let GCl:=ahZ ht amS lJ G1 GDv;let GF:=ahW (P:=l.prog) (w:=w) (iN:=iN) amR fM;let GR:=ahM amQ bg c9 GF GCl;let GS:=ahG hN rC amP vG GR G2;let GTn:=ahA (P:=l.prog) (w:=w) (iN:=iN) amN bg;let aex:=agy amM lJ aX GW GS GTn G2;let GD:=afv (aiE hM amA G2);let GPD:=agr hM amE GD;let GI:=aab (P:=l.prog) (w:=w) (mg:=mg) (iN:=iN) aej fc;let Yd:bL l.prog w K mg iN (ba l.prog w) 1 cG "bars" ["self"] (js K cG):=⟨_,_,iq,anp,aad aeq fc c9,ano⟩;let P1:bL l.prog w K mg iN (ba l.prog w) 1 cG "pins" ["self"] (fU K cG):=⟨_,_,iq,anm,aaf aep fc c9,anl⟩;let MCp:bL l.prog w K mg iN (ba l.prog w) 1 cG "check_pin" ["self","pin"] (gc K cG):=⟨_,_,iq,ank,aah aeo fc,anj⟩;let MCb:bL l.prog w K mg iN (ba l.prog w) 2 cG "check_bar" ["self","name","one","other"] (ib K cG):=⟨_,_,iq,ani,aax aen fc Wv aX MCp,anh⟩;let MPb:bL l.prog w K mg iN (ba l.prog w) 3 cG "put_bar" ["self","name","one","other"] (nM K cG):=⟨_,_,iq,ang,aaz aem fc MCb,anf⟩;let okP:=aav (P:=l.prog) (w:=w) (mg:=mg) (iN:=iN) anc fc Wt aX c9;let MPp:bL l.prog w K mg iN (ba l.prog w) 3 cG "put_pin" ["self","name","x","y","hold"] (gd l.prog w K mg iN cG):=⟨_,_,iq,ael,okP,ane⟩;let MPd:DO l.prog w K mg iN (ba l.prog w) 3 cG "put_pin" ["self","name","x","y","hold"] [.none] (gd l.prog w K mg iN cG):=⟨_,_,iq,ael,okP,aek⟩;let MPl:bL l.prog w K mg iN (ba l.prog w) 2 cG "place" ["self","pin"] (r8 K cG):=⟨_,_,iq,anr,aaj aer fc MCp,anq⟩;let ME:bL l.prog w K mg iN (ba l.prog w) 1 cG "ends" ["self","bar"] (xh K cG):=⟨_,_,iq,anv,aal aet fc,anu⟩;let MW:bL l.prog w K mg iN (ba l.prog w) 2 cG "ways" ["self","pin"] (qe K cG):=⟨_,_,iq,ant,aan aes fc c9 MCp,ans⟩;let wR:bL l.prog w K mg iN (ba l.prog w) 1 lF "ways" ["self"] (nJ K lF):=⟨_,_,HG,anz,aar aev HG Va,anx⟩;let wF:bL l.prog w K mg iN (ba l.prog w) 1 qz "ways" ["self"] (nK K):=⟨_,_,XE,anB,aat aew,anA⟩;let GRI:=aap (P:=l.prog) (w:=w) (mg:=mg) (iN:=iN) aeu HG Va;let GA:=aaC amD MPl GPD;let GPR:=aaD hMo Ww amF P1;let GBR:=aaG amH GA GPR;let GDR:=aaI amI P1 MW Yd ME GPR GBR;let GPP:=aaM amJ aX qg lJ P1 MW Yd;let GMF:=aaN amK fM P1;let GLR:=aaE amG P1 GPR;let GC:=aa' (P:=l.prog) (w:=w) (iN:=iN) (CX:=ba l.prog w) amX aX;let XF:=abb (P:=l.prog) (w:=w) (iN:=iN) (CX:=ba l.prog w) amY;let GLo:=abc (w:=w) (iN:=iN) ht amZ vE;let GSu:=abe (P:=l.prog) (w:=w) (iN:=iN) am0;let GTi:=abg (P:=l.prog) (w:=w) (iN:=iN) am1;let GTu:=abi (P:=l.prog) (w:=w) (iN:=iN) am2;let GNa:=abk (P:=l.prog) (w:=w) (iN:=iN) am3 JV;let GNs:=anT BW bg XF GNa;let GSp:=anG BX bg GC XF GLo;let GSa:=ahe (P:=l.prog) (w:=w) (iN:=iN) G_;let GPi:=abo am4 bg GC XF GNs GSp GSu GTi GTu GSa;let GCh:=anE (P:=l.prog) (w:=w) (iN:=iN) BY bg;let GBa:=abC am9 bg aX GC XF GNs;let GFr:=abA am5 aX W_ Xa GI Xb Xc Xd Xe Xf GRI Xg (wR.mono gt) (wF.mono gt) MPb MPp MPd;let GAr:=abE am6 GSu GTu;let GAd:=abG am7 GSu;let GFo:=abH am8 aX bg GTi GTu GAr GAd;let GLB:=abI anb aX bg GFo GLo;let GAk:=abL (P:=l.prog) (w:=w) (iN:=iN) am';let GDw:=abM ana aX bg uE GC XF;let GSL:=acz hN rC hO L_ yn G2;let GSC:=aeh rK bg GW GR GSL;let GPa:=ahm GZ P1;let GSg:=aa6 (P:=l.prog) (w:=w) (iN:=iN) amL;let GSo:=an5 BS aX P1 Yd GDR GTn GSC GPP;let GMo:=acV yo aX GPa GDR GSC GMF;let GCo:=aoE BU aX Pa P1 Yd MW GSo GMo;let GSr:=aa7 hN rC amV aX P1 aex;let GWP:=anU BV aX MCb GDR GBR GSr GSg GMF GPP;let GWT:=aa9 amU aX Yd GDR GSr GSg GMF GPP;let GRe:=aaQ hN rC hO L_ amW aX P1 GDR GLR aex GMF GPP;let GOw:=its G' bg aX GAk;let GSR:=agL (P:=l.prog) (w:=w) (iN:=iN) mN eQ qg c9 uE;let GRR:=ag0 qA eQ xY aX c9 GAk GSu GTu;let GWR:=agD oX vG aX GAk XF GWP GWT;exact acY F aX P1 Yd GC XF GPi GCh GBa GFr GOw GCo GSo GSR GDw GLB GRe GRR GWR
end T_k95
open PySem PySem.W PyProof.Rows
set_option maxRecDepth 100000 in
set_option maxHeartbeats 0 in
theorem PySem.Challenge.cw_trussyard_k95_whole_long_chains_holds : PySem.Challenge.rw_trussyard_k95_whole_long_chains.Holds := by
 w_on;o_law;k_head;(case hw=>w_witness2)
 k_fill
 refine Ty.walk (l:=PySem.Challenge.rw_trussyard_k95_whole_long_chains) (x:="_law_script") (k:=42) (CX:=fun w=>Ty.ba (PySem.Challenge.rw_trussyard_k95_whole_long_chains).prog w) rfl rfl (by first | rfl | decide+kernel) ⟨rfl,gt,gt⟩ (fun w h σ=>PySem.W.kIn_of σ) (fun w=>Ty.ba.yR) ?F
 case F=>
  intro w mg fa h KX G YV
  refine' T_k95.all_mk KX G YV ⟨?A0,?A1,?A2,?A3⟩ ⟨?A4,?A5,?A6,?A7⟩ ⟨?A8,?A9,?Aa,?Ab⟩ ⟨?Ac,?Ad,?Ae,?Af⟩ ⟨?Ag,?Ah,?Ai,?Aj⟩ ⟨?Ak,?Al,?Am,?An⟩ ⟨?Ao,?Ap,?Aq,?Ar⟩ ⟨?As,?At,?Au,?Av⟩ ⟨?Aw,?Ax,?Ay,?Az⟩ ⟨?B0,?B1,?B2,?B3⟩ ⟨?B4,?B5,?B6,?B7⟩ ⟨?B8,?B9,?Ba,?Bb⟩ ⟨?Bc,?Bd,?Be,?Bf⟩ ⟨?Bg,?Bh,?Bi,?Bj⟩ ⟨?Bk,?Bl,?Bm,?Bn⟩ ⟨?Bo,?Bp,?Bq,?Br⟩ ⟨?Bs,?Bt,?Bu,?Bv⟩ ⟨?Bw,?Bx,?By,?Bz⟩ ⟨?C0,?C1,?C2,?C3⟩ ⟨?C4,?C5,?C6,?C7⟩ ⟨?C8,?C9,?Ca,?Cb⟩ ⟨?Cc,?Cd,?Ce,?Cf⟩ ⟨?Cg,?Ch,?Ci,?Cj⟩ ⟨?Ck,?Cl,?Cm,?Cn⟩ ⟨?Co,?Cp,?Cq,?Cr⟩ ⟨?Cs,?Ct,?Cu,?Cv⟩ ⟨?Cw,?Cx,?Cy,?Cz⟩ ⟨?D0,?D1,?D2,?D3⟩ ⟨?D4,?D5,?D6,?D7⟩ ⟨?D8,?D9,?Da,?Db⟩ ⟨?Dc,?Dd,?De,?Df⟩ ⟨?Dg,?Dh,?Di,?Dj⟩ ⟨?Dk,?Dl,?Dm,?Dn⟩ ⟨?Do,?Dp,?Dq,?Dr⟩ ⟨?Ds,?Dt,?Du,?Dv⟩ ⟨?Dw,?Dx,?Dy,?Dz⟩ ⟨?E0,?E1,?E2,?E3⟩ ⟨?E4,?E5,?E6,?E7⟩ ⟨?E8,?E9,?Ea,?Eb⟩ ⟨?Ec,?Ed,?Ee,?Ef⟩ ⟨?Eg,?Eh,?Ei,?Ej⟩ ⟨?Ek,?El,?Em,?En⟩ ⟨?Eo,?Ep,?Eq,?Er⟩ ⟨?Es,?Et,?Eu,?Ev⟩ ⟨?Ew,?Ex,?Ey,?Ez⟩ ⟨?F0,?F1,?F2,?F3⟩ ⟨?F4,?F5,?F6,?F7⟩ ⟨?F8,?F9,?Fa,?Fb⟩ ⟨?Fc,?Fd,?Fe,?Ff⟩ ⟨?Fg,?Fh,?Fi,?Fj⟩ ⟨?Fk,?Fl,?Fm,?Fn⟩ ⟨?Fo,?Fp,?Fq,?Fr⟩ ⟨?Fs,?Ft,?Fu,?Fv⟩ ⟨?Fw,?Fx,?Fy,?Fz⟩ ?G0 ?G1 ?G2 ?G3 ?G4 ?G5 ?G6 ?G7 ?G8 ?G9 ?Ga ?Gb ?Gc ?Gd ?Ge ?Gf ?Gg ?Gh ?Gi ?Gj ?Gk ?Gl ?Gm ?Gn ?Go ?Gp ?Gq ?Gr ?Gs ?Gt ?Gu ?Gv ?Gw ?Gx ?Gy ?Gz ?H0 ?H1 ?H2 ?H3 ?H4 ?H5 ?H6 ?H7 ?H8 ?H9 ?Ha ⟨?Hb,?Hc,?Hd,?He,?Hf⟩ ?Hg ?Hh ?Hi ?Hj ?Hk ?Hl ⟨?Hm,?Hn,?Ho,?Hp,?Hq⟩ ⟨?Hr,?Hs,?Ht,?Hu,?Hv⟩ ⟨?Hw,?Hx,?Hy,?Hz,?I0⟩ ⟨?I1,?I2,?I3,?I4,?I5⟩ ⟨?I6,?I7,?I8,?I9,?Ia⟩ ⟨?Ib,?Ic,?Id,?Ie,?If⟩ ⟨?Ig,?Ih,?Ii,?Ij,?Ik⟩ ⟨?Il,?Im,?In,?Io,?Ip⟩ ?Iq ?Ir ?Is ?It ?Iu ?Iv ?Iw ⟨?Ix,?Iy,?Iz,?J0,?J1⟩ ?J2 ?J3 ?J4 ?J5 ?J6 ?J7 ⟨?J8,?J9,?Ja,?Jb,?Jc⟩ ⟨?Jd,?Je,?Jf,?Jg,?Jh⟩ ?Ji ?Jj ?Jk ?Jl ?Jm ?Jn ?Jo ⟨?Jp,?Jq,?Jr,?Js,?Jt⟩ ?Ju ?Jv ?Jw ?Jx ?Jy
  (case A0|A1|A2|A3|A4|A5|A6|A7|A8|A9|Aa|Ab|Ac|Ad|Ae|Af|Ag|Ah|Ai|Aj|Ak|Al|Am|An|Ao|Ap|Aq|Ar|As|At|Au|Av|Aw|Ax|Ay|Az|B0|B1|B2|B3|B4|B5|B6|B7|B8|B9|Ba|Bb|Bc|Bd|Be|Bf|Bg|Bh|Bi|Bj|Bk|Bl|Bm|Bn|Bo|Bp|Bq|Br|Bs|Bt|Bu|Bv|Bw|Bx|By|Bz|C0|C1|C2|C3|C4|C5|C6|C7|C8|C9|Ca|Cb|Cc|Cd|Ce|Cf|Cg|Ch|Ci|Cj|Ck|Cl|Cm|Cn|Co|Cp|Cq|Cr|Cs|Ct|Cu|Cv|Cw|Cx|Cy|Cz|D0|D1|D2|D3|D4|D5|D6|D7|D8|D9|Da|Db|Dc|Dd|De|Df|Dg|Dh|Di|Dj|Dk|Dl|Dm|Dn|Do|Dp|Dq|Dr|Ds|Dt|Du|Dv|Dw|Dx|Dy|Dz|E0|E1|E2|E3|E4|E5|E6|E7|E8|E9|Ea|Eb|Ec|Ed|Ee|Ef|Eg|Eh|Ei|Ej|Ek|El|Em|En|Eo|Ep|Eq|Er|Es|Et|Eu|Ev|Ew|Ex|Ey|Ez|F0|F1|F2|F3|F4|F5|F6|F7|F8|F9|Fa|Fb|Fc|Fd|Fe|Ff|Fg|Fh|Fi|Fj|Fk|Fl|Fm|Fn|Fo|Fp|Fq|Fr|Fs|Ft|Fu|Fv|Fw|Fx|Fy|Fz|G0|G1|G2|G3|G4|G5|G6|G7|G8|G9|Ga|Gb|Gc|Gd|Ge|Gf|Gg|Gh|Gi|Gj|Gk|Gl|Gm|Gn|Go|Gp|Gq|Gr|Gs|Gt|Gu|Gv|Gw|Gx|Gy|Gz|H0|H1|H2|H3|H4|H5|H6|H7|H8|H9|Ha|Hb|Hc|Hd|He|Hf|Hg|Hh|Hi|Hj|Hk|Hl|Hm|Hn|Ho|Hp|Hq|Hr|Hs|Ht|Hu|Hv|Hw|Hx|Hy|Hz|I0|I1|I2|I3|I4|I5|I6|I7|I8|I9|Ia|Ib|Ic|Id|Ie|If|Ig|Ih|Ii|Ij|Ik|Il|Im|In|Io|Ip|Iq|Ir|Is|It|Iu|Iv|Iw|Ix|Iy|Iz|J0|J1|J2|J3|J4|J5|J6|J7|J8|J9|Ja|Jb|Jc|Jd|Je|Jf|Jg|Jh|Ji|Jj|Jk|Jl|Jm|Jn|Jo|Jp|Jq|Jr|Js|Jt|Ju|Jv|Jw|Jx=>k_is);(case Jy=>rfl)
#print axioms PySem.Challenge.cw_trussyard_k95_whole_long_chains_holds
